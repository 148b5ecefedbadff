import PyProof.Rows.All
import Wide.All
import OpenK.AllK
import Wide.FinOn
import PyProof.EqAt
import PyProof.EqKinds
import PyProof.TupleCall
import PyProof.NeData
import PyProof.ReprRoads
import PyProof.ZipIter
import PyProof.ExcArgsOwn
import PyProof.ExcAttrAll.ValueError
import PyProof.SetRoads
import PyProof.Rows.SetFrom
import PyProof.Rows.SortStr
import PyProof.WalksMore
import PyProof.TupleIter
import PyProof.FactsAll.set_1
import PyProof.CollectWalk
import PyProof.Rows.SortStrRead
import PyProof.Tail
import PyProof.FactsAll.set_2
import PySem.Challenge.RW_handedon_k10_variables_of_rules
def PySem.W.Fast.tw3997134881743370483 := 0
def PySem.W.Fast.tw5534403700648155590 := 0
def PySem.W.Fast.tw12579773312012168462 := 0
def PySem.W.Fast.tw14885660312031887566 := 0
def PySem.W.Fast.tw9987438027212926873 := 0
def PySem.W.Fast.tw1620689701477385805 := 0
def PySem.W.Fast.tw13364741472287227386 := 0
def PySem.W.Fast.tw17704202170731428298 := 0
def PySem.W.Fast.tw13751926255465566730 := 0
set_option Elab.async false
set_option linter.all false
set_option maxRecDepth 100000
namespace L2
open PySem PySem.Spec PyProof.Rows
abbrev Key := Sum Int Str
def IW : Key → Value → Bool
  | .inl k, v => Value.isInt k v
  | .inr x, v => Value.isStrOf x v
def BK9 (w : World) : Key → Int
  | .inl k => hashInt k
  | .inr x => hashStr w x
theorem F9 : ∀ {k : Key} {v : Value}, IW k v = true → (∃ i t, k = Sum.inl i ∧ v = Value.int i t) ∨ (∃ x t, k = Sum.inr x ∧ v = Value.str x t)
  | .inl i, v, h => by
    obtain ⟨t, e⟩ := Value.isInt_shape (k := i) (v := v) h
    exact .inl ⟨i, t, rfl, e⟩
  | .inr x, v, h => by
    obtain ⟨t, e⟩ := Value.isStrOf_shape (x := x) (v := v) h
    exact .inr ⟨x, t, rfl, e⟩
theorem UZ (i : Int) (t : Tok) : IW (.inl i) (.int i t) = true := by simp [IW, Value.isInt]
theorem VJ (x : Str) (t : Tok) : IW (.inr x) (.str x t) = true := by simp [IW, Value.isStrOf]
theorem AS4 (a b : Int) : decide ((Sum.inl a : Key) = Sum.inl b) = (a == b) := by
  by_cases e : a = b
  · subst e; simp
  · have h : ¬ (Sum.inl a : Key) = Sum.inl b := fun q => e (Sum.inl.inj q)
    rw [decide_eq_false h]
    exact (beq_eq_false_iff_ne.mpr e).symm
theorem AR6 (a b : Str) : decide ((Sum.inr a : Key) = Sum.inr b) = decide (a = b) := by
  by_cases e : a = b
  · subst e; simp
  · have h : ¬ (Sum.inr a : Key) = Sum.inr b := fun q => e (Sum.inr.inj q)
    rw [decide_eq_false h, decide_eq_false e]
theorem AW0 (a : Int) (b : Str) : decide ((Sum.inl a : Key) = Sum.inr b) = false := decide_eq_false (fun q => nomatch q)
theorem AS9 (a : Str) (b : Int) : decide ((Sum.inr a : Key) = Sum.inl b) = false := decide_eq_false (fun q => nomatch q)
def F2 (prog : Program) (w : World) : PySem.KeyKind prog w Key where
  is := IW
  hash := BK9 w
  inj := fun v a b ha hb => by
    rcases F9 ha with ⟨i, t, rfl, rfl⟩ | ⟨x, t, rfl, rfl⟩
    · rcases F9 hb with ⟨j, u, rfl, e⟩ | ⟨y, u, rfl, e⟩
      · injection e with e1 _; rw [e1]
      · exact nomatch e
    · rcases F9 hb with ⟨j, u, rfl, e⟩ | ⟨y, u, rfl, e⟩
      · exact nomatch e
      · injection e with e1 _; rw [e1]
  byValue := fun k v h => by
    rcases F9 h with ⟨i, t, rfl, rfl⟩ | ⟨x, t, rfl, rfl⟩ <;> rfl
  pyHash := fun hv h => by
    rcases F9 hv with ⟨i, t, rfl, rfl⟩ | ⟨x, t, rfl, rfl⟩
    · exact wpAny_pyHash_int h
    · exact wpAny_pyHash_str h
  eqBool := fun hu hv h => by
    rcases F9 hu with ⟨i, t, rfl, rfl⟩ | ⟨x, t, rfl, rfl⟩
    · rcases F9 hv with ⟨j, u, rfl, rfl⟩ | ⟨y, u, rfl, rfl⟩
      · rw [AS4] at h; exact wpAny_eqBool_int h
      · rw [AW0] at h; exact SeqAt.EqAt.int_str i t y u _ _ _ _ h
    · rcases F9 hv with ⟨j, u, rfl, rfl⟩ | ⟨y, u, rfl, rfl⟩
      · rw [AS9] at h; exact SeqAt.EqAt.str_int x t j u _ _ _ _ h
      · rw [AR6] at h; exact wpAny_eqBool_str h
  «strs» := fun k x t v h => by
    rcases F9 h with ⟨i, u, rfl, e⟩ | ⟨y, u, rfl, e⟩
    · exact nomatch e
    · injection e with e1 _
      subst e1
      cases v <;> rfl
theorem NT (prog : Program) (w : World) (i : Int) (t : Tok) : (F2 prog w).is (.inl i) (.int i t) = true := UZ i t
theorem AC (prog : Program) (w : World) (x : Str) (t : Tok) : (F2 prog w).is (.inr x) (.str x t) = true := VJ x t
inductive V where
  | non | bl (b : Bool) | int (i : Int) | str (x : Str) | byt (b : Array UInt8) | flt (b : UInt64) | ref (a : Addr) | ty (n : String)
  deriving DecidableEq
def RelV : V → Value → Prop
  | .non, u => u = Value.none
  | .bl b, u => u = Value.bool b
  | .int i, u => ∃ t, u = Value.int i t
  | .str x, u => ∃ t, u = Value.str x t
  | .byt b, u => ∃ t, u = Value.bytes b t
  | .flt b, u => ∃ t, u = Value.float b t
  | .ref a, u => u = Value.ref a
  | .ty n, u => u = Value.type n
abbrev Vals : List V → List Value → Prop := Paired RelV
theorem Vals.length {xs : List V} {us : List Value} (r : Vals xs us) : xs.length = us.length := Paired.length r
theorem Vals.get : ∀ {xs : List V} {us : List Value} {i : Nat} {x : V}, Vals xs us → xs[i]? = some x → ∃ u, us[i]? = some u ∧ RelV x u
  | _, _, _, _, .nil, e => by simp at e
  | _, _, 0, _, .cons r _, e => by simp at e; subst e; exact ⟨_, rfl, r⟩
  | _, _, i + 1, x, .cons _ t, e => by
    obtain ⟨u, h1, h2⟩ := Vals.get (i := i) (x := x) t (by simpa using e)
    exact ⟨u, by simpa using h1, h2⟩
theorem Vals.append : ∀ {xs ys : List V} {us ws : List Value}, Vals xs us → Vals ys ws → Vals (xs ++ ys) (us ++ ws)
  | _, _, _, _, .nil, s => s
  | _, _, _, _, .cons r t, s => .cons r (Vals.append t s)
theorem Vals.take : ∀ {xs : List V} {us : List Value} (n : Nat), Vals xs us → Vals (xs.take n) (us.take n)
  | _, _, 0, _ => .nil
  | _, _, _ + 1, .nil => .nil
  | _, _, n + 1, .cons r t => .cons r (Vals.take n t)
theorem Vals.drop : ∀ {xs : List V} {us : List Value} (n : Nat), Vals xs us → Vals (xs.drop n) (us.drop n)
  | _, _, 0, r => r
  | _, _, _ + 1, .nil => .nil
  | _, _, n + 1, .cons _ t => Vals.drop n t
def RelO : Option V → Option Value → Prop
  | some v, some u => RelV v u
  | none, none => True
  | _, _ => False
def KV {κ : Type} : List (κ × V) → List (κ × Value) → Prop := Paired fun (p : κ × V) (q : κ × Value) => p.1 = q.1 ∧ RelV p.2 q.2
def kV : Key → V
  | .inl i => .int i
  | .inr x => .str x
inductive HO where
  | lst (xs : List V)
  | tup (xs : List V)
  | dK (kvs : List (Key × V)) | dT (kvs : List (List Key × V))
  | set (S : Int → Bool) (n : Nat)
  | ins (C dx : Addr) (fs : List (Str × V))
  | own (x : Addr)
  | xd (fs : List (Str × V))
  | met (f x : Addr)
  | rng (lo hi : Int)
  | frz (o : Obj) (u : HO)
  | tbl (ps : Array Value)
  | ext (φ : Heap → Prop)
abbrev Hp := Addr → Option HO
def upd (H : Hp) (a : Addr) (o : HO) : Hp := fun b => if b = a then some o else H b
theorem D5 {H : Hp} {a : Addr} {o : HO} : upd H a o a = some o := by unfold upd; rw [if_pos rfl]
theorem D1 {H : Hp} {a b : Addr} {o : HO} (h : b ≠ a) : upd H a o b = H b := by unfold upd; rw [if_neg h]
theorem BD6 {H : Hp} {a b : Addr} {o u : HO} (h : H a = some o) (h' : H b = some u) (d : o ≠ u) : a ≠ b := by
  intro e; subst e; rw [h] at h'; exact d (Option.some.inj h')
theorem E7 {H : Hp} {a b : Addr} {o : HO} (h : H a = some o) (h' : H b = none) : a ≠ b := by
  intro e; subst e; rw [h] at h'; cases h'
section
variable (P : Program) (w : World)
def ObjOk (H : Hp) (h : Heap) (a : Addr) : HO → Prop
  | .lst xs => xs.length ≤ sizeLine ∧ ∃ (its : List Value) (n : Nat), Vals xs its ∧ h.get? a = some { cls := .type "list", data := .seq its.toArray n }
  | .tup xs => xs.length ≤ sizeLine ∧ ∃ its : List Value, Vals xs its ∧ IsTup h a its.toArray
  | .dK kvs => kvs.length ≤ sizeLine ∧ (a == sysModules) = false ∧ ∃ vs, KV kvs vs ∧ h.DictOf (F2 P w) a vs
  | .dT kvs => kvs.length ≤ sizeLine ∧ (a == sysModules) = false ∧ ∃ xs : List (List Key × Addr × Value),
      Paired (fun (p : List Key × V) (q : List Key × Addr × Value) => p.1 = q.1 ∧ H q.2.1 = some (.tup (p.1.map kV)) ∧ RelV p.2 q.2.2) kvs xs ∧
      ∃ o es ep, h.get? a = some o ∧ o.ExactDict ∧ o.data = .dict es ep ∧ es.toList = xs.map (entryOfKey (tupleKind (F2 P w))) ∧ (xs.map (·.1)).Nodup
  | .set S n => h.SetOf (intKind P w) a S n
  | .ins C dx fs => H dx = some (.own a) ∧ fs.length ≤ 1000 ∧ dx ≠ a ∧ h.get? a = some (PySem.W.instObj C dx) ∧
      ∃ mA, h.Ns1 dx mA ∧ (∀ f, RelO (fs.lookup f) (mA f)) ∧ PySem.Within mA (fs.map (·.1))
  | .own _ => ∃ o, h.get? a = some o
  | .xd fs => ∃ mA, h.Ns1 a mA ∧ ∀ f, RelO (fs.lookup f) (mA f)
  | .rng lo hi => ∃ t u v, h.get? a = some { cls := .type "range", data := .fields #[.int lo t, .int hi u, .int 1 v] }
  | .frz o u => h.get? a = some o ∧ ObjOk H h a u
  | .tbl ps => h.get? a = some { cls := .none, data := .fields ps }
  | .met f x => h.get? a = some (PySem.W.methodObj (.ref f) (.ref x))
  | .ext φ => φ h ∧ (∃ o, h.get? a = some o) ∧ ∀ h1 h2 : Heap, φ h1 → (∀ o, h1.get? a = some o → h2.get? a = some o) → φ h2
def HOk (H : Hp) (h : Heap) : Prop := ∀ a o, H a = some o → ObjOk P w H h a o
end
section
variable {P : Program} {w : World} {H H' : Hp} {h h' : Heap} {a : Addr} {o : HO}
theorem ObjOk.lt (x : ObjOk P w H h a o) : a < h.objs.size := by
  cases o with
  | lst xs => obtain ⟨_, _, _, _, e⟩ := x; exact Heap.lt_size e
  | tup xs => obtain ⟨_, _, _, p⟩ := x; exact p.lt
  | dK kvs => obtain ⟨_, _, _, _, o, _, _, e, _⟩ := x; exact Heap.lt_size e
  | dT kvs => obtain ⟨_, _, _, _, o, _, _, e, _⟩ := x; exact Heap.lt_size e
  | set S n => obtain ⟨o, _, _, _, e, _⟩ := x; exact Heap.lt_size e
  | ins C dx fs => obtain ⟨_, _, _, e, _⟩ := x; exact Heap.lt_size e
  | own y => obtain ⟨_, e⟩ := x; exact Heap.lt_size e
  | xd fs => obtain ⟨_, ⟨_, _, _, e, _⟩, _⟩ := x; exact Heap.lt_size e
  | rng lo hi => obtain ⟨_, _, _, e⟩ := x; exact Heap.lt_size e
  | frz ob u => obtain ⟨e, _⟩ := x; exact Heap.lt_size e
  | tbl ps => exact Heap.lt_size (show h.get? a = some _ from x)
  | met f y => exact Heap.lt_size (show h.get? a = some _ from x)
  | ext φ => obtain ⟨_, ⟨_, e⟩, _⟩ := x; exact Heap.lt_size e
theorem Paired.mapP {α β : Type} {F G : α → β → Prop} : ∀ {l₁ : List α} {l₂ : List β}, Paired F l₁ l₂ → (∀ a b, F a b → G a b) → Paired G l₁ l₂
  | _, _, .nil, _ => .nil
  | _, _, .cons r t, f => .cons (f _ _ r) (Paired.mapP t f)
theorem ObjOk.stay (x : ObjOk P w H h a o) (k : ∀ b u, (b = a ∨ H b = some (.own a)) → h.get? b = some u → h'.get? b = some u)
    (ho : ∀ b, H b = some (.own a) → H' b = some (.own a)) (ht : ∀ b xs, H b = some (.tup xs) → H' b = some (.tup xs)) : ObjOk P w H' h' a o := by
  induction o with
  | lst xs => obtain ⟨z, its, n, r, e⟩ := x; exact ⟨z, its, n, r, k _ _ (.inl rfl) e⟩
  | tup xs => obtain ⟨z, its, r, ob, e, c⟩ := x; exact ⟨z, its, r, ob, k _ _ (.inl rfl) e, c⟩
  | dK kvs => obtain ⟨z, y, vs, r, ob, es, ep, e, c⟩ := x; exact ⟨z, y, vs, r, ob, es, ep, k _ _ (.inl rfl) e, c⟩
  | dT kvs =>
    obtain ⟨z, y, xs, r, ob, es, ep, e, c⟩ := x
    exact ⟨z, y, xs, Paired.mapP r fun p q z => ⟨z.1, ht _ _ z.2.1, z.2.2⟩, ob, es, ep, k _ _ (.inl rfl) e, c⟩
  | set S n => obtain ⟨ob, es, ep, t, e, c⟩ := x; exact ⟨ob, es, ep, t, k _ _ (.inl rfl) e, c⟩
  | ins C dx fs =>
    obtain ⟨d, z, ne, e, mA, ⟨od, es, ep, e2, c⟩, r⟩ := x
    exact ⟨ho _ d, z, ne, k _ _ (.inl rfl) e, mA, ⟨od, es, ep, k _ _ (.inr d) e2, c⟩, r⟩
  | own y => obtain ⟨ob, e⟩ := x; exact ⟨ob, k _ _ (.inl rfl) e⟩
  | xd fs => obtain ⟨mA, ⟨od, es, ep, e, c⟩, r⟩ := x; exact ⟨mA, ⟨od, es, ep, k _ _ (.inl rfl) e, c⟩, r⟩
  | rng lo hi => obtain ⟨t, u, v, e⟩ := x; exact ⟨t, u, v, k _ _ (.inl rfl) e⟩
  | frz ob u ih => obtain ⟨e, q⟩ := x; exact ⟨k _ _ (.inl rfl) e, ih q⟩
  | tbl ps =>
    have e : h.get? a = some { cls := .none, data := .fields ps } := x
    show h'.get? a = some { cls := .none, data := .fields ps }
    exact k a _ (.inl rfl) e
  | met f y =>
    have e : h.get? a = some (PySem.W.methodObj (.ref f) (.ref y)) := x
    show h'.get? a = some (PySem.W.methodObj (.ref f) (.ref y))
    exact k a _ (.inl rfl) e
  | ext φ => obtain ⟨p, ⟨o, e⟩, st⟩ := x; exact ⟨st _ _ p fun o q => k _ _ (.inl rfl) q, ⟨o, k _ _ (.inl rfl) e⟩, st⟩
theorem HOk.lt (x : HOk P w H h) (e : H a = some o) : a < h.objs.size := (x a o e).lt
theorem HOk.fresh (x : HOk P w H h) (e : h.objs.size ≤ a) : H a = none := by
  cases q : H a with
  | none => rfl
  | some u => exact absurd (Nat.lt_of_lt_of_le (x.lt q) e) (Nat.lt_irrefl _)
theorem HOk.kept (x : HOk P w H h) (k : ∀ b u, h.get? b = some u → h'.get? b = some u) : HOk P w H h' := fun a o e =>
  (x a o e).stay (fun b u _ q => k b u q) (fun _ q => q) fun _ _ q => q
theorem HOk.laid (x : HOk P w H h) (k : ∀ b u, h.get? b = some u → h'.get? b = some u) (hp : h.objs.size ≤ a) (new : ObjOk P w (upd H a o) h' a o) : HOk P w (upd H a o) h' := fun b u e => by
  have hn := x.fresh hp
  by_cases hb : b = a
  · subst hb; rw [D5] at e; cases e; exact new
  · rw [D1 hb] at e
    exact (x b u e).stay (fun c v _ q => k c v q) (fun c q => by rw [D1 (E7 q hn)]; exact q) fun c xs q => by rw [D1 (E7 q hn)]; exact q
end
def Rd (H : Hp) (a : Addr) (u : HO) : Prop := H a = some u ∨ ∃ o, H a = some (.frz o u)
theorem Rd.ok {P : Program} {w : World} {H : Hp} {h : Heap} {a : Addr} {u : HO} (r : Rd H a u) (x : HOk P w H h) : ObjOk P w H h a u := by
  rcases r with r | ⟨o, r⟩
  · exact x a u r
  · obtain ⟨_, q⟩ := x a _ r
    exact q
def Mut : Option HO → Prop
  | some (.lst _) => True
  | some (.dK _) => True
  | some (.dT _) => True
  | some (.set _ _) => True
  | some (.ins _ _ _) => True
  | some (.ext _) => True
  | _ => False
section
variable {P : Program} {w : World} {H : Hp} {h h' : Heap} {x e : Addr} {o' : HO}
theorem HOk.write (ok : HOk P w H h) (mu : Mut (H x)) (he : e = x ∨ H e = some (.own x)) (k : ∀ b u, b ≠ e → h.get? b = some u → h'.get? b = some u) (heo : ∃ u, h'.get? e = some u)
    (new : ObjOk P w (upd H x o') h' x o') : HOk P w (upd H x o') h' := fun b u q => by
  have nown : ∀ c y, H c = some (.own y) → c ≠ x := fun c y r z => by subst z; rw [r] at mu; exact mu
  have ntup : ∀ c xs, H c = some (.tup xs) → c ≠ x := fun c xs r z => by subst z; rw [r] at mu; exact mu
  by_cases hb : b = x
  · subst hb; rw [D5] at q; cases q; exact new
  · rw [D1 hb] at q
    by_cases hbe : b = e
    · have q' : H b = some (.own x) := by
        rcases he with z | z
        · exact absurd (hbe.trans z) hb
        · rw [hbe]; exact z
      rw [q] at q'; cases q'
      obtain ⟨v, hv⟩ := heo
      exact ⟨v, by rw [hbe]; exact hv⟩
    · refine (ok b u q).stay (fun c v hc r => k c v ?_ r) (fun c r => by rw [D1 (nown c b r)]; exact r) fun c xs r => by rw [D1 (ntup c xs r)]; exact r
      rcases hc with rfl | hc
      · exact hbe
      · rintro rfl
        rcases he with z | z
        · exact nown c b hc z
        · rw [hc] at z; cases z; exact hb rfl
end
structure Un (fs ex : List Addr) (H H' : Hp) (h h' : Heap) : Prop where
  keep : ∀ b o, h.get? b = some o → H b = none → b ∉ fs → b ∉ ex → h'.get? b = some o
  slot : ∀ b o, h.get? b = some o → H b = none → b ∈ fs → b ∉ ex → ∃ sl, h'.get? b = some { o with slots := sl }
  free : ∀ b o, h.get? b = some o → H b = none → b ∉ ex → H' b = none
  there : ∀ b o, h.get? b = some o → b ∉ ex → ∃ o', h'.get? b = some o'
  tups : ∀ b xs, H b = some (.tup xs) → H' b = some (.tup xs)
  frzs : ∀ b o u, H b = some (.frz o u) → H' b = some (.frz o u)
  tbls : ∀ b ps, H b = some (.tbl ps) → ∃ more, H' b = some (.tbl (ps ++ more))
section
variable {fs fs' ex ex' : List Addr} {H H1 H2 : Hp} {h h1 h2 h' : Heap} {a x e : Addr} {o : HO}
theorem Un.any (u : Un fs ex H H1 h h1) {b : Addr} {ob : Obj} (q : h.get? b = some ob) (n : H b = none) (hx : b ∉ ex) : ∃ sl, h1.get? b = some { ob with slots := sl } := by
  by_cases hb : b ∈ fs
  · exact u.slot b ob q n hb hx
  · exact ⟨ob.slots, u.keep b ob q n hb hx⟩
theorem Un.kept (k : ∀ b u, h.get? b = some u → h'.get? b = some u) : Un fs ex H H h h' :=
  ⟨fun b ob q _ _ _ => k b ob q, fun b ob q _ _ _ => ⟨ob.slots, k b ob q⟩, fun _ _ _ n _ => n, fun b ob q _ => ⟨ob, k b ob q⟩, fun _ _ q => q, fun _ _ _ q => q, fun _ ps q => ⟨#[], by rw [q]; simp⟩⟩
theorem Un.refl : Un fs ex H H h h := Un.kept fun _ _ q => q
theorem Un.laid (k : ∀ b u, h.get? b = some u → h'.get? b = some u) (hp : h.objs.size ≤ a) (hn : H a = none) : Un fs ex H (upd H a o) h h' where
  keep := fun b u q _ _ _ => k b u q
  slot := fun b u q _ _ _ => ⟨u.slots, k b u q⟩
  free := fun b u q n _ => by rw [D1 (Nat.ne_of_lt (Nat.lt_of_lt_of_le (Heap.lt_size q) hp))]; exact n
  there := fun b u q _ => ⟨u, k b u q⟩
  tups := fun b xs q => by rw [D1 (E7 q hn)]; exact q
  frzs := fun b u xs q => by rw [D1 (E7 q hn)]; exact q
  tbls := fun b ps q => ⟨#[], by rw [D1 (E7 q hn), q]; simp⟩
theorem Un.write (mu : Mut (H x)) (he : e = x ∨ H e = some (.own x)) (k : ∀ b u, b ≠ e → h.get? b = some u → h'.get? b = some u) (heo : ∃ u, h'.get? e = some u) : Un fs ex H (upd H x o) h h' := by
  have hx : ∀ b, H b = none → b ≠ x := fun b n z => by subst z; rw [n] at mu; exact mu
  have hb : ∀ b, H b = none → b ≠ e := fun b n z => by
    subst z
    rcases he with r | r
    · exact hx b n r
    · rw [n] at r; cases r
  have hm : ∀ b u, H b = some u → ¬ Mut (some u) → b ≠ x := fun b u q nm z => by subst z; rw [q] at mu; exact nm mu
  refine ⟨fun b u q n _ _ => k b u (hb b n) q, fun b u q n _ _ => ⟨u.slots, k b u (hb b n) q⟩, fun b u q n _ => by rw [D1 (hx b n)]; exact n, fun b u q _ => ?_,
    fun b xs q => by rw [D1 (hm b _ q fun z => z)]; exact q, fun b u xs q => by rw [D1 (hm b _ q fun z => z)]; exact q, fun b ps q => ⟨#[], by rw [D1 (hm b _ q fun z => z), q]; simp⟩⟩
  by_cases hbe : b = e
  · subst hbe; exact heo
  · exact ⟨u, k b u hbe q⟩
end
def trk (h : Heap) (H : Hp) : List Addr := (List.range h.objs.size).filter fun a => (H a).isSome
def JU (h : Heap) (H : Hp) : Heap := PySem.W.hideAll h (trk h H)
theorem UT (h : Heap) (H : Hp) : (JU h H).objs.size = h.objs.size := PySem.W.hideAll_size _ _
theorem AD0 {h : Heap} {H : Hp} {b : Addr} {o : Obj} (e : h.get? b = some o) (n : H b = none) : (JU h H).get? b = some o :=
  PySem.W.hideAll_get _ e fun hm => by
    have q : (H b).isSome = true := (List.mem_filter.mp hm).2
    rw [n] at q; simp at q
theorem AK1 {h : Heap} {H : Hp} {b : Addr} {o : Obj} (e : (JU h H).get? b = some o) : h.get? b = some o ∧ H b = none := by
  have e' : h.get? b = some o := PySem.W.of_hideAll (trk h H) e
  refine ⟨e', ?_⟩
  cases q : H b with
  | none => rfl
  | some x =>
    have hm : b ∈ trk h H := List.mem_filter.mpr ⟨List.mem_range.mpr (Heap.lt_size e'), by simp [q]⟩
    have z : (JU h H).get? b = none := PySem.W.hideAll_none (trk h H) hm
    rw [z] at e; cases e
structure Mod (K : PySem.W.Frag) (mg : Str → Option Value) (base : Heap) : Prop where
  kin : K.In base
  glob : base.Ns mainGlobals mg
  blt : ∃ mb, base.Ns builtinsNs mb ∧ ∀ x : Str, x ≠ "__name__" → mb x = bootBuiltins x
  nolimit : base.NoLimit
structure Cx where
  prog : Program
  w : World
  K : PySem.W.Frag
  mg : Str → Option Value
  base : Heap
  A : Around
  N : List Str
  s₀ : Shared
  H₀ : Hp
  env : Env
  outer : List Env
  stack : List Env
  ex : List Addr
  fn : Str → Bool
  calm : Bool
  pn : List (Addr × Obj)
  xe : Value → Shared → Prop
def frs (l : List Env) : List Addr := l.filterMap (·.frame)
abbrev Cx.fs (X : Cx) : List Addr := frs X.outer
def Vis (sc : Scope) (x : Str) : Prop := sc.names.lookup x = some .local ∨ sc.names.lookup x = some .cell ∨ sc.names.lookup x = some .free
def Loc (sc : Scope) (x : Str) : Prop := sc.names.lookup x = some .local ∨ sc.names.lookup x = some .cell
def Look (env : Env) (h : Heap) (m : Str → Option Value) (x : Str) (u : Value) : Prop :=
  (env.kindOf x = some .local ∧ m x = some u) ∨ ((env.kindOf x = some .cell ∨ env.kindOf x = some .free) ∧ ∃ c, env.cells.lookup x = some c ∧ h.IsCell c (some u))
structure Cx.Ok (X : Cx) : Prop where
  mod : Mod X.K X.mg X.base
  kind : X.env.scope.kind = .function
  glob : X.env.globals = mainGlobals
  blt : X.env.builtins = builtinsNs
  above : X.s₀.heap.objs.size ≤ X.env.locals
  inj : ∀ x y c, X.env.cells.lookup x = some c → X.env.cells.lookup y = some c → x = y
  has : ∀ x, (X.env.kindOf x = some .cell ∨ X.env.kindOf x = some .free) → ∃ c, X.env.cells.lookup x = some c
  cab : ∀ x c, X.fn x = true → X.env.cells.lookup x = some c → X.s₀.heap.objs.size ≤ c
  hd : X.calm = true → X.A.handled = none
  frames : X.A.frames = some X.stack
  stk : X.stack = X.outer ∨ (X.stack = X.env :: X.outer ∧ X.env.frame = some X.env.locals)
  exf : ∀ b ∈ X.ex, b ≠ X.env.locals ∧ ∀ x c, X.env.cells.lookup x = some c → c ≠ b
  bs : ∀ b o, X.base.get? b = some o → X.s₀.heap.get? b = some o ∧ X.H₀ b = none
  bsz : X.base.objs.size ≤ X.s₀.heap.objs.size
  noex : ∀ b o, X.base.get? b = some o → b ∉ X.ex
  exfs : ∀ b ∈ X.ex, b ∉ X.fs
  funs : X.s₀.heap.FunFrames X.base X.outer
  frf : ∀ b ∈ X.fs, X.H₀ b = none
structure Inv (X : Cx) (pins : List (Addr × Obj)) (σ : List (Option V)) (H : Hp) (s : Shared) : Prop where
  ok : X.Ok
  os : s.os = X.s₀.os
  bare : AllBare s.gens
  base : Un X.fs X.ex X.H₀ H X.s₀.heap s.heap
  loc : ∃ m, s.heap.Ns X.env.locals m ∧ ∀ (i : Nat) (x : Str) (v : V), X.N[i]? = some x → σ[i]? = some (some v) → Vis X.env.scope x → ∃ u, RelV v u ∧ Look X.env s.heap m x u
  cell : ∀ x c, X.env.cells.lookup x = some c → ∃ v, s.heap.IsCell c v
  free : H X.env.locals = none
  freeC : ∀ x c, X.env.cells.lookup x = some c → H c = none
  pin : ∀ p ∈ X.pn ++ pins, s.heap.get? p.1 = some p.2 ∧ H p.1 = none ∧ p.1 ≠ X.env.locals ∧ p.1 ∉ X.fs ∧ ∀ v, p.2.data ≠ .cell v
  hok : HOk X.prog X.w H s.heap
  len : σ.length = X.N.length
section
variable {X : Cx} {pins : List (Addr × Obj)} {σ : List (Option V)} {H H' : Hp} {s : Shared} {h' : Heap}
theorem Cx.Ok.nofr (ok : X.Ok) {b : Addr} {o : Obj} (e : X.base.get? b = some o) : b ∉ X.fs := fun hb => by
  have := (ok.funs.mem hb).1
  rw [e] at this; cases this
theorem Inv.bs (I : Inv X pins σ H s) : ∀ b o, X.base.get? b = some o → s.heap.get? b = some o ∧ H b = none := fun b o e =>
  ⟨I.base.keep b o (I.ok.bs b o e).1 (I.ok.bs b o e).2 (I.ok.nofr e) (I.ok.noex b o e), I.base.free b o (I.ok.bs b o e).1 (I.ok.bs b o e).2 (I.ok.noex b o e)⟩
theorem Inv.bk (I : Inv X pins σ H s) : ∀ b o, X.base.get? b = some o → s.heap.get? b = some o := fun b o e => (I.bs b o e).1
theorem Inv.mod (I : Inv X pins σ H s) : Mod X.K X.mg X.base := I.ok.mod
theorem Inv.kIn (I : Inv X pins σ H s) : X.K.In s.heap := I.ok.mod.kin.keeps I.bk
theorem Inv.lt (I : Inv X pins σ H s) : X.env.locals < s.heap.objs.size := let ⟨_, hn, _⟩ := I.loc; hn.lt
theorem Inv.sz (I : Inv X pins σ H s) : X.s₀.heap.objs.size ≤ s.heap.objs.size := Nat.le_trans I.ok.above (Nat.le_of_lt I.lt)
theorem Inv.nofs (I : Inv X pins σ H s) {a : Addr} (h : s.heap.objs.size ≤ a) : a ∉ X.fs := fun hb => by
  obtain ⟨_, o, ho, _⟩ := I.ok.funs.mem hb
  exact absurd (Nat.lt_of_lt_of_le (Heap.lt_size ho) (Nat.le_trans I.sz h)) (Nat.lt_irrefl _)
theorem Inv.cne (I : Inv X pins σ H s) : ∀ x c, X.env.cells.lookup x = some c → c ≠ X.env.locals := fun x c e z => by
  obtain ⟨v, o, ho, hd⟩ := I.cell x c e
  obtain ⟨m, ⟨o', es, ep, ho', hd', _⟩, _⟩ := I.loc
  rw [z, ho'] at ho; cases ho; rw [hd'] at hd; cases hd
theorem Inv.funs (I : Inv X pins σ H s) : s.heap.FunFrames X.base X.outer := by
  have all : ∀ (l : List Env), (∀ b ∈ frs l, b ∈ X.fs) → X.s₀.heap.FunFrames X.base l → s.heap.FunFrames X.base l := by
    intro l
    induction l with
    | nil => intro _ _; trivial
    | cons env r ih =>
      intro hs hl
      obtain ⟨hk, ⟨L, o, hf, hn, ho, hd⟩, hr⟩ := hl
      have hL : L ∈ X.fs := hs L (by unfold frs; rw [List.filterMap_cons, hf]; exact List.mem_cons_self)
      obtain ⟨sl, e⟩ := I.base.slot L o ho (I.ok.frf L hL) hL fun z => I.ok.exfs L z hL
      exact ⟨hk, ⟨L, _, hf, hn, e, hd⟩, ih (fun b hb => hs b (by unfold frs; rw [List.filterMap_cons, hf]; exact List.mem_cons_of_mem _ hb)) hr⟩
  exact all X.outer (fun _ hb => hb) I.ok.funs
theorem Inv.stack (I : Inv X pins σ H s) : s.heap.FunFrames X.base X.stack := by
  rcases I.ok.stk with e | ⟨e, hf⟩
  · rw [e]; exact I.funs
  · rw [e]
    obtain ⟨m, hn, _⟩ := I.loc
    refine .cons (by rw [I.ok.kind]; decide) hf hn ?_ I.funs
    exact Heap.get?_none_of_le (Nat.le_trans I.ok.bsz I.ok.above)
theorem Inv.stkSub (I : Inv X pins σ H s) : ∀ b ∈ frs X.stack, b ∈ X.env.locals :: X.fs := fun b hb => by
  rcases I.ok.stk with e | ⟨e, hf⟩
  · rw [e] at hb; exact List.mem_cons_of_mem _ hb
  · rw [e] at hb
    unfold frs at hb
    rw [List.filterMap_cons, hf] at hb
    exact hb
theorem Inv.stkFree (I : Inv X pins σ H s) : ∀ b ∈ frs X.stack, H b = none := fun b hb => by
  rcases List.mem_cons.mp (I.stkSub b hb) with e | hb
  · rw [e]; exact I.free
  · obtain ⟨_, o, ho, _⟩ := I.ok.funs.mem hb
    exact I.base.free b o ho (I.ok.frf b hb) fun z => I.ok.exfs b z hb
theorem Inv.step {g' : Array GenState} {t' : Nat} {d' : Drawn} {ch : List Addr} (I : Inv X pins σ H s)
    (hch : ∀ b ∈ ch, (b ∈ X.ex ∨ X.s₀.heap.objs.size ≤ b) ∧ b ≠ X.env.locals ∧ (∀ x c, X.env.cells.lookup x = some c → c ≠ b) ∧ ∀ p ∈ X.pn ++ pins, p.1 ≠ b)
    (keep : ∀ b o, b ≠ X.env.locals → b ∉ X.fs → b ∉ ch → s.heap.get? b = some o → H b = none → h'.get? b = some o)
    (slot : ∀ b o, b ≠ X.env.locals → b ∈ X.fs → b ∉ ch → s.heap.get? b = some o → H b = none → ∃ sl, h'.get? b = some { o with slots := sl }) (free : ∀ b o, b ∉ ch → s.heap.get? b = some o → H b = none → H' b = none)
    (there : ∀ b o, b ∉ ch → s.heap.get? b = some o → ∃ o', h'.get? b = some o')
    (tups : ∀ b xs, H b = some (.tup xs) → H' b = some (.tup xs)) (frzs : ∀ b o u, H b = some (.frz o u) → H' b = some (.frz o u)) (tbls : ∀ b ps, H b = some (.tbl ps) → ∃ more, H' b = some (.tbl (ps ++ more)))
    (ns : ∀ m, s.heap.Ns X.env.locals m → h'.Ns X.env.locals m) (hok : HOk X.prog X.w H' h') (hg : AllBare g') :
    Inv X pins σ H' { s with heap := h', gens := g', drawn := d', toks := t' } := by
  have neL : ∀ b o, X.s₀.heap.get? b = some o → b ≠ X.env.locals := fun b o e => Nat.ne_of_lt (Nat.lt_of_lt_of_le (Heap.lt_size e) I.ok.above)
  have neC : ∀ b o, X.s₀.heap.get? b = some o → b ∉ X.ex → b ∉ ch := fun b o e hx hb => by
    rcases (hch b hb).1 with z | z
    · exact hx z
    · exact absurd (Nat.lt_of_lt_of_le (Heap.lt_size e) z) (Nat.lt_irrefl _)
  have cellK : ∀ x c, X.env.cells.lookup x = some c → ∀ v, s.heap.IsCell c v → h'.IsCell c v := fun x c e v ⟨o, ho, hd⟩ => by
    have nch : c ∉ ch := fun z => (hch c z).2.2.1 x c e rfl
    by_cases hc : c ∈ X.fs
    · obtain ⟨sl, q⟩ := slot c o (I.cne x c e) hc nch ho (I.freeC x c e)
      exact ⟨_, q, hd⟩
    · exact ⟨o, keep c o (I.cne x c e) hc nch ho (I.freeC x c e), hd⟩
  refine ⟨I.ok, I.os, hg, ⟨fun b o e n hb hx => ?_, fun b o e n hb hx => ?_, fun b o e n hx => ?_, fun b o e hx => ?_, fun b xs e => tups b xs (I.base.tups b xs e), fun b o xs e => frzs b o xs (I.base.frzs b o xs e), fun b ps e => ?_⟩, ?_, fun x c e => ?_, ?_, fun x c e => ?_, fun p hp => ?_, hok, I.len⟩
  · exact keep b o (neL b o e) hb (neC b o e hx) (I.base.keep b o e n hb hx) (I.base.free b o e n hx)
  · obtain ⟨sl, e1⟩ := I.base.slot b o e n hb hx
    obtain ⟨sl', e2⟩ := slot b _ (neL b o e) hb (neC b o e hx) e1 (I.base.free b o e n hx)
    exact ⟨sl', e2⟩
  · obtain ⟨o', e1⟩ := I.base.there b o e hx
    exact free b o' (neC b o e hx) e1 (I.base.free b o e n hx)
  · obtain ⟨o', e1⟩ := I.base.there b o e hx
    exact there b o' (neC b o e hx) e1
  · obtain ⟨m1, e1⟩ := I.base.tbls b ps e
    obtain ⟨m2, e2⟩ := tbls b _ e1
    exact ⟨m1 ++ m2, by rw [e2, Array.append_assoc]⟩
  · obtain ⟨m, hn, hl⟩ := I.loc
    refine ⟨m, ns m hn, fun i x v e1 e2 e3 => ?_⟩
    obtain ⟨u, r, l⟩ := hl i x v e1 e2 e3
    refine ⟨u, r, ?_⟩
    rcases l with l | ⟨k, c, e, z⟩
    · exact .inl l
    · exact .inr ⟨k, c, e, cellK x c e _ z⟩
  · obtain ⟨v, z⟩ := I.cell x c e
    exact ⟨v, cellK x c e v z⟩
  · obtain ⟨m, ⟨o, _, _, ho, _⟩, _⟩ := I.loc
    exact free _ o (fun z => (hch _ z).2.1 rfl) ho I.free
  · obtain ⟨v, o, ho, hd⟩ := I.cell x c e
    exact free c o (fun z => (hch c z).2.2.1 x c e rfl) ho (I.freeC x c e)
  · obtain ⟨e, n, ne, nf, d⟩ := I.pin p hp
    have nch : p.1 ∉ ch := fun z => (hch p.1 z).2.2.2 p hp rfl
    exact ⟨keep p.1 p.2 ne nf nch e n, free p.1 p.2 nch e n, ne, nf, d⟩
theorem Inv.un {t' : Nat} (I : Inv X pins σ H s) (u : Un X.fs [] H H' s.heap h') (hok : HOk X.prog X.w H' h') : Inv X pins σ H' { s with heap := h', toks := t' } := by
  obtain ⟨m, ⟨o, es, ep, ho, r⟩, _⟩ := id I.loc
  obtain ⟨sl, hL⟩ := u.any ho I.free (by simp)
  exact I.step (g' := s.gens) (d' := s.drawn) (ch := []) (fun _ z => nomatch z) (fun b o _ hb _ e n => u.keep b o e n hb (by simp)) (fun b o _ hb _ e n => u.slot b o e n hb (by simp)) (fun b o _ e n => u.free b o e n (by simp)) (fun b o _ e => u.there b o e (by simp)) u.tups u.frzs u.tbls (fun m' hm => by
    obtain ⟨o', es', ep', ho', r'⟩ := hm
    rw [ho] at ho'; cases ho'
    exact ⟨_, es', ep', hL, r'⟩) hok I.bare
theorem Inv.call {g' : Array GenState} {t' : Nat} {d' : Drawn} {ch : List Addr} (I : Inv X pins σ H s) (u : Un (frs X.stack) ch H H' s.heap h') (hok : HOk X.prog X.w H' h') (hg : AllBare g')
    (hch : ∀ b ∈ ch, (b ∈ X.ex ∨ X.s₀.heap.objs.size ≤ b) ∧ b ≠ X.env.locals ∧ (∀ x c, X.env.cells.lookup x = some c → c ≠ b) ∧ ∀ p ∈ X.pn ++ pins, p.1 ≠ b) :
    Inv X pins σ H' { s with heap := h', gens := g', drawn := d', toks := t' } := by
  obtain ⟨m, ⟨o, es, ep, ho, r⟩, _⟩ := id I.loc
  obtain ⟨sl, hL⟩ := u.any ho I.free fun z => (hch _ z).2.1 rfl
  exact I.step (ch := ch) hch (fun b o hL hb hc e n => u.keep b o e n (fun z => (List.mem_cons.mp (I.stkSub b z)).elim hL hb) hc) (fun b o _ _ hc e n => u.any e n hc) (fun b o hc e n => u.free b o e n hc) (fun b o hc e => u.there b o e hc) u.tups u.frzs u.tbls (fun m' hm => by
    obtain ⟨o', es', ep', ho', r'⟩ := hm
    rw [ho] at ho'; cases ho'
    exact ⟨_, es', ep', hL, r'⟩) hok hg
theorem Inv.turned {t' : Nat} {it : Addr} (I : Inv X pins σ H s) (k : ∀ b o, b ≠ it → s.heap.get? b = some o → h'.get? b = some o) (hn : H it = none) (hL : it ≠ X.env.locals)
    (h1 : it ∈ X.ex ∨ X.s₀.heap.objs.size ≤ it) (h2 : ∀ x c, X.env.cells.lookup x = some c → c ≠ it) (h3 : ∀ p ∈ X.pn ++ pins, p.1 ≠ it) : Inv X pins σ H { s with heap := h', toks := t' } := by
  have nit : ∀ b u, H b = some u → b ≠ it := fun b u e z => by rw [z, hn] at e; cases e
  refine I.step (g' := s.gens) (d' := s.drawn) (ch := [it]) (fun b hb => ?_) (fun b o _ _ hc e _ => k b o (fun z => hc (by simp [z])) e) (fun b o _ _ hc e _ => ⟨o.slots, k b o (fun z => hc (by simp [z])) e⟩) (fun _ _ _ _ n => n)
    (fun b o hc e => ⟨o, k b o (fun z => hc (by simp [z])) e⟩) (fun _ _ e => e) (fun _ _ _ e => e) (fun b ps e => ⟨#[], by rw [e]; simp⟩) (fun m hm => ?_) (fun b u e => ?_) I.bare
  · have e : b = it := by simpa using hb
    subst e
    exact ⟨h1, hL, h2, h3⟩
  · obtain ⟨o, es, ep, ho, r⟩ := hm
    exact ⟨o, es, ep, k _ o (Ne.symm hL) ho, r⟩
  · refine (I.hok b u e).stay (fun c v hc q => k c v ?_ q) (fun _ q => q) fun _ _ q => q
    rcases hc with z | z
    · rw [z]; exact nit b u e
    · exact nit c _ z
theorem Inv.tok (I : Inv X pins σ H s) (t : Nat) : Inv X pins σ H { s with toks := t } := I.un (h' := s.heap) (t' := t) Un.refl I.hok
theorem Inv.kept {t' : Nat} (I : Inv X pins σ H s) (k : ∀ b u, s.heap.get? b = some u → h'.get? b = some u) : Inv X pins σ H { s with heap := h', toks := t' } := I.un (Un.kept k) (I.hok.kept k)
theorem Inv.laid {a : Addr} {o : HO} {t' : Nat} (I : Inv X pins σ H s) (k : ∀ b u, s.heap.get? b = some u → h'.get? b = some u) (hp : s.heap.objs.size ≤ a) (new : ObjOk X.prog X.w (upd H a o) h' a o) :
    Inv X pins σ (upd H a o) { s with heap := h', toks := t' } := I.un (Un.laid k hp (I.hok.fresh hp)) (I.hok.laid k hp new)
theorem Inv.write {x e : Addr} {o : HO} {t' : Nat} (I : Inv X pins σ H s) (mu : Mut (H x)) (he : e = x ∨ H e = some (.own x)) (k : ∀ b u, b ≠ e → s.heap.get? b = some u → h'.get? b = some u) (heo : ∃ u, h'.get? e = some u)
    (new : ObjOk X.prog X.w (upd H x o) h' x o) : Inv X pins σ (upd H x o) { s with heap := h', toks := t' } := I.un (Un.write mu he k heo) (I.hok.write mu he k heo new)
theorem Inv.pins_of {pins' : List (Addr × Obj)} (I : Inv X pins σ H s) (h : ∀ p ∈ pins', s.heap.get? p.1 = some p.2 ∧ H p.1 = none ∧ p.1 ≠ X.env.locals ∧ p.1 ∉ X.fs ∧ ∀ v, p.2.data ≠ .cell v) : Inv X pins' σ H s :=
  ⟨I.ok, I.os, I.bare, I.base, I.loc, I.cell, I.free, I.freeC, fun p hp => (List.mem_append.mp hp).elim (fun z => I.pin p (List.mem_append_left _ z)) (h p), I.hok, I.len⟩
theorem NC {N : List Str} (hN : N.Nodup) {i j : Nat} {x : Str} (a : N[i]? = some x) (b : N[j]? = some x) : i = j := by
  obtain ⟨h1, e1⟩ := List.getElem?_eq_some_iff.mp a
  obtain ⟨h2, e2⟩ := List.getElem?_eq_some_iff.mp b
  exact (List.getElem_inj hN).mp (e1.trans e2.symm)
theorem UK {M : Model} {A : Around} {E : Value → Shared → Prop} {i : Nat} {x : Str} {v : V} {u : Value} {Q : Unit → Shared → Prop} (I : Inv X pins σ H s) (hN : X.N.Nodup) (hi : X.N[i]? = some x) (hx : Loc X.env.scope x) (r : RelV v u)
    (h : ∀ s', Inv X pins (σ.set i (some v)) H s' → (∃ a, Heap.SameBut a s.heap s'.heap ∧ (a = X.env.locals ∨ X.env.cells.lookup x = some a)) → Q () s') (hf : X.fn x = true ∨ X.env.scope.names.lookup x = some .local := by first | exact .inl rfl | exact .inr rfl | assumption) : wpAny M A (storeName X.env x u) Q E s := by
  obtain ⟨m, hn, hl⟩ := id I.loc
  have hcls : (X.env.scope.kind == .class || (X.env.scope.kind == .module && X.env.locals != X.env.globals)) = false := by rw [I.ok.kind]; rfl
  have hiσ : i < σ.length := by rw [I.len]; exact (List.getElem?_eq_some_iff.mp hi).1
  have cne := I.cne
  have tracked : ∀ {a : Addr} {h' : Heap}, (∃ o, s.heap.get? a = some o ∧ H a = none) → Heap.SameBut a s.heap h' → HOk X.prog X.w H h' := fun {a h'} ha hs b ob e => by
    obtain ⟨_, _, hfree⟩ := ha
    refine (I.hok b ob e).stay (fun c w' hc q => (hs.2 c ?_).trans q) (fun _ q => q) fun _ _ q => q
    rintro rfl
    rcases hc with rfl | hc
    · rw [hfree] at e; cases e
    · rw [hfree] at hc; cases hc
  rcases hx with hk | hk
  · refine wpAny_storeName_local hk hn (fun h' hn' hs => ?_) hcls
    obtain ⟨oL, _, _, hoL, _⟩ := id hn
    refine h _ ⟨I.ok, I.os, I.bare, ⟨fun b o e n hb hx => ?_, fun b o e n hb hx => ?_, I.base.free, fun b o e hx => ?_, I.base.tups, I.base.frzs, I.base.tbls⟩, ⟨_, hn', fun j y v' e1 e2 e3 => ?_⟩, fun y c e => ?_, I.free, I.freeC, fun p hp => ?_, tracked ⟨oL, hoL, I.free⟩ hs, by simpa using I.len⟩ ⟨_, hs, .inl rfl⟩
    · exact (hs.2 b (Nat.ne_of_lt (Nat.lt_of_lt_of_le (Heap.lt_size e) I.ok.above))).trans (I.base.keep b o e n hb hx)
    · obtain ⟨sl, e1⟩ := I.base.slot b o e n hb hx
      exact ⟨sl, (hs.2 b (Nat.ne_of_lt (Nat.lt_of_lt_of_le (Heap.lt_size e) I.ok.above))).trans e1⟩
    · obtain ⟨o', e1⟩ := I.base.there b o e hx
      exact ⟨o', (hs.2 b (Nat.ne_of_lt (Nat.lt_of_lt_of_le (Heap.lt_size e) I.ok.above))).trans e1⟩
    · by_cases hj : j = i
      · subst hj
        rw [hi] at e1; cases e1
        rw [List.getElem?_set_self hiσ] at e2
        cases e2
        exact ⟨u, r, .inl ⟨hk, by simp⟩⟩
      · rw [List.getElem?_set_ne (Ne.symm hj)] at e2
        obtain ⟨u', r', q⟩ := hl j y v' e1 e2 e3
        refine ⟨u', r', ?_⟩
        rcases q with ⟨k, e⟩ | ⟨k, c, e, z⟩
        · refine .inl ⟨k, ?_⟩
          have : y ≠ x := fun e => hj (NC hN e1 (e ▸ hi))
          simp [this, e]
        · exact .inr ⟨k, c, e, z.sameBut hs (cne y c e)⟩
    · obtain ⟨w', z⟩ := I.cell y c e
      exact ⟨w', z.sameBut hs (cne y c e)⟩
    · obtain ⟨e, n, ne, nf, d⟩ := I.pin p hp
      exact ⟨(hs.2 p.1 ne).trans e, n, ne, nf, d⟩
  · have hfn : X.fn x = true := by
      rcases hf with z | z
      · exact z
      · rw [z] at hk; cases hk
    obtain ⟨c, hc⟩ := I.ok.has x (.inl hk)
    obtain ⟨w', z⟩ := I.cell x c hc
    refine wpAny_storeName_cell I.ok.kind hk hc z (fun h' hc' hs => ?_)
    obtain ⟨oc, hoc, hocd⟩ := id z
    refine h { s with heap := h' } ⟨I.ok, I.os, I.bare, ⟨fun b o e n hb hx => ?_, fun b o e n hb hx => ?_, I.base.free, fun b o e hx => ?_, I.base.tups, I.base.frzs, I.base.tbls⟩, ⟨m, hn.sameBut hs (Ne.symm (cne x c hc)), fun j y v' e1 e2 e3 => ?_⟩, fun y c' e => ?_, I.free, I.freeC, fun p hp => ?_, tracked ⟨oc, hoc, I.freeC x c hc⟩ hs, by simpa using I.len⟩ ⟨c, hs, .inr hc⟩
    · exact (hs.2 b (Nat.ne_of_lt (Nat.lt_of_lt_of_le (Heap.lt_size e) (I.ok.cab x c hfn hc)))).trans (I.base.keep b o e n hb hx)
    · obtain ⟨sl, e1⟩ := I.base.slot b o e n hb hx
      exact ⟨sl, (hs.2 b (Nat.ne_of_lt (Nat.lt_of_lt_of_le (Heap.lt_size e) (I.ok.cab x c hfn hc)))).trans e1⟩
    · obtain ⟨o', e1⟩ := I.base.there b o e hx
      exact ⟨o', (hs.2 b (Nat.ne_of_lt (Nat.lt_of_lt_of_le (Heap.lt_size e) (I.ok.cab x c hfn hc)))).trans e1⟩
    · by_cases hj : j = i
      · subst hj
        rw [hi] at e1; cases e1
        rw [List.getElem?_set_self hiσ] at e2
        cases e2
        exact ⟨u, r, .inr ⟨.inl hk, c, hc, hc'⟩⟩
      · rw [List.getElem?_set_ne (Ne.symm hj)] at e2
        obtain ⟨u', r', q⟩ := hl j y v' e1 e2 e3
        refine ⟨u', r', ?_⟩
        rcases q with q | ⟨k, c', e, z'⟩
        · exact .inl q
        · refine .inr ⟨k, c', e, z'.sameBut hs ?_⟩
          rintro rfl
          exact hj (NC hN e1 (I.ok.inj _ _ _ e hc ▸ hi))
    · by_cases hcc : c' = c
      · subst hcc; exact ⟨_, hc'⟩
      · obtain ⟨w2, z2⟩ := I.cell y c' e
        exact ⟨w2, z2.sameBut hs hcc⟩
    · obtain ⟨e, n, ne, nf, d⟩ := I.pin p hp
      refine ⟨(hs.2 p.1 ?_).trans e, n, ne, nf, d⟩
      intro q
      rw [q, hoc] at e
      have q' : oc = p.2 := Option.some.inj e
      exact d w' (by rw [← q']; exact hocd)
theorem CK {M : Model} {A : Around} {E : Value → Shared → Prop} {i : Nat} {x : Str} {v : V} {u : Value} {Q : Unit → Shared → Prop} (I : Inv X pins σ H s) (hN : X.N.Nodup) (hi : X.N[i]? = some x) (hx : Loc X.env.scope x) (r : RelV v u)
    (h : ∀ s', Inv X pins (σ.set i (some v)) H s' → Q () s') (hf : X.fn x = true ∨ X.env.scope.names.lookup x = some .local := by first | exact .inl rfl | exact .inr rfl | assumption) : wpAny M A (storeName X.env x u) Q E s :=
  UK I hN hi hx r (fun s' I' _ => h s' I') hf
theorem Inv.call' {s' : Shared} {ch : List Addr} (I : Inv X pins σ H s) (ho : s'.os = s.os) (u : Un (frs X.stack) ch H H' s.heap s'.heap) (hok : HOk X.prog X.w H' s'.heap) (hg : AllBare s'.gens)
    (hch : ∀ b ∈ ch, (b ∈ X.ex ∨ X.s₀.heap.objs.size ≤ b) ∧ b ≠ X.env.locals ∧ (∀ x c, X.env.cells.lookup x = some c → c ≠ b) ∧ ∀ p ∈ X.pn ++ pins, p.1 ≠ b) : Inv X pins σ H' s' := by
  obtain ⟨h', g', d', t', o'⟩ := s'
  have e : o' = s.os := ho
  subst e
  exact I.call (g' := g') (t' := t') (d' := d') u hok hg hch
end
abbrev XK := Value → Option Addr → Hp → Prop
abbrev St := List (Option V)
abbrev VK := V → Hp → Prop
abbrev TE := St → Hp → VK → Prop
abbrev TT := St → Hp → (Bool → Hp → Prop) → Prop
abbrev TA := St → Hp → (List V → Hp → Prop) → Prop
structure Ends where
  nx : St → Hp → Prop
  rt : VK
  bk : St → Hp → Prop := fun _ _ => False
  ct : St → Hp → Prop := fun _ _ => False
abbrev TS := Ends → St → Hp → Prop
def EP (X : Cx) (pins : List (Addr × Obj)) (σ : St) (Q : VK) (u : Value) (s' : Shared) : Prop := ∃ v H', Inv X pins σ H' s' ∧ RelV v u ∧ Q v H'
def TP (X : Cx) (pins : List (Addr × Obj)) (σ : St) (Q : Bool → Hp → Prop) (b : Bool) (s' : Shared) : Prop := ∃ H', Inv X pins σ H' s' ∧ Q b H'
def AP (X : Cx) (pins : List (Addr × Obj)) (σ : St) (Q : List V → Hp → Prop) (us : List Value) (s' : Shared) : Prop := ∃ vs H', Inv X pins σ H' s' ∧ Vals vs us ∧ Q vs H'
def SP (X : Cx) (pins : List (Addr × Obj)) (D : Ends) (f : Flow) (s' : Shared) : Prop :=
  match f with
  | .next => ∃ σ' H', Inv X pins σ' H' s' ∧ D.nx σ' H'
  | .brk => ∃ σ' H', Inv X pins σ' H' s' ∧ D.bk σ' H'
  | .cont => ∃ σ' H', Inv X pins σ' H' s' ∧ D.ct σ' H'
  | .ret u => ∃ v σ' H', Inv X pins σ' H' s' ∧ RelV v u ∧ D.rt v H'
def PE (X : Cx) (e : Expr) (t : TE) : Prop :=
  ∀ (pins : List (Addr × Obj)) (s : Shared) (σ : St) (H : Hp) (Q : VK), Inv X pins σ H s → t σ H Q → wpAny (model X.prog X.w) X.A (eval e X.env) (EP X pins σ Q) X.xe s
def PT (X : Cx) (e : Expr) (t : TT) : Prop :=
  ∀ (pins : List (Addr × Obj)) (s : Shared) (σ : St) (H : Hp) (Q : Bool → Hp → Prop), Inv X pins σ H s → t σ H Q → wpAny (model X.prog X.w) X.A (isTrue e X.env (eval e X.env)) (TP X pins σ Q) X.xe s
def PA (X : Cx) (es : List Expr) (t : TA) : Prop :=
  ∀ (pos : Pos) (pins : List (Addr × Obj)) (s : Shared) (σ : St) (H : Hp) (Q : List V → Hp → Prop), Inv X pins σ H s → t σ H Q → wpAny (model X.prog X.w) X.A (spliced (backTo pos (starEach es X.env))) (AP X pins σ Q) X.xe s
def PS (X : Cx) (st : Stmt) (t : TS) : Prop :=
  ∀ (pins : List (Addr × Obj)) (s : Shared) (σ : St) (H : Hp) (D : Ends), Inv X pins σ H s → t D σ H → wpAny (model X.prog X.w) X.A (exec st X.env) (SP X pins D) X.xe s
def PSs (X : Cx) (st : List Stmt) (t : TS) : Prop :=
  ∀ (pins : List (Addr × Obj)) (s : Shared) (σ : St) (H : Hp) (D : Ends), Inv X pins σ H s → t D σ H → wpAny (model X.prog X.w) X.A (execs st X.env) (SP X pins D) X.xe s
theorem thn {α : Type} {t : Sem α} {Q Q' : α → Shared → Prop} {M : Model} {A : Around} {E : Value → Shared → Prop} {s : Shared} (h : wpAny M A t Q E s) (hQ : ∀ a s, Q a s → Q' a s) : wpAny M A t Q' E s := wpAny_mono h hQ fun _ _ x => x
section
variable {X : Cx}
def BB2 (i : Nat) : TE := fun σ H Q => ∃ v, σ[i]? = some (some v) ∧ Q v H
def tC (v : V) : TE := fun _ H Q => Q v H
theorem AV4 {i : Nat} {x : Str} {pos : Pos} (hN : X.N[i]? = some x) (hv : Vis X.env.scope x) (hd : (x == ("__debug__" : Str)) = false := by decide) (hcd : (x == ("__classdict__" : Str)) = false := by decide) : PE X (.Name x pos) (BB2 i) := by
  intro pins s σ H Q I h
  obtain ⟨v, e, h⟩ := h
  obtain ⟨m, hn, hl⟩ := I.loc
  obtain ⟨u, r, l⟩ := hl i x v hN e hv
  have fin : EP X pins σ Q u s := ⟨v, H, I, r, h⟩
  rcases l with ⟨hk, hm⟩ | ⟨hk, c, hc, hcell⟩
  · exact wpAny_Name (wpAny_loadName_local I.ok.kind hk hn hm fin) hd
  · rcases hk with hk | hk
    · exact wpAny_Name (wpAny_loadName_cell I.ok.kind hk hc hcell fin) hd
    · exact wpAny_Name (wpAny_loadName_free I.ok.kind hk hc hcell fin hcd) hd
theorem AQ8 {i j pos} : PE X (.Constant (.int i) j pos) (tC (.int i)) := fun _ _ _ H _ I h => wpAny_Constant_int ⟨.int i, H, I.tok _, ⟨_, rfl⟩, h⟩
theorem BC7 {b j pos} : PE X (.Constant (.bool b) j pos) (tC (.bl b)) := fun _ _ _ H _ I h => Constant_bool ⟨.bl b, H, I, rfl, h⟩
theorem AW8 {x j pos} : PE X (.Constant (.str x) j pos) (tC (.str x)) := fun _ _ _ H _ I h => Calls.Constant_str ⟨.str x, H, I.tok _, ⟨_, rfl⟩, h⟩
def Gl (X : Cx) (x : Str) : Prop := X.env.kindOf x = some .globalImplicit
theorem RS {E : Value → Shared → Prop} {pins : List (Addr × Obj)} {s : Shared} {σ : St} {H : Hp} {x : Str} {u : Value} {pos : Pos} {Q : Value → Shared → Prop} (I : Inv X pins σ H s) (hg : Gl X x) (hm : X.mg x = some u) (h : Q u s)
    (hd : (x == ("__debug__" : Str)) = false := by decide) : wpAny (model X.prog X.w) X.A (eval (.Name x pos) X.env) Q E s :=
  Calls.Name_function_global I.ok.kind hg (Calls.loadGlobal_global (by rw [I.ok.glob]; exact I.mod.glob.keeps I.bk) hm h) hd
theorem BP {E : Value → Shared → Prop} {pins : List (Addr × Obj)} {s : Shared} {σ : St} {H : Hp} {x : Str} {u : Value} {pos : Pos} {Q : Value → Shared → Prop} (I : Inv X pins σ H s) (hg : Gl X x) (hm : X.mg x = none) (hv : bootBuiltins x = some u) (h : Q u s)
    (hn : x ≠ "__name__" := by decide) (hd : (x == ("__debug__" : Str)) = false := by decide) : wpAny (model X.prog X.w) X.A (eval (.Name x pos) X.env) Q E s := by
  obtain ⟨mb, h1, h2⟩ := I.mod.blt
  exact Calls.Name_function_global I.ok.kind hg (Calls.loadGlobal_builtin (by rw [I.ok.glob]; exact I.mod.glob.keeps I.bk) hm (by rw [I.ok.blt]; exact h1.keeps I.bk) ((h2 x hn).trans hv) h) hd
theorem AN0 {x : Str} {v : V} {u : Value} {pos : Pos} (hg : Gl X x) (hm : X.mg x = some u) (r : RelV v u) (hd : (x == ("__debug__" : Str)) = false := by decide) : PE X (.Name x pos) (tC v) :=
  fun _ _ _ H _ I h => RS I hg hm ⟨v, H, I, r, h⟩ hd
variable {a b : Expr} {ta tb : TE} {pos : Pos}
variable {tA tB' : TT} {rest : List Expr}
end
def SqL (K : PySem.W.Frag) (H : Hp) (a : Addr) (xs : List V) : Prop :=
  Rd H a (.lst xs) ∨
    ∃ (o : Obj) (its : Array Value) (n : Nat), K.lookup a = some o ∧ o.cls = .type "list" ∧ o.dict = none ∧ o.data = .seq its n ∧ its.size ≤ sizeLine ∧ Vals xs its.toList
def SqT (K : PySem.W.Frag) (H : Hp) (a : Addr) (xs : List V) : Prop :=
  Rd H a (.tup xs) ∨
    ∃ (o : Obj) (its : Array Value) (n : Nat), K.lookup a = some o ∧ o.cls = .type "tuple" ∧ o.data = .seq its n ∧ its.size ≤ sizeLine ∧ Vals xs its.toList
def BK4 : Value → Option V
  | .none => some .non
  | .bool b => some (.bl b)
  | .int i _ => some (.int i)
  | .str x _ => some (.str x)
  | .bytes b _ => some (.byt b)
  | .float b _ => some (.flt b)
  | .ref a => some (.ref a)
  | .type n => some (.ty n)
  | _ => none
theorem RelV.abs {x : V} {u : Value} (r : RelV x u) : BK4 u = some x := by
  cases x with
  | non => cases r; rfl
  | bl _ => cases r; rfl
  | int _ => obtain ⟨t, rfl⟩ := r; rfl
  | str _ => obtain ⟨t, rfl⟩ := r; rfl
  | byt _ => obtain ⟨t, rfl⟩ := r; rfl
  | flt _ => obtain ⟨t, rfl⟩ := r; rfl
  | ref _ => cases r; rfl
  | ty _ => cases r; rfl
theorem RelV.inj {x y : V} {u : Value} (r : RelV x u) (q : RelV y u) : x = y := Option.some.inj (r.abs.symm.trans q.abs)
theorem Vals.inj : ∀ {xs ys : List V} {us : List Value}, Vals xs us → Vals ys us → xs = ys
  | _, _, _, .nil, .nil => rfl
  | _, _, _, .cons r t, .cons r' t' => by rw [r.inj r', Vals.inj t t']
section
variable {X : Cx} {pins : List (Addr × Obj)} {σ : St} {H : Hp} {s : Shared} {a : Addr} {xs ys : List V}
theorem Inv.list (I : Inv X pins σ H s) (h : SqL X.K H a xs) : ∃ its : List Value, Vals xs its ∧ PlainL s.heap a its.toArray ∧ xs.length ≤ sizeLine := by
  rcases h with h | ⟨o, its, n, hk, hc, hd, hs, hz, r⟩
  · obtain ⟨z, its, n, r, e⟩ := h.ok I.hok
    exact ⟨its, r, ⟨_, n, e, rfl, rfl, rfl⟩, z⟩
  · refine ⟨its.toList, r, ⟨o, n, I.kIn a o hk, hc, hd, by simpa using hs⟩, ?_⟩
    have e := r.length
    simp only [Array.length_toList] at e
    lia
theorem Inv.tuple (I : Inv X pins σ H s) (h : SqT X.K H a xs) : ∃ its : List Value, Vals xs its ∧ IsTup s.heap a its.toArray ∧ xs.length ≤ sizeLine := by
  rcases h with h | ⟨o, its, n, hk, hc, hs, hz, r⟩
  · obtain ⟨z, its, r, p⟩ := h.ok I.hok
    exact ⟨its, r, p, z⟩
  · refine ⟨its.toList, r, ⟨o, I.kIn a o hk, hc, n, by simpa using hs⟩, ?_⟩
    have e := r.length
    simp only [Array.length_toList] at e
    lia
theorem Inv.list_inj (I : Inv X pins σ H s) (h : SqL X.K H a xs) (h' : SqL X.K H a ys) : xs = ys := by
  obtain ⟨its, r, ⟨o, n, e, _, _, d⟩, _⟩ := I.list h
  obtain ⟨its', r', ⟨o', n', e', _, _, d'⟩, _⟩ := I.list h'
  rw [e] at e'; cases e'
  rw [d] at d'
  injection d' with d1 _
  have : its = its' := by simpa using congrArg Array.toList d1
  subst this
  exact r.inj r'
theorem Inv.tuple_inj (I : Inv X pins σ H s) (h : SqT X.K H a xs) (h' : SqT X.K H a ys) : xs = ys := by
  obtain ⟨its, r, ⟨o, e, _, n, d⟩, _⟩ := I.tuple h
  obtain ⟨its', r', ⟨o', e', _, n', d'⟩, _⟩ := I.tuple h'
  rw [e] at e'; cases e'
  rw [d] at d'
  injection d' with d1 _
  have : its = its' := by simpa using congrArg Array.toList d1
  subst this
  exact r.inj r'
end
abbrev Cx.wish (X : Cx) (E : Value → Shared → Prop) : Cx := { X with xe := E }
abbrev Cx.nox (X : Cx) : Cx := X.wish fun _ _ => False
theorem Cx.Ok.wish {X : Cx} (ok : X.Ok) (E : Value → Shared → Prop) : (X.wish E).Ok :=
  ⟨ok.mod, ok.kind, ok.glob, ok.blt, ok.above, ok.inj, ok.has, ok.cab, ok.hd, ok.frames, ok.stk, ok.exf, ok.bs, ok.bsz, ok.noex, ok.exfs, ok.funs, ok.frf⟩
theorem Cx.Ok.unwish {X : Cx} {E : Value → Shared → Prop} (ok : (X.wish E).Ok) : X.Ok :=
  ⟨ok.mod, ok.kind, ok.glob, ok.blt, ok.above, ok.inj, ok.has, ok.cab, ok.hd, ok.frames, ok.stk, ok.exf, ok.bs, ok.bsz, ok.noex, ok.exfs, ok.funs, ok.frf⟩
section
variable {X : Cx} {pins : List (Addr × Obj)} {σ : St} {H : Hp} {s : Shared} {E : Value → Shared → Prop}
theorem Inv.wish (I : Inv X pins σ H s) (E : Value → Shared → Prop) : Inv (X.wish E) pins σ H s := ⟨I.ok.wish E, I.os, I.bare, I.base, I.loc, I.cell, I.free, I.freeC, I.pin, I.hok, I.len⟩
theorem Inv.unwish (I : Inv (X.wish E) pins σ H s) : Inv X pins σ H s := ⟨I.ok.unwish, I.os, I.bare, I.base, I.loc, I.cell, I.free, I.freeC, I.pin, I.hok, I.len⟩
theorem SP.unwish {D : Ends} {f : Flow} {s' : Shared} (h : SP (X.wish E) pins D f s') : SP X pins D f s' := by
  cases f with
  | next => obtain ⟨σ', H', I, q⟩ := h; exact ⟨σ', H', I.unwish, q⟩
  | brk => obtain ⟨σ', H', I, q⟩ := h; exact ⟨σ', H', I.unwish, q⟩
  | cont => obtain ⟨σ', H', I, q⟩ := h; exact ⟨σ', H', I.unwish, q⟩
  | ret u => obtain ⟨v, σ', H', I, r, q⟩ := h; exact ⟨v, σ', H', I.unwish, r, q⟩
theorem PSs.nox {st : List Stmt} {t : TS} (h : PSs X.nox st t) : PSs X st t := fun pins s σ H D I hw =>
  wpAny_mono (h pins s σ H D (I.wish _) hw) (fun _ _ q => q.unwish) fun _ _ z => False.elim z
end
section
variable {X : Cx} {st : Stmt} {rest : List Stmt} {t u : TS} {e : Expr} {te : TE} {pos : Pos}
theorem Inv.quiet {pins : List (Addr × Obj)} {σ : St} {H : Hp} {s : Shared} (I : Inv X pins σ H s) : interactive X.env = false := by simp [interactive, I.ok.kind]
end
abbrev TG := V → St → Hp → (St → Hp → Prop) → Prop
abbrev TGs := List V → St → Hp → (St → Hp → Prop) → Prop
def PG (X : Cx) (target : Expr) (t : TG) : Prop :=
  ∀ (pins : List (Addr × Obj)) (s : Shared) (σ : St) (H : Hp) (v : V) (u : Value) (Q : St → Hp → Prop), Inv X pins σ H s → RelV v u → t v σ H Q →
    wpAny (model X.prog X.w) X.A (assign target X.env u) (fun _ s' => ∃ σ' H', Inv X pins σ' H' s' ∧ Q σ' H') X.xe s
def PGs (X : Cx) (ts : List Expr) (t : TGs) : Prop :=
  ∀ (pins : List (Addr × Obj)) (s : Shared) (σ : St) (H : Hp) (vs : List V) (us : List Value) (Q : St → Hp → Prop), Inv X pins σ H s → Vals vs us → t vs σ H Q →
    wpAny (model X.prog X.w) X.A (assignInOrder ((assignEach ts X.env).map (·.2)) us) (fun _ s' => ∃ σ' H', Inv X pins σ' H' s' ∧ Q σ' H') X.xe s
section
variable {X : Cx} {pos : Pos}
def AP1 (i : Nat) : TG := fun v σ H Q => Q (σ.set i (some v)) H
theorem JJ {i : Nat} {x : Str} (hN : X.N.Nodup) (hi : X.N[i]? = some x) (hx : Loc X.env.scope x) (hf : X.fn x = true ∨ X.env.scope.names.lookup x = some .local := by first | exact .inl rfl | exact .inr rfl | assumption) : PG X (.Name x pos) (AP1 i) := by
  intro pins s σ H v u Q I r h
  exact wpAny_assign_Name (CK I hN hi hx r (fun s' I' => ⟨_, H, I', h⟩) hf)
def BM0 : TGs := fun vs σ H Q => vs = [] ∧ Q σ H
def BH3 (t : TG) (u : TGs) : TGs := fun vs σ H Q => ∃ v r, vs = v :: r ∧ t v σ H fun σ' H' => u r σ' H' Q
theorem AH5 : PGs X [] BM0 := by
  intro pins s σ H vs us Q I r h
  obtain ⟨e, h⟩ := h
  subst e
  cases r
  exact assignInOrder_nil ⟨σ, H, I, h⟩
theorem XS {e : Expr} {es : List Expr} {t : TG} {u : TGs} (h1 : PG X e t) (h2 : PGs X es u)
    (hs : (assignEach (e :: es) X.env).map (·.2) = assign e X.env :: (assignEach es X.env).map (·.2) := by rfl) : PGs X (e :: es) (BH3 t u) := by
  intro pins s σ H vs us Q I r h
  obtain ⟨v, vr, e1, h⟩ := h
  subst e1
  cases r with
  | cons r rr =>
    rw [hs]
    refine assignInOrder_cons (thn (h1 pins s σ H _ _ _ I r h) fun _ s1 ⟨σ1, H1, I1, q1⟩ => ?_)
    exact h2 pins s1 σ1 H1 _ _ Q I1 rr q1
def BL2 (K : PySem.W.Frag) (n : Nat) (t : TGs) : TG := fun v σ H Q => ∃ a xs, v = .ref a ∧ SqT K H a xs ∧ xs.length = n ∧ t xs σ H Q
theorem AU6 {es : List Expr} {k : Nat} {t : TGs} {n : Nat} (hc : X.calm = true) (h : PGs X es t)
    (hn : (assignEach es X.env).length = n := by rfl) (hst : (assignEach es X.env).findIdx? (·.1) = none := by rfl) : PG X (.Tuple es k pos) (BL2 X.K n t) := by
  intro pins s σ H v u Q I r hw
  obtain ⟨a, xs, e1, hq, hl, hw⟩ := hw
  subst e1
  cases r
  obtain ⟨its, rv, ht, hz⟩ := I.tuple hq
  refine assign_Tuple_tuple (I.ok.hd hc) ht (by simp [hn, ← hl, rv.length]) hst fun h' hx => ?_
  have I1 : Inv X pins σ H { s with heap := h' } := I.kept (t' := s.toks) fun b o e => hx b o (Nat.ne_of_lt (Heap.lt_size e)) e
  exact h pins _ σ H xs _ Q I1 (by simpa using rv) hw
def BC3 (te : TE) (g : TG) : TS := fun D σ H => te σ H fun x H1 => g x σ H1 D.nx
theorem AY5 {tg e : Expr} {te : TE} {g : TG} (he : PE X e te) (hg : PG X tg g) (hs : swapsWithSole [tg] e pos.line X.env = pure false := by rfl) (hw : swappedStores [tg] e X.env = pure none := by rfl)
    (h1 : (assignEach [tg] X.env).map (·.2) = [assign tg X.env] := by rfl) : PS X (.Assign [tg] e pos) (BC3 te g) := by
  intro pins s σ H D I h
  refine wpAny_Assign_stores (thn (he pins s σ H _ I h) fun v s1 ⟨x, H1, I1, r1, q1⟩ => ?_) hs hw
  rw [h1]
  exact thn (hg pins s1 σ H1 x v _ I1 r1 q1) fun _ s2 q => q
theorem AU4 {i : Nat} {x : Str} {e : Expr} {te : TE} {pos' : Pos} (hN : X.N.Nodup) (hi : X.N[i]? = some x) (hx : Loc X.env.scope x) (he : PE X e te) (hs : swapsWith e (some (.Name x pos')) pos.line X.env = pure false := by rfl) (hf : X.fn x = true ∨ X.env.scope.names.lookup x = some .local := by first | exact .inl rfl | exact .inr rfl | assumption) :
    PS X (.Assign [.Name x pos'] e pos) (BC3 te (AP1 i)) := by
  intro pins s σ H D I h
  refine wpAny_Assign_Name (thn (he pins s σ H _ I h) fun v s1 ⟨y, H1, I1, r1, q1⟩ => ?_) hs
  exact CK I1 hN hi hx r1 (fun s2 I2 => ⟨_, H1, I2, q1⟩) hf
end
section
variable {X : Cx} {pos : Pos}
def AU2 (c : TT) (tb : TS) : TS := fun D σ H => ∃ W : Nat → St → Hp → Prop, (∃ m, W m σ H) ∧ ∀ m σ H, W m σ H →
  c σ H fun b H1 => if b = true then ∃ N : St → Hp → Prop, (∀ σ' H', N σ' H' → ∃ m', m' < m ∧ W m' σ' H') ∧ tb { D with nx := N, ct := N, bk := D.nx } σ H1 else D.nx σ H1
theorem AE4 {c : Expr} {body : List Stmt} {tc : TT} {tb : TS} (hp : PassesOwn (model X.prog X.w) X.A X.env X.xe) (hc : PT X c tc) (hb : PSs X body tb) : PS X (.While c body [] pos) (AU2 tc tb) := by
  intro pins s σ H D I h
  obtain ⟨W, ⟨m0, w0⟩, turn⟩ := h
  refine wpAny_While (codeAny_whileLoop (fun n s' => ∃ σ' H', Inv X pins σ' H' s' ∧ W n σ' H') ?_ m0 ⟨σ, H, I, w0⟩)
  rintro n s1 ⟨σ1, H1, I1, w1⟩
  refine wpAny_passesOwn hp (thn (hc pins s1 σ1 H1 _ I1 (turn n σ1 H1 w1)) fun b s2 ⟨H2, I2, q2⟩ => ?_)
  cases b with
  | true =>
    obtain ⟨N, hN, q2⟩ := q2
    rw [if_pos rfl]
    refine wpAny_passesOwn hp (thn (hb pins s2 σ1 H2 _ I2 q2) fun f s3 q3 => ?_)
    cases f with
    | next =>
      obtain ⟨σ3, H3, I3, n3⟩ := q3
      obtain ⟨m', hm, w3⟩ := hN σ3 H3 n3
      exact ⟨m', hm, σ3, H3, I3, w3⟩
    | cont =>
      obtain ⟨σ3, H3, I3, n3⟩ := q3
      obtain ⟨m', hm, w3⟩ := hN σ3 H3 n3
      exact ⟨m', hm, σ3, H3, I3, w3⟩
    | brk => exact q3
    | ret v => exact q3
  | false =>
    rw [if_neg Bool.false_ne_true]
    exact wpAny_execs_nil ⟨σ1, H2, I2, q2⟩
end
structure It where
  go : Nat → Hp → Prop
  yld : Nat → Hp → V → Hp → Prop
  stop : Nat → Hp → Prop
def KH (X : Cx) (pins : List (Addr × Obj)) (H : Hp) (b : Addr) : Prop :=
  H b = none ∧ b ≠ X.env.locals ∧ b ∉ X.fs ∧ (b ∈ X.ex ∨ X.s₀.heap.objs.size ≤ b) ∧ (∀ x c, X.env.cells.lookup x = some c → c ≠ b) ∧ ∀ p ∈ X.pn ++ pins, p.1 ≠ b
theorem Inv.fpOk {X : Cx} {pins : List (Addr × Obj)} {σ : St} {H H' : Hp} {s : Shared} {b : Addr} (I : Inv X pins σ H s) (hb : s.heap.objs.size ≤ b) (hn : H' b = none) : KH X pins H' b := by
  refine ⟨hn, Nat.ne_of_gt (Nat.lt_of_lt_of_le I.lt hb), I.nofs hb, .inr (Nat.le_trans I.sz hb), fun x c e z => ?_, fun p hp z => ?_⟩
  · obtain ⟨v, q⟩ := I.cell x c e
    exact absurd (Nat.lt_of_lt_of_le q.lt (by rw [z]; exact hb)) (Nat.lt_irrefl _)
  · exact absurd (Nat.lt_of_lt_of_le (Heap.lt_size (I.pin p hp).1) (by rw [z]; exact hb)) (Nat.lt_irrefl _)
structure Turn (P : Program) (w : World) (K : PySem.W.Frag) (tg : Expr) (J : It) (fp : List Addr) (it : Addr) (tn : Nat → Heap → Prop) : Prop where
  mem : it ∈ fp
  obj : ∀ i h, tn i h → ∀ b ∈ fp, ∃ o, h.get? b = some o ∧ ∀ v, o.data ≠ .cell v
  keep : ∀ i h h', tn i h → (∀ b ∈ fp, ∀ o, h.get? b = some o → h'.get? b = some o) → tn i h'
  item : ∀ (X : Cx), X.prog = P → X.w = w → X.K = K → X.calm = true → ∀ (i : Nat) (pins : List (Addr × Obj)) (s : Shared) (σ : St) (H : Hp) (E : Value → Shared → Prop), Inv X pins σ H s → (∀ b ∈ fp, KH X pins H b) → tn i s.heap → J.go i H →
    wpAny (model P w) X.A (pyNext (.ref it)) (fun r s1 => ∃ u, r = some u ∧
      wpAny (model P w) X.A (letOwnedTupleGo tg (.ref it) u) (fun _ s2 => ∃ x H', Inv X pins σ H' s2 ∧ RelV x u ∧ J.yld i H x H' ∧ tn (i + 1) s2.heap ∧ ∀ b ∈ fp, H' b = none) E s1) E s
  done : ∀ (X : Cx), X.prog = P → X.w = w → X.K = K → X.calm = true → ∀ (i : Nat) (pins : List (Addr × Obj)) (s : Shared) (σ : St) (H : Hp) (E : Value → Shared → Prop), Inv X pins σ H s → (∀ b ∈ fp, KH X pins H b) → tn i s.heap → J.stop i H →
    wpAny (model P w) X.A (pyNext (.ref it)) (fun r s1 => r = none ∧ Inv X pins σ H s1) E s
  self : ∀ (A : Around) (i : Nat) (s : Shared) (Q : Value → Shared → Prop) (E : Value → Shared → Prop), tn i s.heap → Q (.ref it) s → wpAny (model P w) A (pyIter (.ref it)) Q E s
abbrev TI := St → Hp → (It → Hp → Prop) → Prop
def PIE (X : Cx) (pins : List (Addr × Obj)) (σ : St) (tg : Expr) (R : It → Hp → Prop) (itv : Value) (s2 : Shared) : Prop :=
  ∃ (it : Addr) (fp : List Addr) (tn : Nat → Heap → Prop) (J : It) (H' : Hp), itv = .ref it ∧ Inv X pins σ H' s2 ∧ Turn X.prog X.w X.K tg J fp it tn ∧ tn 0 s2.heap ∧ (∀ b ∈ fp, KH X pins H' b) ∧ R J H'
def PI (X : Cx) (tg iter : Expr) (wi : TI) : Prop :=
  ∀ (pins : List (Addr × Obj)) (s : Shared) (σ : St) (H : Hp) (R : It → Hp → Prop), Inv X pins σ H s → wi σ H R →
    wpAny (model X.prog X.w) X.A (eval iter X.env) (fun v s1 => wpAny (model X.prog X.w) X.A (pyIter v) (PIE X pins σ tg R) X.xe s1) X.xe s
theorem YC {M : Model} {A : Around} {E : Value → Shared → Prop} {s : Shared} {tg : Expr} {it : Addr} {u : Value} {o : Obj} {n : String} {vs : Array Value} {Q : Unit → Shared → Prop} (ho : s.heap.get? it = some o) (hc : o.cls = .type n) (hd : o.data = .fields vs)
    (hn : ["enumerate", "zip", "dict_itemiterator", "dict_reverseitemiterator", "odict_iterator", "itertools.zip_longest", "itertools.pairwise"].contains n = false) (hQ : Q () s) : wpAny M A (letOwnedTupleGo tg (.ref it) u) Q E s := by
  unfold letOwnedTupleGo
  cases tg <;> first
    | exact wpAny_pure hQ
    | (cases u <;> first
        | exact wpAny_pure hQ
        | (refine wpAny_bind (wpAny_load ho ?_)
           rw [hc, hd]
           show wpAny M A (if (["enumerate", "zip", "dict_itemiterator", "dict_reverseitemiterator", "odict_iterator", "itertools.zip_longest", "itertools.pairwise"].contains n && vs[0]? == some (rawInt _)) = true then _ else _) Q E s
           rw [if_neg (by intro h; rw [hn, Bool.false_and] at h; cases h)]
           exact wpAny_pure hQ))
def Itl (K : PySem.W.Frag) (a : Addr) : It :=
  ⟨fun i H => ∃ xs x, SqL K H a xs ∧ xs[i]? = some x, fun i H x H' => H' = H ∧ ∀ xs, SqL K H a xs → xs[i]? = some x, fun i H => ∃ xs, SqL K H a xs ∧ xs.length ≤ i⟩
def Itt (K : PySem.W.Frag) (a : Addr) : It :=
  ⟨fun i H => ∃ xs x, SqT K H a xs ∧ xs[i]? = some x, fun i H x H' => H' = H ∧ ∀ xs, SqT K H a xs → xs[i]? = some x, fun i H => ∃ xs, SqT K H a xs ∧ xs.length ≤ i⟩
def Itr (lo : Int) (n : Nat) : It := ⟨fun i _ => i < n, fun i H x H' => H' = H ∧ x = .int (lo + i), fun i _ => n ≤ i⟩
theorem IE {P : Program} {w : World} {K : PySem.W.Frag} {tg : Expr} (a it : Addr) : Turn P w K tg (Itl K a) [it] it (fun i h => h.IsListIter it a i) where
  mem := by simp
  obj := fun i h st b hb => by
    have e : b = it := by simpa using hb
    subst e
    obtain ⟨o, e, c, d⟩ := st
    exact ⟨o, e, fun v z => by rw [d] at z; cases z⟩
  keep := fun i h h' st k => st.at fun o e => k it (by simp) o e
  item := by
    intro X hP hw hK hc i pins s σ H E I hf st hg
    subst hP hw hK
    obtain ⟨xs, x, hq, hx⟩ := hg
    obtain ⟨its, rv, p, hz⟩ := I.list hq
    obtain ⟨u, hu, ru⟩ := rv.get hx
    obtain ⟨f0, f1, f2, f3, f4, f5⟩ := hf it (by simp)
    refine wpAny_pyNext_list_item st p.isList (x := u) (by simpa using hu) fun h' st' sb => ?_
    have I1 : Inv X pins σ H { s with heap := h' } := I.turned (t' := s.toks) (fun b o hb e => (sb.2 b hb).trans e) f0 f1 f3 f4 f5
    obtain ⟨o, e, c, d⟩ := id st'
    exact ⟨u, rfl, YC (s := { s with heap := h' }) e c d (by decide) ⟨x, H, I1, ru, ⟨rfl, fun ys hy => by rw [I.list_inj hy hq]; exact hx⟩, st', fun b hb => (hf b hb).1⟩⟩
  done := by
    intro X hP hw hK hc i pins s σ H E I hf st hg
    subst hP hw hK
    obtain ⟨xs, hq, hx⟩ := hg
    obtain ⟨its, rv, p, hz⟩ := I.list hq
    obtain ⟨f0, f1, f2, f3, f4, f5⟩ := hf it (by simp)
    have hl := rv.length
    exact wpAny_pyNext_list_end (I.ok.hd hc) st p.isList (by simp; lia) fun h' eb => ⟨rfl, I.turned (t' := s.toks) (fun b o hb e => eb b o hb e) f0 f1 f3 f4 f5⟩
  self := fun _ _ _ _ _ st h => wpAny_pyIter_listiter st h
theorem FY {P : Program} {w : World} {K : PySem.W.Frag} {tg : Expr} (a it : Addr) : Turn P w K tg (Itt K a) [it] it (fun i h => h.IsTupleIter it a i) where
  mem := by simp
  obj := fun i h st b hb => by
    have e : b = it := by simpa using hb
    subst e
    obtain ⟨o, e, c, d⟩ := st
    exact ⟨o, e, fun v z => by rw [d] at z; cases z⟩
  keep := fun i h h' st k => st.at fun o e => k it (by simp) o e
  item := by
    intro X hP hw hK hc i pins s σ H E I hf st hg
    subst hP hw hK
    obtain ⟨xs, x, hq, hx⟩ := hg
    obtain ⟨its, rv, p, hz⟩ := I.tuple hq
    obtain ⟨u, hu, ru⟩ := rv.get hx
    obtain ⟨f0, f1, f2, f3, f4, f5⟩ := hf it (by simp)
    refine wpAny_pyNext_tuple_item st (show s.heap.IsTuple a its.toArray from p) (x := u) (by simpa using hu) fun h' st' sb => ?_
    have I1 : Inv X pins σ H { s with heap := h' } := I.turned (t' := s.toks) (fun b o hb e => (sb.2 b hb).trans e) f0 f1 f3 f4 f5
    obtain ⟨o, e, c, d⟩ := id st'
    exact ⟨u, rfl, YC (s := { s with heap := h' }) e c d (by decide) ⟨x, H, I1, ru, ⟨rfl, fun ys hy => by rw [I.tuple_inj hy hq]; exact hx⟩, st', fun b hb => (hf b hb).1⟩⟩
  done := by
    intro X hP hw hK hc i pins s σ H E I hf st hg
    subst hP hw hK
    obtain ⟨xs, hq, hx⟩ := hg
    obtain ⟨its, rv, p, hz⟩ := I.tuple hq
    obtain ⟨f0, f1, f2, f3, f4, f5⟩ := hf it (by simp)
    have hl := rv.length
    exact wpAny_pyNext_tuple_end (I.ok.hd hc) st (show s.heap.IsTuple a its.toArray from p) (by simp; lia) fun h' eb => ⟨rfl, I.turned (t' := s.toks) (fun b o hb e => eb b o hb e) f0 f1 f3 f4 f5⟩
  self := fun _ _ _ _ _ st h => wpAny_pyIter_tupleiter st h
theorem PL {P : Program} {w : World} {K : PySem.W.Frag} {tg : Expr} (it : Addr) (lo : Int) (n : Nat) : Turn P w K tg (Itr lo n) [it] it (fun i h => IsRangeIter h it (lo + (i : Nat) * 1) ((n : Int) - (i : Nat)) 1) where
  mem := by simp
  obj := fun i h st b hb => by
    have e : b = it := by simpa using hb
    subst e
    exact ⟨_, st, fun v z => by
      have z' : Data.fields _ = Data.cell v := z
      cases z'⟩
  keep := fun i h h' st k => k it (by simp) _ st
  item := by
    intro X hP hw hK hc i pins s σ H E I hf st hg
    subst hP hw hK
    obtain ⟨f0, f1, f2, f3, f4, f5⟩ := hf it (by simp)
    have W := Walks.range (prog := X.prog) (w := X.w) (I.ok.hd hc) it lo 1 n
    refine W.item i s _ _ hg st fun v h' tk hv st' kk => ?_
    obtain ⟨t, rfl⟩ := hv
    have I1 : Inv X pins σ H { s with heap := h', toks := tk } := I.turned (fun b o hb e => kk b o (by simpa using hb) e) f0 f1 f3 f4 f5
    refine ⟨_, rfl, YC (s := { s with heap := h', toks := tk }) (n := "range_iterator") st' rfl rfl (by decide) ⟨.int (lo + i), H, I1, ⟨t, ?_⟩, ⟨rfl, rfl⟩, st', fun b hb => (hf b hb).1⟩⟩
    rw [Int.mul_one]
  done := by
    intro X hP hw hK hc i pins s σ H E I hf st hg
    subst hP hw hK
    obtain ⟨f0, f1, f2, f3, f4, f5⟩ := hf it (by simp)
    exact wpAny_pyNext_range_end (I.ok.hd hc) st (by have : n ≤ i := hg; lia) fun h' eb => ⟨rfl, I.turned (t' := s.toks) (fun b o hb e => eb b o hb e) f0 f1 f3 f4 f5⟩
  self := fun _ _ _ _ _ st h => wpAny_pyIter_rangeiter st h
section
variable {X : Cx} {tg : Expr}
def BA3 (K : PySem.W.Frag) (tl : TE) : TI := fun σ H R => tl σ H fun x H1 => ∃ a, x = .ref a ∧ (∃ xs, SqL K H1 a xs) ∧ R (Itl K a) H1
def BJ1 (K : PySem.W.Frag) (tl : TE) : TI := fun σ H R => tl σ H fun x H1 => ∃ a, x = .ref a ∧ (∃ xs, SqT K H1 a xs) ∧ R (Itt K a) H1
theorem AM4 {l : Expr} {tl : TE} (hl : PE X l tl) : PI X tg l (BA3 X.K tl) := by
  intro pins s σ H R I h
  refine thn (hl pins s σ H _ I h) fun v s1 ⟨x, H1, I1, r1, q1⟩ => ?_
  obtain ⟨a, e, ⟨xs, hq⟩, q⟩ := q1
  subst e
  cases r1
  obtain ⟨its, rv, p, hz⟩ := I1.list hq
  refine wpAny_pyIter_list p.isList ?_
  refine ⟨s1.heap.objs.size, [s1.heap.objs.size], _, _, H1, rfl, I1.kept (t' := s1.toks) fun b o e => Heap.get?_push_of_some _ e, IE a _, ⟨_, Heap.get?_push_size _ rfl, rfl, rfl⟩, fun b hb => ?_, q⟩
  have e : b = s1.heap.objs.size := by simpa using hb
  subst e
  exact I1.fpOk (Nat.le_refl _) (I1.hok.fresh (Nat.le_refl _))
theorem AS8 {l : Expr} {tl : TE} (hl : PE X l tl) : PI X tg l (BJ1 X.K tl) := by
  intro pins s σ H R I h
  refine thn (hl pins s σ H _ I h) fun v s1 ⟨x, H1, I1, r1, q1⟩ => ?_
  obtain ⟨a, e, ⟨xs, hq⟩, q⟩ := q1
  subst e
  cases r1
  obtain ⟨its, rv, p, hz⟩ := I1.tuple hq
  refine wpAny_pyIter_tuple (show s1.heap.IsTuple a its.toArray from p) ?_
  refine ⟨s1.heap.objs.size, [s1.heap.objs.size], _, _, H1, rfl, I1.kept (t' := s1.toks) fun b o e => Heap.get?_push_of_some _ e, FY a _, ⟨_, Heap.get?_push_size _ rfl, rfl, rfl⟩, fun b hb => ?_, q⟩
  have e : b = s1.heap.objs.size := by simpa using hb
  subst e
  exact I1.fpOk (Nat.le_refl _) (I1.hok.fresh (Nat.le_refl _))
theorem WW {pins : List (Addr × Obj)} {σ : St} {H : Hp} {s : Shared} {R : It → Hp → Prop} {E : Value → Shared → Prop} {lo hi : Int} {t u v : Tok} {tk : Nat} (I : Inv X pins σ H s) (h1 : -(2 ^ 62) ≤ lo) (h2 : lo < 2 ^ 62) (h3 : -(2 ^ 62) ≤ hi) (h4 : hi < 2 ^ 62)
    (q : R (Itr lo (hi - lo).toNat) H) : wpAny (model X.prog X.w) X.A (pyIter (.ref s.heap.objs.size)) (PIE X pins σ tg R) E { s with heap := s.heap.push { cls := .type "range", data := .fields #[.int lo t, .int hi u, .int 1 v] }, toks := tk } := by
  refine wpAny_pyIter_range (IsRange.new ..) (small_one h1 h2 h3 h4) ?_
  have I1 : Inv X pins σ H { s with heap := s.heap.push { cls := .type "range", data := .fields #[.int lo t, .int hi u, .int 1 v] }, toks := tk } := I.kept fun b o e => Heap.get?_push_of_some _ e
  refine ⟨(s.heap.push { cls := .type "range", data := .fields #[.int lo t, .int hi u, .int 1 v] }).objs.size, [(s.heap.push { cls := .type "range", data := .fields #[.int lo t, .int hi u, .int 1 v] }).objs.size], _, _, H, rfl,
    I1.kept (t' := tk) fun b o e => Heap.get?_push_of_some _ e, PL _ lo (hi - lo).toNat, ?_, fun b hb => ?_, q⟩
  · have e1 : lo + ((0 : Nat) : Int) * 1 = lo := by simp
    have e2 : (((hi - lo).toNat : Nat) : Int) - ((0 : Nat) : Int) = Builtin.Range.rangeSize lo hi 1 := by rw [rangeSize_one]; split <;> lia
    show IsRangeIter _ _ (lo + ((0 : Nat) : Int) * 1) ((((hi - lo).toNat : Nat) : Int) - ((0 : Nat) : Int)) 1
    rw [e1, e2]
    exact Heap.get?_push_size _ rfl
  · have e : b = (s.heap.push { cls := .type "range", data := .fields #[.int lo t, .int hi u, .int 1 v] }).objs.size := by simpa using hb
    subst e
    exact I1.fpOk (Nat.le_refl _) (I1.hok.fresh (Nat.le_refl _))
def BF1 (ta : TA) : TI := fun σ H R => ta σ H fun vs H1 => ∃ j : Int, vs = [.int j] ∧ -(2 ^ 62) ≤ j ∧ j < 2 ^ 62 ∧ R (Itr 0 j.toNat) H1
theorem UG {a : Expr} {ta : TA} {p pos : Pos} (hg : Gl X "range") (hm : X.mg "range" = none) (ha : PA X [a] ta) (hs : starEach [a] X.env = [(false, eval a X.env)] := by rfl) : PI X tg (.Call (.Name "range" p) [a] [] pos) (BF1 ta) := by
  intro pins s σ H R I h
  refine Call_ (BP I hg hm boot_range (PyProof.Rows.callWith_type1 (thn (ha pos pins s σ H _ I h) fun us s1 ⟨vs, H1, I1, r1, q1⟩ => ?_) hs rfl))
  obtain ⟨j, e, q1, q2, q⟩ := q1
  subst e
  cases r1 with
  | cons r rr =>
    cases rr
    obtain ⟨t, rfl⟩ := r
    exact call_range_1 (WW I1 (by lia) (by lia) q1 q2 (by simpa using q))
def BM4 (wi : TI) (g : TG) (tb : TS) : TS := fun D σ H => wi σ H fun J H1 => ∃ W : Nat → Nat → St → Hp → Prop, (∃ m, W 0 m σ H1) ∧ ∀ i m σ H, W i m σ H →
  (J.stop i H ∧ D.nx σ H) ∨ (J.go i H ∧ ∃ N : St → Hp → Prop, (∀ σ' H', N σ' H' → ∃ m', m' < m ∧ W (i + 1) m' σ' H') ∧ ∀ x H', J.yld i H x H' → g x σ H' fun σ2 H2 => tb { D with nx := N, ct := N, bk := D.nx } σ2 H2)
def EL (fp : List Addr) (h : Heap) : List (Addr × Obj) := fp.filterMap fun b => (h.get? b).map fun o => (b, o)
theorem Z1 {fp : List Addr} {h : Heap} {b : Addr} {o : Obj} (hb : b ∈ fp) (e : h.get? b = some o) : (b, o) ∈ EL fp h := List.mem_filterMap.mpr ⟨b, hb, by rw [e]; rfl⟩
theorem VX {fp : List Addr} {h : Heap} {p : Addr × Obj} (hp : p ∈ EL fp h) : p.1 ∈ fp ∧ h.get? p.1 = some p.2 := by
  obtain ⟨b, hb, e⟩ := List.mem_filterMap.mp hp
  cases q : h.get? b with
  | none => rw [q] at e; cases e
  | some o =>
    rw [q] at e
    have e' : (b, o) = p := Option.some.inj e
    subst e'
    exact ⟨hb, q⟩
theorem Inv.pinned {pins : List (Addr × Obj)} {σ : St} {H : Hp} {s : Shared} {fp : List Addr} (I : Inv X pins σ H s) (hf : ∀ b ∈ fp, KH X pins H b) (ho : ∀ b ∈ fp, ∃ o, s.heap.get? b = some o ∧ ∀ v, o.data ≠ .cell v) : Inv X (pins ++ EL fp s.heap) σ H s :=
  I.pins_of fun p hp => (List.mem_append.mp hp).elim (fun z => I.pin p (List.mem_append_right _ z)) fun z => by
    obtain ⟨hb, e⟩ := VX z
    obtain ⟨f0, f1, f2, _⟩ := hf p.1 hb
    obtain ⟨o, e', d⟩ := ho p.1 hb
    rw [e] at e'; cases e'
    exact ⟨e, f0, f1, f2, d⟩
theorem Inv.unpinned {pins pl : List (Addr × Obj)} {σ : St} {H : Hp} {s : Shared} (I : Inv X (pins ++ pl) σ H s) : Inv X pins σ H s := I.pins_of fun p hp => I.pin p (List.mem_append_right _ (List.mem_append_left _ hp))
theorem XZ {iter : Expr} {body : List Stmt} {wi : TI} {g : TG} {tb : TS} {pos : Pos} (hp : PassesOwn (model X.prog X.w) X.A X.env X.xe) (hc : X.calm = true) (hi : PI X tg iter wi) (hg : PG X tg g) (hb : PSs X body tb)
    (hs : ∀ x, foldedSetIterable iter X.env x = pure x := by intro _; rfl) : PS X (.For tg iter body [] pos) (BM4 wi g tb) := by
  intro pins s σ H D I h
  refine wpAny_For (thn (hi pins s σ H _ I h) fun v s1 h1 => thn h1 fun itv s2 h2 => ?_) hs
  obtain ⟨it, fp, tn, J, H2, e, I2, T, st2, f2, W, ⟨m0, w0⟩, turn⟩ := h2
  subst e
  have stat : ∀ {H' : Hp}, (∀ b ∈ fp, H' b = none) → ∀ b ∈ fp, KH X pins H' b := fun hn b hb => ⟨hn b hb, (f2 b hb).2⟩
  refine codeAny_forLoop_any (fun n s' => ∃ i σ' H', Inv X pins σ' H' s' ∧ tn i s'.heap ∧ (∀ b ∈ fp, H' b = none) ∧ W i n σ' H') ?_ m0 ⟨0, σ, H2, I2, st2, fun b hb => (f2 b hb).1, w0⟩
  rintro n s3 ⟨i, σ3, H3, I3, st3, fr3, w3⟩
  rcases turn i n σ3 H3 w3 with ⟨stop, qn⟩ | ⟨go, N, hN, step⟩
  · refine wpAny_passesOwn hp (thn (T.done X rfl rfl rfl hc i pins s3 σ3 H3 X.xe I3 (stat fr3) st3 stop) fun r s4 ⟨hr, I4⟩ => ?_)
    subst hr
    exact wpAny_execs_nil ⟨σ3, H3, I4, qn⟩
  · refine wpAny_passesOwn hp (thn (T.item X rfl rfl rfl hc i pins s3 σ3 H3 X.xe I3 (stat fr3) st3 go) fun r s4 ⟨u, hr, h4⟩ => ?_)
    subst hr
    refine wpAny_passesOwn hp (thn h4 fun _ s5 ⟨x, H5, I5, r5, y5, st5, fr5⟩ => ?_)
    have I5' := I5.pinned (stat fr5) (T.obj _ _ st5)
    refine wpAny_passesOwn hp (thn (hg _ s5 σ3 H5 x u _ I5' r5 (step x H5 y5)) fun _ s6 ⟨σ6, H6, I6, q6⟩ => ?_)
    refine wpAny_passesOwn hp (thn (hb _ s6 σ6 H6 _ I6 q6) fun f s7 q7 => ?_)
    have again : ∀ {σ7 : St} {H7 : Hp}, Inv X (pins ++ EL fp s5.heap) σ7 H7 s7 → N σ7 H7 → ∃ m, m < n ∧ ∃ i σ' H', Inv X pins σ' H' s7 ∧ tn i s7.heap ∧ (∀ b ∈ fp, H' b = none) ∧ W i m σ' H' := fun {σ7 H7} I7 n7 => by
      obtain ⟨m', hm, w7⟩ := hN σ7 H7 n7
      refine ⟨m', hm, i + 1, σ7, H7, I7.unpinned, T.keep _ _ _ st5 fun b hb o e => (I7.pin (b, o) (List.mem_append_right _ (List.mem_append_right _ (Z1 hb e)))).1, fun b hb => ?_, w7⟩
      obtain ⟨o, e, d⟩ := T.obj _ _ st5 b hb
      exact (I7.pin (b, o) (List.mem_append_right _ (List.mem_append_right _ (Z1 hb e)))).2.1
    cases f with
    | next => obtain ⟨σ7, H7, I7, n7⟩ := q7; exact again I7 n7
    | cont => obtain ⟨σ7, H7, I7, n7⟩ := q7; exact again I7 n7
    | brk => obtain ⟨σ7, H7, I7, q7⟩ := q7; exact ⟨σ7, H7, I7.unpinned, q7⟩
    | ret v => obtain ⟨x7, σ7, H7, I7, r7, q7⟩ := q7; exact ⟨x7, σ7, H7, I7.unpinned, r7, q7⟩
end
abbrev R2 := V → V → Hp → VK → Prop
def OpR (X : Cx) (f : Value → Value → Sem Value) (r : R2) : Prop :=
  ∀ (pins : List (Addr × Obj)) (s : Shared) (σ : St) (H : Hp) (x y : V) (v u : Value) (Q : VK), Inv X pins σ H s → RelV x v → RelV y u → r x y H Q →
    wpAny (model X.prog X.w) X.A (f v u) (EP X pins σ Q) X.xe s
def UnR (X : Cx) (f : Value → Sem Value) (r : V → Hp → VK → Prop) : Prop :=
  ∀ (pins : List (Addr × Obj)) (s : Shared) (σ : St) (H : Hp) (x : V) (v : Value) (Q : VK), Inv X pins σ H s → RelV x v → r x H Q →
    wpAny (model X.prog X.w) X.A (f v) (EP X pins σ Q) X.xe s
def CallR (X : Cx) (f : Value) (r : List V → Hp → VK → Prop) : Prop :=
  ∀ (pins : List (Addr × Obj)) (s : Shared) (σ : St) (H : Hp) (xs : List V) (us : List Value) (Q : VK), Inv X pins σ H s → Vals xs us → r xs H Q →
    wpAny (model X.prog X.w) X.A (call f us) (EP X pins σ Q) X.xe s
def rI (C : Int → Int → Prop) (g : Int → Int → V) : R2 := fun x y H Q => ∃ i j, x = .int i ∧ y = .int j ∧ C i j ∧ Q (g i j) H
def rI0 (g : Int → Int → V) : R2 := fun x y H Q => ∃ i j, x = .int i ∧ y = .int j ∧ Q (g i j) H
def rU (g : Int → V) : V → Hp → VK → Prop := fun x H Q => ∃ i, x = .int i ∧ Q (g i) H
section
variable {X : Cx} {a b c : Expr} {ta tb tc : TE} {pos : Pos}
theorem opI {f : Value → Value → Sem Value} {C : Int → Int → Prop} {g : Int → Int → Int}
    (rule : ∀ (i j : Int) (t u : Tok) (s : Shared) (Q : Value → Shared → Prop) (E : Value → Shared → Prop), C i j → Q (.int (g i j) s.toks) { s with toks := s.toks + 1 } → wpAny (model X.prog X.w) X.A (f (.int i t) (.int j u)) Q E s) :
    OpR X f (rI C fun i j => .int (g i j)) := by
  intro pins s σ H x y v u Q I rx ry h
  obtain ⟨i, j, rfl, rfl, hc, q⟩ := h
  obtain ⟨t, rfl⟩ := rx
  obtain ⟨t', rfl⟩ := ry
  exact rule i j t t' s _ _ hc ⟨.int (g i j), H, I.tok _, ⟨_, rfl⟩, q⟩
theorem BH9 {f : Value → Value → Sem Value} {g : Int → Int → Int}
    (rule : ∀ (i j : Int) (t u : Tok) (s : Shared) (Q : Value → Shared → Prop) (E : Value → Shared → Prop), Q (.int (g i j) s.toks) { s with toks := s.toks + 1 } → wpAny (model X.prog X.w) X.A (f (.int i t) (.int j u)) Q E s) :
    OpR X f (rI0 fun i j => .int (g i j)) := by
  intro pins s σ H x y v u Q I rx ry h
  obtain ⟨i, j, rfl, rfl, q⟩ := h
  obtain ⟨t, rfl⟩ := rx
  obtain ⟨t', rfl⟩ := ry
  exact rule i j t t' s _ _ ⟨.int (g i j), H, I.tok _, ⟨_, rfl⟩, q⟩
theorem AX1 {f : Value → Value → Sem Value} {g : Int → Int → Bool}
    (rule : ∀ (i j : Int) (t u : Tok) (s : Shared) (Q : Value → Shared → Prop) (E : Value → Shared → Prop), Q (.bool (g i j)) s → wpAny (model X.prog X.w) X.A (f (.int i t) (.int j u)) Q E s) :
    OpR X f (rI0 fun i j => .bl (g i j)) := by
  intro pins s σ H x y v u Q I rx ry h
  obtain ⟨i, j, rfl, rfl, q⟩ := h
  obtain ⟨t, rfl⟩ := rx
  obtain ⟨t', rfl⟩ := ry
  exact rule i j t t' s _ _ ⟨.bl (g i j), H, I, rfl, q⟩
def WE (i j : Int) : Prop := 0 ≤ j ∧ j ≤ 1000000 ∧ i.natAbs < 2 ^ 64
def CMul (i j : Int) : Prop := (-(2 ^ 64) < i ∧ i < 2 ^ 64) ∨ (-(2 ^ 64) < j ∧ j < 2 ^ 64)
theorem CMul.ok {i j : Int} (h : CMul i j) : IntMulOk i j := by
  rcases h with ⟨h1, h2⟩ | ⟨h1, h2⟩
  · exact .of_left (intBits_le_64 h1 h2)
  · exact .of_right (intBits_le_64 h1 h2)
theorem AW4 : OpR X (binaryOp .Add) (rI0 fun i j => .int (i + j)) := BH9 fun _ _ _ _ _ _ _ q => add_int q
theorem AW1 : OpR X (binaryOp .Sub) (rI0 fun i j => .int (i - j)) := BH9 fun _ _ _ _ _ _ _ q => sub_int q
theorem AR3 : OpR X (binaryOp .Mod) (rI (fun _ j => 0 < j) fun i j => .int (i % j)) := opI fun i j _ _ _ _ _ hc q => by
  have h1 : (0 : Int) < j := hc
  exact mod_int' (by lia) (by rw [Int.fmod_eq_emod_of_nonneg i (by lia)]; exact q)
theorem AV5 : OpR X (binaryOp .Pow) (rI WE fun i j => .int (i ^ j.toNat)) := opI fun _ _ _ _ _ _ _ hc q => pow_int_small hc.1 hc.2.1 hc.2.2 q
theorem unI {f : Value → Sem Value} {g : Int → Int}
    (rule : ∀ (i : Int) (t : Tok) (s : Shared) (Q : Value → Shared → Prop) (E : Value → Shared → Prop), Q (.int (g i) s.toks) { s with toks := s.toks + 1 } → wpAny (model X.prog X.w) X.A (f (.int i t)) Q E s) :
    UnR X f (rU fun i => .int (g i)) := by
  intro pins s σ H x v Q I rx h
  obtain ⟨i, rfl, q⟩ := h
  obtain ⟨t, rfl⟩ := rx
  exact rule i t s _ _ ⟨.int (g i), H, I.tok _, ⟨_, rfl⟩, q⟩
theorem AT4 : UnR X (unaryOp .USub) (rU fun i => .int (-i)) := unI fun _ _ _ _ _ q => neg_int q
end
def BA0 : V → V → Bool
  | .non, .non => true | .non, .int _ => true | .int _, .non => true | .non, .bl _ => true | .bl _, .non => true | .non, .str _ => true | .str _, .non => true
  | .int _, .int _ => true | .bl _, .bl _ => true | .str _, .str _ => true | .byt _, .byt _ => true
  | .int _, .str _ => true | .str _, .int _ => true | .bl _, .str _ => true | .str _, .bl _ => true
  | _, _ => false
def rEq : R2 := fun x y H Q => BA0 x y = true ∧ Q (.bl (decide (x = y))) H
def rNe : R2 := fun x y H Q => BA0 x y = true ∧ Q (.bl (!decide (x = y))) H
theorem RH {i j : Int} : decide (V.int i = V.int j) = (i == j) := by
  rw [Bool.eq_iff_iff]
  simp
theorem YY {i j : Bool} : decide (V.bl i = V.bl j) = (i == j) := by
  rw [Bool.eq_iff_iff]
  simp
theorem EH {i j : Str} : decide (V.str i = V.str j) = (i == j) := by
  rw [Bool.eq_iff_iff]
  simp
theorem RT {i j : Array UInt8} : decide (V.byt i = V.byt j) = (i.toList == j.toList) := by
  rw [Bool.eq_iff_iff]
  cases i
  cases j
  simp
section
variable {X : Cx} {a b c : Expr} {ta tb tc : TE} {pos : Pos}
theorem D6 {pins : List (Addr × Obj)} {σ : St} {H : Hp} {s : Shared} {Q : VK} {k k' : Bool} (I : Inv X pins σ H s) (q : Q (.bl k) H) (e : k = k') : EP X pins σ Q (.bool k') s := by
  subst e
  exact ⟨.bl k, H, I, rfl, q⟩
theorem BF8 : OpR X (compareOp .Eq) rEq := by
  intro pins s σ H x y v u Q I rx ry h
  obtain ⟨hs, q⟩ := h
  cases x with
  | non =>
    cases rx
    cases y with
    | non => cases ry; exact PySem.EqNone.eq_none_none (D6 I q (by simp))
    | bl j => cases ry; exact PySem.EqNone.eq_none_bool (D6 I q (by simp))
    | int j => obtain ⟨t', rfl⟩ := ry; exact PySem.EqNone.eq_none_int (D6 I q (by simp))
    | str j => obtain ⟨t', rfl⟩ := ry; exact PySem.EqNone.eq_none_str (D6 I q (by simp))
    | _ => exact absurd (show false = true from hs) Bool.false_ne_true
  | bl i =>
    cases rx
    cases y with
    | non => cases ry; exact PySem.EqNone.eq_bool_none (D6 I q (by simp))
    | bl j => cases ry; exact eq_bool (D6 I q YY)
    | str j => obtain ⟨t', rfl⟩ := ry; exact PySem.EqMixed.eq_bool_str (D6 I q (by simp))
    | _ => exact absurd (show false = true from hs) Bool.false_ne_true
  | int i =>
    obtain ⟨t, rfl⟩ := rx
    cases y with
    | non => cases ry; exact PySem.EqNone.eq_int_none (D6 I q (by simp))
    | int j => obtain ⟨t', rfl⟩ := ry; exact eq_int (D6 I q RH)
    | str j => obtain ⟨t', rfl⟩ := ry; exact PySem.EqMixed.eq_int_str (D6 I q (by simp))
    | _ => exact absurd (show false = true from hs) Bool.false_ne_true
  | str i =>
    obtain ⟨t, rfl⟩ := rx
    cases y with
    | non => cases ry; exact PySem.EqNone.eq_str_none (D6 I q (by simp))
    | bl j => cases ry; exact PySem.EqMixed.eq_str_bool (D6 I q (by simp))
    | int j => obtain ⟨t', rfl⟩ := ry; exact PySem.EqMixed.eq_str_int (D6 I q (by simp))
    | str j => obtain ⟨t', rfl⟩ := ry; exact eq_str (D6 I q EH)
    | _ => exact absurd (show false = true from hs) Bool.false_ne_true
  | byt i =>
    obtain ⟨t, rfl⟩ := rx
    cases y with
    | byt j => obtain ⟨t', rfl⟩ := ry; exact PySem.W.eq_bytes (D6 I q RT)
    | _ => exact absurd (show false = true from hs) Bool.false_ne_true
  | _ => cases y <;> exact absurd (show false = true from hs) Bool.false_ne_true
theorem BH4 : OpR X (compareOp .NotEq) rNe := by
  intro pins s σ H x y v u Q I rx ry h
  obtain ⟨hs, q⟩ := h
  cases x with
  | non =>
    cases rx
    cases y with
    | non => cases ry; exact PySem.EqNone.ne_none_none (D6 I q (by simp))
    | bl j => cases ry; exact PySem.EqNone.ne_none_bool (D6 I q (by simp))
    | int j => obtain ⟨t', rfl⟩ := ry; exact PySem.EqNone.ne_none_int (D6 I q (by simp))
    | str j => obtain ⟨t', rfl⟩ := ry; exact PySem.EqNone.ne_none_str (D6 I q (by simp))
    | _ => exact absurd (show false = true from hs) Bool.false_ne_true
  | bl i =>
    cases rx
    cases y with
    | non => cases ry; exact PySem.EqNone.ne_bool_none (D6 I q (by simp))
    | bl j => cases ry; exact ne_bool (D6 I q (congrArg not YY))
    | str j => obtain ⟨t', rfl⟩ := ry; exact PySem.EqMixed.ne_bool_str (D6 I q (by simp))
    | _ => exact absurd (show false = true from hs) Bool.false_ne_true
  | int i =>
    obtain ⟨t, rfl⟩ := rx
    cases y with
    | non => cases ry; exact PySem.EqNone.ne_int_none (D6 I q (by simp))
    | int j => obtain ⟨t', rfl⟩ := ry; exact ne_int (D6 I q (congrArg not RH))
    | str j => obtain ⟨t', rfl⟩ := ry; exact PySem.EqMixed.ne_int_str (D6 I q (by simp))
    | _ => exact absurd (show false = true from hs) Bool.false_ne_true
  | str i =>
    obtain ⟨t, rfl⟩ := rx
    cases y with
    | non => cases ry; exact PySem.EqNone.ne_str_none (D6 I q (by simp))
    | bl j => cases ry; exact PySem.EqMixed.ne_str_bool (D6 I q (by simp))
    | int j => obtain ⟨t', rfl⟩ := ry; exact PySem.EqMixed.ne_str_int (D6 I q (by simp))
    | str j => obtain ⟨t', rfl⟩ := ry; exact ne_str (D6 I q (congrArg not EH))
    | _ => exact absurd (show false = true from hs) Bool.false_ne_true
  | byt i =>
    obtain ⟨t, rfl⟩ := rx
    cases y with
    | byt j => obtain ⟨t', rfl⟩ := ry; exact PySem.W.ne_bytes (D6 I q (congrArg not RT))
    | _ => exact absurd (show false = true from hs) Bool.false_ne_true
  | _ => cases y <;> exact absurd (show false = true from hs) Bool.false_ne_true
theorem BE2 : OpR X (compareOp .Lt) (rI0 fun i j => .bl (decide (i < j))) := AX1 fun _ _ _ _ _ _ _ q => lt_int q
theorem BI3 : OpR X (compareOp .Gt) (rI0 fun i j => .bl (decide (j < i))) := AX1 fun _ _ _ _ _ _ _ q => gt_int q
theorem BG8 : OpR X (compareOp .GtE) (rI0 fun i j => .bl (decide (j ≤ i))) := AX1 fun _ _ _ _ _ _ _ q => ge_int q
theorem VE : OpR X (compareOp .In) (fun x y H Q => ∃ i j, x = .str i ∧ y = .str j ∧ Q (.bl (!(Builtin.Str.occurrences j i 0 j.length 1).isEmpty)) H) := by
  intro pins s σ H x y v u Q I rx ry h
  obtain ⟨i, j, rfl, rfl, q⟩ := h
  obtain ⟨t, rfl⟩ := rx
  obtain ⟨t', rfl⟩ := ry
  exact in_str (D6 I q rfl)
theorem LY : OpR X (compareOp .NotIn) (fun x y H Q => ∃ i j, x = .str i ∧ y = .str j ∧ Q (.bl (!(!(Builtin.Str.occurrences j i 0 j.length 1).isEmpty))) H) := by
  intro pins s σ H x y v u Q I rx ry h
  obtain ⟨i, j, rfl, rfl, q⟩ := h
  obtain ⟨t, rfl⟩ := rx
  obtain ⟨t', rfl⟩ := ry
  exact notIn_str (D6 I q rfl)
theorem C1 (b : Expr) {op : CmpOp} (h : op ≠ .In := by decide) (h2 : op ≠ .NotIn := by decide) : behindInMarks op b = false := by
  have e1 : (op == CmpOp.In) = false := by cases op <;> first | rfl | exact absurd rfl h
  have e2 : (op == CmpOp.NotIn) = false := by cases op <;> first | rfl | exact absurd rfl h2
  cases b <;> simp [behindInMarks, e1, e2]
theorem FD : (sizeLine : Nat) < 2 ^ 63 := by rw [sizeLine_eq]; decide
theorem QQ : OpR X (binaryOp .Add) (fun x y H Q => ∃ i j, x = .str i ∧ y = .str j ∧ i.length + j.length ≤ sizeLine ∧ Q (.str (i ++ j)) H) := by
  intro pins s σ H x y v u Q I rx ry h
  obtain ⟨i, j, rfl, rfl, hz, q⟩ := h
  obtain ⟨t, rfl⟩ := rx
  obtain ⟨t', rfl⟩ := ry
  exact add_str (fun t' tk => ⟨.str (i ++ j), H, I.tok _, ⟨_, rfl⟩, q⟩) hz
theorem vals1 {x : V} {us : List Value} (r : Vals [x] us) : ∃ u, us = [u] ∧ RelV x u := by
  cases r with
  | cons r1 r2 => cases r2; exact ⟨_, rfl, r1⟩
theorem vals2 {x y : V} {us : List Value} (r : Vals [x, y] us) : ∃ u w', us = [u, w'] ∧ RelV x u ∧ RelV y w' := by
  cases r with
  | cons r1 r2 =>
    cases r2 with
    | cons r3 r4 => cases r4; exact ⟨_, _, rfl, r1, r3⟩
theorem YF : CallR X (.builtin "abs") (fun xs H Q => ∃ i, xs = [.int i] ∧ Q (.int (if i < 0 then -i else i)) H) := by
  intro pins s σ H xs us Q I r h
  obtain ⟨i, rfl, q⟩ := h
  obtain ⟨u, rfl, t, rfl⟩ := vals1 r
  exact call_abs_int fun u tk => ⟨.int (if i < 0 then -i else i), H, I.tok _, ⟨_, rfl⟩, q⟩
theorem VW (hc : X.calm = true) : CallR X (.builtin "min") (fun xs H Q => ∃ i j, xs = [.int i, .int j] ∧ Q (.int (if j < i then j else i)) H) := by
  intro pins s σ H xs us Q I r h
  obtain ⟨i, j, rfl, q⟩ := h
  obtain ⟨u, w', rfl, ⟨t, rfl⟩, ⟨t', rfl⟩⟩ := vals2 r
  refine min_two_ints (I.ok.hd hc) fun h' tk k => ⟨_, H, I.kept k, ?_, q⟩
  by_cases hj : j < i
  · rw [if_pos hj, if_pos hj]; exact ⟨_, rfl⟩
  · rw [if_neg hj, if_neg hj]; exact ⟨_, rfl⟩
theorem TZ : CallR X (.type "int") (fun xs H Q => (∃ i, xs = [.int i] ∧ Q (.int i) H) ∨ ∃ k, xs = [.bl k] ∧ Q (.int (if k then 1 else 0)) H) := by
  intro pins s σ H xs us Q I r h
  rcases h with ⟨i, rfl, q⟩ | ⟨k, rfl, q⟩
  · obtain ⟨u, rfl, t, rfl⟩ := vals1 r
    exact call_int_int ⟨.int i, H, I, ⟨_, rfl⟩, q⟩
  · obtain ⟨u, rfl, r1⟩ := vals1 r
    cases r1
    exact call_int_bool ⟨.int (if k then 1 else 0), H, I.tok _, ⟨_, rfl⟩, q⟩
end
section
variable {prog : Program} {w : World} {A : Around} {E : Value → Shared → Prop} {s : Shared} {K : PySem.W.Frag} {x dx C f : Addr} {mA : Str → Option Value} {name : Str} {v : Value}
end
theorem RelO.some_of {v : V} {o : Option Value} (r : RelO (some v) o) : ∃ u, o = some u ∧ RelV v u := by
  cases o with
  | none => exact (show False from r).elim
  | some u => exact ⟨u, rfl, r⟩
section
variable {P : Program} {w : World} {H H' : Hp} {h h' : Heap} {a C dx : Addr} {fs fs' : List (Str × V)}
end
section
variable {X : Cx} {pins : List (Addr × Obj)} {σ : St} {H : Hp} {s : Shared} {a C dx : Addr} {fs : List (Str × V)} {f : Str} {v : V} {A : Around} {E : Value → Shared → Prop}
end
section
variable {X : Cx} {o e value : Expr} {f : Str} {pos pos' tpos : Pos} {ta tv : TE}
end
section
variable {X : Cx} {pins : List (Addr × Obj)} {σ : St} {H : Hp} {s : Shared} {A : Around} {E : Value → Shared → Prop} {Q : Value → Shared → Prop} {c : Value} {b : Bool}
end
structure Room (k : Nat) (A : Around) : Prop where
  hd : A.handled = none
  dp : A.depth + 3 * k + 5 < recursionLimit
  un : A.units + 16 * k + 200 < cLine
  gd : A.guards = some []
theorem Room.mono {j k : Nat} {A : Around} (r : Room k A) (h : j ≤ k) : Room j A := ⟨r.hd, by have := r.dp; lia, by have := r.un; lia, r.gd⟩
theorem Room.deeper {k : Nat} {A : Around} (r : Room (k + 1) A) (env : Env) : Room k (A.deeper env) :=
  ⟨r.hd, by have := r.dp; show A.depth + 1 + 3 * k + 5 < _; lia, by have := r.un; show A.units + 3 + 16 * k + 200 < _; lia, r.gd⟩
theorem Room.depth {k : Nat} {A : Around} (r : Room k A) : A.depth < recursionLimit := by have := r.dp; lia
theorem Room.units {k : Nat} {A : Around} (r : Room k A) : A.units + 64 < cLine := by have := r.un; lia
section
variable {X : Cx} {e : Expr} {es : List Expr} {te : TE} {t : TA} {pos : Pos}
def BL4 (t : TA) : TE := fun σ H Q => t σ H fun xs H1 => xs.length ≤ sizeLine ∧ ∀ p, H1 p = none → Q (.ref p) (upd H1 p (.tup xs))
def BK2 (t : TA) : TE := fun σ H Q => t σ H fun xs H1 => xs.length ≤ sizeLine ∧ ∀ p, H1 p = none → Q (.ref p) (upd H1 p (.lst xs))
theorem AY9 {x1} (h : PA X es t) : PE X (.Tuple es x1 pos) (BL4 t) := by
  intro pins s σ H Q I hq
  refine wpAny_Tuple_spliced (thn (h pos pins s σ H _ I hq) fun us s1 ⟨xs, H1, I1, r, z, q⟩ => ⟨by rw [← r.length]; exact z, ?_⟩)
  have hf : H1 s1.heap.objs.size = none := I1.hok.fresh (Nat.le_refl _)
  refine ⟨.ref s1.heap.objs.size, upd H1 s1.heap.objs.size (.tup xs), I1.laid (t' := s1.toks) (fun b u e => Heap.get?_push_of_some _ e) (Nat.le_refl _) ?_, rfl, q _ hf⟩
  exact ⟨z, us, r, ⟨_, Heap.get?_push_size _ rfl, rfl, _, rfl⟩⟩
theorem WQ (h : PA X es t) : PE X (.List es pos) (BK2 t) := by
  intro pins s σ H Q I hq
  refine wpAny_List_spliced (thn (h pos pins s σ H _ I hq) fun us s1 ⟨xs, H1, I1, r, z, q⟩ => ⟨by rw [← r.length]; exact z, ?_⟩)
  have hf : H1 s1.heap.objs.size = none := I1.hok.fresh (Nat.le_refl _)
  refine ⟨.ref s1.heap.objs.size, upd H1 s1.heap.objs.size (.lst xs), I1.laid (t' := s1.toks) (fun b u e => Heap.get?_push_of_some _ e) (Nat.le_refl _) ?_, rfl, q _ hf⟩
  exact ⟨z, us, 0, r, Heap.get?_push_size _ rfl⟩
end
abbrev Sp := List V → Hp → VK → XK → Prop
abbrev CXT := List Env → Hp → Shared → XK → Value → Shared → Prop
structure AJ0 (P : Program) (w : World) (K : PySem.W.Frag) (mg : Str → Option Value) (base : Heap) (A : Around) (outer : List Env) (s : Shared) (H : Hp) : Prop where
  frames : A.frames = some outer
  mod : Mod K mg base
  bs : ∀ b o, base.get? b = some o → s.heap.get? b = some o ∧ H b = none
  bsz : base.objs.size ≤ s.heap.objs.size
  funs : s.heap.FunFrames base outer
  frf : ∀ b ∈ frs outer, H b = none
  hok : HOk P w H s.heap
  bare : AllBare s.gens
def CE (outer : List Env) (P : Program) (w : World) (H : Hp) (s : Shared) (Q : VK) (u : Value) (s' : Shared) : Prop :=
  ∃ v H', s'.os = s.os ∧ AllBare s'.gens ∧ Un (frs outer) [] H H' s.heap s'.heap ∧ HOk P w H' s'.heap ∧ RelV v u ∧ Q v H'
def CR (CX : CXT) (outer : List Env) (P : Program) (w : World) (H : Hp) (s : Shared) (Q : VK) (E : XK) (r : Result) (s' : Shared) : Prop :=
  match r with
  | .ok (.ret u) => CE outer P w H s Q u s'
  | .ok _ => False
  | .error e => CX outer H s E e s'
structure G4 (P : Program) (w : World) (K : PySem.W.Frag) (mg : Str → Option Value) (base : Heap) (CX : CXT) (k : Nat) (f : Addr) (fd : FuncData) (ps : List Str) (sp : Sp) : Prop where
  len : ∀ vs H Q E, sp vs H Q E → vs.length = ps.length
  run : ∀ (A : Around) (outer : List Env) (s : Shared) (H : Hp) (args : Args) (us : List Value) (vs : List V) (Q : VK) (E : XK), Room k A → AJ0 P w K mg base A outer s H → BindsTo s fd args (ps.zip us) → Vals vs us → sp vs H Q E →
    codeAny (model P w) A (.call (.ref f) args) (CR CX outer P w H s Q E) s
section
variable {X : Cx} {pins : List (Addr × Obj)} {σ : St} {H : Hp} {s s' : Shared}
theorem Inv.env0 (I : Inv X pins σ H s) : AJ0 X.prog X.w X.K X.mg X.base X.A X.stack s H :=
  ⟨I.ok.frames, I.ok.mod, I.bs, Nat.le_trans I.ok.bsz I.sz, I.stack, I.stkFree, I.hok, I.bare⟩
theorem Inv.after {Q : VK} {u : Value} (I : Inv X pins σ H s) (h : CE X.stack X.prog X.w H s Q u s') : EP X pins σ Q u s' := by
  obtain ⟨v, H', os, bare, un, hok, r, q⟩ := h
  obtain ⟨hh, g, d, t, os'⟩ := s'
  obtain rfl : os' = s.os := os
  exact ⟨v, H', I.call (h' := hh) (g' := g) (d' := d) (t' := t) (ch := []) un hok bare (fun b z => absurd z (by simp)), r, q⟩
end
def BD7 (sp : Sp) (dvs : List V) (E : XK) (t : TA) : TE := fun σ H Q => t σ H fun vs H1 => sp (vs ++ dvs) H1 Q E
def Binds (K : PySem.W.Frag) (fd : FuncData) (ps : List Str) (ds : List Value) : Prop :=
  ∀ (s : Shared) (us : List Value), K.In s.heap → (us ++ ds).length = ps.length → BindsTo s fd ⟨us, []⟩ (ps.zip (us ++ ds))
theorem Binds.all {K : PySem.W.Frag} {fd : FuncData} {ps : List Str} (h : ∀ us : List Value, us.length = ps.length → bindArgs fd ⟨us, []⟩ = pure (ps.zip us)) : Binds K fd ps [] := fun s us _ hl => by
  rw [List.append_nil] at hl ⊢
  exact .of_eq (h us hl)
def PR (CX : CXT) (X : Cx) (E : XK) : Prop := ∀ (pins : List (Addr × Obj)) (σ : St) (H : Hp) (s : Shared) (e : Value) (s' : Shared), Inv X pins σ H s → CX X.stack H s E e s' → X.xe e s'
section
variable {X : Cx} {CX : CXT} {k : Nat} {f C : Addr} {fd : FuncData} {ps : List Str} {sp : Sp} {dvs : List V} {ds : List Value} {E : XK} {x m : Str} {p pos apos : Pos} {e o : Expr} {es : List Expr} {ta : TE} {t : TA}
theorem AW5 {pins : List (Addr × Obj)} {σ : St} {H : Hp} {s : Shared} {Q : VK} {us : List Value} {vs : List V} (F : G4 X.prog X.w X.K X.mg X.base CX k f fd ps sp) (hr : Room k X.A) (hb : Binds X.K fd ps ds) (hd : Vals dvs ds) (hx : PR CX X E)
    (I : Inv X pins σ H s) (r : Vals vs us) (h : sp (vs ++ dvs) H Q E) : wpAny (model X.prog X.w) X.A (call (.ref f) us) (EP X pins σ Q) X.xe s := by
  have r2 : Vals (vs ++ dvs) (us ++ ds) := r.append hd
  have hl : (us ++ ds).length = ps.length := by rw [← r2.length]; exact F.len _ _ _ _ h
  refine wpAny_call (codeAny_mono (F.run X.A X.stack s H ⟨us, []⟩ (us ++ ds) (vs ++ dvs) Q E hr I.env0 (hb s us I.kIn hl) r2 h) fun r s' hq => ?_)
  cases r with
  | error e => exact hx pins σ H s e s' I hq
  | ok fl =>
    cases fl with
    | ret u => exact I.after hq
    | next => exact False.elim hq
    | brk => exact False.elim hq
    | cont => exact False.elim hq
theorem AJ8 (F : G4 X.prog X.w X.K X.mg X.base CX k f fd ps sp) (hr : Room k X.A) (hg : Gl X x) (hm : X.mg x = some (.ref f)) (hk : PySem.W.keepIn X.K (.ref f) = true) (hb : Binds X.K fd ps ds) (hd : Vals dvs ds) (hx : PR CX X E)
    (ha : PA X (e :: es) t) (hdb : (x == ("__debug__" : Str)) = false := by decide) (he : starEach (e :: es) X.env = (false, eval e X.env) :: starEach es X.env := by rfl) (hpl : (backTo pos (starEach es X.env)).any (·.1) = false := by rfl) :
    PE X (.Call (.Name x p) (e :: es) [] pos) (BD7 sp dvs E t) := by
  intro pins s σ H Q I h
  refine wpAny_Call_Name_kw (RS I hg hm ?_ hdb)
  refine PySem.W.callWith_K (h₀ := X.base) I.ok.mod.kin hk (thn (ha pos pins s σ H _ I h) fun us s1 ⟨vs, H1, I1, r, q⟩ => ⟨I1.kIn, ?_⟩) he hpl
  exact AW5 F hr hb hd hx I1 r q
end
section
variable {X : Cx} {CX : CXT} {k : Nat} {f C : Addr} {fd : FuncData} {ps ks : List Str} {sp : Sp} {E : XK} {x m : Str} {p pos apos kpos : Pos} {e o : Expr} {es : List Expr} {kws : List Keyword} {te ta : TE} {t tk : TA} {nm : Option Str}
variable {g : List Value → List Value → List Value} {gV : List V → List V → List V}
end
structure C8 (N P : List Str) (sc : Scope) : Prop where
  kind : sc.kind = .function
  co : sc.isCoroutine = false
  gen : sc.isGenerator = false
  nd : N.Nodup
  pre : N.take P.length = P
  par : ∀ x ∈ P, sc.names.lookup x = some .local ∨ sc.names.lookup x = some .cell
  nofree : ∀ y ∈ sc.names, y.2 ≠ .free
theorem HR {kindOf : Str → Option NameKind} {x : Str} : ∀ {binds : List (Str × Value)} {m : Str → Option Value}, (∀ v, (x, v) ∉ binds) → bindL kindOf binds m x = m x
  | [], _, _ => rfl
  | (n, v) :: r, m, h => by
    unfold bindL
    rw [HR fun w hw => h w (List.mem_cons_of_mem _ hw)]
    split
    · have : x ≠ n := by rintro rfl; exact h v List.mem_cons_self
      simp [this]
    · rfl
theorem JA {kindOf : Str → Option NameKind} {x : Str} : ∀ {binds : List (Str × Value)} {m : Str → Option Value}, (∀ v, (x, v) ∉ binds) → bindC kindOf binds m x = m x
  | [], _, _ => rfl
  | (n, v) :: r, m, h => by
    unfold bindC
    rw [JA fun w hw => h w (List.mem_cons_of_mem _ hw)]
    split
    · rfl
    · have : x ≠ n := by rintro rfl; exact h v List.mem_cons_self
      simp [this]
theorem IC {kindOf : Str → Option NameKind} {x : Str} {v : Value} : ∀ {P : List Str} {vs : List Value} {i : Nat} {m : Str → Option Value}, P.Nodup → P[i]? = some x → vs[i]? = some v → kindOf x = some .local →
    bindL kindOf (P.zip vs) m x = some v
  | [], _, _, _, _, h, _, _ => by simp at h
  | _ :: _, [], _, _, _, _, h, _ => by simp at h
  | p :: P, w :: vs, 0, m, nd, h1, h2, hk => by
    simp at h1 h2; subst h1; subst h2
    show bindL kindOf ((p, w) :: P.zip vs) m p = _
    unfold bindL
    rw [HR fun v hv => (List.nodup_cons.mp nd).1 (List.of_mem_zip hv).1, if_pos hk]
    simp
  | p :: P, w :: vs, i + 1, m, nd, h1, h2, hk => by
    show bindL kindOf ((p, w) :: P.zip vs) m x = _
    unfold bindL
    exact IC (i := i) (List.nodup_cons.mp nd).2 (by simpa using h1) (by simpa using h2) hk
theorem HW {kindOf : Str → Option NameKind} {x : Str} {v : Value} : ∀ {P : List Str} {vs : List Value} {i : Nat} {m : Str → Option Value}, P.Nodup → P[i]? = some x → vs[i]? = some v → kindOf x ≠ some .local →
    bindC kindOf (P.zip vs) m x = some v
  | [], _, _, _, _, h, _, _ => by simp at h
  | _ :: _, [], _, _, _, _, h, _ => by simp at h
  | p :: P, w :: vs, 0, m, nd, h1, h2, hk => by
    simp at h1 h2; subst h1; subst h2
    show bindC kindOf ((p, w) :: P.zip vs) m p = _
    unfold bindC
    rw [JA fun v hv => (List.nodup_cons.mp nd).1 (List.of_mem_zip hv).1, if_neg hk]
    simp
  | p :: P, w :: vs, i + 1, m, nd, h1, h2, hk => by
    show bindC kindOf ((p, w) :: P.zip vs) m x = _
    unfold bindC
    exact HW (i := i) (List.nodup_cons.mp nd).2 (by simpa using h1) (by simpa using h2) hk
def start (N : List Str) (vs : List V) : St := vs.map some ++ List.replicate (N.length - vs.length) none
def J6 (CX : CXT) (P : Program) (w : World) (K : PySem.W.Frag) (mg : Str → Option Value) (base : Heap) (N : List Str) (qual : Str) (scope : Scope) (f : Addr) (cd : Value) (A : Around) (outer : List Env) (s : Shared) (H : Hp) (E : XK) : Cx where
  prog := P
  w := w
  K := K
  mg := mg
  base := base
  A := A.deeper (envOfC qual scope s.heap.objs.size f cd)
  N := N
  s₀ := s
  H₀ := H
  env := envOfC qual scope s.heap.objs.size f cd
  outer := outer
  stack := envOfC qual scope s.heap.objs.size f cd :: outer
  ex := []
  calm := true
  fn := fun _ => true
  pn := []
  xe := fun e s' => wpAny (model P w) (A.deeper (envOfC qual scope s.heap.objs.size f cd)) (leaving (envOfC qual scope s.heap.objs.size f cd) e) (fun _ s'' => CX outer H s E e s'') (fun e' s'' => CX outer H s E e' s'') s'
theorem NG {sc : Scope} {n : Nat} {x : Str} (h : sc.names.lookup x = some .cell) : ∃ c, (cellsFrom n sc.names []).lookup x = some c := by
  have q := PySem.W.cellsFrom_some sc.names n [] (.inl h)
  exact Option.isSome_iff_exists.mp q
theorem UW {CX : CXT} {P : Program} {w : World} {K : PySem.W.Frag} {mg : Str → Option Value} {base : Heap} {N ps : List Str} {qual : Str} {scope : Scope} {f : Addr} {cd : Value} {A : Around} {outer : List Env} {s s1 : Shared} {H : Hp} {E : XK} {us : List Value} {vs : List V}
    (S : C8 N ps scope) (hd : A.handled = none) (e0 : AJ0 P w K mg base A outer s H) (hl : vs.length = ps.length) (r : Vals vs us)
    (x : InCallC s s.heap.objs.size (bindL (envOfC qual scope s.heap.objs.size f cd).kindOf (ps.zip us) fun _ => none) (cellsFrom (s.heap.objs.size + 1) scope.names []) (bindC (envOfC qual scope s.heap.objs.size f cd).kindOf (ps.zip us) fun _ => none) s1) :
    Inv (J6 CX P w K mg base N qual scope f cd A outer s H E) [] (start N vs) H s1 := by
  have hpl : ps.length ≤ N.length := by have := congrArg List.length S.pre; rw [List.length_take] at this; lia
  obtain ⟨h1, tk, rfl, hk⟩ := x.done
  have noA : ∀ b : Addr, b ∉ (J6 CX P w K mg base N qual scope f cd A outer s H E).ex := fun b z => absurd (show b ∈ ([] : List Addr) from z) (by simp)
  refine ⟨⟨e0.mod, S.kind, rfl, rfl, Nat.le_refl _, fun y z c h1 h2 => ?_, fun y hy => ?_, fun y c _ h => ?_, fun _ => hd, Around.frames_deeper e0.frames, .inr ⟨rfl, rfl⟩, fun b z => absurd z (noA b), e0.bs, e0.bsz, fun b _ _ => noA b, fun b z => absurd z (noA b), e0.funs, e0.frf⟩,
    rfl, e0.bare, Un.kept hk, ⟨_, x.toInCall.ns, fun i y v h1 h2 h3 => ?_⟩, fun y c h => ⟨_, x.cell y c h⟩, e0.hok.fresh (Nat.le_refl _), fun y c h => ?_, fun p hp => absurd (show p ∈ ([] : List (Addr × Obj)) from hp) (by simp), e0.hok.kept hk, ?_⟩
  · exact name_of_addr x.apart (PySem.mem_of_lookup h1) (PySem.mem_of_lookup h2)
  · have hy : scope.names.lookup y = some .cell ∨ scope.names.lookup y = some .free := hy
    rcases hy with hy | hy
    · exact NG hy
    · exact absurd rfl (S.nofree _ (PySem.mem_of_lookup hy))
  · exact Nat.le_of_lt (x.above y c (PySem.mem_of_lookup h))
  · have hi : i < vs.length := by
      unfold start at h2
      by_cases hi : i < vs.length
      · exact hi
      · rw [List.getElem?_append_right (by simpa using hi)] at h2
        rw [List.getElem?_replicate] at h2
        split at h2 <;> cases h2
    have ha : vs[i]? = some v := by
      unfold start at h2
      rw [List.getElem?_append_left (by simpa using hi), List.getElem?_map] at h2
      cases e : vs[i]? with
      | none => rw [e] at h2; cases h2
      | some a => rw [e] at h2; cases h2; rfl
    obtain ⟨u, hu, rv⟩ := r.get ha
    have hp : ps[i]? = some y := by
      rw [← S.pre, List.getElem?_take_of_lt (by lia)]; exact h1
    have ndP : ps.Nodup := by rw [← S.pre]; exact S.nd.sublist (List.take_sublist _ _)
    refine ⟨u, rv, ?_⟩
    rcases S.par y (List.mem_of_getElem? hp) with k | k
    · exact .inl ⟨k, IC ndP hp hu k⟩
    · obtain ⟨c, e⟩ := NG (n := s.heap.objs.size + 1) k
      refine .inr ⟨.inl k, c, e, ?_⟩
      have q := x.cell y c e
      rw [HW ndP hp hu (by show scope.names.lookup y ≠ _; rw [k]; decide)] at q
      exact q
  · exact e0.hok.fresh (Nat.le_of_lt (x.above y c (PySem.mem_of_lookup h)))
  · unfold start
    show _ = N.length
    rw [List.length_append, List.length_map, List.length_replicate]
    lia
theorem AZ4 {CX : CXT} {P : Program} {w : World} {K : PySem.W.Frag} {mg : Str → Option Value} {base : Heap} {k : Nat} {f : Addr} {name qual : Str} {params : Arguments} {body : List Stmt} {scope : Scope} {dV kV doc pm cdv ct oc : Value} {an od : Option Addr}
    {osl : Array (Option Value)} {N ps : List Str} {sp : Sp} (lk : K.lookup f = some ⟨oc, od, .func (PySem.W.fnOf name qual params body scope dV kV doc pm an cdv ct), osl⟩) (hcd : PySem.W.codeIn K cdv qual = true) (S : C8 N ps scope)
    (len : ∀ vs H Q E, sp vs H Q E → vs.length = ps.length)
    (hbody : ∀ (A : Around) (outer : List Env) (s : Shared) (H : Hp) (vs : List V) (Q : VK) (E : XK), Room k (A.deeper (envOfC qual scope s.heap.objs.size f cdv)) → sp vs H Q E →
      ∃ t, PSs (J6 CX P w K mg base N qual scope f cdv A outer s H E) body t ∧ t { nx := fun _ H' => Q .non H', rt := Q } (start N vs) H) :
    G4 P w K mg base CX (k + 1) f (PySem.W.fnOf name qual params body scope dV kV doc pm an cdv ct) ps sp := by
  refine ⟨len, fun A outer s H args us vs Q E hr e0 hb r hsp => ?_⟩
  have hl := len _ _ _ _ hsp
  have KX : K.In s.heap := e0.mod.kin.keeps fun b o e => (e0.bs b o e).1
  have lim : s.heap.NoLimit := e0.mod.nolimit.keeps fun b o e => (e0.bs b o e).1
  have hkind : ∀ y ∈ ps.zip us, scope.names.lookup y.1 = some .local ∨ (scope.names.lookup y.1 = some .cell ∧ ((cellsFrom (s.heap.objs.size + 1) scope.names []).lookup y.1).isSome = true) := fun ⟨n, v⟩ hy => by
    rcases S.par n (List.of_mem_zip hy).1 with q | q
    · exact .inl q
    · exact .inr ⟨q, PySem.W.cellsFrom_some _ _ _ (.inl q)⟩
  refine codeAny_call_function hr.depth (KX _ _ lk) rfl S.co S.gen rfl (PySem.W.codeRec_of KX hcd) (hb _ _ _ _ ?_)
  refine wpAny_newFunctionEnv_cells S.kind hkind fun env he s1 x => ?_
  subst he
  refine ⟨lim.keeps x.toInCall.keep, codeAny_func ?_⟩
  obtain ⟨t, ht, hq⟩ := hbody A outer s H vs Q E (hr.deeper _) hsp
  have I : Inv (J6 CX P w K mg base N qual scope f cdv A outer s H E) [] (start N vs) H s1 := UW S hr.hd e0 hl r x
  refine wpAny_mono (ht [] s1 (start N vs) H _ I hq) (fun fl s' hs => ?_) fun e s' hs => hs
  have fin : ∀ {σ' : St} {H' : Hp} {v : V} {u : Value}, Inv (J6 CX P w K mg base N qual scope f cdv A outer s H E) [] σ' H' s' → RelV v u → Q v H' → CE outer P w H s Q u s' :=
    fun {σ' H' v u} J rv q => ⟨v, H', J.os, J.bare, J.base, J.hok, rv, q⟩
  cases fl with
  | ret u =>
    obtain ⟨v, σ', H', J, rv, q⟩ := hs
    exact fin J rv q
  | next =>
    obtain ⟨σ', H', J, q⟩ := hs
    exact fin (v := V.non) (u := Value.none) J rfl q
  | brk =>
    obtain ⟨_, _, _, q⟩ := hs
    exact False.elim q
  | cont =>
    obtain ⟨_, _, _, q⟩ := hs
    exact False.elim q
section
variable {X : Cx} {x : Str} {p pos : Pos} {e : Expr} {es : List Expr} {t : TA} {id T : String} {r : List V → Hp → VK → Prop}
end
end L2
namespace HT
open PySem PyProof.Rows
section
open PySem.SeqAt
open PySem.AutoSeq1 (wpAny_loadPart')
open PySem.MeetsSeq PySem.MeetsSeq2 PySem.MeetsSeq3
end
section
variable {prog : Program} {w : World} {A : Around} {E : Value → Shared → Prop} {s : Shared}
def sIx (n d : Nat) : Option Int → Nat
  | none => d
  | some v => if v < 0 then (v + (n : Int)).toNat else min v.toNat n
theorem AR5 (n d : Nat) (hd : d ≤ n) (o : Option Int) : sIx n d o ≤ n := by
  cases o with
  | none => exact hd
  | some v =>
    show (if v < 0 then (v + (n : Int)).toNat else min v.toNat n) ≤ n
    by_cases hv : v < 0
    · rw [if_pos hv]; lia
    · rw [if_neg hv]; exact Nat.min_le_right _ _
theorem SK (v : Int) (n d : Nat) : (if v < 0 then max (v + (n : Int)) 0 else min v (n : Int)) = ((sIx n d (some v) : Nat) : Int) := by
  show (if v < 0 then max (v + (n : Int)) 0 else min v (n : Int)) = (((if v < 0 then (v + (n : Int)).toNat else min v.toNat n) : Nat) : Int)
  by_cases hv : v < 0
  · simp only [if_pos hv]; lia
  · simp only [if_neg hv]; lia
theorem QI (lo hi : Option Int) (n : Nat) : Builtin.Slice.sliceAdjust lo hi 1 (n : Int) = (((sIx n 0 lo : Nat) : Int), ((sIx n n hi : Nat) : Int)) := by
  have h1 : ¬ ((1 : Int) < 0) := by lia
  unfold Builtin.Slice.sliceAdjust
  simp only [h1, if_false]
  refine Prod.ext ?_ ?_
  · cases lo with
    | none => rfl
    | some v => exact SK v n 0
  · cases hi with
    | none => rfl
    | some v => exact SK v n n
theorem OY (i j : Nat) : Builtin.Slice.slicePlaces (i : Int) (j : Int) 1 = j - i := by
  unfold Builtin.Slice.slicePlaces
  have h1 : (1 : Int) > 0 := by lia
  simp only [h1, if_true, Int.ediv_one]
  split <;> lia
theorem FG {v : Value} {o : Option Int} {Q : Option Int → Shared → Prop} (p : IsPart v o) (h : Q o s) : wpAny (model prog w) A (Builtin.Slice.slicePartIndex v) Q E s := by
  cases p with
  | none => exact slicePart_none h
  | int i t => exact slicePart_int h
theorem X3 {sl : Addr} {vl vu : Value} {lo hi : Option Int} {n : Nat} {Q : Int × Int × Nat → Shared → Prop} (hs : s.heap.IsSliceOf sl vl vu .none) (pl : IsPart vl lo) (pu : IsPart vu hi)
    (h : Q (((sIx n 0 lo : Nat) : Int), 1, sIx n n hi - sIx n 0 lo) s) : wpAny (model prog w) A (Builtin.Slice.sliceApplied (.ref sl) (pure (n : Int))) Q E s := by
  obtain ⟨os, hos, hcs, hds⟩ := id hs
  unfold Builtin.Slice.sliceApplied Builtin.Slice.sliceFields
  refine wpAny_bind (wpAny_bind (wpAny_field hos hds (x := vl) rfl (wpAny_bind (wpAny_field hos hds (x := vu) rfl (wpAny_bind (wpAny_field hos hds (x := .none) rfl (wpAny_pure ?_)))))))
  refine wpAny_bind (slicePart_none ?_)
  show wpAny _ _ (if ((1 : Int) == 0) = true then _ else _) _ _ s
  rw [if_neg (by decide)]
  refine wpAny_bind (FG pl (wpAny_bind (FG pu (wpAny_bind (wpAny_pure ?_)))))
  show wpAny _ _ (match Builtin.Slice.sliceAdjust lo hi 1 (n : Int) with | (lo, hi) => pure (lo, (1 : Int), Builtin.Slice.slicePlaces lo hi 1)) _ _ s
  rw [QI lo hi n]
  show wpAny _ _ (pure (((sIx n 0 lo : Nat) : Int), (1 : Int), Builtin.Slice.slicePlaces ((sIx n 0 lo : Nat) : Int) ((sIx n n hi : Nat) : Int) 1)) _ _ s
  rw [OY]
  exact wpAny_pure h
theorem WY (xs : Array Value) (i k : Nat) : ((List.range k).filterMap fun (m : Nat) => xs[((i : Int) + (m : Int) * 1).toNat]?).toArray = ((xs.toList.drop i).take k).toArray := by
  have e : (fun (m : Nat) => xs[((i : Int) + (m : Int) * 1).toNat]?) = fun m => xs[i + m]? := by
    funext m
    have : ((i : Int) + (m : Int) * 1).toNat = i + m := by lia
    rw [this]
  rw [e]
  have := pick_run xs i k
  rw [List.filterMap_map] at this
  have e2 : ((fun x => xs[x]?) ∘ fun x => i + x) = fun m => xs[i + m]? := rfl
  rw [e2] at this
  rw [this]
theorem CT {t sl : Addr} {items : Array Value} {vl vu : Value} {lo hi : Option Int} {Q : Value → Shared → Prop} (ht : IsTup s.heap t items) (hs : s.heap.IsSliceOf sl vl vu .none) (pl : IsPart vl lo) (pu : IsPart vu hi)
    (hw : ¬ (sIx items.size 0 lo = 0 ∧ sIx items.size items.size hi = items.size))
    (h : Q (.ref s.heap.objs.size) { s with heap := s.heap.push { cls := .type "tuple", data := .seq ((items.toList.drop (sIx items.size 0 lo)).take (sIx items.size items.size hi - sIx items.size 0 lo)).toArray } })
    (hsz : items.size ≤ sizeLine) : wpAny (model prog w) A (getItem (.ref t) (.ref sl)) Q E s := by
  have htake : sizeOk (.seq ((items.toList.drop (sIx items.size 0 lo)).take (sIx items.size items.size hi - sIx items.size 0 lo)).toArray) := by
    show ((items.toList.drop (sIx items.size 0 lo)).take (sIx items.size items.size hi - sIx items.size 0 lo)).toArray.size ≤ sizeLine
    rw [List.size_toArray, List.length_take, List.length_drop, Array.length_toList]
    lia
  have hj : sIx items.size items.size hi ≤ items.size := AR5 _ _ (Nat.le_refl _) hi
  obtain ⟨os, hos, hcs, hds⟩ := id hs
  have hTs : s.TypeIs (.ref sl) "slice" := ⟨os, hos, hcs⟩
  unfold getItem
  try with_reducible refine wpAny_holding ?_
  first | refine wpAny_bind (wpAny_pure ?_) | skip
  refine wpAny_bind (wpAny_sequenceKey ht.typeIs (by decide) ?_)
  refine wpAny_bind (wpAny_callSpecial?_slot (name := Str.ofString "__getitem__") ht.typeIs PyProof.Rows.slot_tuple_getitem
    (wpAny_call_entry PyProof.Rows.slot_tuple_getitem ht.typeIs entry_tuple_getitem ?_ (args_tuple_getitem _ _)))
  show wpAny _ _ (Builtin.Tuple.tupleItemsOf (.ref t) >>= _) _ _ s
  refine wpAny_bind (tupleItemsOf_ ht ?_)
  refine wpAny_bind (wpAny_typeOf hTs ?_)
  rw [if_pos (by decide)]
  refine wpAny_bind (X3 hs pl pu ?_)
  have hno : ¬ ((((sIx items.size 0 lo : Nat) : Int) == 0 && (1 : Int) == 1 && (sIx items.size items.size hi - sIx items.size 0 lo) == items.size) = true) := by
    intro q
    rw [Bool.and_eq_true, Bool.and_eq_true] at q
    have q1 : ((sIx items.size 0 lo : Nat) : Int) = 0 := eq_of_beq q.1.1
    have q2 : sIx items.size items.size hi - sIx items.size 0 lo = items.size := eq_of_beq q.2
    exact hw ⟨by lia, by lia⟩
  show wpAny _ _ (if (((sIx items.size 0 lo : Nat) : Int) == 0 && (1 : Int) == 1 && (sIx items.size items.size hi - sIx items.size 0 lo) == items.size) = true then _ else _) _ _ s
  rw [if_neg hno, WY]
  first
    | exact wpAny_bind (m := Builtin.Tuple.tupleExact _) (wpAny_newObj_type (wpAny_pure ⟨_, rfl, wpAny_pure h⟩) htake)
    | exact wpAny_bind (m := Builtin.Tuple.tupleExact _) (wpAny_newObj_type (wpAny_bind (wpAny_pure (wpAny_pure ⟨_, rfl, wpAny_pure h⟩))) htake)
    | exact wpAny_bind (wpAny_bind (m := Builtin.Tuple.tupleExact _) (wpAny_newObj_type (wpAny_pure (wpAny_pure ⟨_, rfl, wpAny_pure h⟩)) htake))
    | exact wpAny_bind (wpAny_bind (m := Builtin.Tuple.tupleExact _) (wpAny_newObj_type (wpAny_pure ⟨_, rfl, wpAny_pure h⟩) htake))
end
end HT
namespace L2
open PySem PySem.Spec PyProof.Rows
section
variable {X : Cx} {e : Expr} {te : TE} {lo hi : Option Expr} {tl th : TO} {pos p2 : Pos}
def SlR (X : Cx) (r : V → Option Int → Option Int → Hp → VK → Prop) : Prop :=
  ∀ (pins : List (Addr × Obj)) (s : Shared) (σ : St) (H : Hp) (x : V) (v vl vu : Value) (lo hi : Option Int) (sl : Addr) (Q : VK), Inv X pins σ H s → RelV x v → s.heap.IsSliceOf sl vl vu .none → IsPart vl lo → IsPart vu hi → r x lo hi H Q →
    ∃ T id, typeLookup (.type T) "__getitem__" = pure (some (.builtin id)) ∧ s.TypeIs v T ∧ wpAny (model X.prog X.w) X.A (getItem v (.ref sl)) (EP X pins σ Q) X.xe s
theorem SlR.or {r r' : V → Option Int → Option Int → Hp → VK → Prop} (h : SlR X r) (h' : SlR X r') : SlR X (fun x lo hi H Q => r x lo hi H Q ∨ r' x lo hi H Q) := by
  intro pins s σ H x v vl vu lo hi sl Q I rx hs pl pu q
  rcases q with q | q
  · exact h pins s σ H x v vl vu lo hi sl Q I rx hs pl pu q
  · exact h' pins s σ H x v vl vu lo hi sl Q I rx hs pl pu q
def NZ (xs : List V) (lo hi : Option Int) : List V := (xs.drop (HT.sIx xs.length 0 lo)).take (HT.sIx xs.length xs.length hi - HT.sIx xs.length 0 lo)
theorem DM (xs : List V) (lo hi : Option Int) : (NZ xs lo hi).length ≤ xs.length := by
  unfold NZ
  rw [List.length_take, List.length_drop]
  lia
def AS3 (K : PySem.W.Frag) : V → Option Int → Option Int → Hp → VK → Prop := fun x lo hi H Q => ∃ a xs, x = .ref a ∧ SqT K H a xs ∧
  ¬ (HT.sIx xs.length 0 lo = 0 ∧ HT.sIx xs.length xs.length hi = xs.length) ∧ ∀ p, H p = none → Q (.ref p) (upd H p (.tup (NZ xs lo hi)))
theorem WN : SlR X (AS3 X.K) := by
  intro pins s σ H x v vl vu lo hi sl Q I rx hs pl pu h
  obtain ⟨a, xs, rfl, hx, hw, q⟩ := h
  cases rx
  obtain ⟨its, r, ht, hz⟩ := I.tuple hx
  have hlen : its.toArray.size = xs.length := by rw [List.size_toArray]; exact r.length.symm
  refine ⟨"tuple", _, PyProof.Rows.slot_tuple_getitem.lookup, ht.typeIs, ?_⟩
  refine HT.CT ht hs pl pu (by rw [hlen]; exact hw) ?_ (by rw [hlen]; exact hz)
  rw [hlen]
  refine ⟨.ref s.heap.objs.size, _, I.laid (t' := s.toks) (o := .tup (NZ xs lo hi)) (fun b ob q => Heap.get?_push_of_some _ q) (Nat.le_refl _) ?_, rfl, q _ (I.hok.fresh (Nat.le_refl _))⟩
  exact ⟨Nat.le_trans (DM xs lo hi) hz, _, (r.drop (HT.sIx xs.length 0 lo)).take (HT.sIx xs.length xs.length hi - HT.sIx xs.length 0 lo), IsTup.new _ _⟩
end
def ixN (n : Nat) (i : Int) : Option Nat := if 0 ≤ i then (if i < n then some i.toNat else none) else if -(n : Int) ≤ i then some (i + n).toNat else none
def atI {α : Type} (xs : List α) (i : Int) : Option α := (ixN xs.length i).bind fun j => xs[j]?
theorem AH1 {n : Nat} {i : Int} {j : Nat} (h : ixN n i = some j) : seqIndex? i n = some j ∧ j < n ∧ -(n : Int) ≤ i ∧ i < n := by
  unfold ixN at h
  by_cases h0 : 0 ≤ i
  · rw [if_pos h0] at h
    by_cases h1 : i < n
    · rw [if_pos h1] at h
      have e : i.toNat = j := Option.some.inj h
      exact ⟨by rw [seqIndex_of h0 h1, e], by lia, by lia, h1⟩
    · rw [if_neg h1] at h; cases h
  · rw [if_neg h0] at h
    by_cases h1 : -(n : Int) ≤ i
    · rw [if_pos h1] at h
      have e : (i + n).toNat = j := Option.some.inj h
      exact ⟨by rw [seqIndex_neg (by lia) h1, e], by lia, h1, by lia⟩
    · rw [if_neg h1] at h; cases h
theorem JY {α : Type} {xs : List α} {i : Int} {v : α} (h : atI xs i = some v) : ∃ j, seqIndex? i xs.length = some j ∧ xs[j]? = some v ∧ j < xs.length ∧ -(xs.length : Int) ≤ i ∧ i < xs.length := by
  unfold atI at h
  cases e : ixN xs.length i with
  | none => rw [e] at h; cases h
  | some j =>
    rw [e] at h
    obtain ⟨h1, h2, h3, h4⟩ := AH1 e
    exact ⟨j, h1, h, h2, h3, h4⟩
theorem E9 {α : Type} {xs : List α} {j : Nat} {v : α} (h : xs[j]? = some v) : atI xs (j : Int) = some v := by
  have hj : j < xs.length := (List.getElem?_eq_some_iff.mp h).1
  have e : ixN xs.length (j : Int) = some j := by
    unfold ixN
    rw [if_pos (by lia), if_pos (by lia)]; simp
  unfold atI; rw [e]; exact h
def AF2 (b : Expr) : Prop := ∀ o i, subscripted b false o i = operate [o, i] (getItem o i)
def IxR (X : Cx) (r : R2) : Prop :=
  ∀ (value slice : Expr) (pins : List (Addr × Obj)) (s : Shared) (σ : St) (H : Hp) (x y : V) (v u : Value) (Q : VK), Inv X pins σ H s → RelV x v → RelV y u → r x y H Q →
    subscripted slice false v u = operate [v, u] (getItem v u) → wpAny (model X.prog X.w) X.A (subscriptTail value slice v u) (EP X pins σ Q) X.xe s
section
variable {X : Cx} {a b : Expr} {ta tb : TE} {pos : Pos}
theorem IxR.or {r r' : R2} (h : IxR X r) (h' : IxR X r') : IxR X (fun x y H Q => r x y H Q ∨ r' x y H Q) := by
  intro value slice pins s σ H x y v u Q I rx ry q hs
  rcases q with q | q
  · exact h value slice pins s σ H x y v u Q I rx ry q hs
  · exact h' value slice pins s σ H x y v u Q I rx ry q hs
def BA9 (K : PySem.W.Frag) : R2 := fun x y H Q => ∃ p xs i v, x = .ref p ∧ y = .int i ∧ SqL K H p xs ∧ atI xs i = some v ∧ Q v H
def AZ3 (K : PySem.W.Frag) : R2 := fun x y H Q => ∃ p xs i v, x = .ref p ∧ y = .int i ∧ SqT K H p xs ∧ atI xs i = some v ∧ Q v H
def BA2 : R2 := fun x y H Q => ∃ z i c, x = .str z ∧ y = .int i ∧ z.length ≤ sizeLine ∧ atI z.cps.toList i = some c ∧ Q (.str ⟨#[c]⟩) H
theorem ix_list : IxR X (BA9 X.K) := by
  intro value slice pins s σ H x y v u Q I rx ry h hs
  obtain ⟨p, xs, i, z, rfl, rfl, hq, he, q⟩ := h
  cases rx
  obtain ⟨t, rfl⟩ := ry
  obtain ⟨its, r, pl, hz⟩ := I.list hq
  obtain ⟨j, h1, h2, h3, h4, h5⟩ := JY he
  obtain ⟨w, ew, rw'⟩ := r.get h2
  have hl := r.length
  have hn := FD
  have fin : EP X pins σ Q w s := ⟨z, H, I, rw', q⟩
  by_cases h0 : 0 ≤ i
  · have hj : i.toNat = j := by
      rw [seqIndex_of h0 h5] at h1
      exact Option.some.inj h1
    exact item_listR pl.isList h0 (by lia) (by rw [hj]; simpa using ew) fin hs
  · have hj : (i + (its.toArray.size : Int)).toNat = j := by
      rw [seqIndex_neg (by lia) h4] at h1
      rw [List.size_toArray, ← hl]
      exact Option.some.inj h1
    exact subscriptTail_builtinR (x := w) pl.isList.typeIs slot_list_getitem.lookup
      (wpAny_getItem_list_neg (Q := fun r s' => r = w ∧ EP X pins σ Q r s') pl.isList (by lia) (by rw [List.size_toArray] <;> lia) (by lia) (by rw [hj]; simpa using ew) ⟨rfl, fin⟩) hs
theorem ix_tup : IxR X (AZ3 X.K) := by
  intro value slice pins s σ H x y v u Q I rx ry h hs
  obtain ⟨p, xs, i, z, rfl, rfl, hq, he, q⟩ := h
  cases rx
  obtain ⟨t, rfl⟩ := ry
  obtain ⟨its, r, pl, hz⟩ := I.tuple hq
  obtain ⟨j, h1, h2, h3, h4, h5⟩ := JY he
  obtain ⟨w, ew, rw'⟩ := r.get h2
  have hl := r.length
  have hn := FD
  have fin : EP X pins σ Q w s := ⟨z, H, I, rw', q⟩
  exact subscriptTail_builtinR (x := w) pl.typeIs slot_tuple_getitem.lookup
    (getItem_tuple (j := j) (Q := fun r s' => r = w ∧ EP X pins σ Q r s') pl (by lia) (by lia) (by rw [List.size_toArray, ← hl]; exact h1) (by simpa using ew) ⟨rfl, fin⟩) hs
theorem AT6 : IxR X BA2 := by
  intro value slice pins s σ H x y v u Q I rx ry h hs
  obtain ⟨z, i, c, rfl, rfl, hz, he, q⟩ := h
  obtain ⟨t, rfl⟩ := rx
  obtain ⟨t', rfl⟩ := ry
  obtain ⟨j, h1, h2, h3, h4, h5⟩ := JY he
  have hl : z.cps.toList.length = z.length := by simp [Str.length]
  rw [hl] at h1 h4 h5
  have hn := FD
  exact tail_any (typeIs_str s z t) slot_str_getitem.lookup (getItem_str (c := c) (by
    have e1 : decide (i < -(2 ^ 63 : Int)) = false := decide_eq_false (by lia)
    have e2 : decide (i ≥ 2 ^ 63) = false := decide_eq_false (by lia)
    rw [e1, e2, Bool.or_false]) (by rw [h1]; simpa using h2) ⟨.str ⟨#[c]⟩, H, I.tok _, ⟨_, rfl⟩, q⟩) hs
def rIx (K : PySem.W.Frag) : R2 := fun x y H Q => BA9 K x y H Q ∨ AZ3 K x y H Q ∨ BA2 x y H Q
theorem AV0 : IxR X (rIx X.K) := ix_list.or (ix_tup.or AT6)
theorem JM (lo hi : Option Int) (n : Nat) : (sliceBounds lo hi none n).1 = ((HT.sIx n 0 lo : Nat) : Int) ∧ (sliceBounds lo hi none n).2.1 = ((HT.sIx n n hi : Nat) : Int) ∧ (sliceBounds lo hi none n).2.2 = 1 := by
  refine ⟨?_, ?_, rfl⟩
  · cases lo with
    | none => simp [sliceBounds, HT.sIx]
    | some i =>
      simp only [sliceBounds, HT.sIx, Option.getD_none, show (1 : Int) > 0 by decide, if_true]
      by_cases h : i < 0
      · simp only [h, if_true] <;> lia
      · simp only [h, if_false] <;> lia
  · cases hi with
    | none => simp [sliceBounds, HT.sIx]
    | some i =>
      simp only [sliceBounds, HT.sIx, Option.getD_none, show (1 : Int) > 0 by decide, if_true]
      by_cases h : i < 0
      · simp only [h, if_true] <;> lia
      · simp only [h, if_false] <;> lia
theorem HA (its : List Value) (lo hi : Option Int) : slicePick its.toArray lo hi none = ((its.drop (HT.sIx its.length 0 lo)).take (HT.sIx its.length its.length hi - HT.sIx its.length 0 lo)).toArray := by
  obtain ⟨h1, h2, h3⟩ := JM lo hi its.toArray.size
  unfold slicePick
  rw [h1, h2, h3]
  simp only [sliceRange_one, pick_run, List.size_toArray] <;> rfl
def AT5 (K : PySem.W.Frag) : V → Option Int → Option Int → Hp → VK → Prop := fun x lo hi H Q => ∃ a xs, x = .ref a ∧ SqL K H a xs ∧ ∀ p, H p = none → Q (.ref p) (upd H p (.lst (NZ xs lo hi)))
theorem sl_list : SlR X (AT5 X.K) := by
  intro pins s σ H x v vl vu lo hi sl Q I rx hs pl pu h
  obtain ⟨a, xs, rfl, hx, q⟩ := h
  cases rx
  obtain ⟨its, r, ht, hz⟩ := I.list hx
  have hlen := r.length
  refine ⟨"list", _, slot_list_getitem.lookup, ht.isList.typeIs, ?_⟩
  refine wpAny_getItem_list_slice ht.isList hs pl pu .none (by simp) ?_ (by rw [List.size_toArray] <;> lia)
  rw [HA, ← hlen]
  refine ⟨.ref s.heap.objs.size, _, I.laid (t' := s.toks) (o := .lst (NZ xs lo hi)) (fun b ob q => Heap.get?_push_of_some _ q) (Nat.le_refl _) ?_, rfl, q _ (I.hok.fresh (Nat.le_refl _))⟩
  exact ⟨Nat.le_trans (DM xs lo hi) hz, _, 0, (r.drop (HT.sIx xs.length 0 lo)).take (HT.sIx xs.length xs.length hi - HT.sIx xs.length 0 lo), Heap.get?_push_size _ rfl⟩
def CO : V → Bool
  | .non => true
  | .bl _ => true
  | .int _ => true
  | .str _ => true
  | _ => false
def eqV : V → V → Bool
  | .non, .non => true
  | .bl a, .bl b => a == b
  | .bl a, .int b => (if a then 1 else 0) == b
  | .int a, .bl b => a == (if b then 1 else 0)
  | .int a, .int b => a == b
  | .str a, .str b => a == b
  | _, _ => false
theorem AR1 {A : Around} {s : Shared} {y x : V} {u v : Value} (ry : RelV y u) (rx : RelV x v) (fy : CO y = true) (fx : CO x = true) : SeqAt.EqAt A s u v (eqV y x) := by
  cases y with
  | non =>
    cases ry
    cases x with
    | non => cases rx; exact SeqAt.EqAt.same _
    | bl b => cases rx; exact SeqAt.EqAt.none_bool b
    | int b => obtain ⟨t, rfl⟩ := rx; exact SeqAt.EqAt.none_int b t
    | str b => obtain ⟨t, rfl⟩ := rx; exact SeqAt.EqAt.none_str b t
    | _ => exact absurd (show false = true from fx) Bool.false_ne_true
  | bl a =>
    cases ry
    cases x with
    | non => cases rx; exact SeqAt.EqAt.bool_none a
    | bl b => cases rx; exact SeqAt.EqAt.bool_bool a b
    | int b => obtain ⟨t, rfl⟩ := rx; exact SeqAt.EqAt.bool_int a b t
    | str b => obtain ⟨t, rfl⟩ := rx; exact SeqAt.EqAt.bool_str a b t
    | _ => exact absurd (show false = true from fx) Bool.false_ne_true
  | int a =>
    obtain ⟨t', rfl⟩ := ry
    cases x with
    | non => cases rx; exact SeqAt.EqAt.int_none a t'
    | bl b => cases rx; exact SeqAt.EqAt.int_bool a t' b
    | int b => obtain ⟨t, rfl⟩ := rx; exact SeqAt.EqAt.int_int a t' b t
    | str b => obtain ⟨t, rfl⟩ := rx; exact SeqAt.EqAt.int_str a t' b t
    | _ => exact absurd (show false = true from fx) Bool.false_ne_true
  | str a =>
    obtain ⟨t', rfl⟩ := ry
    cases x with
    | non => cases rx; exact SeqAt.EqAt.str_none a t'
    | bl b => cases rx; exact SeqAt.EqAt.str_bool a t' b
    | int b => obtain ⟨t, rfl⟩ := rx; exact SeqAt.EqAt.str_int a t' b t
    | str b => obtain ⟨t, rfl⟩ := rx; exact SeqAt.EqAt.str_str a t' b t
    | _ => exact absurd (show false = true from fx) Bool.false_ne_true
  | _ => exact absurd (show false = true from fy) Bool.false_ne_true
def eqU (x : V) (u : Value) : Bool := match u with
  | .none => eqV .non x
  | .bool b => eqV (.bl b) x
  | .int i _ => eqV (.int i) x
  | .str z _ => eqV (.str z) x
  | _ => false
theorem AC9 {x y : V} {u : Value} (r : RelV y u) (f : CO y = true) : eqU x u = eqV y x := by
  cases y with
  | non => cases r; rfl
  | bl b => cases r; rfl
  | int i => obtain ⟨t, rfl⟩ := r; rfl
  | str z => obtain ⟨t, rfl⟩ := r; rfl
  | _ => exact absurd (show false = true from f) Bool.false_ne_true
theorem BS {x : V} : ∀ {xs : List V} {us : List Value}, Vals xs us → xs.all CO = true → us.any (eqU x) = xs.any fun y => eqV y x
  | _, _, .nil, _ => rfl
  | y :: xs, u :: us, .cons r t, f => by
    rw [List.all_cons, Bool.and_eq_true] at f
    rw [List.any_cons, List.any_cons, AC9 r f.1, BS t f.2]
theorem AH {A : Around} {s : Shared} {x : V} {v : Value} (rx : RelV x v) (fx : CO x = true) : ∀ {xs : List V} {us : List Value}, Vals xs us → xs.all CO = true → ∀ u ∈ us, SeqAt.EqAt A s u v (eqU x u)
  | _, _, .nil, _ => fun u hu => by cases hu
  | y :: xs, u :: us, .cons r t, f => fun u' hu => by
    rw [List.all_cons, Bool.and_eq_true] at f
    rcases List.mem_cons.mp hu with rfl | hu
    · rw [AC9 r f.1]; exact AR1 r rx f.1 fx
    · exact AH rx fx t f.2 u' hu
def inV (x : V) (xs : List V) : Bool := xs.any fun y => eqV y x
def rIn (K : PySem.W.Frag) (neg : Bool) : R2 := fun x y H Q => ∃ p xs, y = .ref p ∧ (SqL K H p xs ∨ SqT K H p xs) ∧ CO x = true ∧ xs.all CO = true ∧ Q (.bl (if neg then !inV x xs else inV x xs)) H
theorem UE : OpR X (compareOp .In) (rIn X.K false) := by
  intro pins s σ H x y v u Q I rx ry h
  obtain ⟨p, xs, rfl, hq, fx, fs, q⟩ := h
  cases ry
  rcases hq with hq | hq
  · obtain ⟨its, r, pl, hz⟩ := I.list hq
    refine SeqAt.in_listAt (eqU x) pl.isList (fun w hw => AH rx fx r fs w (by simpa using hw)) ⟨.bl _, H, I, rfl, ?_⟩
    rw [show its.toArray.any (eqU x) = its.any (eqU x) by simp, BS r fs]
    exact q
  · obtain ⟨its, r, pl, hz⟩ := I.tuple hq
    refine SeqAt.in_tupleAt (eqU x) pl (fun w hw => AH rx fx r fs w (by simpa using hw)) ⟨.bl _, H, I, rfl, ?_⟩
    rw [show its.toArray.any (eqU x) = its.any (eqU x) by simp, BS r fs]
    exact q
theorem KL : OpR X (compareOp .NotIn) (rIn X.K true) := by
  intro pins s σ H x y v u Q I rx ry h
  obtain ⟨p, xs, rfl, hq, fx, fs, q⟩ := h
  cases ry
  rcases hq with hq | hq
  · obtain ⟨its, r, pl, hz⟩ := I.list hq
    refine SeqAt.notIn_listAt (eqU x) pl.isList (fun w hw => AH rx fx r fs w (by simpa using hw)) ⟨.bl _, H, I, rfl, ?_⟩
    rw [show its.toArray.any (eqU x) = its.any (eqU x) by simp, BS r fs]
    exact q
  · obtain ⟨its, r, pl, hz⟩ := I.tuple hq
    refine SeqAt.notIn_tupleAt (eqU x) pl (fun w hw => AH rx fx r fs w (by simpa using hw)) ⟨.bl _, H, I, rfl, ?_⟩
    rw [show its.toArray.any (eqU x) = its.any (eqU x) by simp, BS r fs]
    exact q
theorem call_len_seq : CallR X (.builtin "len") (fun xs H Q => ∃ p ys, xs = [.ref p] ∧ (SqL X.K H p ys ∨ SqT X.K H p ys) ∧ Q (.int ys.length) H) := by
  intro pins s σ H xs us Q I r h
  obtain ⟨p, ys, rfl, hq, q⟩ := h
  obtain ⟨u, rfl, rx⟩ := vals1 r
  cases rx
  have hn := FD
  rcases hq with hq | hq
  · obtain ⟨its, r', pl, hz⟩ := I.list hq
    have hlen := r'.length
    exact Calls.call_len_list pl.isList (by simp only [List.size_toArray] <;> lia) ⟨.int ys.length, H, I.tok _, ⟨s.toks + 1, by rw [List.size_toArray, hlen]⟩, q⟩
  · obtain ⟨its, r', pl, hz⟩ := I.tuple hq
    have hlen := r'.length
    exact len_tuple pl (by simp only [List.size_toArray] <;> lia) ⟨.int ys.length, H, I.tok _, ⟨s.toks + 1, by rw [List.size_toArray, hlen]⟩, q⟩
theorem LM : CallR X (.builtin "len") (fun xs H Q => ∃ z, xs = [.str z] ∧ z.length ≤ sizeLine ∧ Q (.int z.length) H) := by
  intro pins s σ H xs us Q I r h
  obtain ⟨z, rfl, hz, q⟩ := h
  obtain ⟨u, rfl, t, rfl⟩ := vals1 r
  have hn := FD
  exact len_str (by lia) ⟨.int z.length, H, I.tok _, ⟨_, rfl⟩, q⟩
theorem CallR.or {f : Value} {r r' : List V → Hp → VK → Prop} (h : CallR X f r) (h' : CallR X f r') : CallR X f (fun xs H Q => r xs H Q ∨ r' xs H Q) := by
  intro pins s σ H xs us Q I rs q
  rcases q with q | q
  · exact h pins s σ H xs us Q I rs q
  · exact h' pins s σ H xs us Q I rs q
theorem CM : CallR X (.type "list") (fun xs H Q => ∃ p ys, xs = [.ref p] ∧ (SqL X.K H p ys ∨ SqT X.K H p ys) ∧ ∀ l, H l = none → Q (.ref l) (upd H l (.lst ys))) := by
  intro pins s σ H xs us Q I r h
  obtain ⟨p, ys, rfl, hq, q⟩ := h
  obtain ⟨u, rfl, rx⟩ := vals1 r
  cases rx
  have fin : ∀ (its : List Value), Vals ys its → ys.length ≤ sizeLine → ∀ (h' : Heap) (c' : Nat), (∀ b o', s.heap.get? b = some o' → h'.get? b = some o') →
      h'.get? s.heap.objs.size = some { cls := .type "list", dict := none, data := .seq its.toArray c', slots := #[] } → EP X pins σ Q (.ref s.heap.objs.size) { s with heap := h' } := fun its r' hz h' c' kp e =>
    ⟨.ref s.heap.objs.size, _, I.laid (t' := s.toks) kp (Nat.le_refl _) (show ObjOk X.prog X.w _ h' _ (.lst ys) from ⟨hz, its, c', r', e⟩), rfl, q _ (I.hok.fresh (Nat.le_refl _))⟩
  rcases hq with hq | hq
  · obtain ⟨its, r', pl, hz⟩ := I.list hq
    have hlen := r'.length
    obtain ⟨o, ho, hc, n, hd⟩ := pl.isList
    exact call_list_seq p (.inl rfl) ho hc hd (fun h' c' kp e => fin its r' hz h' c' kp e) (by simp only [List.size_toArray] <;> lia)
  · obtain ⟨its, r', pl, hz⟩ := I.tuple hq
    have hlen := r'.length
    obtain ⟨o, ho, hc, n, hd⟩ := pl
    exact call_list_seq p (.inr rfl) ho hc hd (fun h' c' kp e => fin its r' hz h' c' kp e) (by simp only [List.size_toArray] <;> lia)
theorem HJ : CallR X (.type "tuple") (fun xs H Q => ∃ p ys, xs = [.ref p] ∧ ((SqL X.K H p ys ∧ ∀ l, H l = none → Q (.ref l) (upd H l (.tup ys))) ∨ (SqT X.K H p ys ∧ Q (.ref p) H))) := by
  intro pins s σ H xs us Q I r h
  obtain ⟨p, ys, rfl, h⟩ := h
  obtain ⟨u, rfl, rx⟩ := vals1 r
  cases rx
  rcases h with ⟨hq, q⟩ | ⟨hq, q⟩
  · obtain ⟨its, r', pl, hz⟩ := I.list hq
    have hlen := r'.length
    refine call_tuple_list pl.isList (fun h' kp => ?_) (by simp only [List.size_toArray] <;> lia)
    have I1 : Inv X pins σ H { s with heap := h' } := I.kept (t' := s.toks) kp
    have I2 : Inv X pins σ (upd H h'.objs.size (.tup ys)) { s with heap := h'.push { cls := .type "tuple", data := .seq its.toArray } } :=
      I1.laid (t' := s.toks) (fun b o e => Heap.get?_push_of_some _ e) (Nat.le_refl _) (show ObjOk X.prog X.w _ _ _ (.tup ys) from ⟨hz, its, r', IsTup.new _ _⟩)
    exact ⟨.ref h'.objs.size, _, I2, rfl, q _ (I1.hok.fresh (Nat.le_refl _))⟩
  · obtain ⟨its, r', pl, hz⟩ := I.tuple hq
    exact call_tuple_same pl ⟨.ref p, H, I, rfl, q⟩
def tyV (K : PySem.W.Frag) (T : String) (x : V) (H : Hp) : Prop := match x with
  | .str _ => T = "str"
  | .int _ => T = "int"
  | .ref p => (T = "list" ∧ ∃ xs, SqL K H p xs) ∨ (T = "tuple" ∧ ∃ o, K.lookup p = some o ∧ o.cls = .type "tuple" ∧ o.dict = none) ∨
      (T = "dict" ∧ ((∃ kvs, H p = some (.dK kvs)) ∨ ∃ kvs, H p = some (.dT kvs))) ∨ (T = "set" ∧ ∃ S n, H p = some (.set S n))
  | _ => False
theorem AV9 {pins : List (Addr × Obj)} {σ : St} {H : Hp} {s : Shared} {T : String} {x : V} {v : Value} (I : Inv X pins σ H s) (r : RelV x v) (ty : tyV X.K T x H) :
    s.TypeIs v T ∧ ∀ a, v = .ref a → ∃ ob, s.heap.get? a = some ob ∧ ob.dict = none := by
  cases x with
  | str z =>
    obtain ⟨t, rfl⟩ := r
    cases (show T = "str" from ty)
    exact ⟨typeIs_str s z t, fun _ e => nomatch e⟩
  | int i =>
    obtain ⟨t, rfl⟩ := r
    cases (show T = "int" from ty)
    exact ⟨typeIs_int s i t, fun _ e => nomatch e⟩
  | ref p =>
    cases r
    rcases ty with ⟨rfl, xs, hq⟩ | ⟨rfl, o, hk, hc, hd⟩ | ⟨rfl, hk⟩ | ⟨rfl, S, n, hk⟩
    · obtain ⟨its, _, pl, _⟩ := I.list hq
      refine ⟨pl.isList.typeIs, fun a e => ?_⟩
      cases e
      obtain ⟨o, n, e, c, hd, _⟩ := pl
      exact ⟨o, e, hd⟩
    · refine ⟨⟨o, I.kIn p o hk, hc⟩, fun a e => ?_⟩
      cases e
      exact ⟨o, I.kIn _ o hk, hd⟩
    · have z : ∃ o, s.heap.get? p = some o ∧ o.ExactDict := by
        rcases hk with ⟨kvs, hk⟩ | ⟨kvs, hk⟩
        · obtain ⟨_, _, _, _, o, _, _, e, ex, _⟩ := I.hok p _ hk
          exact ⟨o, e, ex⟩
        · obtain ⟨_, _, _, _, o, _, _, e, ex, _⟩ := I.hok p _ hk
          exact ⟨o, e, ex⟩
      obtain ⟨o, e, ex⟩ := z
      refine ⟨⟨o, e, ex.1⟩, fun a e2 => ?_⟩
      cases e2
      exact ⟨o, e, ex.2.1⟩
    · obtain ⟨o, _, _, _, e, ex, _⟩ := I.hok p _ hk
      refine ⟨⟨o, e, ex.1⟩, fun a e2 => ?_⟩
      cases e2
      exact ⟨o, e, ex.2.1⟩
  | _ => exact False.elim ty
variable {o e : Expr} {es : List Expr} {to : TE} {t : TA} {name : Str} {apos cpos : Pos} {T id : String} {r : V → List V → Hp → VK → Prop}
end
def MtM (X : Cx) (id : String) (r : V → List V → Hp → VK → Prop) : Prop :=
  ∀ (pins : List (Addr × Obj)) (s : Shared) (σ : St) (H : Hp) (x : V) (xs : List V) (v : Value) (us : List Value) (Q : VK), Inv X pins σ H s → RelV x v → Vals xs us → r x xs H Q →
    wpAny (model X.prog X.w) X.A (call (.builtin id) (v :: us)) (EP X pins σ Q) X.xe s
theorem Vals.one : ∀ {x : V} {us : List Value}, Vals [x] us → ∃ u, us = [u] ∧ RelV x u
  | _, _, .cons r .nil => ⟨_, rfl, r⟩
section
variable {X : Cx} {pins : List (Addr × Obj)} {σ : St} {H : Hp} {s : Shared} {l b : Addr} {xs ys zs : List V}
theorem Inv.lset {its its' : List Value} {n : Nat} {f : Array Value → Array Value} {t' : Nat} (I : Inv X pins σ H s) (hH : H l = some (.lst xs))
    (e : s.heap.get? l = some { cls := .type "list", data := .seq its.toArray n }) (hf : f its.toArray = its'.toArray) (hv : Vals ys its') (hz : ys.length ≤ sizeLine) :
    Inv X pins σ (upd H l (.lst ys)) { s with heap := s.heap.update l (Obj.mapSeq f), toks := t' } := by
  have q := PySem.IsL.update e f
  rw [hf] at q
  refine I.write (x := l) (e := l) (by rw [hH]; exact trivial) (.inl rfl) (fun b' u hb hu => (Heap.get?_update_other s.heap (Obj.mapSeq f) (Ne.symm hb)).trans hu) ⟨_, q⟩ ?_
  exact ⟨hz, its', _, hv, q⟩
theorem Inv.lnew {its : List Value} {t' : Nat} (I : Inv X pins σ H s) (hv : Vals ys its) (hz : ys.length ≤ sizeLine) :
    Inv X pins σ (upd H s.heap.objs.size (.lst ys)) { s with heap := s.heap.push { cls := .type "list", data := .seq its.toArray }, toks := t' } :=
  I.laid (fun _ _ q => Heap.get?_push_of_some _ q) (Nat.le_refl _) ⟨hz, its, 0, hv, Heap.get?_push_size _ rfl⟩
theorem Inv.fresh (I : Inv X pins σ H s) : H s.heap.objs.size = none := I.hok.fresh (Nat.le_refl _)
theorem Inv.lstM (I : Inv X pins σ H s) (hH : H l = some (.lst xs)) : xs.length ≤ sizeLine ∧ ∃ (its : List Value) (n : Nat), Vals xs its ∧ xs.length = its.length ∧ s.heap.get? l = some { cls := .type "list", data := .seq its.toArray n } := by
  obtain ⟨z, its, n, r, e⟩ := I.hok l _ hH
  exact ⟨z, its, n, r, r.length, e⟩
theorem XD {n : Nat} (h : n ≤ sizeLine) : Builtin.List.listTooLong n = false := by
  unfold Builtin.List.listTooLong
  exact decide_eq_false (by lia)
end
section
variable {X : Cx}
def AJ7 : V → List V → Hp → VK → Prop := fun x vs H Q => ∃ l xs y, x = .ref l ∧ vs = [y] ∧ H l = some (.lst xs) ∧ xs.length < sizeLine ∧ Q .non (upd H l (.lst (xs ++ [y])))
theorem IS : MtM X "list.append" AJ7 := by
  intro pins s σ H x vs v us Q I rx rv h
  obtain ⟨l, xs, y, rfl, rfl, hH, hz, q⟩ := h
  cases rx
  obtain ⟨u, rfl, ru⟩ := rv.one
  obtain ⟨z, its, n, r, hl, e⟩ := I.lstM hH
  refine call_meets F.slot_list_append ⟨_, e, rfl⟩ F.entry_list_append (F.args_list_append_2 _ _) (PySem.list_append l its.toArray n u (by rw [List.size_toArray]; lia)) ⟨e, ?_⟩
  refine ⟨.non, _, I.lset (its' := its ++ [u]) hH e (by simp) (r.append (.cons ru .nil)) ?_, rfl, q⟩
  rw [List.length_append, List.length_singleton]
  lia
def AH7 : V → List V → Hp → VK → Prop := fun x vs H Q => ∃ l b xs zs, x = .ref l ∧ vs = [.ref b] ∧ H l = some (.lst xs) ∧ H b = some (.lst zs) ∧ xs.length + zs.length ≤ sizeLine ∧ Q .non (upd H l (.lst (xs ++ zs)))
theorem UU : MtM X "list.extend" AH7 := by
  intro pins s σ H x vs v us Q I rx rv h
  obtain ⟨l, b, xs, zs, rfl, rfl, hH, hB, hz, q⟩ := h
  cases rx
  obtain ⟨u, rfl, ru⟩ := rv.one
  cases ru
  obtain ⟨z, its, n, r, hl, e⟩ := I.lstM hH
  obtain ⟨z2, its2, n2, r2, hl2, e2⟩ := I.lstM hB
  have hsz : its.toArray.size + its2.toArray.size ≤ sizeLine := by rw [List.size_toArray, List.size_toArray]; lia
  have hlong : ¬ (!its.toArray.isEmpty && Builtin.List.listTooLong (its.toArray.size + its2.toArray.size)) = true := by
    rw [XD hsz, Bool.and_false]
    exact Bool.false_ne_true
  refine call_meets F.slot_list_extend ⟨_, e, rfl⟩ F.entry_list_extend (F.args_list_extend_2 _ _)
    (AutoSeq1.list_extend_list_list_0 l its.toArray n b its2.toArray n2 hlong (by rw [List.size_toArray]; lia) (by lia)) ⟨e, e2, ?_⟩
  refine ⟨.non, _, I.lset (its' := its ++ its2) hH e (by simp) (r.append r2) ?_, rfl, q⟩
  rw [List.length_append]
  lia
end
section
variable {prog : Program} {w : World} {A : Around} {E : Value → Shared → Prop} {s : Shared}
end
section
variable {X : Cx}
end
end L2
namespace Att
open PySem PySem.W PySem.Calls PyProof.Rows
theorem DZ {P : Params} {h : Heap} : ∀ (ns : List Int) (vs : List Value), WellAll P h vs (ns.map WData.int) → IntsAre vs ns := by
  intro ns
  induction ns with
  | nil =>
    intro vs w
    rw [List.map_nil] at w
    cases w
    exact .nil
  | cons n ns ih =>
    intro vs w
    rw [List.map_cons] at w
    cases w with
    | cons a b =>
      cases a
      exact .cons _ _ (ih _ b)
theorem UR {l : OpenLaw} {n : Nat} (hn : l.most = some n) {P : Params} {h : Heap} {args : List WData} {vals : List Value}
    (hpre : l.row.toRowW.claim.pre args = true) (hwl : WellAll P h vals args) :
    ∃ a vs ns, vals = [Value.ref a] ∧ args = [WData.list (ns.map WData.int)] ∧ h.get? a = some { cls := .type "list", data := .seq vs.toArray } ∧ IntsAre vs ns ∧ ns.length ≤ n := by
  have hsh : WShape.hasAll [] args [.list .int] = true := (pre_splitW hpre).1
  have hc : l.pre.holds [] { args := args } = true := (pre_splitW hpre).2
  obtain ⟨d, r, rfl, h1, h2⟩ := hasAllW_cons hsh
  obtain rfl := hasAllW_nil h2
  obtain ⟨xs, rfl, h3⟩ := hasW_list h1
  obtain ⟨ns, rfl⟩ := items_int h3
  have hlen : ns.length ≤ n := by
    unfold OpenLaw.pre at hc
    have h4 : (WTm.not (.lt (.lit (.int (n : Int))) (.len (.arg 0)))).holds [] { args := [.list (ns.map .int)] } = true := by
      have h4 := (holds_andW hc).1
      rw [hn] at h4
      exact h4
    have h5 := condW_of h4 (w_not (w_lt w_lit (w_len_list (w_arg rfl))))
    rw [List.length_map] at h5
    refine Nat.le_of_not_lt fun q => ?_
    have q' : (n : Int) < ((ns.length : Nat) : Int) := by lia
    first
      | (rw [decide_eq_true q'] at h5; exact absurd h5 (by decide))
      | (simp at h5; lia)
  cases hwl with
  | cons w1 w2 =>
    cases w2
    cases w1 with
    | list ho hall => exact ⟨_, _, ns, rfl, rfl, ho, DZ ns _ hall, hlen⟩
theorem UX (l : OpenLaw) (args : List WData) : l.row.toRowW.claim.post args (.bool true) args = true :=
  postW_of (r := l.row.toRowW) (X := (true == true))
    (show WShape.has [] (.bool true) .bool = true by first | rfl | decide | simp [WShape.has, WShape.arms, WShape.armsAll])
    (show (WTm.eq .res (.lit (.bool true))).value [] { args := args, res := some (.bool true), after := args } = some (.bool (true == true)) from w_eq_bool (w_res rfl) w_lit) rfl
theorem attach_call {l : OpenLaw} {n : Nat} {q : Program} {loose : List Str} {XP : (Str → Option Value) → Heap → Prop} {YP : World → Heap → Prop} {d : DefRec}
    (hn : l.most = some n) (hdf : d.params.defaults = [])
    (call : ∀ (w : World) (s₀ s₁ : Shared) (mg mb : Str → Option Value) (fa : Addr) (o : Obj) (pm cd doc : Value) (a : Addr) (vs : List Value) (ns : List Int),
      Ground q loose [] XP w s₀ mg mb s₁.heap → YP w s₁.heap →
      s₁.heap.get? fa = some o → o.data = .func (docDef d.name d.params d.body d.scope pm cd doc) → s₁.heap.CodeRec cd d.name → mg d.name = some (.ref fa) →
      s₁.heap.get? a = some { cls := .type "list", data := .seq vs.toArray } → IntsAre vs ns → ns.length ≤ n → s₁.gens = #[] →
      codeAny (model l.prog w) callerA (.call (.ref fa) ⟨[.ref a], []⟩) (fun r s' => r = .ok (.ret (.bool true)) ∧ OldK s₁.heap s'.heap ∧ s'.os = s₁.os ∧ AllBare s'.gens) s₁) :
    WalkO q loose XP YP l.row.toRowW d [] (fun f vs => PySem.call f vs) := by
  intro w s₀ s₁ mg mb G Y fa o pm cd doc dV kV ho hd hcd hD hmg hg args vals as hpre hlay hrd hwl hlo
  obtain rfl : dV = .none := Dflts.none hD hdf
  obtain rfl : kV = .none := Dflts.noKw hD
  obtain ⟨a, vs, ns, rfl, rfl, hobj, hints, hlen⟩ := UR hn hpre hwl
  refine enter_call (codeAny_mono (call w s₀ s₁ mg mb fa o pm cd doc a vs ns G Y ho (fd_plain hd) hcd hmg hobj hints hlen hg) fun r s' hq => ?_)
  obtain ⟨rfl, h2, h3, h4⟩ := hq
  exact ⟨.inl ⟨.bool true, .bool true, [], rfl, fun _ => rfl, .bool true, UX l _, fun _ => ⟨List.Pairwise.nil, fun _ hm => (nomatch hm)⟩⟩, h2, h3, h4⟩
section
variable {prog : Program} {w : World} {A : Around} {E : Value → Shared → Prop} {s : Shared} {K : Frag}
end
end Att
namespace L2
open PySem PySem.Spec PyProof.Rows
theorem IK : ∀ {vs : List Value} {ns : List Int}, IntsAre vs ns → Vals (ns.map V.int) vs
  | _, _, .nil => .nil
  | _, _, .cons n t h => .cons ⟨t, rfl⟩ (IK h)
def AT1 (H : Hp) : Prop := ∀ b, H b = none ∨ ∃ o xs, H b = some (.frz o (.lst xs))
theorem AF0 {P : Program} {w : World} {K : PySem.W.Frag} {mg mb : Str → Option Value} {CX : CXT} {k : Nat} {fa a : Addr} {fd : FuncData} {x : Str} {sp : Sp} {s₁ : Shared} {vs : List Value} {ns : List Int}
    (KX : K.In s₁.heap) (hns : s₁.heap.Ns mainGlobals mg) (hb : s₁.heap.Ns builtinsNs mb) (hbb : ∀ x : Str, x ≠ "__name__" → mb x = bootBuiltins x) (hlim : s₁.heap.NoLimit) (hg : s₁.gens = #[])
    (ha : s₁.heap.get? a = some { cls := .type "list", data := .seq vs.toArray }) (hi : IntsAre vs ns) (hl : ns.length ≤ sizeLine) (hr : Room k callerA)
    (F : ∀ base : Heap, K.In base → base.Ns mainGlobals mg → G4 P w K mg base CX k fa fd [x] sp) (hbind : ∀ (s : Shared) (u : Value), BindsTo s fd ⟨[u], []⟩ [(x, u)])
    (hsp : ∀ H : Hp, AT1 H → SqL K H a (ns.map V.int) → sp [.ref a] H (fun v _ => v = .bl true) fun _ _ _ => False)
    (hCX : ∀ H e s', CX [] H s₁ (fun _ _ _ => False) e s' → False) :
    codeAny (model P w) callerA (.call (.ref fa) ⟨[.ref a], []⟩) (fun r s' => r = .ok (.ret (.bool true)) ∧ OldK s₁.heap s'.heap ∧ s'.os = s₁.os ∧ AllBare s'.gens) s₁ := by
  have rv := IK hi
  have lenV := hi.length
  have core : ∀ H : Hp, AT1 H → SqL K H a (ns.map V.int) → HOk P w H s₁.heap → (∀ b, H b ≠ none → b = a) → (H a ≠ none → K.lookup a = none) →
      codeAny (model P w) callerA (.call (.ref fa) ⟨[.ref a], []⟩) (fun r s' => r = .ok (.ret (.bool true)) ∧ OldK s₁.heap s'.heap ∧ s'.os = s₁.os ∧ AllBare s'.gens) s₁ := by
    intro H hO hS hok hA hK
    have base_of : ∀ {b : Addr} {o : Obj}, s₁.heap.get? b = some o → H b = none → (JU s₁.heap H).get? b = some o := fun e n => AD0 e n
    have noA : ∀ {b : Addr} {o : Obj} {es : Array DictEntry} {ep : Nat}, s₁.heap.get? b = some o → o.data = .dict es ep → H b = none := fun {b o es ep} e d => by
      cases q : H b with
      | none => rfl
      | some u =>
        have e' : b = a := hA b (by rw [q]; simp)
        subst e'
        rw [ha] at e; cases e
        have d' : Data.seq vs.toArray _ = Data.dict es ep := d
        cases d'
    have nsK : ∀ {b : Addr} {m : Str → Option Value}, s₁.heap.Ns b m → (JU s₁.heap H).Ns b m := fun {b m} ⟨o, es, ep, e, d, r⟩ => ⟨o, es, ep, base_of e (noA e d), d, r⟩
    have hKb : K.In (JU s₁.heap H) := fun b o e => base_of (KX b o e) (by
      cases q : H b with
      | none => rfl
      | some u =>
        have e' : b = a := hA b (by rw [q]; simp)
        subst e'
        rw [hK (by rw [q]; simp)] at e; cases e)
    have hM : Mod K mg (JU s₁.heap H) := ⟨hKb, nsK hns, ⟨mb, nsK hb, hbb⟩, let ⟨mc, h1, h2⟩ := hlim; ⟨mc, nsK h1, h2⟩⟩
    have e0 : AJ0 P w K mg (JU s₁.heap H) callerA [] s₁ H := ⟨rfl, hM, fun b o e => AK1 e, Nat.le_of_eq (UT _ _), trivial, fun b hb => absurd (show b ∈ ([] : List Addr) from hb) (by simp), hok, .of_eq hg⟩
    refine codeAny_mono ((F _ hKb (nsK hns)).run callerA [] s₁ H ⟨[.ref a], []⟩ [.ref a] [.ref a] _ _ hr e0 (hbind s₁ (.ref a)) (.cons rfl .nil) (hsp H hO hS)) fun r s' h => ?_
    cases r with
    | error e => exact (hCX H e s' h).elim
    | ok fl =>
      cases fl with
      | next => exact False.elim h
      | brk => exact False.elim h
      | cont => exact False.elim h
      | ret u =>
        obtain ⟨v, H', os, bare, un, hok', r', q⟩ := h
        have q' : v = .bl true := q
        subst q'
        obtain rfl : u = Value.bool true := r'
        refine ⟨rfl, OldK.of_keep fun b o e => ?_, os, bare⟩
        cases q : H b with
        | none => exact un.keep b o e q (by intro z; exact absurd (show b ∈ ([] : List Addr) from z) (by simp)) (by simp)
        | some u =>
          rcases hO b with z | ⟨ob, xs, z⟩
          · rw [q] at z; cases z
          · have z2 := un.frzs b ob _ z
            obtain ⟨e1, _⟩ := hok b _ z
            obtain ⟨e2, _⟩ := hok' b _ z2
            rw [e] at e1; cases e1
            exact e2
  cases hk : K.lookup a with
  | some o =>
    have e := KX a o hk
    rw [ha] at e
    cases e
    refine core (fun _ => none) (fun _ => .inl rfl) (.inr ⟨_, vs.toArray, _, hk, rfl, rfl, rfl, by rw [List.size_toArray, lenV]; exact hl, by simpa using rv⟩) (fun b u z => by have z' : (none : Option HO) = some u := z; cases z') (fun b z => absurd rfl z) fun z => absurd rfl z
  | none =>
    refine core (fun b => if b = a then some (.frz { cls := .type "list", data := .seq vs.toArray } (.lst (ns.map V.int))) else none) (fun b => ?_) (.inl (.inr ⟨{ cls := .type "list", data := .seq vs.toArray }, if_pos rfl⟩)) (fun b u z => ?_) (fun b z => ?_) fun _ => hk
    · by_cases hb : b = a
      · exact .inr ⟨_, _, if_pos hb⟩
      · exact .inl (if_neg hb)
    · by_cases hb : b = a
      · have z' := (if_pos hb).symm.trans z
        cases z'
        subst hb
        exact ⟨ha, by rw [List.length_map]; exact hl, vs, _, rv, ha⟩
      · have z' := (if_neg hb).symm.trans z
        cases z'
    · by_cases hb : b = a
      · exact hb
      · exact absurd (if_neg hb) z
theorem AM0 {l : PySem.W.OpenLaw} {n k : Nat} {q : Program} {loose : List Str} {XP : (Str → Option Value) → Heap → Prop} {YP : World → Heap → Prop} {d : DefRec} {K : Params → PySem.W.Frag} {CX : World → CXT} {sp : World → Sp} {x : Str}
    (hn : l.most = some n) (hn2 : n ≤ sizeLine) (hdf : d.params.defaults = []) (hr : Room k callerA)
    (hY : ∀ (w : World) (h : Heap), YP w h → (K w.params).In h)
    (F : ∀ (w : World) (mg : Str → Option Value) (fa : Addr) (h : Heap), (K w.params).In h → h.Ns mainGlobals mg → mg d.name = some (.ref fa) →
      ∃ fd : FuncData, (∀ (s : Shared) (u : Value), BindsTo s fd ⟨[u], []⟩ [(x, u)]) ∧
        ∀ base : Heap, (K w.params).In base → base.Ns mainGlobals mg → G4 l.prog w (K w.params) mg base (CX w) k fa fd [x] (sp w))
    (hsp : ∀ (w : World) (H : Hp) (a : Addr) (ns : List Int), ns.length ≤ n → AT1 H → SqL (K w.params) H a (ns.map V.int) → sp w [.ref a] H (fun v _ => v = .bl true) fun _ _ _ => False)
    (hCX : ∀ (w : World) (H : Hp) (s : Shared) (e : Value) (s' : Shared), CX w [] H s (fun _ _ _ => False) e s' → False) :
    PySem.W.WalkO q loose XP YP l.row.toRowW d [] (fun f vs => PySem.call f vs) := by
  refine Att.attach_call hn hdf fun w s₀ s₁ mg mb fa o pm cd doc a vs ns G Y ho hd hcd hmg hobj hints hlen hg => ?_
  have KX := hY w _ Y
  obtain ⟨fd, hb, hF⟩ := F w mg fa _ KX G.T.g hmg
  exact AF0 KX G.T.g G.T.b G.T.builtins G.T.nolimit hg hobj hints (Nat.le_trans hlen hn2) hr hF hb (fun H hO hS => hsp w H a ns hlen hO hS) fun H e s' => hCX w H s₁ e s'
def C5 (s : Stmt) : Arguments := match s with
  | .FunctionDef _ a _ _ _ _ _ _ _ _ => a
  | _ => { posonlyargs := [], args := [], vararg := none, kwonlyargs := [], kw_defaults := [], kwarg := none, defaults := [] }
def B1 (s : Stmt) : List Stmt := match s with
  | .FunctionDef _ _ b _ _ _ _ _ _ _ => b
  | _ => []
def A3 (s : Stmt) : Scope := match s with
  | .FunctionDef _ _ _ _ _ _ sc _ _ _ => sc
  | _ => { kind := .function, names := [], isGenerator := false, isCoroutine := false }
abbrev CX0 : CXT := fun _ _ _ _ _ _ => False
abbrev E0 : XK := fun _ _ _ => False
theorem BF7 {X : Cx} : PR CX0 X E0 := fun _ _ _ _ _ _ _ h => h.elim
structure Fun (K : PySem.W.Frag) (x qual : Str) (st : Stmt) (f : Addr) (fd : FuncData) : Prop where
  ex : ∃ (oc : Value) (od : Option Addr) (kV doc pm : Value) (an : Option Addr) (cdv ct : Value) (osl : Array (Option Value)),
    fd = PySem.W.fnOf x qual (C5 st) (B1 st) (A3 st) .none kV doc pm an cdv ct ∧ K.lookup f = some ⟨oc, od, .func fd, osl⟩ ∧ PySem.W.codeIn K cdv qual = true
  kp : PySem.W.keepIn K (.ref f) = true
section
variable {P : Program} {w : World} {K : PySem.W.Frag} {mg : Str → Option Value} {base : Heap}
theorem Fun.ok {x qual : Str} {st : Stmt} {f : Addr} {fd : FuncData} {N ps : List Str} {k : Nat} {sp : Sp} (F : Fun K x qual st f fd) (S : C8 N ps (A3 st)) (len : ∀ vs H Q E, sp vs H Q E → vs.length = ps.length)
    (hbody : ∀ (cdv : Value) (A : Around) (outer : List Env) (s : Shared) (H : Hp) (vs : List V) (Q : VK) (E : XK), Room k (A.deeper (envOfC qual (A3 st) s.heap.objs.size f cdv)) → sp vs H Q E →
      ∃ t, PSs (J6 CX0 P w K mg base N qual (A3 st) f cdv A outer s H E).nox (B1 st) t ∧ t { nx := fun _ H' => Q .non H', rt := Q } (start N vs) H) : G4 P w K mg base CX0 (k + 1) f fd ps sp := by
  obtain ⟨oc, od, kV, doc, pm, an, cdv, ct, osl, rfl, lk, hcd⟩ := F.ex
  refine AZ4 lk hcd S len fun A outer s H vs Q E hr hsp => ?_
  obtain ⟨t, h, q⟩ := hbody cdv A outer s H vs Q E hr hsp
  exact ⟨t, h.nox, q⟩
theorem Fun.binds {x qual : Str} {st : Stmt} {f : Addr} {fd : FuncData} {ps : List Str} (F : Fun K x qual st f fd)
    (h : ∀ (kV doc pm : Value) (an : Option Addr) (cdv ct : Value) (us : List Value), us.length = ps.length → bindArgs (PySem.W.fnOf x qual (C5 st) (B1 st) (A3 st) .none kV doc pm an cdv ct) ⟨us, []⟩ = pure (ps.zip us)) : Binds K fd ps [] := by
  obtain ⟨oc, od, kV, doc, pm, an, cdv, ct, osl, rfl, lk, hcd⟩ := F.ex
  exact .all (h kV doc pm an cdv ct)
theorem AC5 {x qual : Str} {st : Stmt} {f : Addr} {oc : Value} {od an : Option Addr} {osl : Array (Option Value)} {kV doc pm cdv ct : Value} (l : K.lookup f = some ⟨oc, od, .func (PySem.W.fnOf x qual (C5 st) (B1 st) (A3 st) .none kV doc pm an cdv ct), osl⟩)
    (c : PySem.W.codeIn K cdv qual = true) (k : PySem.W.keepIn K (.ref f) = true) : Fun K x qual st f (PySem.W.fnOf x qual (C5 st) (B1 st) (A3 st) .none kV doc pm an cdv ct) := ⟨⟨oc, od, kV, doc, pm, an, cdv, ct, osl, rfl, l, c⟩, k⟩
end
section
variable {X : Cx}
end
section
variable {κ : Type} [DecidableEq κ]
def AB (kvs : List (κ × V)) (k : κ) : Option V := (kvs.find? fun kv => decide (kv.1 = k)).map (·.2)
def putK (kvs : List (κ × V)) (k : κ) (v : V) : List (κ × V) :=
  if (kvs.any fun kv => decide (kv.1 = k)) = true then kvs.map (fun kv => if kv.1 = k then (kv.1, v) else kv) else kvs ++ [(k, v)]
theorem GB {p : κ × V} {r : List (κ × V)} {k : κ} (e : p.1 = k) : AB (p :: r) k = some p.2 := by simp [AB, List.find?_cons, e]
theorem EW {p : κ × V} {r : List (κ × V)} {k : κ} (e : ¬ p.1 = k) : AB (p :: r) k = AB r k := by simp [AB, List.find?_cons, e]
theorem MI (k : κ) : ∀ kvs : List (κ × V), (kvs.any fun kv => decide (kv.1 = k)) = (AB kvs k).isSome
  | [] => rfl
  | p :: r => by
    rw [List.any_cons]
    by_cases e : p.1 = k
    · simp only [GB e, decide_eq_true e, Bool.true_or, Option.isSome_some]
    · rw [EW e, decide_eq_false e, Bool.false_or]; exact MI k r
theorem AE (kvs : List (κ × V)) (k : κ) (v : V) : (putK kvs k v).length ≤ kvs.length + 1 := by
  unfold putK
  split
  · rw [List.length_map]; lia
  · rw [List.length_append, List.length_cons, List.length_nil]; lia
theorem RelO.isSome_eq {o : Option V} {u : Option Value} (r : RelO o u) : o.isSome = u.isSome := by
  cases o with
  | none => cases u with
    | none => rfl
    | some _ => exact (show False from r).elim
  | some _ => cases u with
    | none => exact (show False from r).elim
    | some _ => rfl
theorem KV.val {kvs : List (κ × V)} {vs : List (κ × Value)} (r : KV kvs vs) (k : κ) : RelO (AB kvs k) (valueAt vs k) := by
  unfold KV at r
  induction r with
  | nil => exact True.intro
  | @cons p q ps qs h t ih =>
    obtain ⟨h1, h2⟩ := h
    by_cases e : p.1 = k
    · have e' : q.1 = k := h1.symm.trans e
      have b : valueAt (q :: qs) k = some q.2 := by simp [valueAt, List.find?_cons, e']
      rw [GB e, b]; exact h2
    · have e' : ¬ q.1 = k := fun z => e (h1.trans z)
      have b : valueAt (q :: qs) k = valueAt qs k := by simp [valueAt, List.find?_cons, e']
      rw [EW e, b]; exact ih
theorem KV.any {kvs : List (κ × V)} {vs : List (κ × Value)} (r : KV kvs vs) (k : κ) : (kvs.any fun kv => decide (kv.1 = k)) = vs.any fun kv => decide (kv.1 = k) := by
  unfold KV at r
  induction r with
  | nil => rfl
  | cons h t ih => rw [List.any_cons, List.any_cons, ih, h.1]
theorem KV.repl {kvs : List (κ × V)} {vs : List (κ × Value)} (r : KV kvs vs) (k : κ) {y : V} {u : Value} (ry : RelV y u) :
    KV (kvs.map fun kv => if kv.1 = k then (kv.1, y) else kv) (vs.map fun kv => if kv.1 = k then (kv.1, u) else kv) := by
  unfold KV at r ⊢
  induction r with
  | nil => exact .nil
  | @cons p q ps qs h t ih =>
    rw [List.map_cons, List.map_cons]
    refine .cons ?_ ih
    obtain ⟨h1, h2⟩ := h
    by_cases e : p.1 = k
    · rw [if_pos e, if_pos (h1.symm.trans e)]; exact ⟨h1, ry⟩
    · rw [if_neg e, if_neg (fun z => e (h1.trans z))]; exact ⟨h1, h2⟩
theorem KV.put {kvs : List (κ × V)} {vs : List (κ × Value)} (r : KV kvs vs) (k : κ) {y : V} {u : Value} (ry : RelV y u) : KV (putK kvs k y) (stored vs k u) := by
  unfold putK stored
  rw [r.any k]
  by_cases e : (vs.any fun kv => decide (kv.1 = k)) = true
  · rw [if_pos e, if_pos e]; exact r.repl k ry
  · rw [if_neg e, if_neg e]; exact Paired.snoc r ⟨rfl, ry⟩
theorem KV.length {kvs : List (κ × V)} {vs : List (κ × Value)} (r : KV kvs vs) : kvs.length = vs.length := Paired.length r
end
theorem MV {P : Program} {w : World} {k : Key} {u : Value} (r : RelV (kV k) u) : (F2 P w).is k u = true := by
  cases k with
  | inl i => obtain ⟨t, e⟩ := (show ∃ t, u = Value.int i t from r); subst e; exact NT P w i t
  | inr x => obtain ⟨t, e⟩ := (show ∃ t, u = Value.str x t from r); subst e; exact AC P w x t
theorem IB {P : Program} {w : World} : ∀ {ks : List Key} {us : List Value}, Vals (ks.map kV) us → ItemsAre (F2 P w) ks us
  | [], _, r => by rw [List.map_nil] at r; cases r; exact .nil
  | k :: ks, _, r => by
    rw [List.map_cons] at r
    cases r with
    | cons h t => exact .cons (MV h) (IB t)
abbrev KT (H : Hp) : List (List Key × V) → List (List Key × Addr × Value) → Prop := Paired fun p q => p.1 = q.1 ∧ H q.2.1 = some (.tup (p.1.map kV)) ∧ RelV p.2 q.2.2
theorem KT.val {H : Hp} {kvs : List (List Key × V)} {xs : List (List Key × Addr × Value)} (r : KT H kvs xs) (k : List Key) : RelO (AB kvs k) ((atKey xs k).map (·.2)) := by
  induction r with
  | nil => exact True.intro
  | @cons p q ps qs h t ih =>
    obtain ⟨h1, _, h2⟩ := h
    by_cases e : p.1 = k
    · have e' : q.1 = k := h1.symm.trans e
      have b : atKey (q :: qs) k = some q.2 := by simp [atKey, List.find?_cons, e']
      rw [GB e, b]; exact h2
    · have e' : ¬ q.1 = k := fun z => e (h1.trans z)
      have b : atKey (q :: qs) k = atKey qs k := by simp [atKey, List.find?_cons, e']
      rw [EW e, b]; exact ih
theorem KT.repl {H : Hp} {kvs : List (List Key × V)} {xs : List (List Key × Addr × Value)} (r : KT H kvs xs) (k : List Key) {y : V} {u : Value} (ry : RelV y u) :
    KT H (kvs.map fun kv => if kv.1 = k then (kv.1, y) else kv) (xs.map (putAt k u)) := by
  induction r with
  | nil => exact .nil
  | @cons p q ps qs h t ih =>
    rw [List.map_cons, List.map_cons]
    refine .cons ?_ ih
    obtain ⟨h1, h2, h3⟩ := h
    unfold putAt
    by_cases e : p.1 = k
    · rw [if_pos e, if_pos (h1.symm.trans e)]; exact ⟨h1, h2, ry⟩
    · rw [if_neg e, if_neg (fun z => e (h1.trans z))]; exact ⟨h1, h2, h3⟩
theorem KT.put {H : Hp} {kvs : List (List Key × V)} {xs : List (List Key × Addr × Value)} (r : KT H kvs xs) (k : List Key) {b : Addr} {y : V} {u : Value} (hb : H b = some (.tup (k.map kV))) (ry : RelV y u) :
    KT H (putK kvs k y) (storedH xs k b u) := by
  have e : (kvs.any fun kv => decide (kv.1 = k)) = (atKey xs k).isSome := by
    rw [MI, (r.val k).isSome_eq, Option.isSome_map]
  unfold putK storedH
  rw [e]
  by_cases q : (atKey xs k).isSome = true
  · rw [if_pos q, if_pos q]; exact r.repl k ry
  · rw [if_neg q, if_neg q]; exact Paired.snoc r ⟨rfl, hb, ry⟩
theorem KT.keeps {H H' : Hp} {kvs : List (List Key × V)} {xs : List (List Key × Addr × Value)} (r : KT H kvs xs) (ht : ∀ b ys, H b = some (.tup ys) → H' b = some (.tup ys)) : KT H' kvs xs :=
  Paired.mapP r fun _ _ z => ⟨z.1, ht _ _ z.2.1, z.2.2⟩
section
variable {P : Program} {w : World} {H : Hp} {h : Heap} {a : Addr}
theorem AQ0 {u : HO} (ok : HOk P w H h) (e : Rd H a u) : ObjOk P w H h a u := e.ok ok
theorem WZ {kvs : List (Key × V)} (ok : HOk P w H h) (e : Rd H a (.dK kvs)) : kvs.length ≤ sizeLine ∧ (a == sysModules) = false ∧ ∃ vs, KV kvs vs ∧ h.DictOf (F2 P w) a vs :=
  show ObjOk P w H h a (.dK kvs) from AQ0 ok e
theorem AO5 {kvs : List (Key × V)} (ok : HOk P w H h) (e : H a = some (.dK kvs)) : kvs.length ≤ sizeLine ∧ (a == sysModules) = false ∧ ∃ vs, KV kvs vs ∧ h.DictOf (F2 P w) a vs := WZ ok (.inl e)
theorem PW {ks : List Key} (ok : HOk P w H h) (e : H a = some (.tup (ks.map kV))) : (tupleKind (F2 P w)).is h ks a := by
  obtain ⟨_, its, r, o, h1, h2, n, h3⟩ := (show ObjOk P w H h a (.tup (ks.map kV)) from ok a _ e)
  exact ⟨o, its.toArray, n, h1, h2, h3, by simpa using IB r⟩
theorem XM {kvs : List (List Key × V)} (ok : HOk P w H h) (e : Rd H a (.dT kvs)) : kvs.length ≤ sizeLine ∧ (a == sysModules) = false ∧
    ∃ xs, KT H kvs xs ∧ h.DictOfH (tupleKind (F2 P w)) a xs := by
  obtain ⟨z, y, xs, r, o, es, ep, h1, h2, h3, h4, h5⟩ := (show ObjOk P w H h a (.dT kvs) from AQ0 ok e)
  refine ⟨z, y, xs, r, o, es, ep, h1, h2, h3, h4, fun x hx => ?_, h5⟩
  have all : ∀ {l : List (List Key × V)} {m : List (List Key × Addr × Value)}, KT H l m → ∀ x ∈ m, (tupleKind (F2 P w)).is h x.1 x.2.1 := by
    intro l m q
    induction q with
    | nil => intro x hx; exact nomatch hx
    | @cons p q ps qs hq t ih =>
      intro x hx
      rcases List.mem_cons.mp hx with e | hx
      · subst e
        exact PW ok (by rw [← hq.1]; exact hq.2.1)
      · exact ih x hx
  exact all r x hx
theorem BF9 {kvs : List (List Key × V)} (ok : HOk P w H h) (e : H a = some (.dT kvs)) : kvs.length ≤ sizeLine ∧ (a == sysModules) = false ∧
    ∃ xs, KT H kvs xs ∧ h.DictOfH (tupleKind (F2 P w)) a xs := XM ok (.inl e)
end
def AR8 (H : Hp) (a : Addr) (y : V) (r : Option V) : Prop :=
  (∃ kvs k, Rd H a (.dK kvs) ∧ y = kV k ∧ r = AB kvs k) ∨ ∃ kvs k b, Rd H a (.dT kvs) ∧ y = .ref b ∧ H b = some (.tup (k.map kV)) ∧ r = AB kvs k
def BC9 (H : Hp) (a : Addr) (y v : V) (H' : Hp) : Prop :=
  (∃ kvs k, H a = some (.dK kvs) ∧ y = kV k ∧ kvs.length < sizeLine ∧ H' = upd H a (.dK (putK kvs k v))) ∨
  ∃ kvs k b, H a = some (.dT kvs) ∧ y = .ref b ∧ H b = some (.tup (k.map kV)) ∧ kvs.length < sizeLine ∧ H' = upd H a (.dT (putK kvs k v))
section
variable {X : Cx} {pins : List (Addr × Obj)} {σ : St} {H : Hp} {s : Shared} {a : Addr} {y v : V} {u r : Value} {o : Option V} {A : Around} {E : Value → Shared → Prop}
theorem Inv.big (I : Inv X pins σ H s) : sysModules < s.heap.objs.size := by
  have h : mainGlobals < s.heap.objs.size := (I.mod.glob.keeps I.bk).lt
  exact Nat.lt_trans (by decide) h
theorem UQ {Q : Value → Shared → Prop} (hu : A.units + 1 < cLine) (I : Inv X pins σ H s) (g : AR8 H a y (some v)) (ry : RelV y u) (h : ∀ w' s', Inv X pins σ H s' → RelV v w' → Q w' s') :
    wpAny (model X.prog X.w) A (getItem (.ref a) u) Q E s := by
  rcases g with ⟨kvs, k, e, ey, l⟩ | ⟨kvs, k, b, e, ey, eb, l⟩
  · subst ey
    obtain ⟨z, hd, vs, rel, dd⟩ := WZ I.hok e
    obtain ⟨w', hw, rw'⟩ := RelO.some_of (v := v) (o := valueAt vs k) (by rw [l]; exact rel.val k)
    exact wpAny_getItem_of (MV ry) dd.mapOf hw (h w' _ (I.tok _) rw')
  · subst ey
    cases (show u = Value.ref b from ry)
    obtain ⟨z, hd, xs, rel, dd⟩ := XM I.hok e
    obtain ⟨w', hw, rw'⟩ := RelO.some_of (v := v) (o := (atKey xs k).map (·.2)) (by rw [l]; exact rel.val k)
    obtain ⟨p, hp, hp2⟩ := Option.map_eq_some_iff.mp hw
    refine wpAny_getItem_heap (tupleKind_room_in1 hu) (PW I.hok eb) dd hp ?_
    rw [hp2]
    exact h w' _ (I.tok _) rw'
theorem LO {h' : Heap} {t' : Nat} {ob : HO} (I : Inv X pins σ H s) (mu : Mut (H a)) (hs : Heap.SameBut a s.heap h') (he : ∃ q, h'.get? a = some q) (new : ObjOk X.prog X.w (upd H a ob) h' a ob) :
    Inv X pins σ (upd H a ob) { s with heap := h', toks := t' } :=
  I.write (x := a) (e := a) mu (.inl rfl) (fun b q hb z => (hs.2 b hb).trans z) he new
theorem YQ {P : Program} {w : World} {H' : Hp} {h' : Heap} {kvs : List (Key × V)} {vs : List (Key × Value)} (z : kvs.length ≤ sizeLine) (hd : (a == sysModules) = false) (rel : KV kvs vs) (dd : h'.DictOf (F2 P w) a vs) :
    ObjOk P w H' h' a (.dK kvs) := ⟨z, hd, vs, rel, dd⟩
theorem TY {H' : Hp} {Q : Unit → Shared → Prop} (hu : A.units + 1 < cLine) (I : Inv X pins σ H s) (g : BC9 H a y v H') (ry : RelV y u) (rv : RelV v r) (h : ∀ s', Inv X pins σ H' s' → Q () s') :
    wpAny (model X.prog X.w) A (setItem (.ref a) u r) Q E s := by
  rcases g with ⟨kvs, k, e, ey, l, eH⟩ | ⟨kvs, k, b, e, ey, eb, l, eH⟩
  · subst ey eH
    obtain ⟨z, hd, vs, rel, dd⟩ := AO5 I.hok e
    have hz : vs.length ≤ sizeLine := by rw [← rel.length]; exact z
    have hl : (putK kvs k v).length ≤ sizeLine := by have := AE kvs k v; lia
    refine wpAny_setItem_pairs (hsz := hz) (MV ry) dd fun h' dd' hs => h _ ?_
    have he : ∃ q, h'.get? a = some q := let ⟨q, _, _, hq, _⟩ := dd'; ⟨q, hq⟩
    exact LO I (by rw [e]; exact True.intro) hs he (YQ hl hd (rel.put k rv) dd')
  · subst ey eH
    cases (show u = Value.ref b from ry)
    obtain ⟨z, hd, xs, rel, dd⟩ := BF9 I.hok e
    have hz : xs.length ≤ sizeLine := by rw [← Paired.length rel]; exact z
    have hl : (putK kvs k v).length ≤ sizeLine := by have := AE kvs k v; lia
    refine wpAny_setItem_heap (hsz := hz) (tupleKind_room_in1 hu) (PW I.hok eb) dd fun h' dd' hs => h _ ?_
    obtain ⟨q, es, ep, hq, h2, h3, h4, _, h5⟩ := dd'
    refine LO I (by rw [e]; exact True.intro) hs ⟨q, hq⟩ ⟨hl, hd, _, (rel.put k eb rv).keeps fun c ys ec => ?_, q, es, ep, hq, h2, h3, h4, h5⟩
    rw [D1 (BD6 ec e (fun z => nomatch z))]
    exact ec
end
section
variable {X : Cx} {pins : List (Addr × Obj)} {σ : St} {H : Hp} {s : Shared} {a : Addr} {kvs : List (Key × V)} {k : Key} {u : Value} {A : Around} {E : Value → Shared → Prop}
end
def AM3 (i : Expr) : Prop := ∀ ov iv, subscripted i false ov iv = operate [ov, iv] (getItem ov iv)
theorem SQ {prog : Program} {w : World} {A : Around} {E : Value → Shared → Prop} {s : Shared} {env : Env} {value slice : Expr} {pos : Pos} {T id : String} {Q : Value → Shared → Prop}
    (hl : typeLookup (.type T) "__getitem__" = pure (some (.builtin id))) (hs : AM3 slice)
    (h : wpAny (model prog w) A (eval value env) (fun o s₁ => wpAny (model prog w) A (eval slice env) (fun i s₂ => s₂.TypeIs o T ∧ wpAny (model prog w) A (getItem o i) Q E s₂) E s₁) E s) :
    wpAny (model prog w) A (eval (.Subscript value slice pos) env) Q E s := by
  refine Subscript_ (wpAny_mono h (fun o s₁ h₁ => wpAny_mono h₁ (fun i s₂ h₂ => ?_) fun _ _ x => x) fun _ _ x => x)
  obtain ⟨hT, h₂⟩ := h₂
  unfold subscriptTail
  refine wpAny_bind ?_
  rw [getitemInPython_of_ne hT.not_modules]
  refine wpAny_bind (wpAny_specialOf hT hl ?_)
  have fin : wpAny (model prog w) A (subscripted slice false o i) (fun r s₃ => wpAny (model prog w) A (letTemporaryGo value o r >>= fun _ => pure r) Q E s₃) E s₂ := by
    rw [hs o i]
    exact wpAny_operating (wpAny_mono h₂ (fun r s₃ h₃ => wpAny_bind (wpAny_letTemporaryGo (wpAny_pure h₃))) fun _ _ x => x)
  first
    | exact wpAny_pure (wpAny_bind fin)
    | exact wpAny_bind (wpAny_pure (wpAny_bind fin))
    | exact wpAny_bind fin
theorem OH {X : Cx} {pins : List (Addr × Obj)} {σ : St} {H : Hp} {s : Shared} {a : Addr} {y : V} {o : Option V} (I : Inv X pins σ H s) (g : AR8 H a y o) : s.TypeIs (.ref a) "dict" := by
  rcases g with ⟨kvs, k, e, _, _⟩ | ⟨kvs, k, b, e, _, _, _⟩
  · obtain ⟨_, _, vs, _, dd⟩ := WZ I.hok e
    exact dd.typeIs
  · obtain ⟨_, _, xs, _, dd⟩ := XM I.hok e
    exact dd.typeIs
def BI5 (td ty : TE) : TE := fun σ H Q => td σ H fun x H1 => ty σ H1 fun y H2 => ∃ a v, x = .ref a ∧ AR8 H2 a y (some v) ∧ Q v H2
def BA8 (td ty tv : TE) : TS := fun D σ H => tv σ H fun v H1 => td σ H1 fun x H2 => ty σ H2 fun y H3 => ∃ a H4, x = .ref a ∧ BC9 H3 a y v H4 ∧ D.nx σ H4
section
variable {X : Cx} {o i e value : Expr} {pos pos' tpos : Pos} {td ty tv : TE}
theorem AF7 (hu : X.A.units + 1 < cLine) (ho : PE X o td) (hi : PE X i ty) (hs : AM3 i) : PE X (.Subscript o i pos) (BI5 td ty) := by
  intro pins s σ H Q I h
  refine SQ PySem.F.slot_dict_getitem.lookup hs (thn (ho pins s σ H _ I h) fun u s1 ⟨x, H1, I1, rx, q1⟩ => thn (hi pins s1 σ H1 _ I1 q1) fun iv s2 ⟨y, H2, I2, ry, a, v, ex, g, q2⟩ => ?_)
  subst ex
  obtain rfl : u = Value.ref a := rx
  exact ⟨OH I2 g, UQ hu I2 g ry fun w' s3 I3 rw' => ⟨v, H2, I3, rw', q2⟩⟩
theorem AM6 (hu : X.A.units + 1 < cLine) (ho : PE X o td) (hi : PE X i ty) (hv : PE X value tv) (hs : swapsWith value (some (.Subscript o i pos')) pos.line X.env = pure false) :
    PS X (.Assign [.Subscript o i pos'] value pos) (BA8 td ty tv) := by
  intro pins s σ H D I h
  refine wpAny_Assign_Subscript (thn (hv pins s σ H _ I h) fun r s1 ⟨v, H1, I1, rv, q1⟩ => thn (ho pins s1 σ H1 _ I1 q1) fun u s2 ⟨x, H2, I2, rx, q2⟩ => thn (hi pins s2 σ H2 _ I2 q2) fun iv s3 ⟨y, H3, I3, ry, a, H4, ex, g, q3⟩ => ?_) hs
  subst ex
  obtain rfl : u = Value.ref a := rx
  exact TY hu I3 g ry rv fun s4 I4 => ⟨σ, H4, I4, q3⟩
end
theorem WP {P : Program} {w : World} {H : Hp} (h : Heap) (hb : sysModules < h.objs.size) : ObjOk P w H (h.push { cls := .type "dict", data := .dict #[] }) h.objs.size (.dK []) :=
  ⟨Nat.zero_le _, beq_eq_false_iff_ne.mpr (Ne.symm (Nat.ne_of_lt hb)), [], .nil, Heap.DictOf.new h⟩
section
variable {X : Cx} {pos : Pos}
end
def JW : List (TE × TE) → St → Hp → (List (V × V) → Hp → Prop) → Prop
  | [], _, H, Q => Q [] H
  | (tk, tv) :: r, σ, H, Q => tk σ H fun x H1 => tv σ H1 fun y H2 => JW r σ H2 fun ps H3 => Q ((x, y) :: ps) H3
abbrev VV : List (V × V) → List (Value × Value) → Prop := Paired fun p q => RelV p.1 q.1 ∧ RelV p.2 q.2
def PPs (X : Cx) (pos : Pos) (keys : List (Option Expr)) (values : List Expr) (trs : List (TE × TE)) : Prop :=
  ∀ (pins : List (Addr × Obj)) (s : Shared) (σ : St) (H : Hp) (Q : List (V × V) → Hp → Prop), Inv X pins σ H s → JW trs σ H Q →
    wpAny (model X.prog X.w) X.A (evalPairs (pairTrees keys values X.env pos)) (fun vs s' => ∃ ps H', Inv X pins σ H' s' ∧ VV ps vs ∧ Q ps H') X.xe s
theorem AK0 {X : Cx} {pos : Pos} : PPs X pos [] [] [] := fun pins s σ H Q I h => pairTrees_nil_walk ⟨[], H, I, .nil, h⟩
theorem AC1 {X : Cx} {pos : Pos} {k v : Expr} {ks : List (Option Expr)} {vs : List Expr} {tk tv : TE} {trs : List (TE × TE)} (hk : PE X k tk) (hv : PE X v tv) (hr : PPs X pos ks vs trs) :
    PPs X pos (some k :: ks) (v :: vs) ((tk, tv) :: trs) := fun pins s σ H Q I h =>
  pairTrees_cons_walk (thn (hk pins s σ H _ I h) fun u s1 ⟨x, H1, I1, rx, q1⟩ => thn (hv pins s1 σ H1 _ I1 q1) fun w2 s2 ⟨y, H2, I2, ry, q2⟩ =>
    thn (hr pins s2 σ H2 _ I2 q2) fun ws s3 ⟨ps, H3, I3, rel, q3⟩ => ⟨(x, y) :: ps, H3, I3, .cons ⟨rx, ry⟩ rel, q3⟩)
def DG (kvs more : List (Key × V)) : List (Key × V) := more.foldl (fun acc kv => putK acc kv.1 kv.2) kvs
theorem KV.merge : ∀ {more : List (Key × V)} {rs : List (Key × Value)} {kvs : List (Key × V)} {vs : List (Key × Value)}, KV more rs → KV kvs vs → KV (DG kvs more) (merged vs rs) := by
  intro more rs kvs vs r
  unfold KV at r
  induction r generalizing kvs vs with
  | nil => intro q; exact q
  | @cons p q ps qs h t ih =>
    intro r0
    have e : KV (putK kvs p.1 p.2) (stored vs q.1 q.2) := by
      have := r0.put p.1 h.2
      rw [← h.1]; exact this
    exact ih e
theorem BF : ∀ (more kvs : List (Key × V)), (DG kvs more).length ≤ kvs.length + more.length
  | [], kvs => by show kvs.length ≤ kvs.length + 0; lia
  | p :: r, kvs => by
    have h1 := BF r (putK kvs p.1 p.2)
    have h2 := AE kvs p.1 p.2
    show (DG (putK kvs p.1 p.2) r).length ≤ _
    rw [List.length_cons]; lia
theorem FP {P : Program} {w : World} : ∀ {kvs : List (Key × V)} {ws : List (Value × Value)}, VV (kvs.map fun kv => (kV kv.1, kv.2)) ws → ∃ rs, Carries (F2 P w) ws rs ∧ KV kvs rs
  | [], _, r => by rw [List.map_nil] at r; cases r; exact ⟨[], True.intro, .nil⟩
  | p :: kvs, _, r => by
    rw [List.map_cons] at r
    cases r with
    | @cons a b as bs h t =>
      obtain ⟨rs, c, q⟩ := FP (P := P) (w := w) t
      obtain ⟨b1, b2⟩ := b
      exact ⟨(p.1, b2) :: rs, ⟨MV h.1, rfl, c⟩, .cons ⟨rfl, h.2⟩ q⟩
def BB3 (trs : List (TE × TE)) : TE := fun σ H Q => ∀ p, H p = none → JW trs σ (upd H p (.dK [])) fun ps H2 => H2 p = some (.dK []) ∧ ∃ kvs : List (Key × V), ps = kvs.map (fun kv => (kV kv.1, kv.2)) ∧ kvs.length ≤ 15 ∧ Q (.ref p) (upd H2 p (.dK (DG [] kvs)))
theorem AJ1 {X : Cx} {pos : Pos} {keys : List (Option Expr)} {values : List Expr} {trs : List (TE × TE)} (h : PPs X pos keys values trs) (hall : keys.all (·.isSome) = true) (hl : keys.length = values.length) (h0 : keys ≠ [])
    (h15 : keys.length ≤ 15) : PE X (.Dict keys values pos) (BB3 trs) := by
  intro pins s σ H Q I q
  have hn := I.hok.fresh (Nat.le_refl s.heap.objs.size)
  have I1 := I.laid (a := s.heap.objs.size) (o := .dK []) (h' := s.heap.push { cls := .type "dict", data := .dict #[] }) (t' := s.toks) (fun _ _ q => Heap.get?_push_of_some _ q) (Nat.le_refl _) (WP s.heap I.big)
  refine wpAny_Dict_walk (knd := F2 X.prog X.w) hall hl h0 h15 (thn (h pins _ σ _ _ I1 (q _ hn)) fun ws s2 ⟨ps, H2, I2, rel, e, kvs, ep, lk, q2⟩ => ?_)
  subst ep
  obtain ⟨rs, c, rk⟩ := FP (P := X.prog) (w := X.w) rel
  obtain ⟨z, hd, vs0, r0, dd⟩ := AO5 I2.hok e
  cases r0
  refine ⟨rs, c, dd, fun h' dd' hs => ⟨.ref s.heap.objs.size, _, ?_, rfl, q2⟩⟩
  have hz : (DG [] kvs).length ≤ sizeLine := by
    have h1 := BF kvs []
    rw [List.length_nil] at h1
    rw [sizeLine_eq]; lia
  have he : ∃ q, h'.get? s.heap.objs.size = some q := let ⟨q, _, _, hq, _⟩ := dd'; ⟨q, hq⟩
  exact LO I2 (by rw [e]; exact True.intro) hs he (YQ hz hd (rk.merge .nil) dd')
section
variable {X : Cx} {pins : List (Addr × Obj)} {σ : St} {H : Hp} {s : Shared} {a : Addr} {y d : V} {u r : Value} {o : Option V} {A : Around} {E : Value → Shared → Prop}
end
section
variable {X : Cx} {o e f : Expr} {apos cpos : Pos} {td ty tx : TE}
end
section
variable {X : Cx} {pins : List (Addr × Obj)} {σ : St} {H : Hp} {s : Shared} {a : Addr} {kvs : List (Key × V)} {A : Around} {E : Value → Shared → Prop}
end
section
variable {X : Cx} {pins : List (Addr × Obj)} {σ : St} {H : Hp} {s : Shared} {a : Addr} {y : V} {u : Value} {A : Around} {E : Value → Shared → Prop}
end
section
variable {X : Cx}
end
section
variable {κ : Type} [DecidableEq κ]
end
end L2
namespace L3
open PySem PySem.Spec PyProof.Rows L2
inductive D where
  | non | bl (b : Bool) | int (i : Int) | str (x : Str) | ty (n : String) | ref (a : Addr)
  | tup (xs : List D) | lst (xs : List D) | dct (kvs : List (Key × D))
inductive MO where
  | lst (xs : List D) | dct (kvs : List (Key × D)) | dt (kvs : List (List Int × D))
abbrev Mem := Addr → Option MO
def D4 (M : Mem) (a : Addr) (o : MO) : Mem := fun b => if b = a then some o else M b
def J0 (M : Mem) (a : Addr) : Mem := fun b => if b = a then none else M b
theorem A5 {M : Mem} {a : Addr} {o : MO} : D4 M a o a = some o := by unfold D4; rw [if_pos rfl]
theorem B2 {M : Mem} {a b : Addr} {o : MO} (h : b ≠ a) : D4 M a o b = M b := by unfold D4; rw [if_neg h]
theorem S7 {M : Mem} {a : Addr} {o u : MO} : D4 (D4 M a o) a u = D4 M a u := by
  funext b; unfold D4; split <;> rfl
def BD5 (K : PySem.W.Frag) (a : Addr) (xs : List V) : Prop :=
  ∃ (o : Obj) (its : Array Value) (n : Nat), K.lookup a = some o ∧ o.cls = .type "list" ∧ o.dict = none ∧ o.data = .seq its n ∧ its.size ≤ sizeLine ∧ Vals xs its.toList
def AI1 (K : PySem.W.Frag) (a : Addr) (xs : List V) : Prop :=
  ∃ (o : Obj) (its : Array Value) (n : Nat), K.lookup a = some o ∧ o.cls = .type "tuple" ∧ o.data = .seq its n ∧ its.size ≤ sizeLine ∧ Vals xs its.toList
def Fix (M : Mem) (H : Hp) (a : Addr) (o : HO) : Prop := Rd H a o ∧ M a = none
mutual
inductive Rep (K : PySem.W.Frag) (M : Mem) (H : Hp) : D → V → Prop
  | non : Rep K M H .non .non
  | bl {b : Bool} : Rep K M H (.bl b) (.bl b)
  | int {i : Int} : Rep K M H (.int i) (.int i)
  | str {x : Str} : Rep K M H (.str x) (.str x)
  | ty {n : String} : Rep K M H (.ty n) (.ty n)
  | ref {a : Addr} : Rep K M H (.ref a) (.ref a)
  | tup {a : Addr} {ds : List D} {vs : List V} : (Fix M H a (.tup vs) ∨ AI1 K a vs) → Reps K M H ds vs → Rep K M H (.tup ds) (.ref a)
  | lst {a : Addr} {ds : List D} {vs : List V} : (Fix M H a (.lst vs) ∨ BD5 K a vs) → Reps K M H ds vs → Rep K M H (.lst ds) (.ref a)
  | dct {a : Addr} {ds : List (Key × D)} {vs : List (Key × V)} : Fix M H a (.dK vs) → RepK K M H ds vs → Rep K M H (.dct ds) (.ref a)
inductive Reps (K : PySem.W.Frag) (M : Mem) (H : Hp) : List D → List V → Prop
  | nil : Reps K M H [] []
  | cons {d : D} {v : V} {ds : List D} {vs : List V} : Rep K M H d v → Reps K M H ds vs → Reps K M H (d :: ds) (v :: vs)
inductive RepK (K : PySem.W.Frag) (M : Mem) (H : Hp) : List (Key × D) → List (Key × V) → Prop
  | nil : RepK K M H [] []
  | cons {k : Key} {d : D} {v : V} {ds : List (Key × D)} {vs : List (Key × V)} : Rep K M H d v → RepK K M H ds vs → RepK K M H ((k, d) :: ds) ((k, v) :: vs)
end
def BL0 (x : List Int × Addr × Value) : DictEntry := ⟨reduceHash (Builtin.Tuple.tupleHashOf (x.1.map hashInt)), .ref x.2.1, x.2.2⟩
def dtφ (a : Addr) (xs : List (List Int × Addr × Value)) : Heap → Prop := fun h => (a == sysModules) = false ∧ ∃ o es ep, h.get? a = some o ∧ o.ExactDict ∧ o.data = .dict es ep ∧ es.toList = xs.map BL0 ∧ (xs.map (·.1)).Nodup
inductive RepT (K : PySem.W.Frag) (M : Mem) (H : Hp) : List (List Int × D) → List (List Int × Addr × Value) → Prop
  | nil : RepT K M H [] []
  | cons {k : List Int} {b : Addr} {d : D} {v : V} {u : Value} {ds : List (List Int × D)} {xs : List (List Int × Addr × Value)} : Rep K M H (.tup (k.map D.int)) (.ref b) → Rep K M H d v → RelV v u → RepT K M H ds xs → RepT K M H ((k, d) :: ds) ((k, b, u) :: xs)
def RepO (K : PySem.W.Frag) (M : Mem) (H : Hp) (a : Addr) : MO → HO → Prop
  | .lst ds, .lst vs => Reps K M H ds vs
  | .dct ds, .dK vs => RepK K M H ds vs
  | .dt ds, .ext φ => ∃ xs, φ = dtφ a xs ∧ RepT K M H ds xs
  | _, _ => False
def MRel (K : PySem.W.Frag) (M : Mem) (H : Hp) : Prop := ∀ a o, M a = some o → ∃ ho, H a = some ho ∧ RepO K M H a o ho
structure Step (M : Mem) (H : Hp) (M' : Mem) (H' : Hp) : Prop where
  keep : ∀ a o, H a = some o → M a = none → H' a = some o
  dom : ∀ a, M' a ≠ none → M a ≠ none ∨ H a = none
theorem Step.refl {M : Mem} {H : Hp} : Step M H M H := ⟨fun _ _ h _ => h, fun _ h => .inl h⟩
theorem Step.gone {M M' : Mem} {H H' : Hp} (s : Step M H M' H') {a : Addr} {o : HO} (h : H a = some o) (hm : M a = none) : M' a = none := by
  cases e : M' a with
  | none => rfl
  | some u =>
    rcases s.dom a (by rw [e]; intro z; cases z) with z | z
    · exact absurd hm z
    · rw [h] at z; cases z
theorem Step.trans {M M1 M2 : Mem} {H H1 H2 : Hp} (a : Step M H M1 H1) (b : Step M1 H1 M2 H2) : Step M H M2 H2 where
  keep := fun c o h hm => b.keep c o (a.keep c o h hm) (a.gone h hm)
  dom := fun c h => by
    rcases b.dom c h with z | z
    · exact a.dom c z
    · cases e : H c with
      | none => exact .inr rfl
      | some o =>
        refine .inl fun hm => ?_
        rw [a.keep c o e hm] at z; cases z
theorem Fix.mono {M M' : Mem} {H H' : Hp} {a : Addr} {o : HO} (s : Step M H M' H') (f : Fix M H a o) : Fix M' H' a o := by
  obtain ⟨r, hm⟩ := f
  rcases r with r | ⟨ob, r⟩
  · exact ⟨.inl (s.keep _ _ r hm), s.gone r hm⟩
  · exact ⟨.inr ⟨ob, s.keep _ _ r hm⟩, s.gone r hm⟩
section
variable {K : PySem.W.Frag} {M M' : Mem} {H H' : Hp}
theorem Rep.mono {d : D} {v : V} (s : Step M H M' H') (r : Rep K M H d v) : Rep K M' H' d v :=
  Rep.rec (motive_1 := fun d v _ => Rep K M' H' d v) (motive_2 := fun ds vs _ => Reps K M' H' ds vs) (motive_3 := fun ds vs _ => RepK K M' H' ds vs)
    .non .bl .int .str .ty .ref (fun h _ ih => .tup (h.imp (Fix.mono s) id) ih) (fun h _ ih => .lst (h.imp (Fix.mono s) id) ih) (fun h _ ih => .dct (h.mono s) ih)
    .nil (fun _ _ a b => .cons a b) .nil (fun _ _ a b => .cons a b) r
theorem Reps.mono {ds : List D} {vs : List V} (s : Step M H M' H') (r : Reps K M H ds vs) : Reps K M' H' ds vs := by
  induction ds generalizing vs with
  | nil => cases r; exact .nil
  | cons d ds ih => cases r with | cons a b => exact .cons (a.mono s) (ih b)
theorem RepK.mono {ds : List (Key × D)} {vs : List (Key × V)} (s : Step M H M' H') (r : RepK K M H ds vs) : RepK K M' H' ds vs := by
  induction ds generalizing vs with
  | nil => cases r; exact .nil
  | cons d ds ih => cases r with | cons a b => exact .cons (a.mono s) (ih b)
theorem RepT.mono {ds : List (List Int × D)} {xs : List (List Int × Addr × Value)} (s : Step M H M' H') (r : RepT K M H ds xs) : RepT K M' H' ds xs := by
  induction r with
  | nil => exact .nil
  | cons a b c _ ih => exact .cons (a.mono s) (b.mono s) c ih
theorem Reps.length {ds : List D} {vs : List V} (r : Reps K M H ds vs) : ds.length = vs.length := by
  induction ds generalizing vs with
  | nil => cases r; rfl
  | cons d ds ih => cases r with | cons a b => rw [List.length_cons, List.length_cons, ih b]
theorem Reps.get {ds : List D} {vs : List V} (r : Reps K M H ds vs) {i : Nat} {d : D} (h : ds[i]? = some d) : ∃ v, vs[i]? = some v ∧ Rep K M H d v := by
  induction ds generalizing vs i with
  | nil => simp at h
  | cons d' ds ih =>
    cases r with
    | cons a b =>
      cases i with
      | zero => simp at h; subst h; exact ⟨_, rfl, a⟩
      | succ i => simpa using ih b (by simpa using h)
theorem Reps.append {ds es : List D} {vs us : List V} (r : Reps K M H ds vs) (q : Reps K M H es us) : Reps K M H (ds ++ es) (vs ++ us) := by
  induction ds generalizing vs with
  | nil => cases r; exact q
  | cons d ds ih => cases r with | cons a b => exact .cons a (ih b)
theorem Reps.take {ds : List D} {vs : List V} (r : Reps K M H ds vs) (n : Nat) : Reps K M H (ds.take n) (vs.take n) := by
  induction ds generalizing vs n with
  | nil => cases r; simp; exact .nil
  | cons d ds ih => cases r with | cons a b => cases n with
    | zero => simp; exact .nil
    | succ n => simpa using Reps.cons a (ih b n)
theorem Reps.drop {ds : List D} {vs : List V} (r : Reps K M H ds vs) (n : Nat) : Reps K M H (ds.drop n) (vs.drop n) := by
  induction ds generalizing vs n with
  | nil => cases r; simp; exact .nil
  | cons d ds ih => cases r with | cons a b => cases n with
    | zero => exact .cons a b
    | succ n => simpa using ih b n
theorem Reps.ints {ns : List Int} : Reps K M H (ns.map D.int) (ns.map V.int) := by
  induction ns with
  | nil => exact .nil
  | cons n ns ih => exact .cons .int ih
theorem MRel.free (m : MRel K M H) {a : Addr} (h : H a = none) : M a = none := by
  cases e : M a with
  | none => rfl
  | some o => obtain ⟨ho, z, _⟩ := m a o e; rw [h] at z; cases z
end
abbrev Lo := List (Option D)
structure SRel (K : PySem.W.Frag) (M : Mem) (H : Hp) (σ : Lo) (σv : L2.St) : Prop where
  len : σ.length = σv.length
  get : ∀ (i : Nat) (d : D), σ[i]? = some (some d) → ∃ v, σv[i]? = some (some v) ∧ Rep K M H d v
theorem SRel.mono {K : PySem.W.Frag} {M M' : Mem} {H H' : Hp} {σ : Lo} {σv : L2.St} (s : Step M H M' H') (r : SRel K M H σ σv) : SRel K M' H' σ σv :=
  ⟨r.len, fun i d h => let ⟨v, e, q⟩ := r.get i d h; ⟨v, e, q.mono s⟩⟩
theorem SRel.set {K : PySem.W.Frag} {M : Mem} {H : Hp} {σ : Lo} {σv : L2.St} (r : SRel K M H σ σv) {d : D} {v : V} (q : Rep K M H d v) (i : Nat) : SRel K M H (σ.set i (some d)) (σv.set i (some v)) := by
  refine ⟨by simp [r.len], fun j e h => ?_⟩
  rw [List.getElem?_set] at h
  rw [List.getElem?_set, ← r.len]
  by_cases hij : i = j
  · rw [if_pos hij] at h ⊢
    by_cases hl : j < σ.length
    · rw [hij, if_pos hl] at h
      rw [hij, if_pos hl]
      cases h
      exact ⟨v, rfl, q⟩
    · rw [hij, if_neg hl] at h; cases h
  · rw [if_neg hij] at h ⊢
    exact r.get j e h
abbrev DK := D → Mem → Prop
abbrev TE3 := Lo → Mem → DK → Prop
abbrev TT3 := Lo → Mem → (Bool → Mem → Prop) → Prop
abbrev TA3 := Lo → Mem → (List D → Mem → Prop) → Prop
structure R5 where
  nx : Lo → Mem → Prop
  rt : DK
  bk : Lo → Mem → Prop := fun _ _ => False
  ct : Lo → Mem → Prop := fun _ _ => False
abbrev TS3 := R5 → Lo → Mem → Prop
def EP3 (X : Cx) (pins : List (Addr × Obj)) (σv : L2.St) (M : Mem) (H : Hp) (Q : DK) (u : Value) (s' : Shared) : Prop :=
  ∃ d v M' H', Inv X pins σv H' s' ∧ Step M H M' H' ∧ MRel X.K M' H' ∧ RelV v u ∧ Rep X.K M' H' d v ∧ Q d M'
def TP3 (X : Cx) (pins : List (Addr × Obj)) (σv : L2.St) (M : Mem) (H : Hp) (Q : Bool → Mem → Prop) (b : Bool) (s' : Shared) : Prop :=
  ∃ M' H', Inv X pins σv H' s' ∧ Step M H M' H' ∧ MRel X.K M' H' ∧ Q b M'
def AP3 (X : Cx) (pins : List (Addr × Obj)) (σv : L2.St) (M : Mem) (H : Hp) (Q : List D → Mem → Prop) (us : List Value) (s' : Shared) : Prop :=
  ∃ ds vs M' H', Inv X pins σv H' s' ∧ Step M H M' H' ∧ MRel X.K M' H' ∧ Vals vs us ∧ Reps X.K M' H' ds vs ∧ Q ds M'
def SP3 (X : Cx) (pins : List (Addr × Obj)) (M : Mem) (H : Hp) (T : R5) (f : Flow) (s' : Shared) : Prop :=
  match f with
  | .next => ∃ σ' σv' M' H', Inv X pins σv' H' s' ∧ Step M H M' H' ∧ MRel X.K M' H' ∧ SRel X.K M' H' σ' σv' ∧ T.nx σ' M'
  | .brk => ∃ σ' σv' M' H', Inv X pins σv' H' s' ∧ Step M H M' H' ∧ MRel X.K M' H' ∧ SRel X.K M' H' σ' σv' ∧ T.bk σ' M'
  | .cont => ∃ σ' σv' M' H', Inv X pins σv' H' s' ∧ Step M H M' H' ∧ MRel X.K M' H' ∧ SRel X.K M' H' σ' σv' ∧ T.ct σ' M'
  | .ret u => ∃ d v σv' M' H', Inv X pins σv' H' s' ∧ Step M H M' H' ∧ MRel X.K M' H' ∧ RelV v u ∧ Rep X.K M' H' d v ∧ T.rt d M'
def PE3 (X : Cx) (e : Expr) (t : TE3) : Prop :=
  ∀ (pins : List (Addr × Obj)) (s : Shared) (σv : L2.St) (H : Hp) (σ : Lo) (M : Mem) (Q : DK), Inv X pins σv H s → SRel X.K M H σ σv → MRel X.K M H → t σ M Q →
    wpAny (model X.prog X.w) X.A (eval e X.env) (EP3 X pins σv M H Q) X.xe s
def PT3 (X : Cx) (e : Expr) (t : TT3) : Prop :=
  ∀ (pins : List (Addr × Obj)) (s : Shared) (σv : L2.St) (H : Hp) (σ : Lo) (M : Mem) (Q : Bool → Mem → Prop), Inv X pins σv H s → SRel X.K M H σ σv → MRel X.K M H → t σ M Q →
    wpAny (model X.prog X.w) X.A (isTrue e X.env (eval e X.env)) (TP3 X pins σv M H Q) X.xe s
def PA3 (X : Cx) (es : List Expr) (t : TA3) : Prop :=
  ∀ (pos : Pos) (pins : List (Addr × Obj)) (s : Shared) (σv : L2.St) (H : Hp) (σ : Lo) (M : Mem) (Q : List D → Mem → Prop), Inv X pins σv H s → SRel X.K M H σ σv → MRel X.K M H → t σ M Q →
    wpAny (model X.prog X.w) X.A (spliced (backTo pos (starEach es X.env))) (AP3 X pins σv M H Q) X.xe s
def PS3 (X : Cx) (st : Stmt) (t : TS3) : Prop :=
  ∀ (pins : List (Addr × Obj)) (s : Shared) (σv : L2.St) (H : Hp) (σ : Lo) (M : Mem) (T : R5), Inv X pins σv H s → SRel X.K M H σ σv → MRel X.K M H → t T σ M →
    wpAny (model X.prog X.w) X.A (exec st X.env) (SP3 X pins M H T) X.xe s
def PSs3 (X : Cx) (st : List Stmt) (t : TS3) : Prop :=
  ∀ (pins : List (Addr × Obj)) (s : Shared) (σv : L2.St) (H : Hp) (σ : Lo) (M : Mem) (T : R5), Inv X pins σv H s → SRel X.K M H σ σv → MRel X.K M H → t T σ M →
    wpAny (model X.prog X.w) X.A (execs st X.env) (SP3 X pins M H T) X.xe s
def dnE (K : PySem.W.Frag) (t : TE3) : TE := fun σv H Q2 => ∃ σ M Q, SRel K M H σ σv ∧ MRel K M H ∧ t σ M Q ∧ ∀ d v M' H', Step M H M' H' → MRel K M' H' → Rep K M' H' d v → Q d M' → Q2 v H'
def dnT (K : PySem.W.Frag) (t : TT3) : TT := fun σv H Q2 => ∃ σ M Q, SRel K M H σ σv ∧ MRel K M H ∧ t σ M Q ∧ ∀ b M' H', Step M H M' H' → MRel K M' H' → Q b M' → Q2 b H'
def dnA (K : PySem.W.Frag) (t : TA3) : TA := fun σv H Q2 => ∃ σ M Q, SRel K M H σ σv ∧ MRel K M H ∧ t σ M Q ∧ ∀ ds vs M' H', Step M H M' H' → MRel K M' H' → Reps K M' H' ds vs → Q ds M' → Q2 vs H'
structure AD5 (K : PySem.W.Frag) (M : Mem) (H : Hp) (T : R5) (D2 : Ends) : Prop where
  nx : ∀ σ' σv' M' H', Step M H M' H' → MRel K M' H' → SRel K M' H' σ' σv' → T.nx σ' M' → D2.nx σv' H'
  bk : ∀ σ' σv' M' H', Step M H M' H' → MRel K M' H' → SRel K M' H' σ' σv' → T.bk σ' M' → D2.bk σv' H'
  ct : ∀ σ' σv' M' H', Step M H M' H' → MRel K M' H' → SRel K M' H' σ' σv' → T.ct σ' M' → D2.ct σv' H'
  rt : ∀ d v M' H', Step M H M' H' → MRel K M' H' → Rep K M' H' d v → T.rt d M' → D2.rt v H'
def dnS (K : PySem.W.Frag) (t : TS3) : TS := fun D2 σv H => ∃ σ M T, SRel K M H σ σv ∧ MRel K M H ∧ t T σ M ∧ AD5 K M H T D2
section
variable {X : Cx} {e : Expr} {es : List Expr} {st : Stmt} {sts : List Stmt}
theorem PE3.dn {t : TE3} (h : PE3 X e t) : PE X e (dnE X.K t) := by
  rintro pins s σv H Q2 I ⟨σ, M, Q, hS, hM, ht, hq⟩
  exact thn (h pins s σv H σ M Q I hS hM ht) fun u s' ⟨d, v, M', H', I', st, m', r, rep, q⟩ => ⟨v, H', I', r, hq d v M' H' st m' rep q⟩
theorem PT3.dn {t : TT3} (h : PT3 X e t) : PT X e (dnT X.K t) := by
  rintro pins s σv H Q2 I ⟨σ, M, Q, hS, hM, ht, hq⟩
  exact thn (h pins s σv H σ M Q I hS hM ht) fun u s' ⟨M', H', I', st, m', q⟩ => ⟨H', I', hq u M' H' st m' q⟩
theorem PA3.dn {t : TA3} (h : PA3 X es t) : PA X es (dnA X.K t) := by
  rintro pos pins s σv H Q2 I ⟨σ, M, Q, hS, hM, ht, hq⟩
  exact thn (h pos pins s σv H σ M Q I hS hM ht) fun u s' ⟨d, v, M', H', I', st, m', r, rep, q⟩ => ⟨v, H', I', r, hq d v M' H' st m' rep q⟩
theorem BB0 {pins : List (Addr × Obj)} {M : Mem} {H : Hp} {T : R5} {D2 : Ends} (h : AD5 X.K M H T D2) {f : Flow} {s' : Shared} (q : SP3 X pins M H T f s') : SP X pins D2 f s' := by
  cases f with
  | next => obtain ⟨σ', σv', M', H', I, st, m, r, q⟩ := q; exact ⟨σv', H', I, h.nx _ _ _ _ st m r q⟩
  | brk => obtain ⟨σ', σv', M', H', I, st, m, r, q⟩ := q; exact ⟨σv', H', I, h.bk _ _ _ _ st m r q⟩
  | cont => obtain ⟨σ', σv', M', H', I, st, m, r, q⟩ := q; exact ⟨σv', H', I, h.ct _ _ _ _ st m r q⟩
  | ret u => obtain ⟨d, v, σv', M', H', I, st, m, rv, r, q⟩ := q; exact ⟨v, σv', H', I, rv, h.rt _ _ _ _ st m r q⟩
theorem PSs3.dn {t : TS3} (h : PSs3 X sts t) : PSs X sts (dnS X.K t) := by
  rintro pins s σv H D2 I ⟨σ, M, T, hS, hM, ht, hq⟩
  exact thn (h pins s σv H σ M T I hS hM ht) fun f s' q => BB0 hq q
abbrev Up (K : PySem.W.Frag) (M : Mem) (H : Hp) (Q : DK) : VK := fun v H' => ∃ d M', Step M H M' H' ∧ MRel K M' H' ∧ Rep K M' H' d v ∧ Q d M'
theorem PE3.of {t : TE3} {t2 : TE} (h : PE X e t2) (hr : ∀ pins s σv H σ M Q, Inv X pins σv H s → SRel X.K M H σ σv → MRel X.K M H → t σ M Q → t2 σv H (Up X.K M H Q)) : PE3 X e t := by
  intro pins s σv H σ M Q I hS hM ht
  exact thn (h pins s σv H _ I (hr pins s σv H σ M Q I hS hM ht)) fun u s' ⟨v, H', I', r, d, M', st, m', rep, q⟩ => ⟨d, v, M', H', I', st, m', r, rep, q⟩
abbrev UpE (K : PySem.W.Frag) (M : Mem) (H : Hp) (T : R5) : Ends where
  nx := fun σv' H' => ∃ σ' M', Step M H M' H' ∧ MRel K M' H' ∧ SRel K M' H' σ' σv' ∧ T.nx σ' M'
  rt := fun v H' => ∃ d M', Step M H M' H' ∧ MRel K M' H' ∧ Rep K M' H' d v ∧ T.rt d M'
  bk := fun σv' H' => ∃ σ' M', Step M H M' H' ∧ MRel K M' H' ∧ SRel K M' H' σ' σv' ∧ T.bk σ' M'
  ct := fun σv' H' => ∃ σ' M', Step M H M' H' ∧ MRel K M' H' ∧ SRel K M' H' σ' σv' ∧ T.ct σ' M'
theorem PS3.of {t : TS3} {t2 : TS} (h : PS X st t2) (hr : ∀ pins s σv H σ M T, Inv X pins σv H s → SRel X.K M H σ σv → MRel X.K M H → t T σ M → t2 (UpE X.K M H T) σv H) : PS3 X st t := by
  intro pins s σv H σ M T I hS hM ht
  refine thn (h pins s σv H _ I (hr pins s σv H σ M T I hS hM ht)) fun f s' q => ?_
  cases f with
  | next => obtain ⟨σv', H', I, σ', M', st, m, r, q⟩ := q; exact ⟨σ', σv', M', H', I, st, m, r, q⟩
  | brk => obtain ⟨σv', H', I, σ', M', st, m, r, q⟩ := q; exact ⟨σ', σv', M', H', I, st, m, r, q⟩
  | cont => obtain ⟨σv', H', I, σ', M', st, m, r, q⟩ := q; exact ⟨σ', σv', M', H', I, st, m, r, q⟩
  | ret u => obtain ⟨v, σv', H', I, rv, d, M', st, m, r, q⟩ := q; exact ⟨d, v, σv', M', H', I, st, m, rv, r, q⟩
end
section
variable {K : PySem.W.Frag} {M : Mem} {H : Hp} {p : Addr} {ho : HO} {o : MO}
theorem Step.lay (hp : H p = none) : Step M H M (upd H p ho) :=
  ⟨fun a u h _ => by rw [D1 (E7 h hp)]; exact h, fun _ h => .inl h⟩
theorem MRel.lay (m : MRel K M H) (hp : H p = none) : MRel K M (upd H p ho) := fun a u e => by
  obtain ⟨hu, e1, r⟩ := m a u e
  refine ⟨hu, by rw [D1 (E7 e1 hp)]; exact e1, ?_⟩
  cases u <;> cases hu <;> first | exact r.elim | exact Reps.mono (Step.lay hp) r | exact RepK.mono (Step.lay hp) r | (obtain ⟨xs, e, r⟩ := r; exact ⟨xs, e, r.mono (Step.lay hp)⟩)
theorem Step.put (h : H p = none ∨ M p ≠ none) : Step M H (D4 M p o) (upd H p ho) := by
  refine ⟨fun a u e hm => ?_, fun a e => ?_⟩
  · have : a ≠ p := by
      rintro rfl
      rcases h with h | h
      · rw [h] at e; cases e
      · exact h hm
    rw [D1 this]; exact e
  · by_cases ha : a = p
    · subst ha; exact h.elim .inr .inl
    · rw [B2 ha] at e; exact .inl e
theorem RepO.mono {M' : Mem} {H' : Hp} (s : Step M H M' H') (r : RepO K M H p o ho) : RepO K M' H' p o ho := by
  cases o <;> cases ho <;> first | exact r.elim | exact Reps.mono s r | exact RepK.mono s r | (obtain ⟨xs, e, r⟩ := r; exact ⟨xs, e, r.mono s⟩)
theorem MRel.put (m : MRel K M H) (h : H p = none ∨ M p ≠ none) (r : RepO K M H p o ho) : MRel K (D4 M p o) (upd H p ho) := fun a u e => by
  by_cases ha : a = p
  · subst ha
    rw [A5] at e; cases e
    exact ⟨ho, D5, r.mono (Step.put h)⟩
  · rw [B2 ha] at e
    obtain ⟨hu, e1, r1⟩ := m a u e
    exact ⟨hu, by rw [D1 ha]; exact e1, r1.mono (Step.put h)⟩
end
mutual
def pyD : D → PyData
  | .non => .none | .bl b => .bool b | .int i => .int i | .str x => .str x
  | .tup xs => .tuple (K7 xs) | .lst xs => .list (K7 xs)
  | .dct _ => .none | .ty _ => .none | .ref _ => .none
def K7 : List D → List PyData
  | [] => [] | d :: ds => pyD d :: K7 ds
end
mutual
def plain : D → Bool
  | .non | .bl _ | .int _ | .str _ => true
  | .tup xs | .lst xs => L8 xs
  | .dct _ | .ty _ | .ref _ => false
def L8 : List D → Bool
  | [] => true | d :: ds => plain d && L8 ds
end
section
variable {X : Cx} {pins : List (Addr × Obj)} {σv : L2.St} {M : Mem} {H : Hp} {s : Shared}
theorem SqT.of3 {K : PySem.W.Frag} {a : Addr} {vs : List V} (h : Fix M H a (.tup vs) ∨ AI1 K a vs) : SqT K H a vs := h.imp (·.1) id
theorem SqL.of3 {K : PySem.W.Frag} {a : Addr} {vs : List V} (h : Fix M H a (.lst vs) ∨ BD5 K a vs) : SqL K H a vs := h.imp (·.1) id
mutual
theorem EO (I : Inv X pins σv H s) (d : D) {v : V} {u : Value} (hp : plain d = true) (p : Rep X.K M H d v) (r : RelV v u) : ∃ as, Reads s.heap u (pyD d) as := by
  cases d with
  | non => cases p; cases r; exact ⟨[], .none⟩
  | bl b => cases p; cases r; exact ⟨[], .bool b⟩
  | int i => cases p; obtain ⟨t, rfl⟩ := r; exact ⟨[], .int i t⟩
  | str x => cases p; obtain ⟨t, rfl⟩ := r; exact ⟨[], .str x t⟩
  | tup xs =>
    cases p with
    | tup h q =>
    cases r
    obtain ⟨its, rv, ⟨o, e1, e2, n, e3⟩, _⟩ := I.tuple (SqT.of3 h)
    obtain ⟨as, ra⟩ := Y6 I xs (by simpa [plain] using hp) q rv
    exact ⟨as, by rw [pyD]; exact .tuple e1 e2 e3 (by simpa using ra)⟩
  | lst xs =>
    cases p with
    | @lst a _ _ h q =>
    cases r
    obtain ⟨its, rv, ⟨o, n, e1, e2, _, e3⟩, _⟩ := I.list (SqL.of3 h)
    obtain ⟨as, ra⟩ := Y6 I xs (by simpa [plain] using hp) q rv
    exact ⟨a :: as, by rw [pyD]; exact .list e1 e2 e3 (by simpa using ra)⟩
  | dct _ => cases hp
  | ty _ => cases hp
  | ref _ => cases hp
theorem Y6 (I : Inv X pins σv H s) (ds : List D) {vs : List V} {us : List Value} (hp : L8 ds = true) (p : Reps X.K M H ds vs) (r : Vals vs us) : ∃ as, ReadsAll s.heap us (K7 ds) as := by
  cases ds with
  | nil => cases p; cases r; exact ⟨[], .nil⟩
  | cons d ds =>
    cases p with
    | cons q qs =>
    cases r with
    | cons r rs =>
      have hp' : plain d = true ∧ L8 ds = true := by simpa [L8] using hp
      obtain ⟨as, h1⟩ := EO I d hp'.1 q r
      obtain ⟨bs, h2⟩ := Y6 I ds hp'.2 qs rs
      exact ⟨as ++ bs, by rw [K7]; exact .cons h1 h2⟩
end
end
theorem P0 {X : Cx} {pins : List (Addr × Obj)} {σv : L2.St} {M : Mem} {H : Hp} {s : Shared} (I : Inv X pins σv H s) {d : D} {v : V} {u : Value} (hp : plain d = true) (p : Rep X.K M H d v) (r : RelV v u) : ∃ as, Reads s.heap u (pyD d) as := EO I d hp p r
abbrev R3 := D → D → Mem → DK → Prop
abbrev U3 := D → Mem → DK → Prop
abbrev C3 := List D → Mem → DK → Prop
def OpR3 (X : Cx) (f : Value → Value → Sem Value) (r : R3) : Prop :=
  ∀ (pins : List (Addr × Obj)) (s : Shared) (σv : L2.St) (H : Hp) (M : Mem) (x y : D) (xv yv : V) (v u : Value) (Q : DK), Inv X pins σv H s → MRel X.K M H → RelV xv v → RelV yv u → Rep X.K M H x xv → Rep X.K M H y yv → r x y M Q →
    wpAny (model X.prog X.w) X.A (f v u) (EP3 X pins σv M H Q) X.xe s
def UnR3 (X : Cx) (f : Value → Sem Value) (r : U3) : Prop :=
  ∀ (pins : List (Addr × Obj)) (s : Shared) (σv : L2.St) (H : Hp) (M : Mem) (x : D) (xv : V) (v : Value) (Q : DK), Inv X pins σv H s → MRel X.K M H → RelV xv v → Rep X.K M H x xv → r x M Q →
    wpAny (model X.prog X.w) X.A (f v) (EP3 X pins σv M H Q) X.xe s
def CallR3 (X : Cx) (f : Value) (r : C3) : Prop :=
  ∀ (pins : List (Addr × Obj)) (s : Shared) (σv : L2.St) (H : Hp) (M : Mem) (xs : List D) (xvs : List V) (us : List Value) (Q : DK), Inv X pins σv H s → MRel X.K M H → Vals xvs us → Reps X.K M H xs xvs → r xs M Q →
    wpAny (model X.prog X.w) X.A (call f us) (EP3 X pins σv M H Q) X.xe s
section
variable {X : Cx}
theorem S8 {pins : List (Addr × Obj)} {σv : L2.St} {M : Mem} {H : Hp} {Q : DK} {u : Value} {s' : Shared} (h : EP X pins σv (Up X.K M H Q) u s') : EP3 X pins σv M H Q u s' := by
  obtain ⟨v, H', I', r, d, M', st, m', rep, q⟩ := h
  exact ⟨d, v, M', H', I', st, m', r, rep, q⟩
theorem OpR3.of {f : Value → Value → Sem Value} {r : R2} {r3 : R3} (h : OpR X f r)
    (hr : ∀ (H : Hp) (M : Mem) (x y : D) (xv yv : V) (Q : DK), MRel X.K M H → Rep X.K M H x xv → Rep X.K M H y yv → r3 x y M Q → r xv yv H (Up X.K M H Q)) : OpR3 X f r3 :=
  fun pins s σv H M x y xv yv v u Q I m rx ry px py q => thn (h pins s σv H xv yv v u _ I rx ry (hr H M x y xv yv Q m px py q)) fun _ _ z => S8 z
theorem UnR3.of {f : Value → Sem Value} {r : V → Hp → VK → Prop} {r3 : U3} (h : UnR X f r)
    (hr : ∀ (H : Hp) (M : Mem) (x : D) (xv : V) (Q : DK), MRel X.K M H → Rep X.K M H x xv → r3 x M Q → r xv H (Up X.K M H Q)) : UnR3 X f r3 :=
  fun pins s σv H M x xv v Q I m rx px q => thn (h pins s σv H xv v _ I rx (hr H M x xv Q m px q)) fun _ _ z => S8 z
theorem CallR3.of {f : Value} {r : List V → Hp → VK → Prop} {r3 : C3} (h : CallR X f r)
    (hr : ∀ (H : Hp) (M : Mem) (xs : List D) (xvs : List V) (Q : DK), MRel X.K M H → Reps X.K M H xs xvs → r3 xs M Q → r xvs H (Up X.K M H Q)) : CallR3 X f r3 :=
  fun pins s σv H M xs xvs us Q I m rv px q => thn (h pins s σv H xvs us _ I rv (hr H M xs xvs Q m px q)) fun _ _ z => S8 z
theorem up0 {K : PySem.W.Frag} {M : Mem} {H : Hp} {Q : DK} {d : D} {v : V} (m : MRel K M H) (r : Rep K M H d v) (q : Q d M) : Up K M H Q v H := ⟨d, M, .refl, m, r, q⟩
def A4 (r : R3) (ta tb : TE3) : TE3 := fun σ M Q => ta σ M fun x M1 => tb σ M1 fun y M2 => r x y M2 Q
def WU (r : U3) (ta : TE3) : TE3 := fun σ M Q => ta σ M fun x M1 => r x M1 Q
variable {a b c e : Expr} {es : List Expr} {ta tb tc te : TE3} {t : TA3} {pos : Pos}
theorem EP3.trans {pins : List (Addr × Obj)} {σv : L2.St} {M M1 : Mem} {H H1 : Hp} {Q : DK} {u : Value} {s' : Shared} (st : Step M H M1 H1) (h : EP3 X pins σv M1 H1 Q u s') : EP3 X pins σv M H Q u s' := by
  obtain ⟨d, v, M', H', I', st', m', r, rep, q⟩ := h
  exact ⟨d, v, M', H', I', st.trans st', m', r, rep, q⟩
theorem AT2 (ha : PE3 X a ta) (hb : PE3 X b tb) {f : Value → Value → Sem Value} {r : R3} (ho : OpR3 X f r) {pins : List (Addr × Obj)} {s : Shared} {σv : L2.St} {H : Hp} {σ : Lo} {M : Mem} {Q : DK}
    (I : Inv X pins σv H s) (hS : SRel X.K M H σ σv) (hM : MRel X.K M H) (h : A4 r ta tb σ M Q) :
    wpAny (model X.prog X.w) X.A (eval a X.env) (fun v s₁ => wpAny (model X.prog X.w) X.A (eval b X.env) (fun u s₂ => wpAny (model X.prog X.w) X.A (f v u) (EP3 X pins σv M H Q) X.xe s₂) X.xe s₁) X.xe s := by
  refine thn (ha pins s σv H σ M _ I hS hM h) fun v s1 hx0 => ?_
  obtain ⟨x, xv, M1, H1, I1, st1, m1, rv1, p1, q1⟩ := hx0
  refine thn (hb pins s1 σv H1 σ M1 _ I1 (hS.mono st1) m1 q1) fun u s2 hx0 => ?_
  obtain ⟨y, yv, M2, H2, I2, st2, m2, rv2, p2, q2⟩ := hx0
  exact thn (ho pins s2 σv H2 M2 x y xv yv v u Q I2 m2 rv1 rv2 (p1.mono st2) p2 q2) fun _ _ z => z.trans (st1.trans st2)
theorem AW7 {op : Operator} {r : R3} (ho : OpR3 X (binaryOp op) r) (ha : PE3 X a ta) (hb : PE3 X b tb) : PE3 X (.BinOp a op b pos) (A4 r ta tb) :=
  fun pins s σv H σ M Q I hS hM h => wpAny_BinOp (AT2 ha hb ho I hS hM h)
theorem AB8 {op : UnaryOp} {r : U3} (ho : UnR3 X (unaryOp op) r) (ha : PE3 X a ta) : PE3 X (.UnaryOp op a pos) (WU r ta) :=
  fun pins s σv H σ M Q I hS hM h => UnaryOp_ (thn (ha pins s σv H σ M _ I hS hM h) fun v s1 ⟨x, xv, M1, H1, I1, st1, m1, rv1, p1, q1⟩ =>
    thn (ho pins s1 σv H1 M1 x xv v Q I1 m1 rv1 p1 q1) fun _ _ z => z.trans st1)
theorem AK5 {op : CmpOp} {r : R3} (ho : OpR3 X (compareOp op) r) (ha : PE3 X a ta) (hb : PE3 X b tb) (hm : behindInMarks op b = false) : PE3 X (.Compare a [op] [b] pos) (A4 r ta tb) :=
  fun pins s σv H σ M Q I hS hM h => wpAny_Compare1 (AT2 ha hb ho I hS hM h) hm
def B6 (t : TE3) : TT3 := fun σ M Q => t σ M fun x M' => ∃ k, x = .bl k ∧ Q k M'
theorem AK7 {op : CmpOp} {r : R3} (ho : OpR3 X (compareOp op) r) (ha : PE3 X a ta) (hb : PE3 X b tb) (hm : behindInMarks op b = false) : PT3 X (.Compare a [op] [b] pos) (B6 (A4 r ta tb)) := by
  intro pins s σv H σ M Q I hS hM h
  refine wpAny_isTrue_Compare1 (thn (AT2 (Q := fun x M' => ∃ k, x = .bl k ∧ Q k M') ha hb ho I hS hM h) fun v s1 h1 => thn h1 fun u s2 h2 => thn h2 fun d s3 ⟨x, xv, M1, H1, I1, st1, m1, rv1, p1, k, e, q1⟩ => ?_) hm
  subst e
  cases p1
  cases rv1
  exact wpAny_truthy_bool ⟨M1, H1, I1, st1, m1, q1⟩
def PW3 (X : Cx) (e : Expr) (t : TT3) : Prop :=
  ∀ (whole : Sem Value) (pins : List (Addr × Obj)) (s : Shared) (σv : L2.St) (H : Hp) (σ : Lo) (M : Mem) (Q : Bool → Mem → Prop), Inv X pins σv H s → SRel X.K M H σ σv → MRel X.K M H → t σ M Q →
    wpAny (model X.prog X.w) X.A (isTrue e X.env whole) (TP3 X pins σv M H Q) X.xe s
theorem PW3.pt {t : TT3} (h : PW3 X e t) : PT3 X e t := h _
variable {tA tB' : TT3} {rest : List Expr}
def FK (t u : TT3) : TT3 := fun σ M Q => t σ M fun c M1 => if c = true then u σ M1 Q else Q false M1
def LT (t u : TT3) : TT3 := fun σ M Q => t σ M fun c M1 => if c = true then Q true M1 else u σ M1 Q
theorem TP3.trans {pins : List (Addr × Obj)} {σv : L2.St} {M M1 : Mem} {H H1 : Hp} {Q : Bool → Mem → Prop} {u : Bool} {s' : Shared} (st : Step M H M1 H1) (h : TP3 X pins σv M1 H1 Q u s') : TP3 X pins σv M H Q u s' := by
  obtain ⟨M', H', I', st', m', q⟩ := h
  exact ⟨M', H', I', st.trans st', m', q⟩
theorem YI (ha : PT3 X a tA) : PW3 X (.BoolOp .And [a] pos) tA := by
  intro wh pins s σv H σ M Q I hS hM h
  refine isTrue_and (thn (ha pins s σv H σ M Q I hS hM h) fun c s1 e => ?_)
  cases c with
  | true => exact isTrue_and_nil e
  | false => exact e
theorem AN5 (ha : PT3 X a tA) : PW3 X (.BoolOp .Or [a] pos) tA := by
  intro wh pins s σv H σ M Q I hS hM h
  refine isTrue_or (thn (ha pins s σv H σ M Q I hS hM h) fun c s1 e => ?_)
  cases c with
  | false => exact isTrue_or_nil e
  | true => exact e
theorem JS (ha : PT3 X a tA) (hb : PW3 X (.BoolOp .And (b :: rest) pos) tB') : PW3 X (.BoolOp .And (a :: b :: rest) pos) (FK tA tB') := by
  intro wh pins s σv H σ M Q I hS hM h
  refine isTrue_and (thn (ha pins s σv H σ M _ I hS hM h) fun c s1 ⟨M1, H1, I1, st1, m1, q1⟩ => ?_)
  cases c with
  | true => exact thn (hb wh pins s1 σv H1 σ M1 Q I1 (hS.mono st1) m1 q1) fun _ _ z => z.trans st1
  | false => exact ⟨M1, H1, I1, st1, m1, q1⟩
theorem AY3 (ha : PT3 X a tA) (hb : PW3 X (.BoolOp .Or (b :: rest) pos) tB') : PW3 X (.BoolOp .Or (a :: b :: rest) pos) (LT tA tB') := by
  intro wh pins s σv H σ M Q I hS hM h
  refine isTrue_or (thn (ha pins s σv H σ M _ I hS hM h) fun c s1 ⟨M1, H1, I1, st1, m1, q1⟩ => ?_)
  cases c with
  | false => exact thn (hb wh pins s1 σv H1 σ M1 Q I1 (hS.mono st1) m1 q1) fun _ _ z => z.trans st1
  | true => exact ⟨M1, H1, I1, st1, m1, q1⟩
def AA1 (ta tb : TE3) : TE3 := fun σ M Q => ta σ M fun x M1 => ∃ c, x = .bl c ∧ if c = true then Q (.bl true) M1 else tb σ M1 Q
theorem AH3 {op} (h : PE3 X a ta) : PE3 X (.BoolOp op [a] pos) ta := fun pins s σv H σ M Q I hS hM hw => BoolOp_one (h pins s σv H σ M Q I hS hM hw)
theorem AR4 (ha : PE3 X a ta) (hb : PE3 X (.BoolOp .Or (b :: rest) pos) tb) : PE3 X (.BoolOp .Or (a :: b :: rest) pos) (AA1 ta tb) := by
  intro pins s σv H σ M Q I hS hM h
  refine BoolOp_or (thn (ha pins s σv H σ M _ I hS hM h) fun v s1 ⟨x, xv, M1, H1, I1, st1, m1, rv1, p1, c, e, q1⟩ => ?_)
  subst e
  cases p1
  cases rv1
  refine wpAny_truthy_bool ?_
  cases c with
  | false => exact thn (hb pins s1 σv H1 σ M1 Q I1 (hS.mono st1) m1 q1) fun _ _ z => z.trans st1
  | true => exact ⟨.bl true, .bl true, M1, H1, I1, st1, m1, rfl, .bl, q1⟩
def A1 (i : Nat) : TE3 := fun σ M Q => match σ[i]? with
  | some (some d) => Q d M
  | _ => False
def tC3 (d : D) : TE3 := fun _ M Q => Q d M
theorem AN3 {i : Nat} (h : PE X e (BB2 i)) : PE3 X e (A1 i) := PE3.of h fun pins s σv H σ M Q I hS hM q => by
  unfold A1 at q
  cases e : σ[i]? with
  | none => rw [e] at q; exact q.elim
  | some od =>
    rw [e] at q
    cases od with
    | none => exact q.elim
    | some d =>
      obtain ⟨v, hv, r⟩ := hS.get i d e
      exact ⟨v, hv, up0 hM r q⟩
theorem pv3 (i : Nat) {x : Str} {pos : Pos} (hN : X.N[i]? = some x := by rfl) (hv : Vis X.env.scope x := by first | exact Or.inl rfl | exact Or.inr (Or.inl rfl) | exact Or.inr (Or.inr rfl)) (hd : (x == ("__debug__" : Str)) = false := by decide)
    (hcd : (x == ("__classdict__" : Str)) = false := by decide) : PE3 X (.Name x pos) (A1 i) := AN3 (AV4 hN hv hd hcd)
theorem AB1 {v : V} {d : D} (h : PE X e (tC v)) (hr : ∀ K M H, Rep K M H d v) : PE3 X e (tC3 d) := PE3.of h fun pins s σv H σ M Q I hS hM q => up0 hM (hr _ _ _) q
theorem AJ4 {i j pos} : PE3 X (.Constant (.int i) j pos) (tC3 (.int i)) := AB1 AQ8 fun _ _ _ => .int
theorem AB5 {b j pos} : PE3 X (.Constant (.bool b) j pos) (tC3 (.bl b)) := AB1 BC7 fun _ _ _ => .bl
theorem SF {x j pos} : PE3 X (.Constant (.str x) j pos) (tC3 (.str x)) := AB1 AW8 fun _ _ _ => .str
theorem AA6 {x : Str} {d : D} {v : V} {u : Value} {pos : Pos} (hg : Gl X x) (hm : X.mg x = some u) (r : RelV v u) (hr : ∀ M H, Rep X.K M H d v) (hd : (x == ("__debug__" : Str)) = false := by decide) : PE3 X (.Name x pos) (tC3 d) :=
  PE3.of (AN0 hg hm r hd) fun pins s σv H σ M Q I hS hM q => up0 hM (hr _ _) q
def A2 : TA3 := fun _ M Q => Q [] M
def A0 (ta : TE3) (tr : TA3) : TA3 := fun σ M Q => ta σ M fun x M1 => tr σ M1 fun xs M2 => Q (x :: xs) M2
theorem AK3 : PA3 X [] A2 := fun pos pins s σv H σ M Q I hS hM h => Calls.spliced_nil ⟨[], [], M, H, I, .refl, hM, .nil, .nil, h⟩
theorem ZF (ha : PE3 X e te) (hr : PA3 X es t) (hs : starEach (e :: es) X.env = (false, eval e X.env) :: starEach es X.env := by rfl) : PA3 X (e :: es) (A0 te t) := by
  intro pos pins s σv H σ M Q I hS hM h
  rw [hs]
  show wpAny _ _ (spliced ((false, eval e X.env) :: backTo pos (starEach es X.env))) _ _ s
  refine Calls.spliced_cons (thn (ha pins s σv H σ M _ I hS hM h) fun u s1 ⟨x, xv, M1, H1, I1, st1, m1, rv1, p1, q1⟩ => ?_)
  exact thn (hr pos pins s1 σv H1 σ M1 _ I1 (hS.mono st1) m1 q1) fun us s2 ⟨xs, xvs, M2, H2, I2, st2, m2, rv2, p2, q2⟩ => ⟨x :: xs, xv :: xvs, M2, H2, I2, st1.trans st2, m2, .cons rv1 rv2, .cons (p1.mono st2) p2, q2⟩
def D8 (t : TA3) : TE3 := fun σ M Q => t σ M fun xs M1 => xs.length ≤ sizeLine ∧ Q (.tup xs) M1
def F6 (t : TA3) : TE3 := fun σ M Q => t σ M fun xs M1 => xs.length ≤ sizeLine ∧ Q (.lst xs) M1
def N6 (t : TA3) : TE3 := fun σ M Q => t σ M fun xs M1 => xs.length ≤ sizeLine ∧ ∀ p, M1 p = none → Q (.ref p) (D4 M1 p (.lst xs))
theorem AM9 {x1} (h : PA3 X es t) : PE3 X (.Tuple es x1 pos) (D8 t) := PE3.of (AY9 h.dn) fun pins s σv H σ M Q I hS hM h => by
  refine ⟨σ, M, _, hS, hM, h, fun ds vs M' H' st m r ⟨hl, q⟩ => ⟨by rw [← r.length]; exact hl, fun p hp => ?_⟩⟩
  exact ⟨.tup ds, M', st.trans (Step.lay hp), m.lay hp, .tup (.inl ⟨.inl D5, m.free hp⟩) (r.mono (Step.lay hp)), q⟩
theorem AI3 (h : PA3 X es t) : PE3 X (.List es pos) (F6 t) := PE3.of (WQ h.dn) fun pins s σv H σ M Q I hS hM h => by
  refine ⟨σ, M, _, hS, hM, h, fun ds vs M' H' st m r ⟨hl, q⟩ => ⟨by rw [← r.length]; exact hl, fun p hp => ?_⟩⟩
  exact ⟨.lst ds, M', st.trans (Step.lay hp), m.lay hp, .lst (.inl ⟨.inl D5, m.free hp⟩) (r.mono (Step.lay hp)), q⟩
theorem XW (h : PA3 X es t) : PE3 X (.List es pos) (N6 t) := PE3.of (WQ h.dn) fun pins s σv H σ M Q I hS hM h => by
  refine ⟨σ, M, _, hS, hM, h, fun ds vs M' H' st m r ⟨hl, q⟩ => ⟨by rw [← r.length]; exact hl, fun p hp => ?_⟩⟩
  exact ⟨.ref p, D4 M' p (.lst ds), st.trans (Step.put (.inl hp)), m.put (.inl hp) r, .ref, q p (m.free hp)⟩
end
section
variable {X : Cx}
def rI3 (C : Int → Int → Prop) (g : Int → Int → D) : R3 := fun x y M Q => match x, y with
  | .int i, .int j => C i j ∧ Q (g i j) M
  | _, _ => False
def FX (g : Int → Int → D) : R3 := fun x y M Q => match x, y with
  | .int i, .int j => Q (g i j) M
  | _, _ => False
theorem SU {f : Value → Value → Sem Value} {C : Int → Int → Prop} {g : Int → Int → Int} (h : OpR X f (rI C fun i j => .int (g i j))) : OpR3 X f (rI3 C fun i j => .int (g i j)) :=
  OpR3.of h fun H M x y xv yv Q m px py q => by
    cases x <;> cases y <;> first | exact q.elim | skip
    cases px; cases py
    exact ⟨_, _, rfl, rfl, q.1, up0 m .int q.2⟩
theorem AX7 {f : Value → Value → Sem Value} {g : Int → Int → Int} (h : OpR X f (rI0 fun i j => .int (g i j))) : OpR3 X f (FX fun i j => .int (g i j)) :=
  OpR3.of h fun H M x y xv yv Q m px py q => by
    cases x <;> cases y <;> first | exact q.elim | skip
    cases px; cases py
    exact ⟨_, _, rfl, rfl, up0 m .int q⟩
theorem PY {f : Value → Value → Sem Value} {g : Int → Int → Bool} (h : OpR X f (rI0 fun i j => .bl (g i j))) : OpR3 X f (FX fun i j => .bl (g i j)) :=
  OpR3.of h fun H M x y xv yv Q m px py q => by
    cases x <;> cases y <;> first | exact q.elim | skip
    cases px; cases py
    exact ⟨_, _, rfl, rfl, up0 m .bl q⟩
def TH (i j : Int) : Prop := CMul i j ∨ (i.natAbs < 2 ^ 4096 ∧ j.natAbs < 2 ^ 4096)
theorem bits_le {i : Int} (h : i.natAbs < 2 ^ 4096) : Builtin.Int.intBits i ≤ 4096 := by
  unfold Builtin.Int.intBits
  split
  · lia
  · rename_i hi
    have h0 : i.natAbs ≠ 0 := by intro z; apply hi; have : i = 0 := by lia
                                 subst this; rfl
    have := (Nat.log2_lt h0).mpr h
    lia
theorem AT7 {i j : Int} (h : TH i j) : IntMulOk i j := by
  rcases h with h | ⟨h1, h2⟩
  · exact h.ok
  · have b1 := bits_le h1
    have b2 := bits_le h2
    unfold IntMulOk Builtin.Int.intTooBig
    have : decide (((Builtin.Int.intBits i + Builtin.Int.intBits j : Nat) : Int) > ((bitsLine : Nat) : Int)) = false := by
      refine decide_eq_false ?_
      have : bitsLine = 134217728 := rfl
      lia
    intro z
    simp only [Bool.and_eq_true] at z
    have z2 := z.2
    simp only [Int.natCast_add] at this
    rw [this] at z2; cases z2
theorem AF9 : OpR X (binaryOp .Mult) (rI TH fun i j => .int (i * j)) := opI fun _ _ _ _ _ _ _ hc q => mul_int q (AT7 hc)
def MW (i j : Int) : Prop := 0 < j ∧ j.natAbs < 2 ^ 4096
theorem YN : OpR X (binaryOp .FloorDiv) (rI MW fun i j => .int (i / j)) := opI fun i j _ _ _ _ _ hc q => by
  have h1 : (0 : Int) < j := hc.1
  refine floordiv_int (by lia) (by rw [Int.fdiv_eq_ediv_of_nonneg i (by lia)]; exact q) (.inl (PyProof.noPylong_of_log2 ?_))
  have h0 : j.natAbs ≠ 0 := by lia
  have := (Nat.log2_lt h0).mpr hc.2
  lia
theorem AR0 : OpR3 X (binaryOp .Sub) (FX fun i j => .int (i - j)) := AX7 AW1
theorem AT0 : OpR3 X (binaryOp .Mult) (rI3 TH fun i j => .int (i * j)) := SU AF9
theorem JG : OpR3 X (binaryOp .FloorDiv) (rI3 MW fun i j => .int (i / j)) := SU YN
theorem AX0 : OpR3 X (binaryOp .Mod) (rI3 (fun _ j => 0 < j) fun i j => .int (i % j)) := SU AR3
theorem AV1 : OpR3 X (binaryOp .Pow) (rI3 WE fun i j => .int (i ^ j.toNat)) := SU AV5
theorem BC4 : OpR3 X (compareOp .Lt) (FX fun i j => .bl (decide (i < j))) := PY BE2
theorem AD2 : OpR3 X (compareOp .Gt) (FX fun i j => .bl (decide (j < i))) := PY BI3
theorem AO8 : OpR3 X (compareOp .GtE) (FX fun i j => .bl (decide (j ≤ i))) := PY BG8
def rU3 (g : Int → Int) : U3 := fun x M Q => match x with
  | .int i => Q (.int (g i)) M
  | _ => False
theorem WC : UnR3 X (unaryOp .USub) (rU3 fun i => -i) := UnR3.of AT4 fun H M x xv Q m px q => by
  cases x <;> first | exact q.elim | skip
  cases px
  exact ⟨_, rfl, up0 m .int q⟩
def C7 : R3 := fun x y M Q => match x, y with
  | .int i, .int j => Q (.int (i + j)) M
  | .str a, .str b => a.length + b.length ≤ sizeLine ∧ Q (.str (a ++ b)) M
  | .lst a, .lst b => a.length + b.length ≤ sizeLine ∧ Q (.lst (a ++ b)) M
  | .tup a, .tup b => a.length + b.length ≤ sizeLine ∧ Q (.tup (a ++ b)) M
  | _, _ => False
theorem AW9 : OpR3 X (binaryOp .Add) C7 := by
  intro pins s σv H M x y xv yv v u Q I m rx ry px py q
  cases x <;> cases y <;> first | exact q.elim | skip
  · cases px; cases py
    exact thn (AW4 pins s σv H _ _ v u _ I rx ry ⟨_, _, rfl, rfl, up0 m .int q⟩) fun _ _ z => S8 z
  · cases px; cases py
    exact thn (QQ pins s σv H _ _ v u _ I rx ry ⟨_, _, rfl, rfl, q.1, up0 m .str q.2⟩) fun _ _ z => S8 z
  · cases px with | tup h1 r1 => cases py with | tup h2 r2 =>
    cases rx; cases ry
    obtain ⟨its, e1, p1, z1⟩ := I.tuple (SqT.of3 h1)
    obtain ⟨its2, e2, p2, z2⟩ := I.tuple (SqT.of3 h2)
    obtain ⟨⟨cls, dd, data, sl⟩, ho, hc, n, hd⟩ := id p1
    obtain ⟨⟨cls2, dd2, data2, sl2⟩, ho2, hc2, n2, hd2⟩ := id p2
    simp only at hc hd hc2 hd2
    subst hc hd hc2 hd2
    have l1 := r1.length
    have l2 := r2.length
    have l3 := e1.length
    have l4 := e2.length
    obtain ⟨hz, q⟩ := q
    by_cases hA : its.toArray.isEmpty = true
    · refine concat_meets ⟨_, ho, rfl⟩ ⟨_, ho2, rfl⟩ noFill_tuple_add seq_tuple_add PySem.F.slot_tuple_add PySem.F.entry_tuple_add (PySem.F.args_tuple_add_2 _ _) (tuple_addW0 _ _ _ _ n n2 dd dd2 sl sl2 hA) ⟨ho, ho2, ?_⟩
      have h0 : its = [] := by simpa using hA
      subst h0
      cases e1
      cases r1
      exact ⟨_, .ref _, M, H, I, .refl, m, rfl, .tup h2 r2, q⟩
    · by_cases hB : its2.toArray.isEmpty = true
      · refine concat_meets ⟨_, ho, rfl⟩ ⟨_, ho2, rfl⟩ noFill_tuple_add seq_tuple_add PySem.F.slot_tuple_add PySem.F.entry_tuple_add (PySem.F.args_tuple_add_2 _ _) (tuple_addW1 _ _ _ _ n n2 dd dd2 sl sl2 hA hB) ⟨ho, ho2, ?_⟩
        have h0 : its2 = [] := by simpa using hB
        subst h0
        cases e2
        cases r2
        rw [List.append_nil] at q
        exact ⟨_, .ref _, M, H, I, .refl, m, rfl, .tup h1 r1, q⟩
      · refine concat_meets ⟨_, ho, rfl⟩ ⟨_, ho2, rfl⟩ noFill_tuple_add seq_tuple_add PySem.F.slot_tuple_add PySem.F.entry_tuple_add (PySem.F.args_tuple_add_2 _ _) (tuple_addW2 _ _ _ _ n n2 dd dd2 sl sl2 hA hB (by simp; lia)) ⟨ho, ho2, ?_⟩
        have ea : its.toArray ++ its2.toArray = (its ++ its2).toArray := by simp
        rw [ea]
        have hf := I.fresh
        have rr := r1.append r2
        refine ⟨_, .ref s.heap.objs.size, M, _, I.laid (t' := s.toks) (o := .tup _) (fun b ob q => Heap.get?_push_of_some _ q) (Nat.le_refl _) ⟨by rw [List.length_append]; lia, _, e1.append e2, IsTup.new _ _⟩, Step.lay hf, m.lay hf, rfl, .tup (.inl ⟨.inl D5, m.free hf⟩) (rr.mono (Step.lay hf)), q⟩
  · cases px with | lst h1 r1 => cases py with | lst h2 r2 =>
    cases rx; cases ry
    obtain ⟨its, e1, p1, z1⟩ := I.list (SqL.of3 h1)
    obtain ⟨its2, e2, p2, z2⟩ := I.list (SqL.of3 h2)
    obtain ⟨⟨cls, dd, data, sl⟩, ho, hc, n, hd⟩ := p1.isList
    obtain ⟨⟨cls2, dd2, data2, sl2⟩, ho2, hc2, n2, hd2⟩ := p2.isList
    simp only at hc hd hc2 hd2
    subst hc hd hc2 hd2
    have l1 := r1.length
    have l2 := r2.length
    have l3 := e1.length
    have l4 := e2.length
    obtain ⟨hz, q⟩ := q
    refine concat_meets ⟨_, ho, rfl⟩ ⟨_, ho2, rfl⟩ noFill_list_add seq_list_add PySem.F.slot_list_add PySem.F.entry_list_add (PySem.F.args_list_add_2 _ _) (list_addW _ _ _ _ n n2 dd dd2 sl sl2 (by simp; lia)) ⟨ho, ho2, ?_⟩
    have ea : its.toArray ++ its2.toArray = (its ++ its2).toArray := by simp
    rw [ea]
    have hf := I.fresh
    have rr := r1.append r2
    exact ⟨_, .ref s.heap.objs.size, M, _, I.lnew (t' := s.toks) (e1.append e2) (by rw [List.length_append]; lia), Step.lay hf, m.lay hf, rfl, .lst (.inl ⟨.inl D5, m.free hf⟩) (rr.mono (Step.lay hf)), q⟩
def dOk (d : D) : Prop := plain d = true ∧ (pyD d).canLay0 = true ∧ (pyD d).depth ≤ 60
def G7 : R3 := fun x y M Q => (dOk x ∧ dOk y ∧ Q (.bl (PyData.eqv (pyD x) (pyD y))) M) ∨ ∃ a b, x = .str a ∧ y = .str b ∧ Q (.bl (a == b)) M
def ND : R3 := fun x y M Q => (dOk x ∧ dOk y ∧ Q (.bl (!PyData.eqv (pyD x) (pyD y))) M) ∨ ∃ a b, x = .str a ∧ y = .str b ∧ Q (.bl (!(a == b))) M
theorem BA4 {k : Nat} (hr : Room k X.A) : OpR3 X (compareOp .Eq) G7 := by
  intro pins s σv H M x y xv yv v u Q I m rx ry px py h
  rcases h with ⟨dx, dy, q⟩ | ⟨a, b, rfl, rfl, q⟩
  rotate_left
  · cases px; cases py
    exact thn (BF8 pins s σv H _ _ v u _ I rx ry ⟨rfl, up0 m .bl (by rw [EH]; exact q)⟩) fun _ _ z => S8 z
  obtain ⟨as, r1⟩ := P0 I dx.1 px rx
  obtain ⟨bs, r2⟩ := P0 I dy.1 py ry
  exact SeqAt.compareEq_reads r1 r2 dx.2.1 dy.2.1 (by have := hr.units; have := dx.2.2; lia) ⟨_, .bl _, M, H, I, .refl, m, rfl, .bl, q⟩
theorem XC {k : Nat} (hr : Room k X.A) : OpR3 X (compareOp .NotEq) ND := by
  intro pins s σv H M x y xv yv v u Q I m rx ry px py h
  rcases h with ⟨dx, dy, q⟩ | ⟨a, b, rfl, rfl, q⟩
  rotate_left
  · cases px; cases py
    exact thn (BH4 pins s σv H _ _ v u _ I rx ry ⟨rfl, up0 m .bl (by rw [EH]; exact q)⟩) fun _ _ z => S8 z
  obtain ⟨as, r1⟩ := P0 I dx.1 px rx
  obtain ⟨bs, r2⟩ := P0 I dy.1 py ry
  exact SeqAt.compareNe_reads r1 r2 dx.2.1 dy.2.1 (by have := hr.units; have := dx.2.2; lia) ⟨_, .bl _, M, H, I, .refl, m, rfl, .bl, q⟩
variable {a b e : Expr} {ta tb te : TE3} {pos : Pos}
def C9 : R3 := fun x y M Q => match x, y with
  | .lst ds, .int i => ∃ d, atI ds i = some d ∧ Q d M
  | .tup ds, .int i => ∃ d, atI ds i = some d ∧ Q d M
  | .ref a, .int i => ∃ ds d, M a = some (.lst ds) ∧ atI ds i = some d ∧ Q d M
  | .str z, .int i => z.length ≤ sizeLine ∧ ∃ c, atI z.cps.toList i = some c ∧ Q (.str ⟨#[c]⟩) M
  | _, _ => False
theorem Reps.atI {K : PySem.W.Frag} {M : Mem} {H : Hp} {ds : List D} {vs : List V} (r : Reps K M H ds vs) {i : Int} {d : D} (h : L2.atI ds i = some d) : ∃ v, L2.atI vs i = some v ∧ Rep K M H d v := by
  unfold L2.atI at h ⊢
  rw [← r.length]
  cases e : ixN ds.length i with
  | none => rw [e] at h; cases h
  | some j =>
    rw [e] at h
    exact r.get (show ds[j]? = some d from h)
theorem AR7 (ha : PE3 X a ta) (hb : PE3 X b tb) (hs : AF2 b) : PE3 X (.Subscript a b pos) (A4 C9 ta tb) := by
  intro pins s σv H σ M Q I hS hM h
  refine Subscript_ (thn (ha pins s σv H σ M _ I hS hM h) fun v s1 ⟨x, xv, M1, H1, I1, st1, m1, rv1, p1, q1⟩ =>
    thn (hb pins s1 σv H1 σ M1 _ I1 (hS.mono st1) m1 q1) fun u s2 ⟨y, yv, M2, H2, I2, st2, m2, rv2, p2, q2⟩ => ?_)
  have fin : rIx X.K xv yv H2 (Up X.K M2 H2 Q) := by
    have p1' := p1.mono st2
    cases x <;> cases y <;> first | exact q2.elim | skip
    · cases p1'; cases p2
      obtain ⟨hz, c, hc, q⟩ := q2
      exact .inr (.inr ⟨_, _, c, rfl, rfl, hz, hc, up0 m2 .str q⟩)
    · cases p1'; cases p2
      obtain ⟨ds, d, hm, hd, q⟩ := q2
      obtain ⟨ho, e1, r⟩ := m2 _ _ hm
      cases ho <;> first | exact r.elim | skip
      obtain ⟨v', hv, rv⟩ := Reps.atI r hd
      exact .inl ⟨_, _, _, v', rfl, rfl, .inl (.inl e1), hv, up0 m2 rv q⟩
    · cases p1' with | tup h1 r => cases p2; obtain ⟨d, hd, q⟩ := q2; obtain ⟨v', hv, rv⟩ := Reps.atI r hd; exact .inr (.inl ⟨_, _, _, v', rfl, rfl, SqT.of3 h1, hv, up0 m2 rv q⟩)
    · cases p1' with | lst h1 r => cases p2; obtain ⟨d, hd, q⟩ := q2; obtain ⟨v', hv, rv⟩ := Reps.atI r hd; exact .inl ⟨_, _, _, v', rfl, rfl, SqL.of3 h1, hv, up0 m2 rv q⟩
  exact thn (AV0 a b pins s2 σv H2 xv yv v u _ I2 rv1 rv2 fin (hs _ _)) fun _ _ z => (S8 z).trans (st1.trans st2)
def W7 : Lo → Mem → (Option Int → Mem → Prop) → Prop := fun _ M Q => Q none M
def DJ (t : TE3) : Lo → Mem → (Option Int → Mem → Prop) → Prop := fun σ M Q => t σ M fun x M1 => match x with
  | .int i => Q (some i) M1
  | _ => False
abbrev TO3 := Lo → Mem → (Option Int → Mem → Prop) → Prop
def PO3 (X : Cx) (e : Option Expr) (t : TO3) : Prop :=
  ∀ (pins : List (Addr × Obj)) (s : Shared) (σv : L2.St) (H : Hp) (σ : Lo) (M : Mem) (Q : Option Int → Mem → Prop), Inv X pins σv H s → SRel X.K M H σ σv → MRel X.K M H → t σ M Q →
    wpAny (model X.prog X.w) X.A (evalPart e X.env) (fun v s' => ∃ o M' H', Inv X pins σv H' s' ∧ Step M H M' H' ∧ MRel X.K M' H' ∧ IsPart v o ∧ Q o M') X.xe s
theorem AA5 : PO3 X none W7 := by
  intro pins s σv H σ M Q I hS hM h
  rw [evalPart_none]
  exact wpAny_pure ⟨none, M, H, I, .refl, hM, .none, h⟩
theorem XO (h : PE3 X e te) : PO3 X (some e) (DJ te) := by
  intro pins s σv H σ M Q I hS hM hw
  rw [evalPart_some]
  refine thn (h pins s σv H σ M _ I hS hM hw) fun u s1 hx0 => ?_
  obtain ⟨x, xv, M1, H1, I1, st1, m1, rv1, p1, q1⟩ := hx0
  cases x <;> first | exact q1.elim | skip
  cases p1
  obtain ⟨t, rfl⟩ := rv1
  exact ⟨some _, M1, H1, I1, st1, m1, .int _ t, q1⟩
def cutD (xs : List D) (lo hi : Option Int) : List D := (xs.drop (HT.sIx xs.length 0 lo)).take (HT.sIx xs.length xs.length hi - HT.sIx xs.length 0 lo)
theorem Reps.cut {K : PySem.W.Frag} {M : Mem} {H : Hp} {ds : List D} {vs : List V} (r : Reps K M H ds vs) (lo hi : Option Int) : Reps K M H (cutD ds lo hi) (NZ vs lo hi) := by
  unfold cutD NZ
  rw [r.length]
  exact (r.drop _).take _
def AM1 : D → Option Int → Option Int → Mem → DK → Prop := fun x lo hi M Q => match x with
  | .lst ds => Q (.lst (cutD ds lo hi)) M
  | .tup ds => ¬ (HT.sIx ds.length 0 lo = 0 ∧ HT.sIx ds.length ds.length hi = ds.length) ∧ Q (.tup (cutD ds lo hi)) M
  | _ => False
theorem VA {lo hi : Option Expr} {tl th : TO3} {p2 : Pos} (he : PE3 X e te) (hl : PO3 X lo tl) (hu : PO3 X hi th) :
    PE3 X (.Subscript e (.Slice lo hi none p2) pos) (fun σ M Q => te σ M fun x M1 => tl σ M1 fun l M2 => th σ M2 fun u M3 => AM1 x l u M3 Q) := by
  intro pins s σv H σ M Q I hS hM h
  refine Subscript_ (thn (he pins s σv H σ M _ I hS hM h) fun v s1 ⟨x, xv, M1, H1, I1, st1, m1, rv1, p1, q1⟩ => ?_)
  refine wpAny_Slice (thn (hl pins s1 σv H1 σ M1 _ I1 (hS.mono st1) m1 q1) fun vl s2 ⟨l, M2, H2, I2, st2, m2, pl, q2⟩ => thn (hu pins s2 σv H2 σ M2 _ I2 (hS.mono (st1.trans st2)) m2 q2) fun vu s3 ⟨u, M3, H3, I3, st3, m3, pu, q3⟩ => ?_)
  rw [evalPart_none]
  refine wpAny_pure ?_
  have I4 : Inv X pins σv H3 { s3 with heap := s3.heap.push { cls := .type "slice", data := .fields #[vl, vu, .none] } } := I3.kept (t' := s3.toks) fun b ob q => Heap.get?_push_of_some _ q
  have p3 := p1.mono (st2.trans st3)
  have fin : AT5 X.K xv l u H3 (Up X.K M3 H3 Q) ∨ AS3 X.K xv l u H3 (Up X.K M3 H3 Q) := by
    cases x <;> first | exact q3.elim | skip
    · cases p3 with | tup h1 r =>
      obtain ⟨hw, q⟩ := q3
      rw [r.length] at hw
      exact .inr ⟨_, _, rfl, SqT.of3 h1, hw, fun p hp => ⟨_, M3, Step.lay hp, m3.lay hp, .tup (.inl ⟨.inl D5, m3.free hp⟩) ((r.cut l u).mono (Step.lay hp)), q⟩⟩
    · cases p3 with | lst h1 r =>
      refine .inl ⟨_, _, rfl, SqL.of3 h1, fun p hp => ?_⟩
      exact ⟨_, M3, Step.lay hp, m3.lay hp, .lst (.inl ⟨.inl D5, m3.free hp⟩) ((r.cut l u).mono (Step.lay hp)), q3⟩
  obtain ⟨T, id, hT, ht, hg⟩ := (sl_list.or WN) pins { s3 with heap := s3.heap.push { cls := .type "slice", data := .fields #[vl, vu, .none] } } σv H3 xv v vl vu l u s3.heap.objs.size _ I4 rv1 (Heap.IsSliceOf.new ..) pl pu fin
  show wpAny (model X.prog X.w) X.A (subscriptTail e (.Slice lo hi none p2) v (.ref s3.heap.objs.size)) (EP3 X pins σv M H Q) X.xe { s3 with heap := s3.heap.push { cls := .type "slice", data := .fields #[vl, vu, .none] } }
  exact tail_any (ops := [.ref s3.heap.objs.size, v]) ht hT (thn hg fun _ _ z => (S8 z).trans ((st1.trans st2).trans st3)) (by with_unfolding_all rfl)
end
section
variable {X : Cx} {a b e o i value : Expr} {es : List Expr} {ta tb te td ty tv : TE3} {t : TA3} {pos p pos' : Pos} {x : Str} {id T : String} {r : C3}
def E2 (r : C3) (t : TA3) : TE3 := fun σ M Q => t σ M fun ds M1 => r ds M1 Q
theorem UP (hc : CallR3 X (.builtin id) r) (hg : Gl X x) (hm : X.mg x = none) (hv : bootBuiltins x = some (.builtin id)) (ha : PA3 X (e :: es) t) (hn : x ≠ "__name__" := by decide) (hdb : (x == ("__debug__" : Str)) = false := by decide)
    (he : starEach (e :: es) X.env = (false, eval e X.env) :: starEach es X.env := by rfl) (hpl : (backTo pos (starEach es X.env)).any (·.1) = false := by rfl) : PE3 X (.Call (.Name x p) (e :: es) [] pos) (E2 r t) := by
  intro pins s σv H σ M Q I hS hM h
  refine wpAny_Call_Name_kw (BP I hg hm hv ?_ hn hdb)
  exact PyProof.Rows.callWith_builtin1 (thn (ha pos pins s σv H σ M _ I hS hM h) fun us s1 ⟨ds, vs, M1, H1, I1, st1, m1, rv1, p1, q1⟩ => thn (hc pins s1 σv H1 M1 ds vs us Q I1 m1 rv1 p1 q1) fun _ _ z => z.trans st1) he hpl
theorem PJ (hc : CallR3 X (.type T) r) (hg : Gl X x) (hm : X.mg x = none) (hv : bootBuiltins x = some (.type T)) (ha : PA3 X (e :: es) t) (hn : x ≠ "__name__" := by decide) (hdb : (x == ("__debug__" : Str)) = false := by decide)
    (he : starEach (e :: es) X.env = (false, eval e X.env) :: starEach es X.env := by rfl) (hpl : (backTo pos (starEach es X.env)).any (·.1) = false := by rfl) : PE3 X (.Call (.Name x p) (e :: es) [] pos) (E2 r t) := by
  intro pins s σv H σ M Q I hS hM h
  refine wpAny_Call_Name_kw (BP I hg hm hv ?_ hn hdb)
  exact PyProof.Rows.callWith_type1 (thn (ha pos pins s σv H σ M _ I hS hM h) fun us s1 ⟨ds, vs, M1, H1, I1, st1, m1, rv1, p1, q1⟩ => thn (hc pins s1 σv H1 M1 ds vs us Q I1 m1 rv1 p1 q1) fun _ _ z => z.trans st1) he hpl
def K4 : C3 := fun ds M Q => match ds with
  | [.lst xs] => Q (.int xs.length) M
  | [.tup xs] => Q (.int xs.length) M
  | [.str z] => z.length ≤ sizeLine ∧ Q (.int z.length) M
  | [.ref a] => ∃ xs, M a = some (.lst xs) ∧ Q (.int xs.length) M
  | _ => False
theorem AU9 : CallR3 X (.builtin "len") K4 := CallR3.of (call_len_seq.or LM) fun H M xs xvs Q m px q => by
  rcases px with _ | ⟨pd, ps⟩; (exact (q : False).elim); rcases ps with _ | ⟨p2, ps2⟩; rotate_left; (first | exact (q : False).elim | (cases pd <;> exact (q : False).elim))
  cases pd with
  | lst h r => exact .inl ⟨_, _, rfl, .inl (SqL.of3 h), by rw [← r.length]; exact up0 m .int q⟩
  | tup h r => exact .inl ⟨_, _, rfl, .inr (SqT.of3 h), by rw [← r.length]; exact up0 m .int q⟩
  | str => exact .inr ⟨_, rfl, q.1, up0 m .int q.2⟩
  | ref =>
    obtain ⟨ds, hm, q⟩ := q
    obtain ⟨ho, e1, r⟩ := m _ _ hm
    cases ho <;> first | exact r.elim | skip
    have r' : Reps X.K M H ds _ := r
    exact .inl ⟨_, _, rfl, .inl (.inl (.inl e1)), by rw [← r'.length]; exact up0 m .int q⟩
  | _ => exact (q : False).elim
def AD : C3 := fun ds M Q => match ds with
  | [.int i] => Q (.int (if i < 0 then -i else i)) M
  | _ => False
theorem PZ : CallR3 X (.builtin "abs") AD := CallR3.of YF fun H M xs xvs Q m px q => by
  rcases px with _ | ⟨pd, ps⟩; (exact (q : False).elim); rcases ps with _ | ⟨p2, ps2⟩; rotate_left; (first | exact (q : False).elim | (cases pd <;> exact (q : False).elim))
  cases pd with
  | int => exact ⟨_, rfl, up0 m .int q⟩
  | _ => exact (q : False).elim
def NL : C3 := fun ds M Q => match ds with
  | [.int i] => Q (.int i) M
  | [.bl k] => Q (.int (if k then 1 else 0)) M
  | _ => False
theorem QS : CallR3 X (.type "int") NL := CallR3.of TZ fun H M xs xvs Q m px q => by
  rcases px with _ | ⟨pd, ps⟩; (exact (q : False).elim); rcases ps with _ | ⟨p2, ps2⟩; rotate_left; (first | exact (q : False).elim | (cases pd <;> exact (q : False).elim))
  cases pd with
  | int => exact .inl ⟨_, rfl, up0 m .int q⟩
  | bl => exact .inr ⟨_, rfl, up0 m .int q⟩
  | _ => exact (q : False).elim
def DA : C3 := fun ds M Q => match ds with
  | [.lst xs] => Q (.lst xs) M
  | [.tup xs] => Q (.lst xs) M
  | _ => False
theorem RF : CallR3 X (.type "list") DA := CallR3.of CM fun H M xs xvs Q m px q => by
  rcases px with _ | ⟨pd, ps⟩; (exact (q : False).elim); rcases ps with _ | ⟨p2, ps2⟩; rotate_left; (first | exact (q : False).elim | (cases pd <;> exact (q : False).elim))
  cases pd with
  | lst h r => exact ⟨_, _, rfl, .inl (SqL.of3 h), fun l hl => ⟨_, M, Step.lay hl, m.lay hl, .lst (.inl ⟨.inl D5, m.free hl⟩) (r.mono (Step.lay hl)), q⟩⟩
  | tup h r => exact ⟨_, _, rfl, .inr (SqT.of3 h), fun l hl => ⟨_, M, Step.lay hl, m.lay hl, .lst (.inl ⟨.inl D5, m.free hl⟩) (r.mono (Step.lay hl)), q⟩⟩
  | _ => exact (q : False).elim
def PH (d : D) : Prop := plain d = true ∧ (pyD d).showable = true ∧ (pyD d).hasDict = false ∧ (pyD d).depth ≤ 60 ∧ (pyD d).shown.length ≤ sizeLine
def AW2 : C3 := fun ds M Q => match ds with
  | [d] => PH d ∧ Q (.str (pyD d).shown) M
  | _ => False
theorem W4 {k : Nat} (hr : Room k X.A) : CallR3 X (.builtin "repr") AW2 := by
  intro pins s σv H M xs xvs us Q I m rv px q
  rcases px with _ | ⟨pd, ps⟩; (exact (q : False).elim); rcases ps with _ | ⟨p2, ps2⟩; rotate_left; (first | exact (q : False).elim | (cases pd <;> exact (q : False).elim))
  · rename_i d _
    obtain ⟨⟨h1, h2, h3, h4, h5⟩, q⟩ := q
    obtain ⟨u, rfl, ru⟩ := vals1 rv
    have hz : sizeLine = 16777216 := sizeLine_eq
    cases pd with
    | non => cases ru; exact PySem.P.repr_of_none ⟨_, .str _, M, H, I.tok _, .refl, m, ⟨_, rfl⟩, .str, q⟩
    | bl => cases ru; exact PySem.P.repr_of_bool ⟨_, .str _, M, H, I.tok _, .refl, m, ⟨_, rfl⟩, .str, q⟩
    | @int i =>
      obtain ⟨t, rfl⟩ := ru
      exact PySem.P.repr_of_int (by simpa [pyD, PyData.showable] using h2) ⟨_, .str _, M, H, I.tok _, .refl, m, ⟨_, rfl⟩, .str, q⟩
    | @str z =>
      obtain ⟨t, rfl⟩ := ru
      exact PySem.P.repr_of_str ⟨_, .str _, M, H, I.tok _, .refl, m, ⟨_, rfl⟩, .str, q⟩ (by simpa [pyD, PyData.shown] using h5)
    | @tup a ds vs h r =>
      cases ru
      obtain ⟨as, rd⟩ := P0 I h1 (.tup h r) rfl
      refine PySem.repr_of_reads' rd h2 (PyData.noDict_hsm h3) hr.gd (by have := hr.units; lia) (fun b o e => e) (fun h' u tk kp => ?_) h5
      exact ⟨_, .str _, M, H, I.kept (t' := tk) kp, .refl, m, ⟨_, rfl⟩, .str, q⟩
    | @lst a ds vs h r =>
      cases ru
      obtain ⟨as, rd⟩ := P0 I h1 (.lst h r) rfl
      refine PySem.repr_of_reads' rd h2 (PyData.noDict_hsm h3) hr.gd (by have := hr.units; lia) (fun b o e => e) (fun h' u tk kp => ?_) h5
      exact ⟨_, .str _, M, H, I.kept (t' := tk) kp, .refl, m, ⟨_, rfl⟩, .str, q⟩
    | dct _ _ => exact absurd h1 (by simp [plain])
    | ty => exact absurd h1 (by simp [plain])
    | ref => exact absurd h1 (by simp [plain])
end
section
variable {X : Cx} {a b e o i value : Expr} {es : List Expr} {ta tb te td ty tv : TE3} {t : TA3} {pos p pos' : Pos} {x : Str}
def Z4 (kds : List (Key × D)) (k : Key) : Option D := (kds.find? fun kv => decide (kv.1 = k)).map (·.2)
def putD (kds : List (Key × D)) (k : Key) (d : D) : List (Key × D) :=
  if (kds.any fun kv => decide (kv.1 = k)) = true then kds.map (fun kv => if kv.1 = k then (kv.1, d) else kv) else kds ++ [(k, d)]
def Z6 (kds more : List (Key × D)) : List (Key × D) := more.foldl (fun acc kv => putD acc kv.1 kv.2) kds
def kD : Key → D
  | .inl i => .int i
  | .inr x => .str x
def dK? : D → Option Key
  | .int i => some (.inl i)
  | .str x => some (.inr x)
  | _ => none
section
variable {K : PySem.W.Frag} {M : Mem} {H : Hp}
theorem RepK.length {kds : List (Key × D)} {kvs : List (Key × V)} (r : RepK K M H kds kvs) : kds.length = kvs.length := by
  induction kds generalizing kvs with
  | nil => cases r; rfl
  | cons d ds ih => cases r with | cons a b => rw [List.length_cons, List.length_cons, ih b]
theorem RepK.val {kds : List (Key × D)} {kvs : List (Key × V)} (r : RepK K M H kds kvs) (k : Key) : (∃ d v, Z4 kds k = some d ∧ AB kvs k = some v ∧ Rep K M H d v) ∨ (Z4 kds k = none ∧ AB kvs k = none) := by
  induction kds generalizing kvs with
  | nil => cases r; exact .inr ⟨rfl, rfl⟩
  | cons d ds ih =>
    cases r with
    | @cons k' d v ds vs a b =>
      by_cases e : k' = k
      · exact .inl ⟨d, v, by simp [Z4, e], by simp [AB, e], a⟩
      · have e1 : Z4 ((k', d) :: ds) k = Z4 ds k := by simp [Z4, e]
        have e2 : AB ((k', v) :: vs) k = AB vs k := by simp [AB, e]
        rw [e1, e2]; exact ih b
theorem RepK.some {kds : List (Key × D)} {kvs : List (Key × V)} (r : RepK K M H kds kvs) {k : Key} {d : D} (h : Z4 kds k = Option.some d) : ∃ v, AB kvs k = Option.some v ∧ Rep K M H d v := by
  rcases r.val k with ⟨d', v, e1, e2, q⟩ | ⟨e1, _⟩
  · rw [h] at e1; cases e1; exact ⟨v, e2, q⟩
  · rw [h] at e1; cases e1
theorem RepK.anyK {kds : List (Key × D)} {kvs : List (Key × V)} (r : RepK K M H kds kvs) (k : Key) : (kds.any fun kv => decide (kv.1 = k)) = kvs.any fun kv => decide (kv.1 = k) := by
  induction kds generalizing kvs with
  | nil => cases r; rfl
  | cons d ds ih => cases r with | cons a b => rw [List.any_cons, List.any_cons, ih b]
theorem RepK.repl {kds : List (Key × D)} {kvs : List (Key × V)} (r : RepK K M H kds kvs) (k : Key) {d : D} {v : V} (q : Rep K M H d v) : RepK K M H (kds.map (fun kv => if kv.1 = k then (kv.1, d) else kv)) (kvs.map (fun kv => if kv.1 = k then (kv.1, v) else kv)) := by
  induction kds generalizing kvs with
  | nil => cases r; exact .nil
  | cons d' ds ih =>
    cases r with
    | @cons k' d' v' ds vs a b =>
      rw [List.map_cons, List.map_cons]
      by_cases e : k' = k
      · simp only [e, if_true]; exact .cons q (ih b)
      · simp only [e, if_false]; exact .cons a (ih b)
theorem RepK.snoc {kds : List (Key × D)} {kvs : List (Key × V)} (r : RepK K M H kds kvs) (k : Key) {d : D} {v : V} (q : Rep K M H d v) : RepK K M H (kds ++ [(k, d)]) (kvs ++ [(k, v)]) := by
  induction kds generalizing kvs with
  | nil => cases r; exact .cons q .nil
  | cons d' ds ih => cases r with | cons a b => exact .cons a (ih b)
theorem RepK.put {kds : List (Key × D)} {kvs : List (Key × V)} (r : RepK K M H kds kvs) (k : Key) {d : D} {v : V} (q : Rep K M H d v) : RepK K M H (putD kds k d) (putK kvs k v) := by
  unfold putD putK
  rw [r.anyK]
  split
  · exact r.repl k q
  · exact r.snoc k q
theorem RepK.merge {more : List (Key × D)} {mv : List (Key × V)} (q : RepK K M H more mv) : ∀ {kds : List (Key × D)} {kvs : List (Key × V)}, RepK K M H kds kvs → RepK K M H (Z6 kds more) (DG kvs mv) := by
  induction more generalizing mv with
  | nil => cases q; exact fun r => r
  | cons d ds ih => cases q with | cons a b => exact fun r => ih b (r.put _ a)
theorem LB {k : Key} {v : V} (r : Rep K M H (kD k) v) : v = kV k := by
  cases k <;> (cases r; rfl)
theorem AQ5 {d : D} {k : Key} (h : dK? d = Option.some k) : d = kD k := by
  cases d <;> first | (cases h; rfl) | cases h
end
def D9 : R3 := fun x y M Q => ∃ k d, dK? y = some k ∧ (match x with
  | .dct kds => Z4 kds k = some d
  | .ref a => ∃ kds, M a = some (.dct kds) ∧ Z4 kds k = some d
  | _ => False) ∧ Q d M
theorem AB9 (hu : X.A.units + 1 < cLine) (ho : PE3 X o td) (hi : PE3 X i ty) (hs : AM3 i) : PE3 X (.Subscript o i pos) (A4 D9 td ty) := PE3.of (AF7 hu ho.dn hi.dn hs) fun pins s σv H σ M Q I hS hM h => by
  refine ⟨σ, M, _, hS, hM, h, fun x xv M1 H1 st1 m1 p1 q1 => ⟨σ, M1, _, hS.mono st1, m1, q1, fun y yv M2 H2 st2 m2 p2 q2 => ?_⟩⟩
  obtain ⟨k, d, hk, hx, q⟩ := q2
  have hy := AQ5 hk
  subst hy
  have ey := LB p2
  subst ey
  have p1' := p1.mono st2
  cases x <;> first | exact hx.elim | skip
  · cases p1'
    obtain ⟨kds, hm, hv⟩ := hx
    obtain ⟨ho, e1, r⟩ := m2 _ _ hm
    cases ho <;> first | exact r.elim | skip
    obtain ⟨v, hv', rv⟩ := RepK.some r hv
    exact ⟨_, v, rfl, .inl ⟨_, k, .inl e1, rfl, hv'.symm⟩, d, M2, st1.trans st2, m2, rv, q⟩
  · cases p1' with
    | dct hf r =>
      obtain ⟨v, hv', rv⟩ := RepK.some r hx
      exact ⟨_, v, rfl, .inl ⟨_, k, hf.1, rfl, hv'.symm⟩, d, M2, st1.trans st2, m2, rv, q⟩
def Y0 (td ty tv : TE3) : TS3 := fun T σ M => tv σ M fun d M1 => td σ M1 fun x M2 => ty σ M2 fun y M3 => ∃ k a kds, dK? y = some k ∧ x = .ref a ∧ M3 a = some (.dct kds) ∧ kds.length < sizeLine ∧ T.nx σ (D4 M3 a (.dct (putD kds k d)))
theorem AA3 (hu : X.A.units + 1 < cLine) (ho : PE3 X o td) (hi : PE3 X i ty) (hv : PE3 X value tv) (hs : swapsWith value (some (.Subscript o i pos')) pos.line X.env = pure false) :
    PS3 X (.Assign [.Subscript o i pos'] value pos) (Y0 td ty tv) := PS3.of (AM6 hu ho.dn hi.dn hv.dn hs) fun pins s σv H σ M T I hS hM h => by
  refine ⟨σ, M, _, hS, hM, h, fun d v M1 H1 st1 m1 p1 q1 => ⟨σ, M1, _, hS.mono st1, m1, q1, fun x xv M2 H2 st2 m2 p2 q2 => ⟨σ, M2, _, hS.mono (st1.trans st2), m2, q2, fun y yv M3 H3 st3 m3 p3 q3 => ?_⟩⟩⟩
  obtain ⟨k, a, kds, hk, rfl, hm, hl, q⟩ := q3
  have hy := AQ5 hk
  subst hy
  have ey := LB p3
  subst ey
  cases p2
  obtain ⟨ho, e1, r⟩ := m3 _ _ hm
  cases ho <;> first | exact r.elim | skip
  have r' : RepK X.K M3 H3 kds _ := r
  have hne : H3 a = none ∨ M3 a ≠ none := .inr (by rw [hm]; intro z; cases z)
  have pd := p1.mono (st2.trans st3)
  refine ⟨a, _, rfl, .inl ⟨_, k, e1, rfl, by rw [← r'.length]; exact hl, rfl⟩, σ, D4 M3 a (.dct (putD kds k d)), ((st1.trans st2).trans st3).trans (Step.put hne), m3.put hne (r'.put k pd), ?_, q⟩
  exact hS.mono (((st1.trans st2).trans st3).trans (Step.put hne))
def N1 : List (TE3 × TE3) → Lo → Mem → (List (D × D) → Mem → Prop) → Prop
  | [], _, M, Q => Q [] M
  | (tk, tv) :: r, σ, M, Q => tk σ M fun x M1 => tv σ M1 fun y M2 => N1 r σ M2 fun ps M3 => Q ((x, y) :: ps) M3
def AL1 (X : Cx) (pos : Pos) (keys : List (Option Expr)) (values : List Expr) (trs : List (TE3 × TE3)) : Prop := PPs X pos keys values (trs.map fun z => (dnE X.K z.1, dnE X.K z.2))
theorem OE : AL1 X pos [] [] [] := AK0
theorem TX {k v : Expr} {ks : List (Option Expr)} {vs : List Expr} {tk tv : TE3} {trs : List (TE3 × TE3)} (hk : PE3 X k tk) (hv : PE3 X v tv) (hr : AL1 X pos ks vs trs) : AL1 X pos (some k :: ks) (v :: vs) ((tk, tv) :: trs) := AC1 hk.dn hv.dn hr
inductive RepP (K : PySem.W.Frag) (M : Mem) (H : Hp) : List (D × D) → List (V × V) → Prop
  | nil : RepP K M H [] []
  | cons {d1 d2 : D} {v1 v2 : V} {ds : List (D × D)} {vs : List (V × V)} : Rep K M H d1 v1 → Rep K M H d2 v2 → RepP K M H ds vs → RepP K M H ((d1, d2) :: ds) ((v1, v2) :: vs)
theorem ID {K : PySem.W.Frag} : ∀ (trs : List (TE3 × TE3)) {σ : Lo} {σv : L2.St} {M : Mem} {H : Hp} {Q : List (D × D) → Mem → Prop} {Q2 : List (V × V) → Hp → Prop}, SRel K M H σ σv → MRel K M H → N1 trs σ M Q →
    (∀ ps vs M' H', Step M H M' H' → MRel K M' H' → RepP K M' H' ps vs → Q ps M' → Q2 vs H') → JW (trs.map fun z => (dnE K z.1, dnE K z.2)) σv H Q2
  | [], σ, σv, M, H, Q, Q2, hS, hM, h, hq => hq [] [] M H .refl hM .nil h
  | (tk, tv) :: r, σ, σv, M, H, Q, Q2, hS, hM, h, hq => by
    refine ⟨σ, M, _, hS, hM, h, fun x xv M1 H1 st1 m1 p1 q1 => ⟨σ, M1, _, hS.mono st1, m1, q1, fun y yv M2 H2 st2 m2 p2 q2 => ?_⟩⟩
    refine ID r (hS.mono (st1.trans st2)) m2 q2 fun ps vs M3 H3 st3 m3 p3 q3 => ?_
    exact hq _ _ M3 H3 ((st1.trans st2).trans st3) m3 (.cons (p1.mono (st2.trans st3)) (p2.mono st3) p3) q3
def CU (trs : List (TE3 × TE3)) : TE3 := fun σ M Q => ∀ p, M p = none → N1 trs σ (D4 M p (.dct [])) fun ps M1 => M1 p = some (.dct []) ∧
  ∃ kds : List (Key × D), ps = kds.map (fun kd => (kD kd.1, kd.2)) ∧ kds.length ≤ 15 ∧ Q (.ref p) (D4 M1 p (.dct (Z6 [] kds)))
theorem HX {K : PySem.W.Frag} {M : Mem} {H : Hp} : ∀ (kds : List (Key × D)) {vs : List (V × V)}, RepP K M H (kds.map (fun kd => (kD kd.1, kd.2))) vs → ∃ kvs : List (Key × V), vs = kvs.map (fun kv => (kV kv.1, kv.2)) ∧ RepK K M H kds kvs
  | [], vs, r => by cases r; exact ⟨[], rfl, .nil⟩
  | (k, d) :: kds, vs, r => by
    cases r with
    | cons a b c =>
      obtain ⟨kvs, e, q⟩ := HX kds c
      have ek := LB a
      subst ek e
      exact ⟨(k, _) :: kvs, rfl, .cons b q⟩
theorem IQ {keys : List (Option Expr)} {values : List Expr} {trs : List (TE3 × TE3)} (h : AL1 X pos keys values trs) (hall : keys.all (·.isSome) = true) (hl : keys.length = values.length) (h0 : keys ≠ []) (h15 : keys.length ≤ 15) :
    PE3 X (.Dict keys values pos) (CU trs) := PE3.of (AJ1 h hall hl h0 h15) fun pins s σv H σ M Q I hS hM h => by
  intro p hp
  have st0 : Step M H (D4 M p (.dct [])) (upd H p (.dK [])) := Step.put (.inl hp)
  refine ID trs (hS.mono st0) (hM.put (.inl hp) (show RepK _ _ _ _ _ from .nil)) (h p (hM.free hp)) fun ps vs M1 H1 st1 m1 r1 hx0 => ?_
  obtain ⟨hm, kds, e, hl, q⟩ := hx0
  subst e
  obtain ⟨kvs, rfl, rk⟩ := HX kds r1
  obtain ⟨ho, e1, r⟩ := m1 _ _ hm
  cases ho <;> first | exact r.elim | skip
  have r' : RepK X.K M1 H1 [] _ := r
  cases r'
  have hne : H1 p = none ∨ M1 p ≠ none := .inr (by rw [hm]; intro z; cases z)
  exact ⟨e1, kvs, rfl, by rw [← rk.length]; exact hl, .ref p, D4 M1 p (.dct (Z6 [] kds)), (st0.trans st1).trans (Step.put hne), m1.put hne (rk.merge .nil), .ref, q⟩
end
def Vs (M : Mem) (d : D) (M' : Mem) (d' : D) : Prop := ∀ (K : PySem.W.Frag) (H : Hp) (v : V), MRel K M H → Rep K M H d v → MRel K M' H ∧ Rep K M' H d' v ∧ ∀ a, M' a ≠ none → M a ≠ none
section
variable {K : PySem.W.Frag} {M M' : Mem} {H : Hp}
theorem Rep.shrink {d : D} {v : V} (s : ∀ a, M a = none → M' a = none) (r : Rep K M H d v) : Rep K M' H d v :=
  Rep.rec (motive_1 := fun d v _ => Rep K M' H d v) (motive_2 := fun ds vs _ => Reps K M' H ds vs) (motive_3 := fun ds vs _ => RepK K M' H ds vs)
    .non .bl .int .str .ty .ref (fun h _ ih => .tup (h.imp (fun z => ⟨z.1, s _ z.2⟩) id) ih) (fun h _ ih => .lst (h.imp (fun z => ⟨z.1, s _ z.2⟩) id) ih) (fun h _ ih => .dct ⟨h.1, s _ h.2⟩ ih)
    .nil (fun _ _ a b => .cons a b) .nil (fun _ _ a b => .cons a b) r
theorem Reps.shrink {ds : List D} {vs : List V} (s : ∀ a, M a = none → M' a = none) (r : Reps K M H ds vs) : Reps K M' H ds vs := by
  induction ds generalizing vs with
  | nil => cases r; exact .nil
  | cons d ds ih => cases r with | cons a b => exact .cons (a.shrink s) (ih b)
theorem RepK.shrink {ds : List (Key × D)} {vs : List (Key × V)} (s : ∀ a, M a = none → M' a = none) (r : RepK K M H ds vs) : RepK K M' H ds vs := by
  induction ds generalizing vs with
  | nil => cases r; exact .nil
  | cons d ds ih => cases r with | cons a b => exact .cons (a.shrink s) (ih b)
theorem RepT.shrink {ds : List (List Int × D)} {xs : List (List Int × Addr × Value)} (s : ∀ a, M a = none → M' a = none) (r : RepT K M H ds xs) : RepT K M' H ds xs := by
  induction r with
  | nil => exact .nil
  | cons a b c _ ih => exact .cons (a.shrink s) (b.shrink s) c ih
def Sub (M' M : Mem) : Prop := ∀ a o, M' a = some o → M a = some o
theorem Sub.refl : Sub M M := fun _ _ h => h
theorem Sub.none {a : Addr} (s : Sub M' M) (h : M a = Option.none) : M' a = Option.none := by
  cases e : M' a with
  | none => rfl
  | some o => rw [s a o e] at h; cases h
theorem MRel.sub (s : Sub M' M) (m : MRel K M H) : MRel K M' H := fun a o e => by
  obtain ⟨ho, e1, r⟩ := m a o (s a o e)
  refine ⟨ho, e1, ?_⟩
  cases o <;> cases ho <;> first | exact r.elim | exact Reps.shrink (fun _ z => s.none z) r | exact RepK.shrink (fun _ z => s.none z) r | (obtain ⟨xs, e, r⟩ := r; exact ⟨xs, e, r.shrink fun _ z => s.none z⟩)
theorem Vs.sub (s : Sub M' M) (d : D) : Vs M d M' d := fun K H v m r => ⟨m.sub s, r.shrink fun _ z => s.none z, fun a h z => h (s.none z)⟩
theorem Vs.refl (d : D) : Vs M d M d := Vs.sub .refl d
theorem mdel_sub {a : Addr} : Sub (J0 M a) M := fun b o h => by
  unfold J0 at h
  split at h
  · cases h
  · exact h
theorem UN {a : Addr} : J0 M a a = none := by unfold J0; rw [if_pos rfl]
theorem Vs.frzL {a : Addr} {ds : List D} (h : M a = some (.lst ds)) : Vs M (.ref a) (J0 M a) (.lst ds) := fun K H v m r => by
  cases r
  obtain ⟨ho, e1, q⟩ := m a _ h
  cases ho <;> first | exact q.elim | skip
  exact ⟨m.sub mdel_sub, .lst (.inl ⟨.inl e1, UN⟩) (Reps.shrink (fun _ z => mdel_sub.none z) q), fun b hb z => hb (mdel_sub.none z)⟩
theorem Step.less {M0 : Mem} {H0 : Hp} (s : Step M0 H0 M H) (h : ∀ a, M' a ≠ none → M a ≠ none) : Step M0 H0 M' H := ⟨s.keep, fun a z => s.dom a (h a z)⟩
end
section
variable {X : Cx} {a b e o i value : Expr} {es : List Expr} {ta tb te td ty tv : TE3} {t : TA3} {pos p pos' : Pos} {x : Str} {st : Stmt} {rest : List Stmt} {t1 t2 : TS3}
theorem SP3.trans {pins : List (Addr × Obj)} {M M1 : Mem} {H H1 : Hp} {T : R5} {f : Flow} {s' : Shared} (s : Step M H M1 H1) (h : SP3 X pins M1 H1 T f s') : SP3 X pins M H T f s' := by
  cases f with
  | next => obtain ⟨σ', σv', M', H', I, st, r⟩ := h; exact ⟨σ', σv', M', H', I, s.trans st, r⟩
  | brk => obtain ⟨σ', σv', M', H', I, st, r⟩ := h; exact ⟨σ', σv', M', H', I, s.trans st, r⟩
  | cont => obtain ⟨σ', σv', M', H', I, st, r⟩ := h; exact ⟨σ', σv', M', H', I, s.trans st, r⟩
  | ret u => obtain ⟨d, v, σv', M', H', I, st, r⟩ := h; exact ⟨d, v, σv', M', H', I, s.trans st, r⟩
def C2 : TS3 := fun T σ M => T.nx σ M
def A6 (t u : TS3) : TS3 := fun T σ M => t { T with nx := u T } σ M
theorem YT : PSs3 X [] C2 := fun _ _ σv H σ M T I hS hM h => wpAny_execs_nil ⟨σ, σv, M, H, I, .refl, hM, hS, h⟩
theorem UV (h1 : PS3 X st t1) (h2 : PSs3 X rest t2) : PSs3 X (st :: rest) (A6 t1 t2) := by
  intro pins s σv H σ M T I hS hM h
  refine wpAny_execs_cons (thn (h1 pins s σv H σ M { T with nx := t2 T } I hS hM h) fun f s1 q => ?_)
  cases f with
  | next =>
    obtain ⟨σ', σv', M', H', I', st, m', r', q⟩ := q
    exact thn (h2 pins s1 σv' H' σ' M' T I' r' m' q) fun _ _ z => z.trans st
  | ret v => exact q
  | brk => exact q
  | cont => exact q
theorem XF (h1 : PS3 X st t1) : PSs3 X [st] t1 := by
  intro pins s σv H σ M T I hS hM h
  refine wpAny_execs_cons (thn (h1 pins s σv H σ M T I hS hM h) fun f s1 q => ?_)
  cases f with
  | next => exact wpAny_execs_nil q
  | ret v => exact q
  | brk => exact q
  | cont => exact q
def F1 (te : TE3) : TS3 := fun T σ M => te σ M fun _ M1 => T.nx σ M1
theorem AB6 (he : PE3 X e te) (hs : swapsWith e none pos.line X.env = pure false := by rfl) : PS3 X (.Expr e pos) (F1 te) := by
  intro pins s σv H σ M T I hS hM h
  exact wpAny_Expr_any (thn (he pins s σv H σ M _ I hS hM h) fun v s1 ⟨d, xv, M1, H1, I1, st1, m1, r1, p1, q1⟩ => ⟨σ, σv, M1, H1, I1, st1, m1, hS.mono st1, q1⟩) I.quiet hs
def B8 (te : TE3) : TS3 := fun T σ M => te σ M T.rt
theorem AG7 (he : PE3 X e te) : PS3 X (.Return (some e) pos) (B8 te) := by
  intro pins s σv H σ M T I hS hM h
  exact wpAny_Return_some (thn (he pins s σv H σ M _ I hS hM h) fun v s1 ⟨d, xv, M1, H1, I1, st1, m1, r1, p1, q1⟩ => ⟨d, xv, σv, M1, H1, I1, st1, m1, r1, p1, q1⟩)
def D0 (c : TT3) (t u : TS3) : TS3 := fun T σ M => c σ M fun b M1 => if b = true then t T σ M1 else u T σ M1
theorem AR9 {c : Expr} {a b : List Stmt} {tc : TT3} (hc : PT3 X c tc) (ha : PSs3 X a t1) (hb : PSs3 X b t2) : PS3 X (.If c a b pos) (D0 tc t1 t2) := by
  intro pins s σv H σ M T I hS hM h
  refine wpAny_If (thn (hc pins s σv H σ M _ I hS hM h) fun d s1 ⟨M1, H1, I1, st1, m1, q1⟩ => ?_)
  cases d with
  | true => exact thn (ha pins s1 σv H1 σ M1 T I1 (hS.mono st1) m1 q1) fun _ _ z => z.trans st1
  | false => exact thn (hb pins s1 σv H1 σ M1 T I1 (hS.mono st1) m1 q1) fun _ _ z => z.trans st1
def B7 (i : Nat) (te : TE3) : TS3 := fun T σ M => te σ M fun d M1 => T.nx (σ.set i (some d)) M1
theorem AI0 {i : Nat} (hN : X.N.Nodup) (hi : X.N[i]? = some x) (hx : Loc X.env.scope x) (he : PE3 X e te) (hs : swapsWith e (some (.Name x pos')) pos.line X.env = pure false := by rfl) (hf : X.fn x = true ∨ X.env.scope.names.lookup x = some .local := by first | exact .inl rfl | exact .inr rfl | assumption) :
    PS3 X (.Assign [.Name x pos'] e pos) (B7 i te) := PS3.of (AU4 hN hi hx he.dn hs hf) fun pins s σv H σ M T I hS hM h =>
  ⟨σ, M, _, hS, hM, h, fun d v M' H' st m r q => ⟨σ.set i (some d), M', st, m, (hS.mono st).set r i, q⟩⟩
def Wk (K : PySem.W.Frag) (J : It) (ds : List D) (M : Mem) (H : Hp) : Prop := ∀ M' H', Step M H M' H' →
  (∀ i, i < ds.length → J.go i H') ∧ (∀ i d x H'', ds[i]? = some d → J.yld i H' x H'' → H'' = H' ∧ Rep K M' H' d x) ∧ ∀ i, ds.length ≤ i → J.stop i H'
abbrev TI3 := Lo → Mem → (List D → Mem → Prop) → Prop
def dnI (K : PySem.W.Frag) (t : TI3) : TI := fun σv H R2 => ∃ σ M R, SRel K M H σ σv ∧ MRel K M H ∧ t σ M R ∧ ∀ ds J M' H', Step M H M' H' → MRel K M' H' → Wk K J ds M' H' → R ds M' → R2 J H'
def PI3 (X : Cx) (tg iter : Expr) (t : TI3) : Prop := PI X tg iter (dnI X.K t)
theorem PI.weak {tg iter : Expr} {w1 w2 : TI} (h : PI X tg iter w1) (hw : ∀ σ H R, w2 σ H R → w1 σ H R) : PI X tg iter w2 := fun pins s σ H R I q => h pins s σ H R I (hw _ _ _ q)
def Q8 (ti : TI3) (i : Nat) (tb : TS3) : TS3 := fun T σ M => ti σ M fun ds M1 => ∃ Pv : Nat → Lo → Mem → Prop, Pv 0 σ M1 ∧
  (∀ k d σ M, ds[k]? = some d → Pv k σ M → tb { T with nx := Pv (k + 1), ct := Pv (k + 1), bk := T.nx } (σ.set i (some d)) M) ∧ ∀ σ M, Pv ds.length σ M → T.nx σ M
theorem AM2 {iter : Expr} {body : List Stmt} {ti : TI3} {tb : TS3} {i : Nat} {px : Pos} (hp : PassesOwn (model X.prog X.w) X.A X.env X.xe) (hc : X.calm = true) (hi : PI3 X (.Name x px) iter ti)
    (hN : X.N.Nodup) (hix : X.N[i]? = some x) (hx : Loc X.env.scope x) (hb : PSs3 X body tb)
    (hs : ∀ y, foldedSetIterable iter X.env y = pure y := by intro _; rfl) (hf : X.fn x = true ∨ X.env.scope.names.lookup x = some .local := by first | exact .inl rfl | exact .inr rfl | assumption) :
    PS3 X (.For (.Name x px) iter body [] pos) (Q8 ti i tb) := PS3.of (XZ hp hc hi (JJ hN hix hx hf) hb.dn hs) fun pins s σv H σ M T I hS hM h => by
  refine ⟨σ, M, _, hS, hM, h, fun ds J M1 H1 st1 m1 wk ⟨Pv, p0, turn, done⟩ => ?_⟩
  refine ⟨fun k m σv' H' => m = ds.length - k ∧ k ≤ ds.length ∧ ∃ σ' M', Step M1 H1 M' H' ∧ MRel X.K M' H' ∧ SRel X.K M' H' σ' σv' ∧ Pv k σ' M', ⟨_, rfl, Nat.zero_le _, σ, M1, .refl, m1, hS.mono st1, p0⟩, ?_⟩
  rintro k m σv' H' ⟨rfl, hk, σ', M', st', m', hS', pk⟩
  obtain ⟨go, yld, stop⟩ := wk M' H' st'
  by_cases hlt : k < ds.length
  · refine .inr ⟨go k hlt, fun σ2 H2 => ∃ σ'' M'', Step M1 H1 M'' H2 ∧ MRel X.K M'' H2 ∧ SRel X.K M'' H2 σ'' σ2 ∧ Pv (k + 1) σ'' M'', ?_, ?_⟩
    · rintro σ2 H2 ⟨σ'', M'', q⟩
      exact ⟨ds.length - (k + 1), by lia, rfl, hlt, σ'', M'', q⟩
    · intro y H'' hy
      obtain ⟨rfl, ry⟩ := yld k ds[k] y H'' (by simp [hlt]) hy
      refine ⟨σ'.set i (some ds[k]), M', _, hS'.set ry i, m', turn k ds[k] σ' M' (by simp [hlt]) pk, ?_⟩
      exact ⟨fun σ2 v2 M2 H2 s2 m2 r2 q2 => ⟨σ2, M2, st'.trans s2, m2, r2, q2⟩, fun σ2 v2 M2 H2 s2 m2 r2 q2 => ⟨σ2, M2, (st1.trans st').trans s2, m2, r2, q2⟩,
        fun σ2 v2 M2 H2 s2 m2 r2 q2 => ⟨σ2, M2, st'.trans s2, m2, r2, q2⟩, fun d v2 M2 H2 s2 m2 r2 q2 => ⟨d, M2, (st1.trans st').trans s2, m2, r2, q2⟩⟩
  · have e : k = ds.length := by lia
    subst e
    exact .inl ⟨stop _ (Nat.le_refl _), σ', M', st1.trans st', m', hS', done σ' M' pk⟩
def DP (ta : TA3) : TI3 := fun σ M R => ta σ M fun ds M1 => match ds with
  | [.int j] => -(2 ^ 62) ≤ j ∧ j < 2 ^ 62 ∧ R ((List.range j.toNat).map fun k => D.int (k : Nat)) M1
  | _ => False
theorem PV {tg : Expr} (hg : Gl X "range") (hm : X.mg "range" = none) (ha : PA3 X [a] t) (hs : starEach [a] X.env = [(false, eval a X.env)] := by rfl) : PI3 X tg (.Call (.Name "range" p) [a] [] pos) (DP t) :=
  PI.weak (UG hg hm ha.dn hs) fun σv H R2 hx0 => by
    obtain ⟨σ, M, R, hS, hM, h, k⟩ := hx0
    refine ⟨σ, M, _, hS, hM, h, fun ds vs M' H' st m r q => ?_⟩
    have px := r
    clear r
    rcases px with _ | ⟨pd, ps⟩; (exact (q : False).elim); rcases ps with _ | ⟨p2, ps2⟩; rotate_left; (first | exact (q : False).elim | (cases pd <;> exact (q : False).elim))
    cases pd with
    | @int j =>
      obtain ⟨h1, h2, q⟩ := q
      refine ⟨j, rfl, h1, h2, k _ _ M' H' st m (fun M2 H2 s2 => ⟨fun i hi => ?_, fun i d x H3 hd hy => ?_, fun i hi => ?_⟩) q⟩
      · show i < j.toNat
        simpa using hi
      · obtain ⟨rfl, rfl⟩ := hy
        refine ⟨rfl, ?_⟩
        rw [List.getElem?_map] at hd
        cases e : (List.range j.toNat)[i]? with
        | none => rw [e] at hd; cases hd
        | some n =>
          rw [e] at hd
          have en : n = i := by
            rw [List.getElem?_range] at e
            · exact (Option.some.inj e).symm
            · have := (List.getElem?_eq_some_iff.mp e).1; simpa using this
          subst en
          cases hd
          have z : (0 : Int) + (n : Int) = (n : Int) := by lia
          rw [z]; exact .int
      · show j.toNat ≤ i
        simpa using hi
    | _ => exact (q : False).elim
theorem AC0 {tg : Expr} {te' : TE3} (ha : PE3 X a te') (hte : te' = te) : PI3 X tg a (fun σ M R => te σ M fun d M1 => match d with | .lst ds => R ds M1 | _ => False) := by
  subst hte
  refine PI.weak (AM4 ha.dn) fun σv H R2 hx0 => ?_
  obtain ⟨σ, M, R, hS, hM, h, k⟩ := hx0
  refine ⟨σ, M, _, hS, hM, h, fun d v M' H' st m r q => ?_⟩
  cases r <;> first | exact q.elim | skip
  rename_i a' ds vs h1 rs
  refine ⟨a', rfl, ⟨vs, SqL.of3 h1⟩, k ds _ M' H' st m (fun M2 H2 s2 => ?_) q⟩
  have h2 : SqL X.K H2 a' vs := SqL.of3 (h1.imp (Fix.mono s2) id)
  have r2 := rs.mono s2
  refine ⟨fun i hi => ?_, fun i d x H3 hd hy => ?_, fun i hi => ?_⟩
  · obtain ⟨v, hv, _⟩ := r2.get (i := i) (d := ds[i]) (by simp [hi])
    exact ⟨vs, v, h2, hv⟩
  · obtain ⟨rfl, hy⟩ := hy
    obtain ⟨v, hv, rv⟩ := r2.get hd
    rw [hy vs h2] at hv
    cases hv
    exact ⟨rfl, rv⟩
  · exact ⟨vs, h2, by rw [← r2.length]; exact hi⟩
theorem AG1 {tg : Expr} (ha : PE3 X a te) : PI3 X tg a (fun σ M R => te σ M fun d M1 => match d with | .tup ds => R ds M1 | _ => False) := by
  refine PI.weak (AS8 ha.dn) fun σv H R2 hx0 => ?_
  obtain ⟨σ, M, R, hS, hM, h, k⟩ := hx0
  refine ⟨σ, M, _, hS, hM, h, fun d v M' H' st m r q => ?_⟩
  cases r <;> first | exact q.elim | skip
  rename_i a' ds vs h1 rs
  refine ⟨a', rfl, ⟨vs, SqT.of3 h1⟩, k ds _ M' H' st m (fun M2 H2 s2 => ?_) q⟩
  have h2 : SqT X.K H2 a' vs := SqT.of3 (h1.imp (Fix.mono s2) id)
  have r2 := rs.mono s2
  refine ⟨fun i hi => ?_, fun i d x H3 hd hy => ?_, fun i hi => ?_⟩
  · obtain ⟨v, hv, _⟩ := r2.get (i := i) (d := ds[i]) (by simp [hi])
    exact ⟨vs, v, h2, hv⟩
  · obtain ⟨rfl, hy⟩ := hy
    obtain ⟨v, hv, rv⟩ := r2.get hd
    rw [hy vs h2] at hv
    cases hv
    exact ⟨rfl, rv⟩
  · exact ⟨vs, h2, by rw [← r2.length]; exact hi⟩
end
abbrev Sp3 := List D → Mem → DK → Prop
def J8 (K : PySem.W.Frag) (sp : Sp3) : Sp := fun vs H Q _ => ∃ ds M Q3, Reps K M H ds vs ∧ MRel K M H ∧ sp ds M Q3 ∧ ∀ d v M' H', Step M H M' H' → MRel K M' H' → Rep K M' H' d v → Q3 d M' → Q v H'
def View (Q : DK) : DK := fun d M => ∃ d' M', Vs M d M' d' ∧ Q d' M'
theorem View.of {Q : DK} {d : D} {M : Mem} (q : Q d M) : View Q d M := ⟨d, M, .refl d, q⟩
theorem View.sub {Q : DK} {d : D} {M M' : Mem} (s : Sub M' M) (q : Q d M') : View Q d M := ⟨d, M', .sub s d, q⟩
def B5 (N : List Str) (ds : List D) : Lo := ds.map some ++ List.replicate (N.length - ds.length) none
theorem VG {K : PySem.W.Frag} {M : Mem} {H : Hp} {N : List Str} {ds : List D} {vs : List V} (r : Reps K M H ds vs) : SRel K M H (B5 N ds) (L2.start N vs) := by
  refine ⟨by simp [B5, L2.start, r.length], fun i d h => ?_⟩
  unfold B5 at h
  unfold L2.start
  by_cases hi : i < ds.length
  · rw [List.getElem?_append_left (by simpa using hi), List.getElem?_map] at h
    rw [List.getElem?_append_left (by simpa [← r.length] using hi), List.getElem?_map]
    cases e : ds[i]? with
    | none => rw [e] at h; cases h
    | some d' =>
      rw [e] at h; cases h
      obtain ⟨v, hv, rv⟩ := r.get e
      exact ⟨v, by rw [hv]; rfl, rv⟩
  · rw [List.getElem?_append_right (by simpa using hi), List.getElem?_replicate] at h
    split at h <;> cases h
section
variable {P : Program} {w : World} {K : PySem.W.Frag} {mg : Str → Option Value} {base : Heap}
theorem Fun.ok3 {x qual : Str} {st : Stmt} {f : Addr} {fd : FuncData} {N ps : List Str} {k : Nat} {sp : Sp3} (F : Fun K x qual st f fd) (S : C8 N ps (A3 st)) (len : ∀ ds M Q, sp ds M Q → ds.length = ps.length)
    (hbody : ∀ (cdv : Value) (A : Around) (outer : List Env) (s : Shared) (H : Hp) (E : XK), Room k (A.deeper (envOfC qual (A3 st) s.heap.objs.size f cdv)) →
      ∃ t, PSs3 (J6 CX0 P w K mg base N qual (A3 st) f cdv A outer s H E).nox (B1 st) t ∧ ∀ ds M Q, sp ds M Q → t { nx := fun _ M' => View Q .non M', rt := View Q } (B5 N ds) M) :
    G4 P w K mg base CX0 (k + 1) f fd ps (J8 K sp) := by
  refine F.ok S (fun vs H Q E ⟨ds, M, Q3, r, _, h, _⟩ => by rw [← r.length]; exact len _ _ _ h) fun cdv A outer s H vs Q E hr hx0 => ?_
  obtain ⟨ds, M, Q3, r, m, h, q⟩ := hx0
  obtain ⟨t, ht, hs⟩ := hbody cdv A outer s H E hr
  have fin : ∀ d v M' H', Step M H M' H' → MRel K M' H' → Rep K M' H' d v → View Q3 d M' → Q v H' := fun d v M' H' st m' r' hx0 => by
    obtain ⟨d2, M2, vs2, q2⟩ := hx0
    obtain ⟨m2, r2, s2⟩ := vs2 K H' v m' r'
    exact q d2 v M2 H' (st.less s2) m2 r2 q2
  refine ⟨_, ht.dn, B5 N ds, M, _, VG r, m, hs ds M Q3 h, ?_⟩
  exact ⟨fun σ' σv' M' H' st m' _ z => fin .non .non M' H' st m' .non z, fun _ _ _ _ _ _ _ z => z.elim, fun _ _ _ _ _ _ _ z => z.elim, fin⟩
end
section
variable {X : Cx} {e : Expr} {es : List Expr} {t : TA3} {x : Str} {p pos : Pos} {k : Nat} {f : Addr} {fd : FuncData} {ps : List Str} {sp : Sp3}
def A7 (sp : Sp3) (t : TA3) : TE3 := fun σ M Q => t σ M fun ds M1 => sp ds M1 Q
theorem YU (F : G4 X.prog X.w X.K X.mg X.base CX0 k f fd ps (J8 X.K sp)) (hr : Room k X.A) (hg : Gl X x) (hm : X.mg x = some (.ref f)) (hk : PySem.W.keepIn X.K (.ref f) = true) (hb : Binds X.K fd ps [])
    (ha : PA3 X (e :: es) t) (hdb : (x == ("__debug__" : Str)) = false := by decide) (he : starEach (e :: es) X.env = (false, eval e X.env) :: starEach es X.env := by rfl) (hpl : (backTo pos (starEach es X.env)).any (·.1) = false := by rfl) :
    PE3 X (.Call (.Name x p) (e :: es) [] pos) (A7 sp t) :=
  PE3.of (AJ8 F hr hg hm hk hb .nil BF7 ha.dn hdb he hpl) fun pins s σv H σ M Q I hS hM h => by
    refine ⟨σ, M, _, hS, hM, h, fun ds vs M1 H1 st1 m1 r1 q1 => ?_⟩
    show J8 X.K sp (vs ++ []) H1 _ _
    rw [List.append_nil]
    exact ⟨ds, M1, Q, r1, m1, q1, fun d v M' H' st m r q => ⟨d, M', st1.trans st, m, r, q⟩⟩
end
abbrev F5 : R3 := FX fun i j => .int (i - j)
abbrev Z8 : R3 := rI3 TH fun i j => .int (i * j)
abbrev Z9 : R3 := rI3 MW fun i j => .int (i / j)
abbrev O0 : R3 := rI3 (fun _ j => 0 < j) fun i j => .int (i % j)
abbrev U1 : R3 := rI3 WE fun i j => .int (i ^ j.toNat)
abbrev CH : R3 := FX fun i j => .bl (decide (i < j))
abbrev AF8 : R3 := FX fun i j => .bl (decide (j < i))
abbrev AN4 : R3 := FX fun i j => .bl (decide (j ≤ i))
abbrev AD7 : U3 := rU3 fun i => -i
def AK8 (te : TE3) (tl th : TO3) : TE3 := fun σ M Q => te σ M fun x M1 => tl σ M1 fun l M2 => th σ M2 fun u M3 => AM1 x l u M3 Q
def N5 (te : TE3) : TI3 := fun σ M R => te σ M fun d M1 => match d with | .lst ds => R ds M1 | _ => False
def BB (te : TE3) : TI3 := fun σ M R => te σ M fun d M1 => match d with | .tup ds => R ds M1 | _ => False
section
variable {X : Cx} {a e : Expr} {te : TE3} {pos : Pos} {lo hi : Option Expr} {tl th : TO3} {p2 : Pos} {tg : Expr}
theorem AV2 (he : PE3 X e te) (hl : PO3 X lo tl) (hu : PO3 X hi th) : PE3 X (.Subscript e (.Slice lo hi none p2) pos) (AK8 te tl th) := VA he hl hu
theorem BD8 (ha : PE3 X a te) : PI3 X tg a (N5 te) := AC0 ha rfl
theorem BB9 (ha : PE3 X a te) : PI3 X tg a (BB te) := AG1 ha
theorem hu3 {k : Nat} (hr : Room k X.A) : X.A.units + 1 < cLine := by have := hr.units; lia
end
theorem P2 : bootBuiltins "len" = some (.builtin "len") := by decide +kernel
theorem QU : bootBuiltins "abs" = some (.builtin "abs") := by decide +kernel
theorem ED : bootBuiltins "repr" = some (.builtin "repr") := by decide +kernel
theorem PQ : bootBuiltins "int" = some (.type "int") := by decide +kernel
theorem ME : bootBuiltins "list" = some (.type "list") := by decide +kernel
theorem S9 : bootBuiltins "tuple" = some (.type "tuple") := by decide +kernel
structure FnAt (K : PySem.W.Frag) (mg : Str → Option Value) (x : Str) (st : Stmt) (ps : List Str) (f : Addr) (fd : FuncData) : Prop where
  fn : Fun K x x st f fd
  bd : Binds K fd ps []
  gl : mg x = some (.ref f)
theorem us0 {us : List Value} (h : us.length = 0) : us = [] := List.length_eq_zero_iff.mp h
theorem us1 {us : List Value} (h : us.length = 1) : ∃ a, us = [a] := by
  cases us with
  | nil => cases h
  | cons a r => exact ⟨a, by rw [us0 (Nat.succ.inj h)]⟩
theorem us2 {us : List Value} (h : us.length = 2) : ∃ a b, us = [a, b] := by
  cases us with
  | nil => cases h
  | cons a r => obtain ⟨b, e⟩ := us1 (Nat.succ.inj h); exact ⟨a, b, by rw [e]⟩
theorem us3 {us : List Value} (h : us.length = 3) : ∃ a b c, us = [a, b, c] := by
  cases us with
  | nil => cases h
  | cons a r => obtain ⟨b, c, e⟩ := us2 (Nat.succ.inj h); exact ⟨a, b, c, by rw [e]⟩
theorem us4 {us : List Value} (h : us.length = 4) : ∃ a b c d, us = [a, b, c, d] := by
  cases us with
  | nil => cases h
  | cons a r => obtain ⟨b, c, d, e⟩ := us3 (Nat.succ.inj h); exact ⟨a, b, c, d, by rw [e]⟩
theorem us5 {us : List Value} (h : us.length = 5) : ∃ a b c d f, us = [a, b, c, d, f] := by
  cases us with
  | nil => cases h
  | cons a r => obtain ⟨b, c, d, f, e⟩ := us4 (Nat.succ.inj h); exact ⟨a, b, c, d, f, by rw [e]⟩
theorem D3 {K : PySem.W.Frag} {h : Heap} {mg : Str → Option Value} {x : Str} {st : Stmt} {ps : List Str} {f : Addr} {oc : Value} {od an : Option Addr} {osl : Array (Option Value)} {kV doc pm cdv ct : Value} (X : K.In h) (G : h.Ns mainGlobals mg)
    (a : PySem.W.nsIn K mainGlobals x = some (some (.ref f))) (l : K.lookup f = some ⟨oc, od, .func (PySem.W.fnOf x x (C5 st) (B1 st) (A3 st) .none kV doc pm an cdv ct), osl⟩)
    (c : PySem.W.codeIn K cdv x = true) (k : PySem.W.keepIn K (.ref f) = true)
    (hb : ∀ (kV doc pm : Value) (an : Option Addr) (cdv ct : Value) (us : List Value), us.length = ps.length → bindArgs (PySem.W.fnOf x x (C5 st) (B1 st) (A3 st) .none kV doc pm an cdv ct) ⟨us, []⟩ = pure (ps.zip us)) :
    FnAt K mg x st ps f (PySem.W.fnOf x x (C5 st) (B1 st) (A3 st) .none kV doc pm an cdv ct) :=
  ⟨AC5 l c k, (AC5 l c k).binds hb, PySem.W.mg_of X G a⟩
def DD : Sp3 := fun ds M Q => ∃ ns : List Int, ds = [.lst (ns.map D.int)] ∧ ns.length ≤ 63 ∧ (∀ a, M a = none) ∧ ∀ M', Q (.bl true) M'
theorem BD9 {l : PySem.W.OpenLaw} {q : Program} {loose : List Str} {XP : (Str → Option Value) → Heap → Prop} {YP : World → Heap → Prop} {d : DefRec} {K : Params → PySem.W.Frag} {k : Nat} {x : Str} (hn : l.most = some 63) (hdf : d.params.defaults = []) (hr : Room k callerA)
    (hY : ∀ (w : World) (h : Heap), YP w h → (K w.params).In h)
    (F : ∀ (w : World) (mg : Str → Option Value) (fa : Addr) (h : Heap), (K w.params).In h → h.Ns mainGlobals mg → mg d.name = some (.ref fa) →
      ∃ fd : FuncData, (∀ (s : Shared) (u : Value), BindsTo s fd ⟨[u], []⟩ [(x, u)]) ∧ ∀ base : Heap, (K w.params).In base → base.Ns mainGlobals mg → G4 l.prog w (K w.params) mg base CX0 k fa fd [x] (J8 (K w.params) DD)) :
    PySem.W.WalkO q loose XP YP l.row.toRowW d [] (fun f vs => PySem.call f vs) :=
  L2.AM0 (n := 63) (k := k) (x := x) (CX := fun _ => CX0) (sp := fun w => J8 (K w.params) DD) hn (by decide) hdf hr hY F
    (fun w H a ns hl _ hS => ⟨[.lst (ns.map D.int)], fun _ => none, fun d _ => d = .bl true, .cons (.lst (hS.imp (fun z => ⟨z, rfl⟩) id) .ints) .nil, (fun _ _ z => nomatch z), ⟨ns, rfl, hl, fun _ => rfl, fun _ => rfl⟩,
      fun d v M' H' _ _ r e => by subst e; cases r; rfl⟩) fun _ _ _ _ _ z => z
def DX (ns : List Int) (a l : Int) : MO := .dct [(.inr "cells", .lst (ns.map D.int)), (.inr "at", .int a), (.inr "left", .int l)]
def Pen (M : Mem) (p : Addr) (b : Nat) : Prop := ∃ ns a l, M p = some (DX ns a l) ∧ ns.length ≤ 63 ∧ 0 ≤ a ∧ a ≤ (b : Int) ∧ 0 ≤ l
def Same3 (p : Addr) (M M' : Mem) : Prop := ∀ q, q ≠ p → M' q = M q
theorem Same3.refl {p : Addr} {M : Mem} : Same3 p M M := fun _ _ => rfl
theorem Same3.trans {p : Addr} {M M1 M2 : Mem} (a : Same3 p M M1) (b : Same3 p M1 M2) : Same3 p M M2 := fun q h => (b q h).trans (a q h)
def FR : Sp3 := fun ds M Q => ∃ ns : List Int, ds = [.lst (ns.map D.int)] ∧ ns.length ≤ 63 ∧ ∀ p M', M p = none → Pen M' p 0 → Same3 p M M' → Q (.ref p) M'
def B3 : Sp3 := fun ds M Q => ∃ p many b, ds = [.ref p, .int many] ∧ Pen M p b ∧ b < 2 ^ 30 ∧ 0 < many ∧ many < 2 ^ 200 ∧ ∀ n M', 0 ≤ n → n < many → Pen M' p (b + 1) → Same3 p M M' → Q (.int n) M'
def R6 (c : Str → Addr) : List (Str × NameKind) → List (Str × Addr) → List (Str × Addr)
  | [], acc => acc
  | (n, k) :: r, acc => R6 c r (if (k == .free) = true then (n, c n) :: acc else acc)
theorem GZ {scope : Scope} {env : Env} {c : Str → Addr} (h : ∀ p ∈ scope.names, p.2 = .free → env.cells.lookup p.1 = some (c p.1)) : closureFor scope env = pure (R6 c scope.names []) := by
  unfold closureFor
  have key : ∀ (l : List (Str × NameKind)) (acc : List (Str × Addr)), (∀ p ∈ l, p.2 = .free → env.cells.lookup p.1 = some (c p.1)) →
      (forIn l acc fun (x : Str × NameKind) (r : List (Str × Addr)) => match x with
        | (name, kind) => if (kind == NameKind.free) = true then do let y ← cellOf env name; pure (ForInStep.yield ((name, y) :: r)) else pure (ForInStep.yield r) : Sem (List (Str × Addr))) = pure (R6 c l acc) := by
    intro l
    induction l with
    | nil => intro acc _; rfl
    | cons p l ih =>
      intro acc hp
      obtain ⟨n, k⟩ := p
      rw [List.forIn_cons]
      by_cases hk : (k == NameKind.free) = true
      · have hkf : k = .free := by simpa using hk
        have hc := hp (n, k) List.mem_cons_self hkf
        have e : cellOf env n = pure (c n) := by unfold cellOf; rw [show env.cells.lookup n = some (c n) from hc]
        simp only [hk, if_true, e]
        have := ih ((n, c n) :: acc) fun q hq => hp q (List.mem_cons_of_mem _ hq)
        unfold R6
        rw [if_pos hk, ← this]
        rfl
      · simp only [hk, if_false]
        have := ih acc fun q hq => hp q (List.mem_cons_of_mem _ hq)
        unfold R6
        rw [if_neg hk, ← this]
        rfl
  have k2 := key scope.names [] h
  first
    | exact k2
    | (refine Eq.trans ?_ k2; rfl)
    | (simp only [bind_pure]; exact k2)
theorem CZ (c : Str → Addr) : ∀ (l : List (Str × NameKind)) (acc : List (Str × Addr)) (p : Str × Addr), p ∈ R6 c l acc → p ∈ acc ∨ (p.2 = c p.1 ∧ (p.1, NameKind.free) ∈ l)
  | [], acc, p, h => .inl h
  | (n, k) :: r, acc, p, h => by
    unfold R6 at h
    rcases CZ c r _ p h with h | ⟨h1, h2⟩
    · by_cases hk : (k == NameKind.free) = true
      · rw [if_pos hk] at h
        rcases List.mem_cons.mp h with rfl | h
        · have hkf : k = .free := by simpa using hk
          exact .inr ⟨rfl, by rw [hkf]; exact List.mem_cons_self⟩
        · exact .inl h
      · rw [if_neg hk] at h; exact .inl h
    · exact .inr ⟨h1, List.mem_cons_of_mem _ h2⟩
theorem HV (c : Str → Addr) : ∀ (l : List (Str × NameKind)) (acc : List (Str × Addr)) (n : Str), ((n, NameKind.free) ∈ l ∨ (n, c n) ∈ acc) → (n, c n) ∈ R6 c l acc
  | [], acc, n, h => by
    rcases h with h | h
    · exact absurd h (by simp)
    · exact h
  | (m, k) :: r, acc, n, h => by
    unfold R6
    refine HV c r _ n ?_
    rcases h with h | h
    · rcases List.mem_cons.mp h with e | h
      · cases e
        exact .inr (by rw [if_pos (by decide)]; exact List.mem_cons_self)
      · exact .inl h
    · by_cases hk : (k == NameKind.free) = true
      · rw [if_pos hk]; exact .inr (List.mem_cons_of_mem _ h)
      · rw [if_neg hk]; exact .inr h
theorem HG {l : List (Str × Addr)} {c : Str → Addr} (h : ∀ p ∈ l, p.2 = c p.1) {n : Str} (hm : (n, c n) ∈ l) : l.lookup n = some (c n) := by
  induction l with
  | nil => exact absurd hm (by simp)
  | cons p r ih =>
    obtain ⟨m, a⟩ := p
    by_cases e : n = m
    · subst e
      have : a = c n := h (n, a) List.mem_cons_self
      simp [List.lookup_cons, this]
    · have e' : (n == m) = false := by simpa using e
      simp only [List.lookup_cons, e']
      refine ih (fun q hq => h q (List.mem_cons_of_mem _ hq)) ?_
      rcases List.mem_cons.mp hm with z | z
      · cases z; exact absurd rfl e
      · exact z
theorem VF (c : Str → Addr) (l : List (Str × NameKind)) : ∀ p ∈ R6 c l [], p.2 = c p.1 := fun p hp => by
  rcases CZ c l [] p hp with h | h
  · exact absurd h (by simp)
  · exact h.1
theorem LA {c : Str → Addr} {l : List (Str × NameKind)} {n : Str} (h : (n, NameKind.free) ∈ l) : (R6 c l []).lookup n = some (c n) :=
  HG (VF c l) (HV c l [] n (.inl h))
theorem ZY {c : Str → Addr} {l : List (Str × NameKind)} {n : Str} {a : Addr} (h : (R6 c l []).lookup n = some a) : a = c n ∧ (n, NameKind.free) ∈ l := by
  have hm := PySem.mem_of_lookup h
  rcases CZ c l [] (n, a) hm with z | z
  · exact absurd z (by simp)
  · exact z
theorem US {prog : Program} {w : World} {A : Around} {R : Result → Shared → Prop} {s : Shared} {elt target iter : Expr} {ifs : List Expr} {scope : Scope} {pos : Pos} {it acc : Value} {env : Env} (I : Nat → Shared → Prop)
    (turn : ∀ n s, I n s → wpAny (model prog w) A (pyNext it) (fun r s₁ => match r with
      | none => R (.ok .next) s₁
      | some v => wpAny (model prog w) A (letOwnedTupleGo target it v) (fun _ s₁' => wpAny (model prog w) A (assign target env v) (fun _ s₂ =>
          wpAny (model prog w) A (forIn ifs true fun c r => if r = true then do let ok ← isTrue c env (eval c env); pure (ForInStep.yield ok) else pure (ForInStep.yield r)) (fun ok s₃ =>
            if ok = true then wpAny (model prog w) A (eval elt env) (fun x s₄ =>
              wpAny (model prog w) A (call (.builtin "list.append") [acc, x]) (fun _ s₅ => ∃ m, m < n ∧ I m s₅) (fun _ _ => False) s₄) (fun _ _ => False) s₃
            else ∃ m, m < n ∧ I m s₃) (fun _ _ => False) s₂) (fun _ _ => False) s₁') (fun _ _ => False) s₁) (fun _ _ => False) s)
    (n : Nat) (h : I n s) : codeAny (model prog w) A (.compLoop (.ListComp elt [⟨target, iter, ifs, 0⟩] scope pos) 0 it acc env) R s := by
  refine codeAny_loop rfl I (fun n s hI => ?_) n h
  show wpAny _ A ((compTurn (.ListComp elt [⟨target, iter, ifs, 0⟩] scope pos) 0 it acc env).onRaise (fun x => do noteFrame x env; theTreesLotGoes x)) _ _ s
  refine wpAny_noted ?_
  rw [compTurn_list]
  refine wpAny_bind (wpAny_standAt (wpAny_bind (wpAny_mono (turn n s hI) (fun r s₁ h₁ => ?_) fun _ _ h' => h'.elim)))
  cases r with
  | none => exact wpAny_pure h₁
  | some v =>
    refine wpAny_bind (wpAny_mono h₁ (fun _ s₁' h₁' => ?_) fun _ _ h' => h'.elim)
    refine wpAny_bind (wpAny_mono h₁' (fun _ s₂ h₂ => wpAny_bind (wpAny_mono h₂ (fun ok s₃ h₃ => ?_) fun _ _ h' => h'.elim)) fun _ _ h' => h'.elim)
    cases ok with
    | false => exact wpAny_pure ⟨rfl, h₃⟩
    | true =>
      exact wpAny_bind (wpAny_bind (wpAny_mono h₃ (fun x s₄ h₄ => wpAny_bind (wpAny_mono h₄ (fun _ s₅ h₅ => wpAny_pure (wpAny_pure ⟨rfl, h₅⟩)) fun _ _ h' => h'.elim)) fun _ _ h' => h'.elim))
def C0 (X : Cx) (scope : Scope) (cl : List (Str × Addr)) (s₀ : Shared) (H₀ : Hp) (ex : List Addr) (N' : List Str) : Cx :=
  { X with N := N', s₀ := s₀, H₀ := H₀, env := compEnvC scope cl s₀.heap.objs.size X.env, outer := X.stack, stack := X.stack, ex := ex, fn := fun _ => false, pn := [], xe := fun _ _ => False }
theorem KG {scope : Scope} {env : Env} (hcell : ∀ y ∈ scope.names, y.2 ≠ .cell) {x : Str} (h : (relabel scope env).names.lookup x = some .cell ∨ (relabel scope env).names.lookup x = some .free) : (x, NameKind.free) ∈ scope.names := by
  have key : ∀ k', (k' = .cell ∨ k' = .free) → (relabel scope env).names.lookup x = some k' → (x, NameKind.free) ∈ scope.names := fun k' hk h => by
    have hm := PySem.mem_of_lookup h
    obtain ⟨⟨n, k⟩, hn, e⟩ := List.mem_map.mp hm
    by_cases hc : (k == NameKind.free && env.scope.kind == .function && env.kindOf n == some .cell) = true
    · dsimp only at e
      rw [if_pos hc] at e
      cases e
      have : k = .free := by
        simp only [Bool.and_eq_true] at hc
        simpa using hc.1.1
      rw [this] at hn; exact hn
    · dsimp only at e
      rw [if_neg hc] at e
      cases e
      rcases hk with rfl | rfl
      · exact absurd rfl (hcell _ hn)
      · exact hn
  rcases h with h | h
  · exact key _ (.inl rfl) h
  · exact key _ (.inr rfl) h
def BH (X : Cx) (ifs : List Expr) (t : TT3) : Prop :=
  ∀ (pins : List (Addr × Obj)) (s : Shared) (σv : L2.St) (H : Hp) (σ : Lo) (M : Mem) (Q : Bool → Mem → Prop), Inv X pins σv H s → SRel X.K M H σ σv → MRel X.K M H → t σ M Q →
    wpAny (model X.prog X.w) X.A (forIn ifs true fun c r => if r = true then do let ok ← isTrue c X.env (eval c X.env); pure (ForInStep.yield ok) else pure (ForInStep.yield r)) (TP3 X pins σv M H Q) X.xe s
def U7 : TT3 := fun _ M Q => Q true M
theorem ZL {X : Cx} : BH X [] U7 := fun pins s σv H σ M Q I hS hM h => by
  rw [List.forIn_nil]
  exact wpAny_pure ⟨M, H, I, .refl, hM, h⟩
theorem AE1 {X : Cx} {c : Expr} {t : TT3} (hc : PT3 X c t) : BH X [c] t := fun pins s σv H σ M Q I hS hM h => by
  rw [List.forIn_cons]
  simp only [if_true]
  refine wpAny_bind (wpAny_bind (thn (hc pins s σv H σ M Q I hS hM h) fun b s1 q => wpAny_pure ?_))
  show wpAny _ _ (forIn [] b _) _ _ _
  rw [List.forIn_nil]
  exact wpAny_pure q
abbrev TG3 := D → Lo → Mem → (Lo → Mem → Prop) → Prop
def dnG (K : PySem.W.Frag) (g : TG3) : TG := fun v σv H Q2 => ∃ d σ M Q, Rep K M H d v ∧ SRel K M H σ σv ∧ MRel K M H ∧ g d σ M Q ∧ ∀ σ' σv' M' H', Step M H M' H' → MRel K M' H' → SRel K M' H' σ' σv' → Q σ' M' → Q2 σv' H'
def PG3 (X : Cx) (tg : Expr) (g : TG3) : Prop := PG X tg (dnG X.K g)
theorem PG.weak {X : Cx} {tg : Expr} {g1 g2 : TG} (h : PG X tg g1) (hw : ∀ v σ H Q, g2 v σ H Q → g1 v σ H Q) : PG X tg g2 := fun pins s σ H v u Q I r q => h pins s σ H v u Q I r (hw _ _ _ _ q)
def P1 (i : Nat) : TG3 := fun d σ M Q => Q (σ.set i (some d)) M
theorem AE5 {X : Cx} {i : Nat} {x : Str} {pos : Pos} (hN : X.N.Nodup) (hi : X.N[i]? = some x) (hx : Loc X.env.scope x) (hf : X.fn x = true ∨ X.env.scope.names.lookup x = some .local := by first | exact .inl rfl | exact .inr rfl | assumption) : PG3 X (.Name x pos) (P1 i) :=
  PG.weak (JJ hN hi hx hf) fun v σv H Q2 ⟨d, σ, M, Q, r, hS, hM, h, k⟩ => k (σ.set i (some d)) _ M H .refl hM (hS.set r i) h
def W5 {α : Type} : List (Option α) → List Nat → List α → List (Option α)
  | σ, i :: is, x :: xs => W5 (σ.set i (some x)) is xs
  | σ, _, _ => σ
def ZX (is : List Nat) : TGs := fun vs σ H Q => vs.length = is.length ∧ Q (W5 σ is vs) H
theorem PGs.weak {X : Cx} {ts : List Expr} {g1 g2 : TGs} (h : PGs X ts g1) (hw : ∀ v σ H Q, g2 v σ H Q → g1 v σ H Q) : PGs X ts g2 := fun pins s σ H v u Q I r q => h pins s σ H v u Q I r (hw _ _ _ _ q)
theorem XQ {X : Cx} : PGs X [] (ZX []) := PGs.weak AH5 fun vs σ H Q hx0 => by
  obtain ⟨hl, q⟩ := hx0
  have e : vs = [] := List.length_eq_zero_iff.mp hl
  subst e
  exact ⟨rfl, q⟩
theorem VZ {X : Cx} {i : Nat} {is : List Nat} {x : Str} {pos : Pos} {es : List Expr} (hN : X.N.Nodup) (hi : X.N[i]? = some x) (hx : Loc X.env.scope x) (h2 : PGs X es (ZX is))
    (hf : X.fn x = true ∨ X.env.scope.names.lookup x = some .local := by first | exact .inl rfl | exact .inr rfl | assumption)
    (hs : (assignEach (.Name x pos :: es) X.env).map (·.2) = assign (.Name x pos) X.env :: (assignEach es X.env).map (·.2) := by rfl) : PGs X (.Name x pos :: es) (ZX (i :: is)) :=
  PGs.weak (XS (JJ hN hi hx hf) h2 hs) fun vs σ H Q hx0 => by
    obtain ⟨hl, q⟩ := hx0
    cases vs with
    | nil => cases hl
    | cons v r => exact ⟨v, r, rfl, by simpa using hl, q⟩
theorem BN {K : PySem.W.Frag} {M : Mem} {H : Hp} : ∀ {is : List Nat} {ds : List D} {vs : List V} {σ : Lo} {σv : L2.St}, Reps K M H ds vs → SRel K M H σ σv → SRel K M H (W5 σ is ds) (W5 σv is vs)
  | [], ds, vs, σ, σv, r, hS => by cases ds <;> cases vs <;> exact hS
  | i :: is, _, _, σ, σv, .nil, hS => hS
  | i :: is, _, _, σ, σv, .cons a b, hS => BN (is := is) b (hS.set a i)
def BA (is : List Nat) : TG3 := fun d σ M Q => ∃ ds, d = .tup ds ∧ ds.length = is.length ∧ Q (W5 σ is ds) M
theorem AL8 {X : Cx} {es : List Expr} {k : Nat} {pos : Pos} {is : List Nat} (hc : X.calm = true) (h : PGs X es (ZX is))
    (hn : (assignEach es X.env).length = is.length := by rfl) (hst : (assignEach es X.env).findIdx? (·.1) = none := by rfl) : PG3 X (.Tuple es k pos) (BA is) :=
  PG.weak (AU6 hc h hn hst) fun v σv H Q2 hx0 => by
    obtain ⟨d, σ, M, Q, r, hS, hM, ⟨ds, e, hl, q⟩, kk⟩ := hx0
    subst e
    cases r with
    | tup h1 rs => exact ⟨_, _, rfl, SqT.of3 h1, by rw [← rs.length]; exact hl, by rw [← rs.length]; exact hl, kk _ _ M H .refl hM (BN rs hS) q⟩
def SX (g : TG3) (te : TE3) : TS3 := fun T σ M => te σ M fun d M1 => g d σ M1 T.nx
theorem TC {X : Cx} {tg e : Expr} {te : TE3} {g : TG3} {pos : Pos} (he : PE3 X e te) (hg : PG3 X tg g) (hs : swapsWithSole [tg] e pos.line X.env = pure false := by rfl) (hw : swappedStores [tg] e X.env = pure none := by rfl)
    (h1 : (assignEach [tg] X.env).map (·.2) = [assign tg X.env] := by rfl) : PS3 X (.Assign [tg] e pos) (SX g te) := PS3.of (AY5 he.dn hg hs hw h1) fun pins s σv H σ M T I hS hM h =>
  ⟨σ, M, _, hS, hM, h, fun d v M' H' st m r q => ⟨d, σ, M', _, r, hS.mono st, m, q, fun σ' σv' M2 H2 st2 m2 r2 q2 => ⟨σ', M2, st.trans st2, m2, r2, q2⟩⟩⟩
def QE (ti : TI3) (g : TG3) (tb : TS3) : TS3 := fun T σ M => ti σ M fun ds M1 => ∃ Pv : Nat → Lo → Mem → Prop, Pv 0 σ M1 ∧
  (∀ k d σ M, ds[k]? = some d → Pv k σ M → g d σ M fun σ' M' => tb { T with nx := Pv (k + 1), ct := Pv (k + 1), bk := T.nx } σ' M') ∧ ∀ σ M, Pv ds.length σ M → T.nx σ M
theorem YS {X : Cx} {tg iter : Expr} {body : List Stmt} {ti : TI3} {g : TG3} {tb : TS3} {pos : Pos} (hp : PassesOwn (model X.prog X.w) X.A X.env X.xe) (hc : X.calm = true) (hi : PI3 X tg iter ti)
    (hg : PG3 X tg g) (hb : PSs3 X body tb) (hs : ∀ y, foldedSetIterable iter X.env y = pure y := by intro _; rfl) :
    PS3 X (.For tg iter body [] pos) (QE ti g tb) := PS3.of (XZ hp hc hi hg hb.dn hs) fun pins s σv H σ M T I hS hM h => by
  refine ⟨σ, M, _, hS, hM, h, fun ds J M1 H1 st1 m1 wk ⟨Pv, p0, turn, done⟩ => ?_⟩
  refine ⟨fun k m σv' H' => m = ds.length - k ∧ k ≤ ds.length ∧ ∃ σ' M', Step M1 H1 M' H' ∧ MRel X.K M' H' ∧ SRel X.K M' H' σ' σv' ∧ Pv k σ' M', ⟨_, rfl, Nat.zero_le _, σ, M1, .refl, m1, hS.mono st1, p0⟩, ?_⟩
  rintro k m σv' H' ⟨rfl, hk, σ', M', st', m', hS', pk⟩
  obtain ⟨go, yld, stop⟩ := wk M' H' st'
  by_cases hlt : k < ds.length
  · refine .inr ⟨go k hlt, fun σ2 H2 => ∃ σ'' M'', Step M1 H1 M'' H2 ∧ MRel X.K M'' H2 ∧ SRel X.K M'' H2 σ'' σ2 ∧ Pv (k + 1) σ'' M'', ?_, ?_⟩
    · rintro σ2 H2 ⟨σ'', M'', q⟩
      exact ⟨ds.length - (k + 1), by lia, rfl, hlt, σ'', M'', q⟩
    · intro y H'' hy
      obtain ⟨rfl, ry⟩ := yld k ds[k] y H'' (by simp [hlt]) hy
      refine ⟨ds[k], σ', M', _, ry, hS', m', turn k ds[k] σ' M' (by simp [hlt]) pk, fun σ9 v9 M9 H9 s9 m9 r9 q9 => ?_⟩
      refine ⟨σ9, M9, _, r9, m9, q9, ?_⟩
      have s8 := st'.trans s9
      exact ⟨fun σ2 v2 M2 H2 s2 m2 r2 q2 => ⟨σ2, M2, s8.trans s2, m2, r2, q2⟩, fun σ2 v2 M2 H2 s2 m2 r2 q2 => ⟨σ2, M2, (st1.trans s8).trans s2, m2, r2, q2⟩,
        fun σ2 v2 M2 H2 s2 m2 r2 q2 => ⟨σ2, M2, s8.trans s2, m2, r2, q2⟩, fun d v2 M2 H2 s2 m2 r2 q2 => ⟨d, M2, (st1.trans s8).trans s2, m2, r2, q2⟩⟩
  · have e : k = ds.length := by lia
    subst e
    exact .inl ⟨stop _ (Nat.le_refl _), σ', M', st1.trans st', m', hS', done σ' M' pk⟩
theorem DN {f : Str × NameKind → Str × NameKind} (hf : ∀ p, (f p).1 = p.1) {x : Str} : ∀ {l : List (Str × NameKind)}, (l.map f).lookup x = (l.lookup x).map fun k => (f (x, k)).2
  | [] => rfl
  | (n, k) :: r => by
    have h1 := hf (n, k)
    rw [List.map_cons]
    generalize hq : f (n, k) = q at h1 ⊢
    obtain ⟨q1, q2⟩ := q
    cases h1
    rw [List.lookup_cons, List.lookup_cons]
    by_cases e : x = n
    · subst e
      simp [hq]
    · have e' : (x == n) = false := by simpa using e
      rw [e']
      exact DN hf
theorem EX {scope : Scope} {env : Env} {x : Str} : (relabel scope env).names.lookup x = (scope.names.lookup x).map fun k => if (k == NameKind.free && env.scope.kind == .function && env.kindOf x == some .cell) = true then NameKind.cell else k := by
  have := DN (f := fun p => if (p.2 == NameKind.free && env.scope.kind == .function && env.kindOf p.1 == some .cell) = true then (p.1, NameKind.cell) else (p.1, p.2)) (fun p => by split <;> rfl) (x := x) (l := scope.names)
  refine this.trans ?_
  congr 1
  funext k
  split <;> rfl
theorem GK {scope : Scope} {env : Env} {x : Str} (h : scope.names.lookup x = some .free) : (relabel scope env).names.lookup x = some .cell ∨ (relabel scope env).names.lookup x = some .free := by
  rw [EX, h, Option.map_some]
  split
  · exact .inl rfl
  · exact .inr rfl
def K5 (ti : TI3) (n : Nat) (slots : List Nat) (g : TG3) (tt : TT3) (te : TE3) : TE3 := fun σ M Q => ti σ M fun ds M1 => ∀ p, M1 p = none → ∃ Pv : Nat → List D → Mem → Prop, Pv 0 [] (D4 M1 p (.lst [])) ∧
  (∀ k d acc M, ds[k]? = some d → Pv k acc M → g d (List.replicate n none ++ slots.map fun j => (σ[j]?).getD none) M fun σ' M0 => tt σ' M0 fun b M' =>
    if b = true then te σ' M' fun e M'' => M'' p = some (.lst acc) ∧ acc.length < sizeLine ∧ Pv (k + 1) (acc ++ [e]) (D4 M'' p (.lst (acc ++ [e]))) else Pv (k + 1) acc M') ∧
  ∀ acc M, Pv ds.length acc M → M p = some (.lst acc) ∧ Q (.lst acc) (J0 M p)
def N7 (ti : TI3) (n : Nat) (slots : List Nat) (g : TG3) (tt : TT3) (te : TE3) : TE3 := fun σ M Q => ti σ M fun ds M1 => ∀ p, M1 p = none → ∃ Pv : Nat → List D → Mem → Prop, Pv 0 [] (D4 M1 p (.lst [])) ∧
  (∀ k d acc M, ds[k]? = some d → Pv k acc M → g d (List.replicate n none ++ slots.map fun j => (σ[j]?).getD none) M fun σ' M0 => tt σ' M0 fun b M' =>
    if b = true then te σ' M' fun e M'' => M'' p = some (.lst acc) ∧ acc.length < sizeLine ∧ Pv (k + 1) (acc ++ [e]) (D4 M'' p (.lst (acc ++ [e]))) else Pv (k + 1) acc M') ∧
  ∀ acc M, Pv ds.length acc M → M p = some (.lst acc) ∧ Q (.ref p) M
def WkE (K : PySem.W.Frag) (J : It) (ds : List D) (M : Mem) (H : Hp) : Prop := ∀ M' H', Step M H M' H' → MRel K M' H' →
  (∀ i, i < ds.length → J.go i H') ∧ (∀ i d x H'', ds[i]? = some d → J.yld i H' x H'' → Step M' H' M' H'' ∧ MRel K M' H'' ∧ Rep K M' H'' d x) ∧ J.stop ds.length H'
def BJ8 (K : PySem.W.Frag) (t : TI3) : TI := fun σv H R2 => ∃ σ M R, SRel K M H σ σv ∧ MRel K M H ∧ t σ M R ∧ ∀ ds J M' H', Step M H M' H' → MRel K M' H' → WkE K J ds M' H' → R ds M' → R2 J H'
def GO (X : Cx) (tg iter : Expr) (t : TI3) : Prop := PI X tg iter (BJ8 X.K t)
theorem PI3.toE {X : Cx} {tg iter : Expr} {t : TI3} (h : PI3 X tg iter t) : GO X tg iter t := PI.weak h fun σv H R2 ⟨σ, M, R, hS, hM, ht, k⟩ => ⟨σ, M, R, hS, hM, ht, fun ds J M' H' st m wk => k ds J M' H' st m fun M2 H2 st2 m2 =>
  let ⟨go, yld, stop⟩ := wk M2 H2 st2
  ⟨go, fun i d x H'' e y => by obtain ⟨rfl, r⟩ := yld i d x H'' e y; exact ⟨.refl, m2, r⟩, stop _ (Nat.le_refl _)⟩⟩
def AT9 (ti : TI3) (n : Nat) (slots : List Nat) (g : TG3) (tt : TT3) (te : TE3) (F : Addr → List D → Mem → Prop) (σ : Lo) (M : Mem) : Prop := ti σ M fun ds M1 => ∀ p, M1 p = none → ∃ Pv : Nat → List D → Mem → Prop, Pv 0 [] (D4 M1 p (.lst [])) ∧
  (∀ k d acc M, ds[k]? = some d → Pv k acc M → g d (List.replicate n none ++ slots.map fun j => (σ[j]?).getD none) M fun σ' M0 => tt σ' M0 fun b M' =>
    if b = true then te σ' M' fun e M'' => M'' p = some (.lst acc) ∧ acc.length < sizeLine ∧ Pv (k + 1) (acc ++ [e]) (D4 M'' p (.lst (acc ++ [e]))) else Pv (k + 1) acc M') ∧
  ∀ acc M, Pv ds.length acc M → M p = some (.lst acc) ∧ F p acc M
set_option maxHeartbeats 2000000 in
theorem AO {X : Cx} {elt tg iter : Expr} {pos : Pos} {ifs : List Expr} {scope : Scope} {tns caps : List Str} {slots : List Nat} {ti : TI3} {g : TG3} {tt : TT3} {te : TE3}
    (hc : X.calm = true) (hi : GO X tg iter ti) (hkind : scope.kind = .function) (hcell : ∀ y ∈ scope.names, y.2 ≠ .cell)
    (hnames : ∀ y ∈ scope.names, y.2 = .local → scope.names.lookup y.1 = some .local)
    (hfree : ∀ y ∈ scope.names, y.2 = .free → X.env.kindOf y.1 = some .cell ∨ X.env.kindOf y.1 = some .free)
    (hcf : ∀ y ∈ caps, scope.names.lookup y = some .free) (hcaps : slots.map (fun j => X.N[j]?) = caps.map some)
    (hgk : ∀ d M Q (cs : Lo), g d (List.replicate tns.length none ++ cs) M Q → g d (List.replicate tns.length none ++ cs) M (fun σ' M' => σ'.drop tns.length = cs ∧ Q σ' M'))
    (hg : ∀ cl s₀ H₀ ex, PG3 (C0 X scope cl s₀ H₀ ex (tns ++ caps)) tg g)
    (ht : ∀ cl s₀ H₀ ex, BH (C0 X scope cl s₀ H₀ ex (tns ++ caps)) ifs tt) (he : ∀ cl s₀ H₀ ex, PE3 (C0 X scope cl s₀ H₀ ex (tns ++ caps)) elt te)
    (hs : ∀ y, foldedSetIterable iter X.env y = pure y)
    {use : Option (Value → Sem Unit)} {Post : Value → Shared → Prop} {pins : List (Addr × Obj)} {s : Shared} {σv : L2.St} {H : Hp} {σ : Lo} {M : Mem} {F : Addr → List L3.D → Mem → Prop} (I : Inv X pins σv H s) (hS : SRel X.K M H σ σv) (hM : MRel X.K M H) (h : AT9 ti tns.length slots g tt te F σ M)
    (fin : ∀ (D C : Addr) (acc : List L3.D) (H5 : Hp) (M5 : Mem) (s6 : Shared) (m : Str → Option Value), s6.heap.Ns C m → Inv X pins σv H5 s6 → H5 C = none → C ≠ X.env.locals → C ∉ X.fs → X.s₀.heap.objs.size ≤ C → (∀ x c, X.env.cells.lookup x = some c → c ≠ C) → (∀ p ∈ X.pn ++ pins, p.1 ≠ C) →
      Step M H M5 H5 → MRel X.K M5 H5 → M5 D = some (.lst acc) → F D acc M5 → compPost (model X.prog X.w) X.A X.xe use Post (.ref D) C (.ok .next) s6) :
    wpAny (model X.prog X.w) X.A (comprehension (.ListComp elt [⟨tg, iter, ifs, 0⟩] scope pos) scope X.env (firstIterPos [⟨tg, iter, ifs, 0⟩] pos) (newList []) false (firstIter [⟨tg, iter, ifs, 0⟩] X.env) use) Post X.xe s := by
  have hclos : closureFor scope X.env = pure (R6 (fun n => (X.env.cells.lookup n).getD 0) scope.names []) := GZ fun p hp hk => by
    obtain ⟨a, e⟩ := I.ok.has p.1 (hfree p hp hk)
    rw [e]; rfl
  have cellsOf : ∀ x c, (R6 (fun n => (X.env.cells.lookup n).getD 0) scope.names []).lookup x = some c → X.env.cells.lookup x = some c := fun x c e => by
    obtain ⟨e1, e2⟩ := ZY e
    obtain ⟨a, e3⟩ := I.ok.has x (hfree _ e2 rfl)
    rw [e3] at e1
    rw [e3, e1]; rfl
  have clHas : ∀ n, (n, NameKind.free) ∈ scope.names → ∃ c, (R6 (fun n => (X.env.cells.lookup n).getD 0) scope.names []).lookup n = some c := fun n hn => ⟨_, LA hn⟩
  generalize R6 (fun n => (X.env.cells.lookup n).getD 0) scope.names [] = cl at hclos cellsOf clHas
  refine wpAny_comprehension_free rfl hs hclos hkind hnames ?_
  refine thn (hi pins s σv H (fun J H2 => ∃ ds M1, Step M H M1 H2 ∧ MRel X.K M1 H2 ∧ WkE X.K J ds M1 H2 ∧ _) I ⟨σ, M, _, hS, hM, h, fun ds J M1 H1 st m wk q => ⟨ds, M1, st, m, wk, q⟩⟩) fun v s1 h1 => thn h1 fun itv s2 h2 => ?_
  obtain ⟨it, fp, tn, J, H2, e0, I2, T, st2, f2, ds, M1, stp, m1, wk, cont⟩ := h2
  subst e0
  refine wpAny_newObj_type ?_
  have I3 := I2.lnew (its := []) (ys := []) (t' := s2.toks) .nil (Nat.zero_le _)
  have hget : ∀ b o, s2.heap.get? b = some o → ({ s2 with heap := s2.heap.push { cls := .type "list", data := .seq #[] }, toks := s2.toks } : Shared).heap.get? b = some o := fun b o e => Heap.get?_push_of_some _ e
  have hsz : s2.heap.objs.size < ({ s2 with heap := s2.heap.push { cls := .type "list", data := .seq #[] }, toks := s2.toks } : Shared).heap.objs.size := Heap.lt_size (Heap.get?_push_size _ rfl)
  change wpAny _ _ _ _ _ ({ s2 with heap := s2.heap.push { cls := .type "list", data := .seq #[] }, toks := s2.toks } : Shared)
  change Inv X pins σv _ ({ s2 with heap := s2.heap.push { cls := .type "list", data := .seq #[] }, toks := s2.toks } : Shared) at I3
  have hos3 : ({ s2 with heap := s2.heap.push { cls := .type "list", data := .seq #[] }, toks := s2.toks } : Shared).os = s2.os := rfl
  generalize ({ s2 with heap := s2.heap.push { cls := .type "list", data := .seq #[] }, toks := s2.toks } : Shared) = s3 at I3 hget hsz hos3 ⊢
  refine wpAny_newFunctionEnv hcell (fun _ hx => absurd hx (by simp)) (fun h4 hns hsb => ?_) hkind
  have hDn : H2 s2.heap.objs.size = none := I2.fresh
  have hD : upd H2 s2.heap.objs.size (.lst []) s2.heap.objs.size = some (.lst []) := D5
  have fpne : ∀ b ∈ fp, b ≠ s2.heap.objs.size := fun b hb => by
    obtain ⟨o, e, _⟩ := T.obj _ _ st2 b hb
    exact Nat.ne_of_lt (Heap.lt_size e)
  generalize s2.heap.objs.size = D at hDn hD hsz I3 fpne ⊢
  have stD : Step M1 H2 (D4 M1 D (.lst [])) (upd H2 D (.lst [])) := Step.put (.inl hDn)
  have mD : MRel X.K (D4 M1 D (.lst [])) (upd H2 D (.lst [])) := m1.put (.inl hDn) .nil
  have k4 : ∀ b o, s3.heap.get? b = some o → h4.get? b = some o := fun b o e => (hsb.2 b (Nat.ne_of_lt (Heap.lt_size e))).trans (Heap.get?_push_of_some _ e)
  have fpold : ∀ b ∈ fp, b < s3.heap.objs.size := fun b hb => by
    obtain ⟨o, e, _⟩ := T.obj _ _ st2 b hb
    exact Heap.lt_size (hget b o e)
  have fpD : ∀ b ∈ fp, upd H2 D (.lst []) b = none := fun b hb => by
    rw [D1 (fpne b hb)]; exact (f2 b hb).1
  have xok : (C0 X scope cl s3 (upd H2 D (.lst [])) fp (tns ++ caps)).Ok := {
    mod := I.ok.mod
    kind := hkind
    glob := I.ok.glob
    blt := I.ok.blt
    above := Nat.le_refl _
    inj := fun x y c e1 e2 => I.ok.inj x y c (cellsOf x c e1) (cellsOf y c e2)
    has := fun x hx => clHas x (KG hcell hx)
    cab := fun x c hf => by cases hf
    hd := I.ok.hd
    frames := I.ok.frames
    stk := .inl rfl
    exf := fun b hb => ⟨Nat.ne_of_lt (fpold b hb), fun x c e => (f2 b hb).2.2.2.2.1 x c (cellsOf x c e)⟩
    bs := I3.bs
    bsz := Nat.le_trans I3.ok.bsz I3.sz
    noex := fun b o e hb => by
      rcases (f2 b hb).2.2.2.1 with z | z
      · exact I.ok.noex b o e z
      · exact absurd (Nat.lt_of_lt_of_le (Heap.lt_size e) (Nat.le_trans I.ok.bsz z)) (Nat.lt_irrefl _)
    exfs := fun b hb z => by
      rcases List.mem_cons.mp (I2.stkSub b z) with z | z
      · exact (f2 b hb).2.1 z
      · exact (f2 b hb).2.2.1 z
    funs := I3.stack
    frf := I3.stkFree }
  have I4 : Inv (C0 X scope cl s3 (upd H2 D (.lst [])) fp (tns ++ caps)) [] (List.replicate tns.length none ++ slots.map fun j => (σv[j]?).getD none) (upd H2 D (.lst [])) { s3 with heap := h4, toks := s3.toks + ([] : List (Str × Value)).length } := {
    ok := xok
    os := rfl
    bare := I3.bare
    base := Un.kept k4
    loc := by
      refine ⟨_, hns, fun i x v e1 e2 vis => ?_⟩
      have hlen : caps.length = slots.length := by
        have := congrArg List.length hcaps
        simpa using this.symm
      have hi : tns.length ≤ i := by
        rcases Nat.lt_or_ge i tns.length with z | z
        · rw [List.getElem?_append_left (by simpa using z), List.getElem?_replicate] at e2
          split at e2 <;> cases e2
        · exact z
      change (tns ++ caps)[i]? = some x at e1
      rw [List.getElem?_append_right hi] at e1
      rw [List.getElem?_append_right (by simpa using hi), List.length_replicate, List.getElem?_map] at e2
      cases e3 : slots[i - tns.length]? with
      | none => rw [e3] at e2; cases e2
      | some j =>
        rw [e3, Option.map_some] at e2
        have e2' : (σv[j]?).getD none = some v := Option.some.inj e2
        have e5 : σv[j]? = some (some v) := by
          cases q : σv[j]? with
          | none => rw [q] at e2'; cases e2'
          | some z => rw [q] at e2'; simp only [Option.getD_some] at e2'; rw [e2']
        have e4 : X.N[j]? = some x := by
          have := congrArg (fun l => l[i - tns.length]?) hcaps
          simp only [List.getElem?_map, e3, e1, Option.map_some] at this
          exact Option.some.inj this
        have hxf := hcf x (List.mem_of_getElem? e1)
        have hk := hfree (x, .free) (PySem.mem_of_lookup hxf) rfl
        obtain ⟨m, hm, hl⟩ := I3.loc
        obtain ⟨u, ru, lk⟩ := hl j x v e4 e5 (hk.elim (fun z => .inr (.inl z)) fun z => .inr (.inr z))
        refine ⟨u, ru, .inr ⟨GK hxf, ?_⟩⟩
        rcases lk with ⟨z, _⟩ | ⟨_, c, ec, ic⟩
        · rcases hk with y | y <;> (rw [show X.env.kindOf x = _ from z] at y; cases y)
        · obtain ⟨c', ec'⟩ := clHas x (PySem.mem_of_lookup hxf)
          have := cellsOf x c' ec'
          rw [ec] at this
          cases this
          obtain ⟨o, ho, r⟩ := ic
          exact ⟨c, ec', o, k4 _ _ ho, r⟩
    cell := fun x c e => by
      obtain ⟨v, o, ho, r⟩ := I3.cell x c (cellsOf x c e)
      exact ⟨v, o, k4 _ _ ho, r⟩
    free := I3.fresh
    freeC := fun x c e => I3.freeC x c (cellsOf x c e)
    pin := fun p hp => absurd hp (by simp [C0])
    hok := I3.hok.kept k4
    len := by
      have := congrArg List.length hcaps
      simp at this
      simp [C0, this] }
  have hlen : caps.length = slots.length := by
    have := congrArg List.length hcaps
    simpa using this.symm
  have stat : ∀ {H' : Hp}, (∀ b ∈ fp, H' b = none) → ∀ b ∈ fp, KH (C0 X scope cl s3 (upd H2 D (.lst [])) fp (tns ++ caps)) [] H' b := fun hn b hb =>
    ⟨hn b hb, (xok.exf b hb).1, xok.exfs b hb, .inl hb, (xok.exf b hb).2, fun p hp => absurd hp (by simp [C0])⟩
  have hMD : M1 D = none := m1.free hDn
  obtain ⟨Pv, p0, turn, done⟩ := cont D hMD
  have hS0 : SRel X.K (D4 M1 D (.lst [])) (upd H2 D (.lst [])) (List.replicate tns.length none ++ slots.map fun j => (σ[j]?).getD none) (List.replicate tns.length none ++ slots.map fun j => (σv[j]?).getD none) := by
    refine ⟨by simp, fun i d e => ?_⟩
    rcases Nat.lt_or_ge i tns.length with z | z
    · rw [List.getElem?_append_left (by simpa using z), List.getElem?_replicate] at e
      split at e <;> cases e
    · rw [List.getElem?_append_right (by simpa using z), List.length_replicate, List.getElem?_map] at e ⊢
      cases e3 : slots[i - tns.length]? with
      | none => rw [e3] at e; cases e
      | some j =>
        rw [e3, Option.map_some] at e
        have e2' : (σ[j]?).getD none = some d := Option.some.inj e
        have e5 : σ[j]? = some (some d) := by
          cases q : σ[j]? with
          | none => rw [q] at e2'; cases e2'
          | some z => rw [q] at e2'; simp only [Option.getD_some] at e2'; rw [e2']
        obtain ⟨v, ev, rv⟩ := hS.get j d e5
        exact ⟨v, by rw [Option.map_some, ev]; rfl, rv.mono (stp.trans stD)⟩
  generalize hcs : (slots.map fun j => (σ[j]?).getD none) = cs at turn hS0
  have hcsl : cs.length = caps.length := by rw [← hcs, hlen]; simp
  have loop : codeAny (model X.prog X.w) X.A (.compLoop (.ListComp elt [⟨tg, iter, ifs, 0⟩] scope pos) 0 (.ref it) (.ref D) (compEnvC scope cl s3.heap.objs.size X.env)) (compPost (model X.prog X.w) X.A X.xe use Post (.ref D) s3.heap.objs.size) { s3 with heap := h4, toks := s3.toks + ([] : List (Str × Value)).length } := by
    refine US (fun n s' => ∃ k acc σv' H' M', n = ds.length - k ∧ k ≤ ds.length ∧ Inv (C0 X scope cl s3 (upd H2 D (.lst [])) fp (tns ++ caps)) [] σv' H' s' ∧ tn k s'.heap ∧ (∀ b ∈ fp, H' b = none) ∧
      Step (D4 M1 D (.lst [])) (upd H2 D (.lst [])) M' H' ∧ MRel X.K M' H' ∧ SRel X.K M' H' (List.replicate tns.length none ++ cs) σv' ∧ Pv k acc M') ?_ _ ⟨0, [], _, _, _, rfl, Nat.zero_le _, I4, T.keep _ _ _ st2 fun b hb o e => k4 _ _ (hget _ _ e), fpD, .refl, mD, hS0, p0⟩
    rintro n s5 ⟨k, acc, σv5, H5, M5, rfl, hk, I5, tn5, fr5, st5, m5, hS5, pk⟩
    obtain ⟨go, yld, stop⟩ := wk M5 H5 (stD.trans st5) m5
    by_cases hlt : k < ds.length
    · refine thn (T.item (C0 X scope cl s3 (upd H2 D (.lst [])) fp (tns ++ caps)) rfl rfl rfl hc k [] s5 σv5 H5 (fun _ _ => False) I5 (stat fr5) tn5 (go k hlt)) fun r s6 hx0 => ?_
      obtain ⟨u, hr, h6⟩ := hx0
      subst hr
      refine thn h6 fun _ s7 hx0 => ?_
      obtain ⟨x, H7, I7, r7, y7, tn7, fr7⟩ := hx0
      obtain ⟨sy, my, ry⟩ := yld k ds[k] x H7 (by simp [hlt]) y7
      have I7' := I7.pinned (stat fr7) (T.obj _ _ tn7)
      refine thn (hg cl s3 (upd H2 D (.lst [])) fp _ s7 σv5 _ x u (fun σv' H' => ∃ σ' M', Step M5 H7 M' H' ∧ MRel X.K M' H' ∧ SRel X.K M' H' σ' σv' ∧ _) I7' r7 ⟨ds[k], _, M5, _, ry, hS5.mono sy, my, hgk _ _ _ _ (turn k ds[k] acc M5 (by simp [hlt]) pk), fun σ' σv' M' H' st m r q => ⟨σ', M', st, m, r, q⟩⟩) fun _ s8 hx0 => ?_
      obtain ⟨σ8, H8, I8, σ', M8, st8, m8, hS8, hdr, q8⟩ := hx0
      have again : ∀ (sF : Shared) (HF : Hp) (MF : Mem) (accF : List L3.D), Inv (C0 X scope cl s3 (upd H2 D (.lst [])) fp (tns ++ caps)) ([] ++ EL fp s7.heap) σ8 HF sF → Step M8 H8 MF HF → MRel X.K MF HF → Pv (k + 1) accF MF →
          ∃ m, m < ds.length - k ∧ ∃ k acc σv' H' M', m = ds.length - k ∧ k ≤ ds.length ∧ Inv (C0 X scope cl s3 (upd H2 D (.lst [])) fp (tns ++ caps)) [] σv' H' sF ∧ tn k sF.heap ∧ (∀ b ∈ fp, H' b = none) ∧
            Step (D4 M1 D (.lst [])) (upd H2 D (.lst [])) M' H' ∧ MRel X.K M' H' ∧ SRel X.K M' H' (List.replicate tns.length none ++ cs) σv' ∧ Pv k acc M' := by
        intro sF HF MF accF IF stF mF pF
        refine ⟨ds.length - (k + 1), by lia, k + 1, accF, σ8, HF, MF, rfl, hlt, IF.unpinned, T.keep _ _ _ tn7 fun b hb o e => (IF.pin (b, o) (List.mem_append_right _ (List.mem_append_right _ (Z1 hb e)))).1, fun b hb => ?_, ((st5.trans sy).trans st8).trans stF, mF, ?_, pF⟩
        · obtain ⟨o, e, d⟩ := T.obj _ _ tn7 b hb
          exact (IF.pin (b, o) (List.mem_append_right _ (List.mem_append_right _ (Z1 hb e)))).2.1
        · refine SRel.mono stF ⟨?_, fun i d e => ?_⟩
          · have := I8.len
            rw [this, List.length_append, List.length_replicate, hcsl]
            simp [C0]
          · rcases Nat.lt_or_ge i tns.length with z | z
            · rw [List.getElem?_append_left (by simpa using z), List.getElem?_replicate] at e
              split at e <;> cases e
            · rw [List.getElem?_append_right (by simpa using z), List.length_replicate, ← hdr, List.getElem?_drop] at e
              have : tns.length + (i - tns.length) = i := by lia
              rw [this] at e
              exact hS8.get i d e
      refine thn (ht cl s3 (upd H2 D (.lst [])) fp _ s8 σ8 H8 σ' M8 _ I8 hS8 m8 q8) fun ok s9 hx0 => ?_
      obtain ⟨M9, H9, I9, st9, m9, q9⟩ := hx0
      cases ok with
      | false => exact again s9 H9 M9 acc I9 st9 m9 q9
      | true =>
        refine thn (he cl s3 (upd H2 D (.lst [])) fp _ s9 σ8 H9 σ' M9 _ I9 (hS8.mono st9) m9 q9) fun xv s10 hx0 => ?_
        obtain ⟨e, v, M10, H10, I10, st10, m10, r10, rep10, hMp, hlt2, q10⟩ := hx0
        obtain ⟨ho, hHo, rO⟩ := m10 D _ hMp
        cases ho <;> first | exact (rO : False).elim | skip
        rename_i vs
        have rO' : Reps X.K M10 H10 acc vs := rO
        refine thn (IS _ s10 σ8 H10 (.ref D) [v] (.ref D) [xv] (fun w H' => H' = upd H10 D (.lst (vs ++ [v]))) I10 rfl (.cons r10 .nil) ⟨D, vs, v, rfl, rfl, hHo, by rw [← rO'.length]; exact hlt2, rfl⟩) fun _ s11 hx0 => ?_
        obtain ⟨w, H11, I11, _, e11⟩ := hx0
        subst e11
        exact again s11 _ _ _ I11 (st9.trans (st10.trans (Step.put (.inr (by rw [hMp]; simp))))) (m10.put (.inr (by rw [hMp]; simp)) (o := .lst (acc ++ [e])) (Reps.append rO' (.cons rep10 .nil))) q10
    · have e : k = ds.length := by lia
      subst e
      refine thn (T.done (C0 X scope cl s3 (upd H2 D (.lst [])) fp (tns ++ caps)) rfl rfl rfl hc _ [] s5 σv5 H5 (fun _ _ => False) I5 (stat fr5) tn5 stop) fun r s6 hx0 => ?_
      obtain ⟨hr, I6⟩ := hx0
      subst hr
      obtain ⟨m, hn, _⟩ := I6.loc
      obtain ⟨hp, hq⟩ := done acc M5 pk
      refine fin D s3.heap.objs.size acc H5 M5 s6 m hn (I3.call' (ch := fp) I6.os I6.base I6.hok I6.bare (fun b hb => ⟨(f2 b hb).2.2.2.1, (f2 b hb).2.1, (f2 b hb).2.2.2.2.1, (f2 b hb).2.2.2.2.2⟩)) I6.free (Nat.ne_of_gt I3.lt) (I3.nofs (Nat.le_refl _)) I3.sz (fun x c e z => ?_) (fun p hp z => absurd (Heap.lt_size (I3.pin p hp).1) (by rw [z]; exact Nat.lt_irrefl _)) ((stp.trans stD).trans st5) m5 hp hq
      obtain ⟨v, q⟩ := I3.cell x c e
      exact absurd q.lt (by rw [z]; exact Nat.lt_irrefl _)
  exact codeAny_compStart_list loop (T.self _ _ _ _ _ (T.keep _ _ _ st2 fun b hb o e => k4 _ _ (hget _ _ e)) loop)
theorem FE {X : Cx} {elt tg iter : Expr} {pos : Pos} {ifs : List Expr} {scope : Scope} {tns caps : List Str} {slots : List Nat} {ti : TI3} {g : TG3} {tt : TT3} {te : TE3}
    (hc : X.calm = true) (hi : GO X tg iter ti) (hkind : scope.kind = .function) (hcell : ∀ y ∈ scope.names, y.2 ≠ .cell)
    (hnames : ∀ y ∈ scope.names, y.2 = .local → scope.names.lookup y.1 = some .local)
    (hfree : ∀ y ∈ scope.names, y.2 = .free → X.env.kindOf y.1 = some .cell ∨ X.env.kindOf y.1 = some .free)
    (hcf : ∀ y ∈ caps, scope.names.lookup y = some .free) (hcaps : slots.map (fun j => X.N[j]?) = caps.map some)
    (hgk : ∀ d M Q (cs : Lo), g d (List.replicate tns.length none ++ cs) M Q → g d (List.replicate tns.length none ++ cs) M (fun σ' M' => σ'.drop tns.length = cs ∧ Q σ' M'))
    (hg : ∀ cl s₀ H₀ ex, PG3 (C0 X scope cl s₀ H₀ ex (tns ++ caps)) tg g)
    (ht : ∀ cl s₀ H₀ ex, BH (C0 X scope cl s₀ H₀ ex (tns ++ caps)) ifs tt) (he : ∀ cl s₀ H₀ ex, PE3 (C0 X scope cl s₀ H₀ ex (tns ++ caps)) elt te)
    (hs : ∀ y, foldedSetIterable iter X.env y = pure y := by intro _; rfl) :
    PE3 X (.ListComp elt [⟨tg, iter, ifs, 0⟩] scope pos) (N7 ti tns.length slots g tt te) := by
  intro pins s σv H σ M Q I hS hM h
  rw [eval_ListComp]
  refine AO hc hi hkind hcell hnames hfree hcf hcaps hgk hg ht he hs (use := none) (F := fun p _ M => Q (.ref p) M) I hS hM h fun D C acc H5 M5 s6 m hn I7 c1 c2 c3 c4 c5 c6 st m5 hp hq => ?_
  exact ⟨m, hn, fun h' sb => ⟨.ref D, .ref D, M5, H5, I7.turned (t' := s6.toks) (it := C) (fun b o hb e => (sb.2 b hb).trans e) c1 c2 (.inr c4) c5 c6, st, m5, rfl, .ref, hq⟩⟩
theorem QF {X : Cx} {elt tg iter : Expr} {pos : Pos} {ifs : List Expr} {scope : Scope} {tns caps : List Str} {slots : List Nat} {ti : TI3} {g : TG3} {tt : TT3} {te : TE3}
    (hc : X.calm = true) (hi : PI3 X tg iter ti) (hkind : scope.kind = .function) (hcell : ∀ y ∈ scope.names, y.2 ≠ .cell)
    (hnames : ∀ y ∈ scope.names, y.2 = .local → scope.names.lookup y.1 = some .local)
    (hfree : ∀ y ∈ scope.names, y.2 = .free → X.env.kindOf y.1 = some .cell ∨ X.env.kindOf y.1 = some .free)
    (hcf : ∀ y ∈ caps, scope.names.lookup y = some .free) (hcaps : slots.map (fun j => X.N[j]?) = caps.map some)
    (hgk : ∀ d M Q (cs : Lo), g d (List.replicate tns.length none ++ cs) M Q → g d (List.replicate tns.length none ++ cs) M (fun σ' M' => σ'.drop tns.length = cs ∧ Q σ' M'))
    (hg : ∀ cl s₀ H₀ ex, PG3 (C0 X scope cl s₀ H₀ ex (tns ++ caps)) tg g)
    (ht : ∀ cl s₀ H₀ ex, BH (C0 X scope cl s₀ H₀ ex (tns ++ caps)) ifs tt) (he : ∀ cl s₀ H₀ ex, PE3 (C0 X scope cl s₀ H₀ ex (tns ++ caps)) elt te)
    (hs : ∀ y, foldedSetIterable iter X.env y = pure y := by intro _; rfl) :
    PE3 X (.ListComp elt [⟨tg, iter, ifs, 0⟩] scope pos) (N7 ti tns.length slots g tt te) := FE hc hi.toE hkind hcell hnames hfree hcf hcaps hgk hg ht he hs
theorem VH {X : Cx} {elt tg iter : Expr} {pos : Pos} {ifs : List Expr} {scope : Scope} {tns caps : List Str} {slots : List Nat} {ti : TI3} {g : TG3} {tt : TT3} {te : TE3}
    (hc : X.calm = true) (hi : GO X tg iter ti) (hkind : scope.kind = .function) (hcell : ∀ y ∈ scope.names, y.2 ≠ .cell)
    (hnames : ∀ y ∈ scope.names, y.2 = .local → scope.names.lookup y.1 = some .local)
    (hfree : ∀ y ∈ scope.names, y.2 = .free → X.env.kindOf y.1 = some .cell ∨ X.env.kindOf y.1 = some .free)
    (hcf : ∀ y ∈ caps, scope.names.lookup y = some .free) (hcaps : slots.map (fun j => X.N[j]?) = caps.map some)
    (hgk : ∀ d M Q (cs : Lo), g d (List.replicate tns.length none ++ cs) M Q → g d (List.replicate tns.length none ++ cs) M (fun σ' M' => σ'.drop tns.length = cs ∧ Q σ' M'))
    (hg : ∀ cl s₀ H₀ ex, PG3 (C0 X scope cl s₀ H₀ ex (tns ++ caps)) tg g)
    (ht : ∀ cl s₀ H₀ ex, BH (C0 X scope cl s₀ H₀ ex (tns ++ caps)) ifs tt) (he : ∀ cl s₀ H₀ ex, PE3 (C0 X scope cl s₀ H₀ ex (tns ++ caps)) elt te)
    (hs : ∀ y, foldedSetIterable iter X.env y = pure y := by intro _; rfl) :
    PE3 X (.ListComp elt [⟨tg, iter, ifs, 0⟩] scope pos) (K5 ti tns.length slots g tt te) := by
  intro pins s σv H σ M Q I hS hM h
  rw [eval_ListComp]
  refine AO hc hi hkind hcell hnames hfree hcf hcaps hgk hg ht he hs (use := none) (F := fun p acc M => Q (.lst acc) (J0 M p)) I hS hM h fun D C acc H5 M5 s6 m hn I7 c1 c2 c3 c4 c5 c6 st m5 hp hq => ?_
  obtain ⟨mF, rF, sF⟩ := Vs.frzL hp X.K H5 (.ref D) m5 .ref
  exact ⟨m, hn, fun h' sb => ⟨.lst acc, .ref D, J0 M5 D, H5, I7.turned (t' := s6.toks) (it := C) (fun b o hb e => (sb.2 b hb).trans e) c1 c2 (.inr c4) c5 c6, st.less sF, mF, rfl, rF, hq⟩⟩
theorem XI {X : Cx} {elt tg iter : Expr} {pos : Pos} {ifs : List Expr} {scope : Scope} {tns caps : List Str} {slots : List Nat} {ti : TI3} {g : TG3} {tt : TT3} {te : TE3}
    (hc : X.calm = true) (hi : PI3 X tg iter ti) (hkind : scope.kind = .function) (hcell : ∀ y ∈ scope.names, y.2 ≠ .cell)
    (hnames : ∀ y ∈ scope.names, y.2 = .local → scope.names.lookup y.1 = some .local)
    (hfree : ∀ y ∈ scope.names, y.2 = .free → X.env.kindOf y.1 = some .cell ∨ X.env.kindOf y.1 = some .free)
    (hcf : ∀ y ∈ caps, scope.names.lookup y = some .free) (hcaps : slots.map (fun j => X.N[j]?) = caps.map some)
    (hgk : ∀ d M Q (cs : Lo), g d (List.replicate tns.length none ++ cs) M Q → g d (List.replicate tns.length none ++ cs) M (fun σ' M' => σ'.drop tns.length = cs ∧ Q σ' M'))
    (hg : ∀ cl s₀ H₀ ex, PG3 (C0 X scope cl s₀ H₀ ex (tns ++ caps)) tg g)
    (ht : ∀ cl s₀ H₀ ex, BH (C0 X scope cl s₀ H₀ ex (tns ++ caps)) ifs tt) (he : ∀ cl s₀ H₀ ex, PE3 (C0 X scope cl s₀ H₀ ex (tns ++ caps)) elt te)
    (hs : ∀ y, foldedSetIterable iter X.env y = pure y := by intro _; rfl) :
    PE3 X (.ListComp elt [⟨tg, iter, ifs, 0⟩] scope pos) (K5 ti tns.length slots g tt te) := VH hc hi.toE hkind hcell hnames hfree hcf hcaps hgk hg ht he hs
theorem JB {prog : Program} {w : World} {A : Around} {E : Value → Shared → Prop} {it l : Addr} : ∀ {n : Nat} {s : Shared} {items : Array Value} {i : Nat} {Q : List Value → Shared → Prop}, s.heap.IsListIter it l i → s.heap.IsList l items → it ≠ l → i + n ≤ items.size →
    (∀ h', h'.IsListIter it l (i + n) → Heap.SameBut it s.heap h' → Q ((items.toList.drop i).take n) { s with heap := h' }) → wpAny (model prog w) A (PySem.draw (.ref it) n) Q E s
  | 0, s, items, i, Q, hi, hl, hne, hn, k => by
    unfold PySem.draw
    exact wpAny_pure (by simpa using k s.heap hi ⟨rfl, fun _ _ => rfl⟩)
  | n + 1, s, items, i, Q, hi, hl, hne, hn, k => by
    have hlt : i < items.size := by lia
    unfold PySem.draw
    refine wpAny_bind (wpAny_pyNext_list_item hi hl (x := items[i]) (by simp [hlt]) fun h' hi' sb => ?_)
    have hl' : h'.IsList l items := by
      obtain ⟨o, ho, r⟩ := hl
      exact ⟨o, (sb.2 l (Ne.symm hne)).trans ho, r⟩
    refine wpAny_bind (wpAny_holding (JB (n := n) (s := { s with heap := h' }) (i := i + 1) hi' hl' hne (by lia) fun h2 hi2 sb2 => wpAny_pure ?_))
    have e : items.toList.drop i = items[i] :: items.toList.drop (i + 1) := by
      rw [List.drop_eq_getElem_cons (by simpa using hlt)]
      simp
    have := k h2 (by rw [show i + (n + 1) = i + 1 + n by lia]; exact hi2) ⟨sb2.1.trans sb.1, fun b hb => (sb2.2 b hb).trans (sb.2 b hb)⟩
    rw [e, List.take_succ_cons] at this
    exact this
theorem OJ {prog : Program} {w : World} {A : Around} {E : Value → Shared → Prop} {s : Shared} {l : Addr} {items : Array Value} {targets : List (Bool × (Value → Sem Unit))} {Q : Unit → Shared → Prop} (ha : A.handled = none) (hl : s.heap.IsList l items)
    (hn : targets.length = items.size) (hst : targets.findIdx? (·.1) = none)
    (k : ∀ h', Heap.ExtBut s.heap.objs.size s.heap h' → wpAny (model prog w) A (assignInOrder (targets.map (·.2)) items.toList) Q E { s with heap := h' }) : wpAny (model prog w) A (PySem.unpack (.ref l) targets) Q E s := by
  obtain ⟨o, ho, hc, n, hd⟩ := id hl
  have hlt := Heap.lt_size ho
  unfold PySem.unpack
  rw [hst]
  refine wpAny_bind (wpAny_holding ?_)
  unfold PySem.unpackItems
  refine wpAny_bind ?_
  unfold PySem.notIterableAtAll
  refine wpAny_bind (wpAny_specialOf (T := "list") ⟨o, ho, hc⟩ (F.slot_list_iter).1 ?_)
  refine wpAny_pure ?_
  refine wpAny_bind (wpAny_holding (wpAny_pyIter_list hl ?_))
  refine wpAny_bind (wpAny_holding (JB (i := 0) (l := l) (items := items) ⟨_, Heap.get?_push_size _ rfl, rfl, rfl⟩ ⟨o, Heap.get?_push_of_some _ ho, hc, n, hd⟩ (Nat.ne_of_gt hlt) (by lia) fun h' hi' sb => ?_))
  have e : (items.toList.drop 0).take targets.length = items.toList := by rw [List.drop_zero, List.take_of_length_le (by simp [hn])]
  rw [e]
  have hlen : ¬ items.toList.length < targets.length := by simp [hn]
  simp only [hlen, if_false]
  have hl' : h'.IsList l items := ⟨o, (sb.2 l (Nat.ne_of_lt hlt)).trans (Heap.get?_push_of_some _ ho), hc, n, hd⟩
  refine wpAny_bind (wpAny_holding (wpAny_pyNext_list_end ha hi' hl' (by simp [hn]) fun h2 eb => ?_))
  refine wpAny_pure (k h2 fun b ob hb hob => eb b ob hb ((sb.2 b hb).trans (Heap.get?_push_of_some _ hob)))
def AE9 (is : List Nat) : TG3 := fun d σ M Q => ∃ ds, d = .lst ds ∧ ds.length = is.length ∧ Q (W5 σ is ds) M
theorem AI9 {X : Cx} {es : List Expr} {k : Nat} {pos : Pos} {is : List Nat} (hc : X.calm = true) (h : PGs X es (ZX is))
    (hn : (assignEach es X.env).length = is.length := by rfl) (hst : (assignEach es X.env).findIdx? (·.1) = none := by rfl) : PG3 X (.Tuple es k pos) (AE9 is) := by
  rintro pins s σv H v u Q2 I r ⟨d, σ, M, Q, rep, hS, hM, ⟨ds, e, hl, q⟩, kk⟩
  subst e
  cases rep with
  | lst h1 rs =>
    cases r
    obtain ⟨its, rv, pl, hz⟩ := I.list (SqL.of3 h1)
    rw [assign_Tuple]
    refine wpAny_bind (wpAny_standAt (OJ (I.ok.hd hc) pl.isList (by rw [hn, ← hl, rs.length, rv.length]; simp) hst fun h' hx => ?_))
    have I1 : Inv X pins σv H { s with heap := h' } := I.kept (t' := s.toks) fun b o e => hx b o (Nat.ne_of_lt (Heap.lt_size e)) e
    exact h pins _ σv H _ _ Q2 I1 (by simpa using rv) ⟨by rw [← rs.length]; exact hl, kk _ _ M H .refl hM (BN rs hS) q⟩
theorem DL {α : Type} {n : Nat} : ∀ {is : List Nat} {σ : List (Option α)} {xs : List α}, (∀ i ∈ is, i < n) → (W5 σ is xs).drop n = σ.drop n
  | [], σ, xs, _ => by cases xs <;> rfl
  | i :: is, σ, [], _ => rfl
  | i :: is, σ, x :: xs, h => by
    show (W5 (σ.set i (some x)) is xs).drop n = σ.drop n
    rw [DL fun j hj => h j (List.mem_cons_of_mem _ hj), List.drop_set_of_lt (h i List.mem_cons_self)]
theorem S5 {i n : Nat} (hi : i < n) (d : D) (M : Mem) (Q : Lo → Mem → Prop) (cs : Lo) (h : P1 i d (List.replicate n none ++ cs) M Q) : P1 i d (List.replicate n none ++ cs) M (fun σ' M' => σ'.drop n = cs ∧ Q σ' M') := by
  refine ⟨?_, h⟩
  rw [List.drop_set_of_lt hi, List.drop_left' (by simp)]
theorem KD {n : Nat} {is : List Nat} (hi : ∀ i ∈ is, i < n) (d : D) (M : Mem) (Q : Lo → Mem → Prop) (cs : Lo) (h : BA is d (List.replicate n none ++ cs) M Q) : BA is d (List.replicate n none ++ cs) M (fun σ' M' => σ'.drop n = cs ∧ Q σ' M') := by
  obtain ⟨ds, e, hl, q⟩ := h
  refine ⟨ds, e, hl, ?_, q⟩
  rw [DL hi, List.drop_left' (by simp)]
abbrev M3 := D → List D → Mem → DK → Prop
def MtR3 (X : Cx) (id : String) (r : M3) : Prop :=
  ∀ (pins : List (Addr × Obj)) (s : Shared) (σv : L2.St) (H : Hp) (M : Mem) (x : D) (xs : List D) (xv : V) (xvs : List V) (v : Value) (us : List Value) (Q : DK), Inv X pins σv H s → MRel X.K M H → RelV xv v → Vals xvs us → Rep X.K M H x xv → Reps X.K M H xs xvs → r x xs M Q →
    wpAny (model X.prog X.w) X.A (call (.builtin id) (v :: us)) (EP3 X pins σv M H Q) X.xe s
def tyD (T : String) (M : Mem) : D → Prop
  | .str _ => T = "str"
  | .lst _ => T = "list"
  | .ref a => (T = "list" ∧ ∃ ds, M a = some (.lst ds)) ∨ (T = "dict" ∧ ∃ ds, M a = some (.dct ds))
  | _ => False
theorem BE7 {X : Cx} {T : String} {M : Mem} {H : Hp} {d : D} {v : V} (m : MRel X.K M H) (r : Rep X.K M H d v) (h : tyD T M d) : tyV X.K T v H := by
  cases r with
  | str => exact h
  | lst h1 _ => exact .inl ⟨h, _, SqL.of3 h1⟩
  | ref =>
    rcases h with ⟨rfl, ds, e⟩ | ⟨rfl, ds, e⟩
    · obtain ⟨ho, e1, r⟩ := m _ _ e
      cases ho <;> first | exact (r : False).elim | skip
      exact .inl ⟨rfl, _, .inl (.inl e1)⟩
    · obtain ⟨ho, e1, r⟩ := m _ _ e
      cases ho <;> first | exact (r : False).elim | skip
      exact .inr (.inr (.inl ⟨rfl, .inl ⟨_, e1⟩⟩))
  | dct h1 _ => exact h.elim
  | _ => exact h.elim
def R0 (T : String) (r : M3) (to : TE3) (t : TA3) : TE3 := fun σ M Q => to σ M fun x M1 => tyD T M1 x ∧ t σ M1 fun xs M2 => r x xs M2 Q
section
variable {X : Cx} {o e : Expr} {es : List Expr} {to : TE3} {t : TA3} {name : Str} {apos cpos : Pos} {T id : String} {r : M3}
theorem AX4 (pa : PlainAttrs T) (slot : Slot T name id) (hty : typeOf (.builtin id) = pure (.type "method_descriptor")) (hm : MtR3 X id r) (ho : PE3 X o to) (ha : PA3 X (e :: es) t)
    (hbase : attributeBase o name X.env (eval o X.env) = eval o X.env := by rfl)
    (hfew : ((backTo cpos (starEach (e :: es) X.env)).all (fun x => !x.1) && (backToKw cpos (keywordEach [] X.env)).all (fun x => x.1.isSome)
      && decide ((e :: es).length + ([] : List Keyword).length + (if ([] : List Keyword).isEmpty then 0 else 1) < 30)) = true := by rfl)
    (hline : (apos.endLine == cpos.line) = true := by rfl) (hs : starEach (e :: es) X.env = (false, eval e X.env) :: starEach es X.env := by rfl) (hplain : (backTo cpos (starEach es X.env)).any (·.1) = false := by rfl) :
    PE3 X (.Call (.Attribute o name apos) (e :: es) [] cpos) (R0 T r to t) := by
  intro pins s σv H σ M Q I hS hM h
  refine wpAny_Call_method_late hbase hfew hline rfl (thn (ho pins s σv H σ M _ I hS hM h) fun v s1 ⟨d, xv, M1, H1, I1, st1, m1, r1, p1, ty, q1⟩ => ?_)
  obtain ⟨h1, h2⟩ := AV9 I1 r1 (BE7 m1 p1 ty)
  refine ⟨T, id, pa, slot, hty, h1, h2, ?_⟩
  have hA := ha cpos pins s1 σv H1 σ M1 _ I1 (hS.mono st1) m1 q1
  rw [hs] at hA ⊢
  refine Calls.callWith_builtin (by show (false || (backTo cpos (starEach es X.env)).any (·.1)) = false; rw [hplain] <;> rfl) (Calls.evalArgs_plain ?_)
  exact thn hA fun us s2 ⟨ds, vs, M2, H2, I2, st2, m2, rv2, p2, q2⟩ => thn (hm pins s2 σv H2 M2 d ds xv vs v us Q I2 m2 r1 rv2 (p1.mono st2) p2 q2) fun _ _ z => z.trans (st1.trans st2)
theorem MtR3.of {id : String} {r : M3} {r2 : V → List V → Hp → VK → Prop} (h : MtM X id r2) (hr : ∀ H M x xs xv xvs Q, MRel X.K M H → Rep X.K M H x xv → Reps X.K M H xs xvs → r x xs M Q → r2 xv xvs H (Up X.K M H Q)) : MtR3 X id r := by
  intro pins s σv H M x xs xv xvs v us Q I m rv rvs px pxs q
  exact thn (h pins s σv H xv xvs v us _ I rv rvs (hr H M x xs xv xvs Q m px pxs q)) fun _ _ z => S8 z
theorem FU {K : PySem.W.Frag} {M : Mem} {H : Hp} {d : D} {vs : List V} (r : Reps K M H [d] vs) : ∃ v, vs = [v] ∧ Rep K M H d v := by
  cases r with
  | cons a b => cases b; exact ⟨_, rfl, a⟩
def J1 : M3 := fun x xs M Q => ∃ a ds y, x = .ref a ∧ xs = [y] ∧ M a = some (.lst ds) ∧ ds.length < sizeLine ∧ Q .non (D4 M a (.lst (ds ++ [y])))
theorem UI : MtR3 X "list.append" J1 := MtR3.of IS fun H M x xs xv xvs Q m px pxs hx0 => by
  obtain ⟨a, ds, y, e1, e2, hm, hl, q⟩ := hx0
  subst e1 e2
  cases px
  obtain ⟨yv, rfl, py⟩ := FU pxs
  obtain ⟨ho, e3, r⟩ := m _ _ hm
  cases ho <;> first | exact (r : False).elim | skip
  rename_i vs
  have r' : Reps X.K M H ds vs := r
  refine ⟨a, vs, _, rfl, rfl, e3, by rw [← r'.length]; exact hl, .non, _, Step.put (.inr (by rw [hm]; simp)), m.put (.inr (by rw [hm]; simp)) (o := .lst (ds ++ [y])) (Reps.append r' (.cons py .nil)), .non, q⟩
end
def U5 (env : Env) (scope : Scope) (caps : List Str) : Bool :=
  (scope.names.all fun y => match y.2 with
    | .free => (match env.kindOf y.1 with | some .cell => true | some .free => true | _ => false)
    | .cell => false
    | .local => (match scope.names.lookup y.1 with | some .local => true | _ => false)
    | _ => true) && caps.all fun y => match scope.names.lookup y with | some .free => true | _ => false
theorem UD {X : Cx} {elt tg iter : Expr} {pos : Pos} {ifs : List Expr} {scope : Scope} (tns caps : List Str) (slots : List Nat) {ti : TI3} {g : TG3} {tt : TT3} {te : TE3}
    (hc : X.calm = true) (hi : PI3 X tg iter ti) (hkind : scope.kind = .function) (hok : U5 X.env scope caps = true) (hcaps : slots.map (fun j => X.N[j]?) = caps.map some)
    (hgk : ∀ d M Q (cs : Lo), g d (List.replicate tns.length none ++ cs) M Q → g d (List.replicate tns.length none ++ cs) M (fun σ' M' => σ'.drop tns.length = cs ∧ Q σ' M'))
    (hg : ∀ cl s₀ H₀ ex, PG3 (C0 X scope cl s₀ H₀ ex (tns ++ caps)) tg g)
    (ht : ∀ cl s₀ H₀ ex, BH (C0 X scope cl s₀ H₀ ex (tns ++ caps)) ifs tt) (he : ∀ cl s₀ H₀ ex, PE3 (C0 X scope cl s₀ H₀ ex (tns ++ caps)) elt te)
    (hs : ∀ y, foldedSetIterable iter X.env y = pure y := by intro _; rfl) :
    PE3 X (.ListComp elt [⟨tg, iter, ifs, 0⟩] scope pos) (K5 ti tns.length slots g tt te) := by
  unfold U5 at hok
  rw [Bool.and_eq_true, List.all_eq_true, List.all_eq_true] at hok
  obtain ⟨h1, h2⟩ := hok
  refine XI hc hi hkind (fun y hy e => ?_) (fun y hy e => ?_) (fun y hy e => ?_) (fun y hy => ?_) hcaps hgk hg ht he hs
  · have := h1 y hy; rw [e] at this; cases this
  · have := h1 y hy
    rw [e] at this
    dsimp only at this
    split at this
    · assumption
    · cases this
  · have := h1 y hy
    rw [e] at this
    dsimp only at this
    split at this
    · exact .inl (by assumption)
    · exact .inr (by assumption)
    · cases this
  · have := h2 y hy
    split at this
    · assumption
    · cases this
def AE8 (i : Nat) (t : TS3) : TS3 := fun T σ M => ∃ a ds, σ[i]? = some (some (.ref a)) ∧ M a = some (.lst ds) ∧ t T (σ.set i (some (.lst ds))) (J0 M a)
theorem AC3 {X : Cx} {sts : List Stmt} {t : TS3} (i : Nat) (h : PSs3 X sts t) : PSs3 X sts (AE8 i t) := by
  rintro pins s σv H σ M T I hS hM ⟨a, ds, e1, e2, q⟩
  obtain ⟨m, r, sub⟩ := Vs.frzL e2 X.K H (.ref a) hM .ref
  have st : Step M H (J0 M a) H := ⟨fun _ _ h _ => h, fun b h => .inl (sub b h)⟩
  have hS' : SRel X.K (J0 M a) H (σ.set i (some (.lst ds))) σv := by
    refine ⟨by simp [hS.len], fun j d e => ?_⟩
    rw [List.getElem?_set] at e
    by_cases hij : i = j
    · subst hij
      have hl : i < σ.length := (List.getElem?_eq_some_iff.mp e1).1
      rw [if_pos rfl, if_pos hl] at e
      cases e
      obtain ⟨v, ev, rv⟩ := hS.get i _ e1
      cases rv
      exact ⟨_, ev, r⟩
    · rw [if_neg hij] at e
      obtain ⟨v, ev, rv⟩ := hS.get j d e
      exact ⟨v, ev, rv.mono st⟩
  exact thn (h pins s σv H _ _ T I hS' m q) fun _ _ z => z.trans st
end L3
namespace L3
open PySem L2
section
variable {t u : TS3} {T : R5} {σ : Lo} {M : Mem} {Q : DK} {QB : Bool → Mem → Prop} {QA : List D → Mem → Prop} {c tA tB : TT3} {te ta tb tc : TE3} {tas : TA3} {i : Nat} {d x y : D} {r r' : R3} {ru : U3} {rc : C3} {sp : Sp3}
theorem WT (h : t { T with nx := u T } σ M) : A6 t u T σ M := h
theorem ZO (h : c σ M fun b M1 => if b = true then t T σ M1 else u T σ M1) : D0 c t u T σ M := h
theorem RP (h : te σ M fun x M' => ∃ k, x = .bl k ∧ QB k M') : B6 te σ M QB := h
theorem AO7 (h : ta σ M fun x M1 => tb σ M1 fun y M2 => r x y M2 Q) : A4 r ta tb σ M Q := h
theorem AP7 (h : ta σ M fun x M1 => ru x M1 Q) : WU ru ta σ M Q := h
theorem DE {i : Nat} (e : σ[i]? = some (some d)) (h : Q d M) : A1 i σ M Q := by unfold A1; rw [e]; exact h
theorem BH7 (h : Q d M) : tC3 d σ M Q := h
theorem PP (h : te σ M T.rt) : B8 te T σ M := h
theorem YG (h : te σ M fun d M1 => T.nx (σ.set i (some d)) M1) : B7 i te T σ M := h
theorem RA (h : te σ M fun _ M1 => T.nx σ M1) : F1 te T σ M := h
theorem Y8 (h : T.nx σ M) : C2 T σ M := h
theorem JL (h : tas σ M fun ds M1 => sp ds M1 Q) : A7 sp tas σ M Q := h
theorem AP5 (h : tas σ M fun ds M1 => rc ds M1 Q) : E2 rc tas σ M Q := h
theorem PN (h : QA [] M) : A2 σ M QA := h
theorem EJ (h : te σ M fun x M1 => tas σ M1 fun xs M2 => QA (x :: xs) M2) : A0 te tas σ M QA := h
theorem RY (h : tas σ M fun xs M1 => xs.length ≤ sizeLine ∧ Q (.tup xs) M1) : D8 tas σ M Q := h
theorem TB (h : tas σ M fun xs M1 => xs.length ≤ sizeLine ∧ Q (.lst xs) M1) : F6 tas σ M Q := h
theorem WI (h : tA σ M fun c M1 => if c = true then tB σ M1 QB else QB false M1) : FK tA tB σ M QB := h
theorem AP4 (h : tA σ M fun c M1 => if c = true then QB true M1 else tB σ M1 QB) : LT tA tB σ M QB := h
theorem AB0 (h : ta σ M fun x M1 => ∃ c, x = .bl c ∧ if c = true then Q (.bl true) M1 else tb σ M1 Q) : AA1 ta tb σ M Q := h
theorem AO4 {tl th : TO3} (h : te σ M fun x M1 => tl σ M1 fun l M2 => th σ M2 fun u M3 => AM1 x l u M3 Q) : AK8 te tl th σ M Q := h
theorem AP8 {QO : Option Int → Mem → Prop} (h : QO none M) : W7 σ M QO := h
theorem SA {QO : Option Int → Mem → Prop} (h : te σ M fun x M1 => match x with | .int i => QO (some i) M1 | _ => False) : DJ te σ M QO := h
theorem ST {b : Bool} {P : Bool → Prop} (h : P b) : ∃ k, D.bl b = .bl k ∧ P k := ⟨b, rfl, h⟩
theorem J7 {P R : Prop} (h : P) : if true = true then P else R := by rw [if_pos rfl]; exact h
theorem V3 {P R : Prop} (h : R) : if false = true then P else R := by rw [if_neg Bool.false_ne_true]; exact h
theorem K6 {c P R : Prop} [Decidable c] (h1 : c → P) (h2 : ¬ c → R) : if decide c = true then P else R := by
  by_cases h : c
  · rw [decide_eq_true h, if_pos rfl]; exact h1 h
  · rw [decide_eq_false h, if_neg Bool.false_ne_true]; exact h2 h
theorem AQ4 {g : Int → Int → D} {i j : Int} (h : Q (g i j) M) : FX g (.int i) (.int j) M Q := h
theorem X2 {C : Int → Int → Prop} {g : Int → Int → D} {i j : Int} (hc : C i j) (h : Q (g i j) M) : rI3 C g (.int i) (.int j) M Q := ⟨hc, h⟩
theorem BI6 {g : Int → Int} {i : Int} (h : Q (.int (g i)) M) : rU3 g (.int i) M Q := h
theorem RJ {i j : Int} (h : Q (.int (i + j)) M) : C7 (.int i) (.int j) M Q := h
theorem AL4 {a b : Str} (hl : a.length + b.length ≤ sizeLine) (h : Q (.str (a ++ b)) M) : C7 (.str a) (.str b) M Q := ⟨hl, h⟩
theorem EC {a b : List D} (hl : a.length + b.length ≤ sizeLine) (h : Q (.lst (a ++ b)) M) : C7 (.lst a) (.lst b) M Q := ⟨hl, h⟩
theorem KO {a b : List D} (hl : a.length + b.length ≤ sizeLine) (h : Q (.tup (a ++ b)) M) : C7 (.tup a) (.tup b) M Q := ⟨hl, h⟩
theorem AY6 {a b : Str} (h : Q (.bl (a == b)) M) : G7 (.str a) (.str b) M Q := .inr ⟨a, b, rfl, rfl, h⟩
theorem AV7 {a b : Str} (h : Q (.bl (!(a == b))) M) : ND (.str a) (.str b) M Q := .inr ⟨a, b, rfl, rfl, h⟩
theorem BC6 (hx : dOk x) (hy : dOk y) (h : Q (.bl (!PyData.eqv (pyD x) (pyD y))) M) : ND x y M Q := .inl ⟨hx, hy, h⟩
theorem G2 {ds : List D} {i : Int} (e : atI ds i = some d) (h : Q d M) : C9 (.lst ds) (.int i) M Q := ⟨d, e, h⟩
theorem A9 {ds : List D} {i : Int} (e : atI ds i = some d) (h : Q d M) : C9 (.tup ds) (.int i) M Q := ⟨d, e, h⟩
theorem QM {z : Str} {i : Int} {c : Nat} (hl : z.length ≤ sizeLine) (e : atI z.cps.toList i = some c) (h : Q (.str ⟨#[c]⟩) M) : C9 (.str z) (.int i) M Q := ⟨hl, c, e, h⟩
theorem RK {ds : List D} (h : Q (.int ds.length) M) : K4 [.lst ds] M Q := h
theorem SD {ds : List D} (h : Q (.int ds.length) M) : K4 [.tup ds] M Q := h
theorem ZQ {i : Int} (h : Q (.int (if i < 0 then -i else i)) M) : AD [.int i] M Q := h
theorem RI {b : Bool} (h : Q (.int (if b then 1 else 0)) M) : NL [.bl b] M Q := h
theorem OD {ds : List D} (h : Q (.lst ds) M) : DA [.lst ds] M Q := h
theorem OL {ds : List D} (h : Q (.lst ds) M) : DA [.tup ds] M Q := h
theorem ZK {ds : List D} {l u : Option Int} (h : Q (.lst (cutD ds l u)) M) : AM1 (.lst ds) l u M Q := h
theorem AC7 {ti : TI3} {tb : TS3} (h : ti σ M fun ds M1 => ∃ Pv : Nat → Lo → Mem → Prop, Pv 0 σ M1 ∧
  (∀ k d σ M, ds[k]? = some d → Pv k σ M → tb { T with nx := Pv (k + 1), ct := Pv (k + 1), bk := T.nx } (σ.set i (some d)) M) ∧ ∀ σ M, Pv ds.length σ M → T.nx σ M) : Q8 ti i tb T σ M := h
theorem XY {R : List D → Mem → Prop} (h : tas σ M fun ds M1 => match ds with | [.int j] => -(2 ^ 62) ≤ j ∧ j < 2 ^ 62 ∧ R ((List.range j.toNat).map fun k => D.int (k : Nat)) M1 | _ => False) : DP tas σ M R := h
end
theorem B0 {M : Mem} {p : Addr} {b c : Nat} (h : Pen M p b) (hc : b ≤ c) : Pen M p c := by
  obtain ⟨ns, a, l, h1, h2, h3, h4, h5⟩ := h
  exact ⟨ns, a, l, h1, h2, h3, by lia, h5⟩
theorem V2 {α : Type} {ds : List α} {n : Int} (h0 : 0 ≤ n) (h1 : n < (ds.length : Int)) : ∃ d, atI ds n = some d ∧ d ∈ ds := by
  obtain ⟨k, rfl⟩ : ∃ k : Nat, n = (k : Int) := ⟨n.toNat, by lia⟩
  have hk : k < ds.length := by lia
  exact ⟨ds[k], E9 (by simp [hk]), List.getElem_mem hk⟩
theorem draw {p : Addr} {many : Int} {b : Nat} {M : Mem} {Q : DK} (hP : Pen M p b) (hb : b < 2 ^ 30) (h0 : 0 < many) (h1 : many < 2 ^ 200) (h : ∀ n M', 0 ≤ n → n < many → Pen M' p (b + 1) → Same3 p M M' → Q (.int n) M') : B3 [.ref p, .int many] M Q :=
  ⟨p, many, b, rfl, hP, hb, h0, h1, h⟩
theorem YV {i : Int} : dOk (.int i) := ⟨rfl, rfl, by simp [pyD, PyData.depth]⟩
def AQ3 : TS3 :=
    (B8 (CU [((tC3 (.str "cells")), (E2 DA (A0 (AK8 (A1 0) W7 (DJ (tC3 (.int 63)))) A2))), ((tC3 (.str "at")), (tC3 (.int 0))), ((tC3 (.str "left")), (tC3 (.int 0)))]))
def WO : TS3 :=
    (A6 (D0 (B6 (A4 AF8 (A4 D9 (A1 0) (tC3 (.str "left"))) (tC3 (.int 0)))) (A6 (B7 2 (A4 O0 (A4 D9 (A1 0) (tC3 (.str "left"))) (A1 1)))
    (A6 (Y0 (A1 0) (tC3 (.str "left")) (A4 Z9 (A4 D9 (A1 0) (tC3 (.str "left"))) (A1 1)))
    (B8 (A1 2)))) C2)
    (A6 (B7 3 (A4 D9 (A1 0) (tC3 (.str "cells"))))
    (A6 (B7 4 (A4 D9 (A1 0) (tC3 (.str "at"))))
    (A6 (Y0 (A1 0) (tC3 (.str "at")) (A4 C7 (A1 4) (tC3 (.int 1))))
    (A6 (B7 5 (A4 C7 (A4 Z8 (tC3 (.int 30011)) (A1 4)) (tC3 (.int 77))))
    (A6 (D0 (B6 (A4 ND (A1 3) (F6 A2))) (B7 5 (A4 C9 (A1 3) (A4 O0 (A1 4) (E2 K4 (A0 (A1 3) A2))))) C2)
    (A6 (D0 (FK (B6 (A4 CH (A1 4) (E2 K4 (A0 (A1 3) A2)))) (B6 (A4 AN4 (E2 AD (A0 (A1 5) A2)) (A4 U1 (tC3 (.int 10)) (tC3 (.int 18)))))) (A6 (Y0 (A1 0) (tC3 (.str "left")) (A4 Z9 (E2 AD (A0 (A1 5) A2)) (A1 1)))
    (B8 (A4 O0 (E2 AD (A0 (A1 5) A2)) (A1 1)))) C2)
    (A6 (B7 6 (A4 O0 (A4 U1 (A4 C7 (A4 C7 (A4 O0 (A1 5) (tC3 (.int 2147483587))) (A4 Z8 (tC3 (.int 50021)) (A1 4))) (tC3 (.int 29))) (tC3 (.int 5))) (tC3 (.int 2147483629))))
    (A6 (B7 6 (A4 O0 (A4 U1 (A4 C7 (A4 Z8 (A1 6) (A4 C7 (A4 Z8 (tC3 (.int 2)) (A1 4)) (tC3 (.int 5)))) (tC3 (.int 81799))) (tC3 (.int 3))) (tC3 (.int 2147483647))))
    (B8 (A4 O0 (A4 Z9 (A1 6) (tC3 (.int 16))) (A1 1))))))))))))
local macro_rules | `(tactic| walk_at "r1") => `(tactic| first | (with_reducible first | refine WT ?_ | refine ZO ?_ | refine RP ?_ | refine AO7 ?_ | refine AP7 ?_ | refine BH7 ?_ | refine PP ?_ | refine YG ?_ | refine RA ?_ | refine Y8 ?_ | refine JL ?_ | refine AP5 ?_ | refine PN ?_ | refine EJ ?_ | refine RY ?_ | refine TB ?_ | refine WI ?_ | refine AP4 ?_ | refine rd_not ?_ | refine rd_andV ?_ | refine AB0 ?_ | refine rd_notV ?_ | refine rd_if3 ?_ | refine rd_chain ?_ | refine AO4 ?_ | refine AP8 ?_ | refine SA ?_ | refine ST ?_ | refine J7 ?_ | refine V3 ?_ | refine AQ4 ?_ | refine BI6 ?_ | refine RJ ?_ | refine RK ?_ | refine SD ?_ | refine ZQ ?_ | refine rd_intI ?_ | refine RI ?_ | refine OD ?_ | refine OL ?_ | refine ZK ?_ | refine rd_isN ?_ | refine rd_isntN ?_ | refine AC7 ?_ | refine XY ?_) | ((with_reducible show A1 _ _ _ _); refine DE rfl ?_) | ((with_reducible show _ ∧ _); refine ⟨(by first | decide | (simp only [List.length_cons, List.length_nil]; decide)), ?_⟩))
local macro_rules | `(tactic| walk_at "rd") => `(tactic| repeat walk_at "r1")
theorem AN6 : ¬ (("cells" : Str) = "at") := by decide +kernel
theorem AM8 : ¬ (("cells" : Str) = "left") := by decide +kernel
theorem AL5 : ¬ (("at" : Str) = "left") := by decide +kernel
theorem BL3 : ¬ (("left" : Str) = "at") := by decide +kernel
theorem L7 {x y : Str} (h : ¬ x = y) : ¬ (Sum.inr x : Key) = Sum.inr y := fun z => h (Sum.inr.inj z)
theorem UC (x y z : D) : Z6 [] [(.inr "cells", x), (.inr "at", y), (.inr "left", z)] = ([(.inr "cells", x), (.inr "at", y), (.inr "left", z)] : List (Key × D)) := by
  simp [Z6, putD, L7 AN6, L7 AM8, L7 AL5]
theorem AD3 (x y z d : D) : putD [(.inr "cells", x), (.inr "at", y), (.inr "left", z)] (.inr "left") d = ([(.inr "cells", x), (.inr "at", y), (.inr "left", d)] : List (Key × D)) := by
  simp [putD, L7 AM8, L7 AL5]
theorem AU1 (x y z d : D) : putD [(.inr "cells", x), (.inr "at", y), (.inr "left", z)] (.inr "at") d = ([(.inr "cells", x), (.inr "at", d), (.inr "left", z)] : List (Key × D)) := by
  simp [putD, L7 AN6, L7 BL3]
theorem GC {ns : List Int} {a l : Int} {M : Mem} {p : Addr} {Q : DK} (h : M p = some (DX ns a l)) : D9 (.ref p) (.str "left") M Q ↔ Q (.int l) M := by
  constructor
  · rintro ⟨k, d, hk, ⟨kds, hm, hv⟩, q⟩
    cases hk
    rw [h] at hm
    cases hm
    simp [Z4, L7 AM8, L7 AL5] at hv
    subst hv; exact q
  · intro q
    exact ⟨_, .int l, rfl, ⟨_, h, by simp [Z4, L7 AM8, L7 AL5]⟩, q⟩
theorem AS1 {ns : List Int} {a l : Int} {M : Mem} {p : Addr} {Q : DK} (h : M p = some (DX ns a l)) : D9 (.ref p) (.str "at") M Q ↔ Q (.int a) M := by
  constructor
  · rintro ⟨k, d, hk, ⟨kds, hm, hv⟩, q⟩
    cases hk
    rw [h] at hm
    cases hm
    simp [Z4, L7 AN6] at hv
    subst hv; exact q
  · intro q
    exact ⟨_, .int a, rfl, ⟨_, h, by simp [Z4, L7 AN6]⟩, q⟩
theorem VO {ns : List Int} {a l : Int} {M : Mem} {p : Addr} {Q : DK} (h : M p = some (DX ns a l)) : D9 (.ref p) (.str "cells") M Q ↔ Q (.lst (ns.map D.int)) M := by
  constructor
  · rintro ⟨k, d, hk, ⟨kds, hm, hv⟩, q⟩
    cases hk
    rw [h] at hm
    cases hm
    simp [Z4] at hv
    subst hv; exact q
  · intro q
    exact ⟨_, .lst (ns.map D.int), rfl, ⟨_, h, by simp [Z4]⟩, q⟩
theorem IT {ns : List Int} {a l l' : Int} {M : Mem} {p : Addr} {T : Lo → Mem → Prop} {σ : Lo} (h : M p = some (DX ns a l)) (q : T σ (D4 M p (DX ns a l'))) :
    ∃ k a' kds, dK? (.str "left") = some k ∧ D.ref p = .ref a' ∧ M a' = some (.dct kds) ∧ kds.length < sizeLine ∧ T σ (D4 M a' (.dct (putD kds k (.int l')))) :=
  ⟨_, p, _, rfl, rfl, h, by show 3 < sizeLine; decide, by rw [AD3]; exact q⟩
theorem AN7 {ns : List Int} {a a1 l : Int} {M : Mem} {p : Addr} {T : Lo → Mem → Prop} {σ : Lo} (h : M p = some (DX ns a l)) (q : T σ (D4 M p (DX ns a1 l))) :
    ∃ k a' kds, dK? (.str "at") = some k ∧ D.ref p = .ref a' ∧ M a' = some (.dct kds) ∧ kds.length < sizeLine ∧ T σ (D4 M a' (.dct (putD kds k (.int a1)))) :=
  ⟨_, p, _, rfl, rfl, h, by show 3 < sizeLine; decide, by rw [AU1]; exact q⟩
theorem ZI (ns : List Int) (lo hi : Option Int) : ∃ ms : List Int, cutD (ns.map D.int) lo hi = ms.map D.int ∧ ms.length ≤ ns.length := by
  unfold cutD
  refine ⟨(ns.drop (HT.sIx (ns.map D.int).length 0 lo)).take (HT.sIx (ns.map D.int).length (ns.map D.int).length hi - HT.sIx (ns.map D.int).length 0 lo), ?_, ?_⟩
  · rw [← List.map_drop, ← List.map_take]
  · rw [List.length_take, List.length_drop]; lia
theorem RQ : ∀ ns : List Int, L8 (ns.map D.int) = true ∧ PyData.canLayAll0 (K7 (ns.map D.int)) = true ∧ PyData.depthAll (K7 (ns.map D.int)) = 0
  | [] => ⟨rfl, rfl, rfl⟩
  | n :: ns => by
    obtain ⟨h1, h2, h3⟩ := RQ ns
    simp [List.map_cons, L8, plain, K7, pyD, PyData.canLayAll0, PyData.canLay0, PyData.depthAll, PyData.depth, h1, h2, h3]
theorem AC2 (ns : List Int) : dOk (.lst (ns.map D.int)) := by
  obtain ⟨h1, h2, h3⟩ := RQ ns
  refine ⟨by simpa [plain] using h1, by simpa [pyD, PyData.canLay0] using h2, ?_⟩
  simp [pyD, PyData.depth, h3]
theorem AU5 {Q : DK} {ds : List D} {M : Mem} (h : FR ds M Q) (d : D) (e : ds = [d]) (T : Lo → Mem → Prop) : AQ3 { nx := T, rt := View Q } [some d] M := by
  obtain ⟨ns, rfl, hl, q⟩ := h
  cases e
  unfold AQ3
  walk_at "rd"
  intro p hp
  unfold N1
  walk_at "rd"
  unfold N1
  walk_at "rd"
  unfold N1
  walk_at "rd"
  unfold N1
  refine ⟨A5, [(.inr "cells", _), (.inr "at", _), (.inr "left", _)], rfl, by simp, View.of ?_⟩
  rw [UC, S7]
  obtain ⟨ms, e, hms⟩ := ZI ns none (some 63)
  rw [e]
  exact q p _ hp ⟨ms, 0, 0, A5, by lia, by lia, by simp, by lia⟩ fun b hb => B2 hb
theorem BK7 {a c : Int} (h0 : 0 ≤ a) (h1 : a < 2 ^ 31) : WE (c % 2147483587 + 50021 * a + 29) 5 := by
  have z1 := Int.emod_nonneg c (show (2147483587 : Int) ≠ 0 by decide)
  have z2 := Int.emod_lt_of_pos c (show (0 : Int) < 2147483587 by decide)
  refine ⟨by decide, by decide, ?_⟩
  lia
theorem BJ2 {a n : Int} (h0 : 0 ≤ a) (h1 : a < 2 ^ 30) (h2 : 0 ≤ n) (h3 : n < 2147483629) : WE (n * (2 * a + 5) + 81799) 3 := by
  refine ⟨by decide, by decide, ?_⟩
  have e : n * (2 * a + 5) ≤ 2147483629 * 2147483653 := Int.mul_le_mul (by lia) (by lia) (by lia) (by lia)
  have e0 : 0 ≤ n * (2 * a + 5) := Int.mul_nonneg h2 (by lia)
  lia
theorem ZN {td ty tv : TE3} {T : R5} {σ : Lo} {M : Mem} (h : tv σ M fun d M1 => td σ M1 fun x M2 => ty σ M2 fun y M3 => ∃ k a kds, dK? y = some k ∧ x = .ref a ∧ M3 a = some (.dct kds) ∧ kds.length < sizeLine ∧ T.nx σ (D4 M3 a (.dct (putD kds k d)))) : Y0 td ty tv T σ M := h
theorem AY1 {x : Int} (h0 : 0 < x) (h : x < 2 ^ 200) : MW 0 x := by
  refine ⟨h0, ?_⟩
  have h2 : x.natAbs < 2 ^ 200 := by lia
  exact Nat.lt_trans h2 (Nat.pow_lt_pow_right (by decide) (by decide))
theorem AL3 {ns : List Int} {a : Int} (h0 : 0 ≤ a) (h : a < (ns.length : Int)) : ∃ c, atI (ns.map D.int) a = some (D.int c) := by
  obtain ⟨k, rfl⟩ : ∃ k : Nat, a = (k : Int) := ⟨a.toNat, by lia⟩
  have hk : k < ns.length := by lia
  exact ⟨ns[k], E9 (by simp [hk])⟩
def DH : TS3 :=
    (A6 (B7 6 (A4 O0 (A4 U1 (A4 C7 (A4 C7 (A4 O0 (A1 5) (tC3 (.int 2147483587))) (A4 Z8 (tC3 (.int 50021)) (A1 4))) (tC3 (.int 29))) (tC3 (.int 5))) (tC3 (.int 2147483629))))
    (A6 (B7 6 (A4 O0 (A4 U1 (A4 C7 (A4 Z8 (A1 6) (A4 C7 (A4 Z8 (tC3 (.int 2)) (A1 4)) (tC3 (.int 5)))) (tC3 (.int 81799))) (tC3 (.int 3))) (tC3 (.int 2147483647))))
    (B8 (A4 O0 (A4 Z9 (A1 6) (tC3 (.int 16))) (A1 1)))))
def IP : TS3 :=
    A6 (D0 (FK (B6 (A4 CH (A1 4) (E2 K4 (A0 (A1 3) A2)))) (B6 (A4 AN4 (E2 AD (A0 (A1 5) A2)) (A4 U1 (tC3 (.int 10)) (tC3 (.int 18)))))) (A6 (Y0 (A1 0) (tC3 (.str "left")) (A4 Z9 (E2 AD (A0 (A1 5) A2)) (A1 1)))
    (B8 (A4 O0 (E2 AD (A0 (A1 5) A2)) (A1 1)))) C2)
    DH
theorem AL0 {Q : DK} {ds : List D} {M : Mem} (h : B3 ds M Q) (d0 d1 : D) (e : ds = [d0, d1]) (T : Lo → Mem → Prop) : WO { nx := T, rt := View Q } [some d0, some d1, none, none, none, none, none] M := by
  obtain ⟨p, many, b, rfl, ⟨ns, a, l, hM, hl, ha0, hab, hl0⟩, hb, hm0, hm1, q⟩ := h
  cases e
  have hdv : ∀ i, MW i many := fun i => ⟨hm0, (AY1 hm0 hm1).2⟩
  have hb' : (b : Int) < 2 ^ 30 := by
    have : ((2 ^ 30 : Nat) : Int) = (2 : Int) ^ 30 := by decide
    lia
  unfold WO
  walk_at "rd"
  refine (GC hM).mpr ?_
  walk_at "rd"
  refine K6 (fun hpos => ?_) (fun hneg => ?_)
  · walk_at "rd"
    refine (GC hM).mpr ?_
    walk_at "rd"
    refine X2 hm0 ?_
    walk_at "rd"
    refine ZN ?_
    walk_at "rd"
    refine (GC hM).mpr ?_
    walk_at "rd"
    refine X2 (hdv _) ?_
    walk_at "rd"
    refine IT hM ?_
    walk_at "rd"
    exact View.of (q _ _ (Int.emod_nonneg _ (by lia)) (Int.emod_lt_of_pos _ hm0) ⟨ns, a, _, A5, hl, ha0, by lia, Int.ediv_nonneg hl0 (by lia)⟩ fun _ h => B2 h)
  · walk_at "rd"
    refine (VO hM).mpr ?_
    walk_at "rd"
    refine (AS1 hM).mpr ?_
    walk_at "rd"
    refine ZN ?_
    walk_at "rd"
    refine AN7 hM ?_
    have hM1 : D4 M p (DX ns (a + 1) l) p = some (DX ns (a + 1) l) := A5
    walk_at "rd"
    refine X2 (.inl (.inl ⟨by decide, by decide⟩)) ?_
    walk_at "rd"
    refine BC6 (AC2 ns) ⟨rfl, rfl, by decide⟩ ?_
    have rest : ∀ c : Int, IP { nx := T, rt := View Q } [some (.ref p), some (.int many), none, some (.lst (ns.map D.int)), some (.int a), some (.int c), none] (D4 M p (DX ns (a + 1) l)) := by
      intro c
      have abs0 : 0 ≤ (if c < 0 then -c else c) := by split <;> lia
      have tail : DH { nx := T, rt := View Q } [some (.ref p), some (.int many), none, some (.lst (ns.map D.int)), some (.int a), some (.int c), none] (D4 M p (DX ns (a + 1) l)) := by
        unfold DH
        walk_at "rd"
        refine X2 (by decide) ?_
        walk_at "rd"
        refine X2 (.inl (.inl ⟨by decide, by decide⟩)) ?_
        walk_at "rd"
        refine X2 (BK7 ha0 (by lia)) ?_
        walk_at "rd"
        refine X2 (by decide) ?_
        walk_at "rd"
        refine X2 (.inl (.inl ⟨by decide, by decide⟩)) ?_
        walk_at "rd"
        have z1 := Int.emod_nonneg ((c % 2147483587 + 50021 * a + 29) ^ Int.toNat 5) (show (2147483629 : Int) ≠ 0 by decide)
        have z2 := Int.emod_lt_of_pos ((c % 2147483587 + 50021 * a + 29) ^ Int.toNat 5) (show (0 : Int) < 2147483629 by decide)
        refine X2 (.inl (.inl ⟨by lia, by lia⟩)) ?_
        walk_at "rd"
        refine X2 (BJ2 ha0 (by lia) z1 z2) ?_
        walk_at "rd"
        refine X2 (by decide) ?_
        walk_at "rd"
        refine X2 ⟨by decide, by decide +kernel⟩ ?_
        walk_at "rd"
        refine X2 hm0 ?_
        walk_at "rd"
        exact View.of (q _ _ (Int.emod_nonneg _ (by lia)) (Int.emod_lt_of_pos _ hm0) ⟨ns, a + 1, _, A5, hl, by lia, by lia, hl0⟩ fun _ h => B2 h)
      unfold IP
      walk_at "rd"
      refine K6 (fun hlt => ?_) (fun hge => ?_)
      · walk_at "rd"
        refine X2 ⟨by decide, by decide, by decide⟩ ?_
        walk_at "rd"
        refine K6 (fun h18 => ?_) (fun h18 => ?_)
        · walk_at "rd"
          refine ZN ?_
          walk_at "rd"
          refine X2 (hdv _) ?_
          walk_at "rd"
          refine IT hM1 ?_
          walk_at "rd"
          refine X2 hm0 ?_
          walk_at "rd"
          rw [S7]
          exact View.of (q _ _ (Int.emod_nonneg _ (by lia)) (Int.emod_lt_of_pos _ hm0) ⟨ns, a + 1, _, A5, hl, by lia, by lia, Int.ediv_nonneg abs0 (by lia)⟩ fun _ h => B2 h)
        · exact tail
      · exact tail
    cases ns with
    | nil =>
      refine ST (show if (!true) = true then _ else _ from ?_)
      exact V3 (rest _)
    | cons n ns =>
      refine ST (show if (!false) = true then _ else _ from ?_)
      refine J7 ?_
      walk_at "rd"
      have hlen : (0 : Int) < ((List.map D.int (n :: ns)).length : Int) := by rw [List.length_map, List.length_cons]; lia
      refine X2 hlen ?_
      obtain ⟨c, hc⟩ := AL3 (ns := n :: ns) (a := a % ((List.map D.int (n :: ns)).length : Int)) (Int.emod_nonneg _ (by lia)) (by have := Int.emod_lt_of_pos a hlen; simpa using this)
      refine G2 hc ?_
      exact rest c
section
variable {t u : TS3} {T : R5} {σ : Lo} {M : Mem} {Q : DK} {QB : Bool → Mem → Prop} {QA : List D → Mem → Prop} {c tA tB : TT3} {te ta tb tc to : TE3} {tas : TA3} {i : Nat} {d x y : D} {r r' : R3} {g : TG3} {ti : TI3} {tt : TT3} {slots : List Nat} {n : Nat}
theorem AY0 (h : te σ M fun d M1 => g d σ M1 T.nx) : SX g te T σ M := h
theorem AE3 {QG : Lo → Mem → Prop} (h : QG (σ.set i (some d)) M) : P1 i d σ M QG := h
theorem AM {is : List Nat} {ds : List D} {QG : Lo → Mem → Prop} (hl : ds.length = is.length) (h : QG (W5 σ is ds) M) : BA is (.tup ds) σ M QG := ⟨ds, rfl, hl, h⟩
theorem AN2 {is : List Nat} {ds : List D} {QG : Lo → Mem → Prop} (hl : ds.length = is.length) (h : QG (W5 σ is ds) M) : AE9 is (.lst ds) σ M QG := ⟨ds, rfl, hl, h⟩
theorem AI2 (h : QB true M) : U7 σ M QB := h
theorem BD1 {ty : String} {rm : M3} (h : to σ M fun x M1 => tyD ty M1 x ∧ tas σ M1 fun xs M2 => rm x xs M2 Q) : R0 ty rm to tas σ M Q := h
theorem G5 {a : Addr} {ds : List D} (hm : M a = some (.lst ds)) (hl : ds.length < sizeLine) (h : Q .non (D4 M a (.lst (ds ++ [y])))) : J1 (.ref a) [y] M Q := ⟨a, ds, y, rfl, rfl, hm, hl, h⟩
theorem AW3 {a : Addr} {ds : List D} (e : σ[i]? = some (some (.ref a))) (hm : M a = some (.lst ds)) (h : t T (σ.set i (some (.lst ds))) (J0 M a)) : AE8 i t T σ M := ⟨a, ds, e, hm, h⟩
def IL (g : TG3) (tt : TT3) (te : TE3) (σ0 : Lo) (ds : List D) (M1 : Mem) (Q : DK) : Prop := ∀ p, M1 p = none → ∃ Pv : Nat → List D → Mem → Prop, Pv 0 [] (D4 M1 p (.lst [])) ∧
  (∀ k d acc M, ds[k]? = some d → Pv k acc M → g d σ0 M fun σ' M0 => tt σ' M0 fun b M' =>
    if b = true then te σ' M' fun e M'' => M'' p = some (.lst acc) ∧ acc.length < sizeLine ∧ Pv (k + 1) (acc ++ [e]) (D4 M'' p (.lst (acc ++ [e]))) else Pv (k + 1) acc M') ∧
  ∀ acc M, Pv ds.length acc M → M p = some (.lst acc) ∧ Q (.lst acc) (J0 M p)
theorem AF4 (h : ti σ M fun ds M1 => IL g tt te (List.replicate n none ++ slots.map fun j => (σ[j]?).getD none) ds M1 Q) : K5 ti n slots g tt te σ M Q := h
theorem AK2 {tb : TS3} (h : ti σ M fun ds M1 => ∃ Pv : Nat → Lo → Mem → Prop, Pv 0 σ M1 ∧
  (∀ k d σ M, ds[k]? = some d → Pv k σ M → g d σ M fun σ' M' => tb { T with nx := Pv (k + 1), ct := Pv (k + 1), bk := T.nx } σ' M') ∧ ∀ σ M, Pv ds.length σ M → T.nx σ M) : QE ti g tb T σ M := h
def AO3 (R : List D → Mem → Prop) : DK := fun d M1 => match d with | .tup ds => R ds M1 | _ => False
def AP2 (R : List D → Mem → Prop) : DK := fun d M1 => match d with | .lst ds => R ds M1 | _ => False
theorem AI7 {R : List D → Mem → Prop} (h : te σ M (AO3 R)) : BB te σ M R := h
theorem YL {R : List D → Mem → Prop} (h : te σ M (AP2 R)) : N5 te σ M R := h
theorem WF {R : List D → Mem → Prop} {ds : List D} (h : R ds M) : AO3 R (.tup ds) M := h
theorem YX {R : List D → Mem → Prop} {ds : List D} (h : R ds M) : AP2 R (.lst ds) M := h
end
theorem C4 {b : Bool} {P R : Prop} (e : b = true) (h : P) : if b = true then P else R := by rw [if_pos e]; exact h
theorem A8 {b : Bool} {P R : Prop} (e : b = false) (h : R) : if b = true then P else R := by rw [if_neg (by rw [e]; exact Bool.false_ne_true)]; exact h
theorem AC4 {x y : D} {b : Bool} {M : Mem} {Q : DK} (hx : dOk x) (hy : dOk y) (e : PyData.eqv (pyD x) (pyD y) = b) (h : Q (.bl b) M) : G7 x y M Q := .inl ⟨hx, hy, by rw [e]; exact h⟩
theorem AV6 {x y : D} {b : Bool} {M : Mem} {Q : DK} (hx : dOk x) (hy : dOk y) (e : PyData.eqv (pyD x) (pyD y) = b) (h : Q (.bl (!b)) M) : ND x y M Q := .inl ⟨hx, hy, by rw [e]; exact h⟩
theorem BN1 (x y : Int) : PyData.eqv (pyD (.int x)) (pyD (.int y)) = (x == y) := by simp [pyD, PyData.eqv]
theorem AU0 {x y : Int} {M : Mem} {Q : DK} (h : Q (.bl (x == y)) M) : G7 (.int x) (.int y) M Q := AC4 YV YV (BN1 x y) h
theorem CG {M M' : Mem} {p q : Addr} {b : Nat} (h : Pen M q b) (s : Same3 p M M') (hn : q ≠ p) : Pen M' q b := by
  obtain ⟨ns, a, l, h1, h2⟩ := h
  exact ⟨ns, a, l, by rw [s q hn]; exact h1, h2⟩
theorem F8 {M : Mem} {p q : Addr} {b : Nat} {o : MO} (h : Pen M q b) (hn : q ≠ p) : Pen (D4 M p o) q b := CG h (fun a ha => B2 ha) hn
theorem Y1 {M : Mem} {p q : Addr} {b : Nat} (h : Pen M q b) (hp : M p = none) : q ≠ p := by
  rintro rfl
  obtain ⟨ns, a, l, h1, _⟩ := h
  rw [hp] at h1; cases h1
theorem K3 {M : Mem} {a b : Addr} (h : b ≠ a) : J0 M a b = M b := by unfold J0; rw [if_neg h]
theorem K1 {M : Mem} {a : Addr} : J0 M a a = none := by unfold J0; rw [if_pos rfl]
theorem ZE {g : TG3} {tt : TT3} {te : TE3} {σ0 : Lo} {M1 : Mem} {Q : DK} {ds : List D} {q : Addr} {b : Nat} (c : Nat) (P : Nat → D → D → Prop) (hP : Pen M1 q b) (hl : ds.length < sizeLine)
    (turn : ∀ k d p acc M2 (R : D → Mem → Prop) (F : Mem → Prop), ds[k]? = some d → Pen M2 q (b + c * k) → M2 p = some (.lst acc) → q ≠ p → (∀ a, a ≠ q → a ≠ p → M2 a = M1 a) → (∀ e M5, P k d e → Pen M5 q (b + c * (k + 1)) → Same3 q M2 M5 → R e M5) →
      g d σ0 M2 fun σ' M3 => tt σ' M3 fun bb M4 => if bb = true then te σ' M4 R else F M4)
    (done : ∀ acc M2, acc.length = ds.length → (∀ k d e, ds[k]? = some d → acc[k]? = some e → P k d e) → Pen M2 q (b + c * ds.length) → Same3 q M1 M2 → Q (.lst acc) M2) :
    IL g tt te σ0 ds M1 Q := by
  intro p hp
  have hqp := Y1 hP hp
  refine ⟨fun k acc M2 => acc.length = k ∧ (∀ j d e, ds[j]? = some d → acc[j]? = some e → P j d e) ∧ Pen M2 q (b + c * k) ∧ M2 p = some (.lst acc) ∧ ∀ a, a ≠ q → a ≠ p → M2 a = M1 a, ⟨rfl, fun j d e _ h => by simp at h, by rw [Nat.mul_zero, Nat.add_zero]; exact F8 hP hqp, A5, fun a _ ha => B2 ha⟩, ?_, ?_⟩
  · rintro k d acc M2 hd ⟨hk, hall, hpen, hacc, hsame⟩
    have hkl : k < ds.length := (List.getElem?_eq_some_iff.mp hd).1
    refine turn k d p acc M2 _ _ hd hpen hacc hqp hsame fun e M5 he hp5 hs5 => ?_
    refine ⟨by rw [hs5 p (Ne.symm hqp)]; exact hacc, by lia, by simp [hk], fun j d' e' hd' he' => ?_, F8 hp5 hqp, A5, fun a ha1 ha2 => ?_⟩
    · rcases Nat.lt_or_ge j acc.length with hj | hj
      · rw [List.getElem?_append_left hj] at he'
        exact hall j d' e' hd' he'
      · rw [List.getElem?_append_right hj] at he'
        have hj0 : j - acc.length = 0 := by
          rcases Nat.eq_zero_or_pos (j - acc.length) with z | z
          · exact z
          · rw [List.getElem?_eq_none (by simp; lia)] at he'; cases he'
        rw [hj0] at he'
        cases he'
        have : j = k := by lia
        subst this
        rw [hd] at hd'; cases hd'
        exact he
    · rw [B2 ha2, hs5 a ha1]; exact hsame a ha1 ha2
  · rintro acc M2 ⟨hk, hall, hpen, hacc, hsame⟩
    refine ⟨hacc, done acc (J0 M2 p) hk hall ?_ fun a ha => ?_⟩
    · exact CG hpen (p := p) (fun a ha => K3 ha) hqp
    · by_cases hap : a = p
      · subst hap; rw [K1, hp]
      · rw [K3 hap]; exact hsame a ha hap
end L3
namespace L3
open PySem PySem.Spec PyProof.Rows L2
section
variable {X : Cx} {a b e : Expr} {ta tb te : TE3} {pos : Pos}
def YE : C3 := fun ds M Q => match ds with
  | [.int i, .int j] => Q (.int (if j < i then j else i)) M
  | _ => False
theorem AT3 (hc : X.calm = true) : CallR3 X (.builtin "min") YE := CallR3.of (VW hc) fun H M xs xvs Q m px q => by
  cases px with
  | nil => exact (q : False).elim
  | cons p1 ps =>
  cases ps with
  | nil => first | exact (q : False).elim | (cases p1 <;> exact (q : False).elim)
  | cons p2 ps2 =>
  cases p1 with
  | int =>
    cases p2 with
    | int =>
      cases ps2 with
      | nil => exact ⟨_, _, rfl, up0 m .int q⟩
      | cons _ _ => exact (q : False).elim
    | _ => first | exact (q : False).elim | (cases ps2 <;> exact (q : False).elim)
  | _ => first | exact (q : False).elim | (cases ps2 <;> exact (q : False).elim) | (cases p2 <;> cases ps2 <;> exact (q : False).elim)
def J4 : C3 := fun ds M Q => match ds with
  | [.lst xs] => Q (.tup xs) M
  | [.tup xs] => Q (.tup xs) M
  | [.ref a] => ∃ xs, M a = some (.lst xs) ∧ Q (.tup xs) M
  | _ => False
theorem ZU : CallR3 X (.type "tuple") J4 := CallR3.of HJ fun H M xs xvs Q m px q => by
  rcases px with _ | ⟨pd, ps⟩; (exact (q : False).elim); rcases ps with _ | ⟨p2, ps2⟩; rotate_left; (first | exact (q : False).elim | (cases pd <;> exact (q : False).elim))
  cases pd with
  | lst h r => exact ⟨_, _, rfl, .inl ⟨SqL.of3 h, fun l hl => ⟨_, M, Step.lay hl, m.lay hl, .tup (.inl ⟨.inl D5, m.free hl⟩) (r.mono (Step.lay hl)), q⟩⟩⟩
  | tup h r => exact ⟨_, _, rfl, .inr ⟨SqT.of3 h, _, M, .refl, m, .tup h r, q⟩⟩
  | ref =>
    obtain ⟨ds, hm, q⟩ := q
    obtain ⟨ho, e1, r⟩ := m _ _ hm
    cases ho <;> first | exact r.elim | skip
    have r' : Reps X.K M H ds _ := r
    exact ⟨_, _, rfl, .inl ⟨.inl (.inl e1), fun l hl => ⟨_, M, Step.lay hl, m.lay hl, .tup (.inl ⟨.inl D5, m.free hl⟩) (r'.mono (Step.lay hl)), q⟩⟩⟩
  | _ => exact (q : False).elim
def PF (x : Str) (ys : List Str) : Prop := (ys.map fun y => y.length).sum + ys.length * x.length ≤ 16777216
def PX : M3 := fun x xs M Q => ∃ z, ∃ ys : List Str, x = .str z ∧ xs = [.lst (ys.map D.str)] ∧ PF z ys ∧ Q (.str (Txt.join z ys)) M
theorem X6 {K : PySem.W.Frag} {M : Mem} {H : Hp} : ∀ {ys : List Str} {vs : List V} {its : List Value}, Reps K M H (ys.map D.str) vs → Vals vs its → StrsAre its ys
  | [], _, _, r, v => by cases r; cases v; exact .nil
  | y :: ys, _, _, .cons p1 p2, v => by
    cases p1
    cases v with
    | cons i1 i2 =>
      obtain ⟨t, rfl⟩ := i1
      exact .cons y t (X6 p2 i2)
theorem AG6 : MtR3 X "str.join" PX := by
  rintro pins s σv H M x xs xv xvs v us Q I m rv rvs px pxs ⟨z, ys, rfl, rfl, hj, q⟩
  obtain ⟨yv, rfl, py⟩ := FU pxs
  obtain ⟨u, rfl, ru⟩ := vals1 rvs
  cases px
  obtain ⟨t, rfl⟩ := rv
  cases py with
  | lst h1 r1 =>
    cases ru
    obtain ⟨its, ri, pl, hz⟩ := I.list (SqL.of3 h1)
    exact join_list pl.isList (by simpa using X6 r1 ri) hj fun t' k => ⟨_, .str _, M, H, I.tok k, .refl, m, ⟨_, rfl⟩, .str, q⟩
def subIn (z w : Str) : Bool := !(Builtin.Str.occurrences w z 0 w.length 1).isEmpty
def GW (M : Mem) : D → Option (List D)
  | .lst ds => some ds
  | .tup ds => some ds
  | .ref a => match M a with | some (.lst ds) => some ds | _ => none
  | _ => none
def ER (neg : Bool) : R3 := fun x y M Q => (∃ z w, x = .str z ∧ y = .str w ∧ Q (.bl (neg ^^ subIn z w)) M) ∨ ∃ z, ∃ ys : List Str, x = .str z ∧ GW M y = some (ys.map D.str) ∧ Q (.bl (neg ^^ ys.any (· == z))) M
theorem GA {K : PySem.W.Frag} {M : Mem} {H : Hp} : ∀ {ys : List Str} {vs : List V}, Reps K M H (ys.map D.str) vs → vs = ys.map V.str
  | [], _, r => by cases r; rfl
  | y :: ys, _, .cons p1 p2 => by
    cases p1
    rw [GA p2]; rfl
theorem JF {K : PySem.W.Frag} {M : Mem} {H : Hp} {y : D} {yv : V} {ds : List D} (m : MRel K M H) (r : Rep K M H y yv) (e : GW M y = some ds) : ∃ p vs, yv = .ref p ∧ (SqL K H p vs ∨ SqT K H p vs) ∧ Reps K M H ds vs := by
  cases r with
  | tup h r => cases e; exact ⟨_, _, rfl, .inr (SqT.of3 h), r⟩
  | lst h r => cases e; exact ⟨_, _, rfl, .inl (SqL.of3 h), r⟩
  | @ref a =>
    unfold GW at e
    dsimp only at e
    cases hm : M a with
    | none => rw [hm] at e; cases e
    | some o =>
      rw [hm] at e
      cases o with
      | dct _ => cases e
      | dt _ => cases e
      | lst xs =>
        cases e
        obtain ⟨ho, e1, r⟩ := m _ _ hm
        cases ho <;> first | exact (r : False).elim | skip
        exact ⟨_, _, rfl, .inl (.inl (.inl e1)), r⟩
  | _ => cases e
theorem RV {z : Str} {ys : List Str} : inV (.str z) (ys.map V.str) = ys.any (· == z) := by
  unfold inV
  rw [List.any_map]
  rfl
theorem IH (ys : List Str) : (ys.map V.str).all CO = true := by
  rw [List.all_map, List.all_eq_true]
  intro _ _; rfl
theorem BI0 : OpR3 X (compareOp .In) (ER false) := by
  rintro pins s σv H M x y xv yv v u Q I m rx ry px py (⟨z, w, rfl, rfl, q⟩ | ⟨z, ys, rfl, hy, q⟩)
  · cases px; cases py
    exact thn (VE pins s σv H _ _ v u _ I rx ry ⟨z, w, rfl, rfl, up0 m .bl (by rw [Bool.false_xor] at q; exact q)⟩) fun _ _ h => S8 h
  · cases px
    obtain ⟨p, vs, rfl, sq, r⟩ := JF m py hy
    have e := GA r
    subst e
    exact thn (UE pins s σv H _ _ v u _ I rx ry ⟨p, _, rfl, sq, rfl, IH ys, up0 m .bl (by rw [RV]; rw [Bool.false_xor] at q; exact q)⟩) fun _ _ h => S8 h
theorem YZ : OpR3 X (compareOp .NotIn) (ER true) := by
  rintro pins s σv H M x y xv yv v u Q I m rx ry px py (⟨z, w, rfl, rfl, q⟩ | ⟨z, ys, rfl, hy, q⟩)
  · cases px; cases py
    exact thn (LY pins s σv H _ _ v u _ I rx ry ⟨z, w, rfl, rfl, up0 m .bl (by rw [Bool.true_xor] at q; exact q)⟩) fun _ _ h => S8 h
  · cases px
    obtain ⟨p, vs, rfl, sq, r⟩ := JF m py hy
    have e := GA r
    subst e
    exact thn (KL pins s σv H _ _ v u _ I rx ry ⟨p, _, rfl, sq, rfl, IH ys, up0 m .bl (by rw [RV]; rw [Bool.true_xor] at q; exact q)⟩) fun _ _ h => S8 h
end
section
variable {X : Cx} {e : Expr} {te : TE3} {pos : Pos}
def BD3 : V → Option Int → Option Int → Hp → VK → Prop := fun x lo hi H Q => ∃ z, x = .str z ∧ z.length ≤ sizeLine ∧ Q (.str (Txt.slice z lo hi)) H
theorem AV3 : SlR X BD3 := by
  intro pins s σ H x v vl vu lo hi sl Q I rx hs pl pu h
  obtain ⟨z, rfl, hz, q⟩ := h
  obtain ⟨t, rfl⟩ := rx
  refine ⟨"str", _, PyProof.Rows.slot_str_getitem.lookup, typeIs_str _ _ _, ?_⟩
  obtain ⟨l, rfl, el⟩ : ∃ l : Option (Int × Tok), vl = partValue l ∧ lo = l.map (·.1) := by
    cases pl with
    | none => exact ⟨none, rfl, rfl⟩
    | int i t => exact ⟨some (i, t), rfl, rfl⟩
  obtain ⟨u, rfl, eu⟩ : ∃ u : Option (Int × Tok), vu = partValue u ∧ hi = u.map (·.1) := by
    cases pu with
    | none => exact ⟨none, rfl, rfl⟩
    | int i t => exact ⟨some (i, t), rfl, rfl⟩
  subst el eu
  refine wpAny_getItem_str_slice (st := none) (l := l) (u := u) hs rfl ?_
  have hle : (Txt.slice z (l.map (·.1)) (u.map (·.1))).length ≤ sizeLine := Nat.le_trans (Txt.slice_le _ _ _) hz
  unfold sliceMade slicePicked
  unfold Txt.slice at q hle
  split
  · rename_i hc
    split at q
    · exact ⟨.str _, H, I, ⟨_, rfl⟩, q⟩
    · rename_i hn
      exact absurd hc hn
  · rename_i hc
    split at hle
    · rename_i hn
      exact absurd hn hc
    · rename_i hn
      rw [if_neg hn] at q
      exact ⟨hle, .str _, H, I.tok _, ⟨_, rfl⟩, q⟩
end
theorem K2 {P : Program} {w : World} {K : PySem.W.Frag} {mg : Str → Option Value} {base : Heap} {k : Nat} {f : Addr} {fd : FuncData} {ps : List Str} {sp : Nat → Sp3} (hl : ∀ n ds M Q, sp n ds M Q → ds.length = ps.length) (hz : ∀ ds M Q, ¬ sp 0 ds M Q) :
    G4 P w K mg base CX0 k f fd ps (J8 K (sp 0)) := ⟨fun vs H Q E ⟨ds, M, Q3, r, _, h, _⟩ => absurd h (hz _ _ _), fun A outer s H args us vs Q E hr he hb hv ⟨ds, M, Q3, r, _, h, _⟩ => absurd h (hz _ _ _)⟩
theorem AW6 : bootBuiltins "min" = some (.builtin "min") := by decide +kernel
theorem TL (x y : Str) : (x ++ y).cps.toList = x.cps.toList ++ y.cps.toList := by
  show (x.cps ++ y.cps).toList = _
  simp
theorem EG (x : Str) : x.length = x.cps.toList.length := by
  show x.cps.size = _
  simp
theorem WH {P R : Prop} (h : R) : if (!true) = true then P else R := h
theorem AM7 {tas : TA3} {σ : Lo} {M : Mem} {Q : DK} (h : tas σ M fun xs M1 => xs.length ≤ sizeLine ∧ ∀ p, M1 p = none → Q (.ref p) (D4 M1 p (.lst xs))) : N6 tas σ M Q := h
section
variable {X : Cx} {a b e : Expr} {ta tb te : TE3} {t : TA3} {pos p : Pos}
def KI (c : TT3) (tb : TS3) : TS3 := fun T σ M => ∃ W : Nat → Lo → Mem → Prop, (∃ m, W m σ M) ∧ ∀ m σ M, W m σ M →
  c σ M fun b M1 => if b = true then tb { T with nx := fun σ' M' => ∃ m', m' < m ∧ W m' σ' M', ct := fun σ' M' => ∃ m', m' < m ∧ W m' σ' M', bk := T.nx } σ M1 else T.nx σ M1
theorem UA {c : Expr} {body : List Stmt} {tc : TT3} {tb : TS3} (hp : PassesOwn (model X.prog X.w) X.A X.env X.xe) (hc : PT3 X c tc) (hb : PSs3 X body tb) : PS3 X (.While c body [] pos) (KI tc tb) :=
  PS3.of (AE4 hp hc.dn hb.dn) fun pins s σv H σ M T I hS hM hx0 => by
    obtain ⟨W, ⟨m0, w0⟩, turn⟩ := hx0
    refine ⟨fun m σv' H' => ∃ σ' M', Step M H M' H' ∧ MRel X.K M' H' ∧ SRel X.K M' H' σ' σv' ∧ W m σ' M', ⟨m0, σ, M, .refl, hM, hS, w0⟩, ?_⟩
    rintro m σv' H' ⟨σ', M', st, mm, sr, w⟩
    refine ⟨σ', M', _, sr, mm, turn m σ' M' w, fun b M1 H1 st1 m1 q1 => ?_⟩
    cases b with
    | true =>
      rw [if_pos rfl] at q1 ⊢
      refine ⟨fun σ2 H2 => ∃ m', m' < m ∧ ∃ σ'' M'', Step M H M'' H2 ∧ MRel X.K M'' H2 ∧ SRel X.K M'' H2 σ'' σ2 ∧ W m' σ'' M'', fun σ2 H2 ⟨m', hm, z⟩ => ⟨m', hm, z⟩, σ', M1, _, sr.mono st1, m1, q1, ?_⟩
      have s0 := st.trans st1
      exact ⟨fun σ2 v2 M2 H2 s2 m2 r2 ⟨m', hm, q2⟩ => ⟨m', hm, σ2, M2, s0.trans s2, m2, r2, q2⟩, fun σ2 v2 M2 H2 s2 m2 r2 q2 => ⟨σ2, M2, s0.trans s2, m2, r2, q2⟩,
        fun σ2 v2 M2 H2 s2 m2 r2 ⟨m', hm, q2⟩ => ⟨m', hm, σ2, M2, s0.trans s2, m2, r2, q2⟩, fun d v2 M2 H2 s2 m2 r2 q2 => ⟨d, M2, s0.trans s2, m2, r2, q2⟩⟩
    | false =>
      rw [if_neg Bool.false_ne_true] at q1 ⊢
      exact ⟨σ', M1, st.trans st1, m1, sr.mono st1, q1⟩
def KA (t : TA3) : TE3 := fun σ M Q => t σ M fun ds M1 => match ds with
  | [.lst xs] => ∀ p, M1 p = none → Q (.ref p) (D4 M1 p (.lst xs))
  | [.tup xs] => ∀ p, M1 p = none → Q (.ref p) (D4 M1 p (.lst xs))
  | _ => False
def V6 : M3 := fun x xs M Q => ∃ a b ds es, x = .ref a ∧ xs = [.ref b] ∧ M a = some (.lst ds) ∧ M b = some (.lst es) ∧ ds.length + es.length ≤ sizeLine ∧ Q .non (D4 M a (.lst (ds ++ es)))
theorem VT : MtR3 X "list.extend" V6 := MtR3.of UU fun H M x xs xv xvs Q m px pxs hx0 => by
  obtain ⟨a, b, ds, es, e1, e2, ha, hb, hl, q⟩ := hx0
  subst e1 e2
  cases px
  obtain ⟨yv, rfl, py⟩ := FU pxs
  cases py
  obtain ⟨ho, h3, r⟩ := m _ _ ha
  cases ho <;> first | exact (r : False).elim | skip
  rename_i vs
  obtain ⟨ho2, h4, r2⟩ := m _ _ hb
  cases ho2 <;> first | exact (r2 : False).elim | skip
  rename_i us
  have r' : Reps X.K M H ds vs := r
  have r2' : Reps X.K M H es us := r2
  exact ⟨a, b, vs, us, rfl, rfl, h3, h4, by rw [← r'.length, ← r2'.length]; exact hl, .non, _, Step.put (.inr (by rw [ha]; simp)), m.put (.inr (by rw [ha]; simp)) (o := .lst (ds ++ es)) (Reps.append r' r2'), .non, q⟩
def QW : C3 := fun ds M Q => ∃ ns : List Int, ds = [.lst (ns.map D.int)] ∧ (∀ n ∈ ns, 0 ≤ n ∧ n ≤ 1000000) ∧ ns.length ≤ 1000000 ∧ Q (.int ns.sum) M
theorem SR {K : PySem.W.Frag} {M : Mem} {H : Hp} : ∀ {ns : List Int} {vs : List V} {its : List Value}, Reps K M H (ns.map D.int) vs → Vals vs its → ∀ i v, its[i]? = some v → ∃ t, v = Value.int (ns.getD i 0) t
  | [], _, _, r, v => by cases r; cases v; intro i v h; simp at h
  | n :: ns, _, _, .cons p1 p2, v => by
    cases p1
    cases v with
    | cons i1 i2 =>
      obtain ⟨t, rfl⟩ := i1
      intro i v h
      cases i with
      | zero => simp at h; exact ⟨t, by simp [← h]⟩
      | succ i => simpa using SR p2 i2 i v (by simpa using h)
theorem AJ (ns : List Int) : ∀ k, k ≤ ns.length → preSum (fun i => ns.getD i 0) k = (ns.take k).sum
  | 0, _ => rfl
  | k + 1, h => by
    have e : preSum (fun i => ns.getD i 0) (k + 1) = preSum (fun i => ns.getD i 0) k + ns.getD k 0 := rfl
    rw [e, AJ ns k (by lia), List.take_succ, List.sum_append]
    have : ns[k]? = some ns[k] := by simp
    simp [List.getD, this]
theorem sum_bound : ∀ (ns : List Int), (∀ n ∈ ns, 0 ≤ n ∧ n ≤ 1000000) → 0 ≤ ns.sum ∧ ns.sum ≤ 1000000 * ns.length
  | [], _ => by simp
  | n :: ns, h => by
    obtain ⟨a, b⟩ := sum_bound ns fun x hx => h x (List.mem_cons_of_mem _ hx)
    have := h n List.mem_cons_self
    simp only [List.sum_cons, List.length_cons]
    lia
theorem AA9 (hc : X.calm = true) : CallR3 X (.builtin "sum") QW := by
  rintro pins s σv H M xs xvs us Q I m rv px ⟨ns, rfl, hn, hlen, q⟩
  obtain ⟨xv, rfl, p1⟩ := FU px
  obtain ⟨u, rfl, ru⟩ := vals1 rv
  cases p1 with
  | @lst aL dsL vsL h1 r1 =>
    cases ru
    obtain ⟨its, ri, pl, hz⟩ := I.list (SqL.of3 h1)
    obtain ⟨o, ho, hcl, n, hd⟩ := id pl.isList
    have hlt := Heap.lt_size ho
    have hil : its.length = ns.length := by rw [← ri.length, ← r1.length]; simp
    refine call_sum_walk (wpAny_pyIter_list pl.isList ?_)
    refine ⟨s.heap.objs.size, _, _, _, _, _, fun i => ns.getD i 0, rfl, Walks.list (A := X.A.in1) (by exact I.ok.hd hc) s.heap.objs.size _ (Nat.ne_of_lt hlt) _, ⟨⟨_, Heap.get?_push_size _ rfl, rfl, rfl⟩, ⟨o, Heap.get?_push_of_some _ ho, hcl, n, hd⟩⟩, ?_, ?_, ?_, fun h' tk t' k => ?_⟩
    · intro b hb
      simp only [List.mem_cons, List.not_mem_nil, or_false] at hb
      have e0 : s.heap.objs.size < (s.heap.push { cls := .type "list_iterator", data := .fields #[.ref aL, .int 0 0] }).objs.size := Heap.lt_size (Heap.get?_push_size _ rfl)
      rcases hb with rfl | rfl
      · exact e0
      · exact Nat.lt_trans hlt e0
    · intro i v hv
      exact SR r1 ri i v (by simpa using hv)
    · intro j hj
      have hj' : j < ns.length := by rw [← hil]; simpa using hj
      have hb := hn (ns[j]) (List.getElem_mem hj')
      have e1 : ns.getD j 0 = ns[j] := by simp [List.getD, hj']
      refine ⟨by show InLong (ns.getD j 0); rw [e1]; constructor <;> lia, ?_⟩
      rw [AJ ns (j + 1) (by lia)]
      obtain ⟨c1, c2⟩ := sum_bound (ns.take (j + 1)) fun x hx => hn x (List.mem_of_mem_take hx)
      have : (ns.take (j + 1)).length ≤ 1000000 := by rw [List.length_take]; lia
      constructor <;> lia
    · rw [show its.toArray.size = ns.length by rw [List.size_toArray]; exact hil, AJ ns _ (Nat.le_refl _), List.take_length]
      exact ⟨_, .int _, M, H, I.kept (t' := tk) fun b ob e => k b ob (by simp; exact Nat.ne_of_lt (Heap.lt_size e)) (Heap.get?_push_of_some _ e), .refl, m, ⟨_, rfl⟩, .int, q⟩
theorem TV (hg : Gl X "list") (hm : X.mg "list" = none) (ha : PA3 X [e] t) (he : starEach [e] X.env = (false, eval e X.env) :: starEach [] X.env := by rfl) (hpl : (backTo pos (starEach [] X.env)).any (·.1) = false := by rfl) : PE3 X (.Call (.Name "list" p) [e] [] pos) (KA t) := by
  intro pins s σv H σ M Q I hS hM h
  refine wpAny_Call_Name_kw (BP I hg hm ME ?_ (by decide) (by decide))
  refine PyProof.Rows.callWith_type1 (thn (ha pos pins s σv H σ M _ I hS hM h) fun us s1 ⟨ds, vs, M1, H1, I1, st1, m1, rv1, p1, q1⟩ => ?_) he hpl
  have key : ∀ (xs : List D) (vs' : List V) (pp : Addr), Reps X.K M1 H1 xs vs' → (SqL X.K H1 pp vs' ∨ SqT X.K H1 pp vs') → vs = [.ref pp] → (∀ p, M1 p = none → Q (.ref p) (D4 M1 p (.lst xs))) → wpAny (model X.prog X.w) X.A (call (.type "list") us) (EP3 X pins σv M H Q) X.xe s1 := by
    intro xs vs' pp r sq e q
    subst e
    refine thn (CM pins s1 σv H1 [.ref pp] us (fun v H2 => ∃ l, v = .ref l ∧ H1 l = none ∧ H2 = upd H1 l (.lst vs')) I1 rv1 ⟨pp, vs', rfl, sq, fun l hl => ⟨l, rfl, hl, rfl⟩⟩) fun u s2 hx0 => ?_
    obtain ⟨v, H2, I2, ru, l, e1, hl, e2⟩ := hx0
    subst e1 e2
    exact ⟨.ref l, .ref l, D4 M1 l (.lst xs), _, I2, st1.trans (Step.put (.inl hl)), m1.put (.inl hl) (o := .lst xs) r, ru, .ref, q l (m1.free hl)⟩
  have px := p1
  have q := q1
  clear p1 q1
  rcases px with _ | ⟨pd, ps⟩; (exact (q : False).elim); rcases ps with _ | ⟨p2, ps2⟩; rotate_left; (first | exact (q : False).elim | (cases pd <;> exact (q : False).elim))
  cases pd with
  | lst h1 r1 => exact key _ _ _ r1 (.inl (SqL.of3 h1)) rfl q
  | tup h1 r1 => exact key _ _ _ r1 (.inr (SqT.of3 h1)) rfl q
  | _ => exact (q : False).elim
def RZ : M3 := fun x xs M Q => ∃ z c, x = .str z ∧ xs = [.str ⟨#[c]⟩] ∧ c < 128 ∧ (1 ≤ z.length ∧ z.length ≤ 100000) ∧ (∀ c ∈ z.cps.toList, c < 128) ∧ (Builtin.Str.occurrences z ⟨#[c]⟩ 0 z.length (z.length + 1)).isEmpty = false ∧
  (Builtin.Str.partsBetween z (Builtin.Str.occurrences z ⟨#[c]⟩ 0 z.length (z.length + 1)) 1).length ≤ sizeLine ∧ Q (.lst ((Builtin.Str.partsBetween z (Builtin.Str.occurrences z ⟨#[c]⟩ 0 z.length (z.length + 1)) 1).map D.str)) M
theorem BD : ∀ (n : Nat) (l : List Str), Vals (l.map V.str) (strsFrom n l)
  | _, [] => .nil
  | n, x :: l => .cons ⟨n, rfl⟩ (BD (n + 1) l)
theorem AW {K : PySem.W.Frag} {M : Mem} {H : Hp} : ∀ l : List Str, Reps K M H (l.map D.str) (l.map V.str)
  | [] => .nil
  | x :: l => .cons .str (AW l)
theorem ZC : MtR3 X "str.split" RZ := by
  rintro pins s σv H M x xs xv xvs v us Q I m rv rvs px pxs ⟨z, c, rfl, rfl, hc, ⟨h1l, hl⟩, hz, ho, hp, q⟩
  obtain ⟨yv, rfl, py⟩ := FU pxs
  obtain ⟨u, rfl, ru⟩ := vals1 rvs
  cases px
  cases py
  obtain ⟨t, rfl⟩ := rv
  obtain ⟨t', rfl⟩ := ru
  have k1 : Builtin.Str.strKind z = 1 := by
    unfold Builtin.Str.strKind
    rw [if_pos]
    rw [Array.all_eq_true']
    intro c hc
    have := hz c (Array.mem_toList_iff.mpr hc)
    simp; lia
  have k2 : Builtin.Str.strKind ⟨#[c]⟩ = 1 := by
    unfold Builtin.Str.strKind
    rw [if_pos]
    simp; lia
  have hlen : (decide (z.length < (⟨#[c]⟩ : Str).length) || decide (Builtin.Str.strKind z < Builtin.Str.strKind ⟨#[c]⟩)) = false := by
    rw [k1, k2]
    simp [show (⟨#[c]⟩ : Str).length = 1 from rfl]
    lia
  refine call_meets F.slot_str_split (typeIs_str _ _ _) F.entry_str_split (F.args_str_split_2 _ _) (meets_str_split_sep z ⟨#[c]⟩ t t' hlen rfl ho (by rw [sizeLine_eq]; lia) hp) ?_
  have hf := I.fresh
  exact ⟨_, .ref _, M, _, I.lnew (BD _ _) (by rw [List.length_map]; exact hp), Step.lay hf, m.lay hf, rfl, .lst (.inl ⟨.inl D5, m.free hf⟩) (AW _), q⟩
end
theorem ZM : bootBuiltins "sum" = some (.builtin "sum") := by decide +kernel
end L3
namespace PK
open PySem L2 L3
def DQ : Int := 1000000000000000000000000000000
def bnd (n : Int) : Prop := -DQ < n ∧ n < DQ
def ltr (x : Str) : Prop := ∀ c ∈ x.cps.toList, 97 ≤ c ∧ c ≤ 122
def nm (x : Str) : Prop := ltr x ∧ 1 ≤ x.length ∧ x.length ≤ 8
class Pool where
  ps : List Str
def pn [Pool] (x : Str) : Prop := nm x ∧ x ∈ Pool.ps
mutual
inductive Ex where
  | none | num (n : Int) | var (x : Str) | op (s : Str) (a b : Ex) | make (r : Str) (as : Exs)
inductive Exs where
  | nil | cons (a : Ex) (r : Exs)
end
mutual
def eD : Ex → D
  | .none => .tup [.str "none"]
  | .num n => .tup [.str "number", .int n]
  | .var x => .tup [.str "var", .str x]
  | .op s a b => .tup [.str "op", .str s, eD a, eD b]
  | .make r as => .tup [.str "make", .str r, .tup (eDs as)]
def eDs : Exs → List D
  | .nil => []
  | .cons a r => eD a :: eDs r
end
mutual
def nd : Ex → Nat
  | .none => 1
  | .num _ => 1
  | .var _ => 1
  | .op _ a b => 1 + nd a + nd b
  | .make _ as => 1 + nds as
def nds : Exs → Nat
  | .nil => 0
  | .cons a r => nd a + nds r
end
mutual
def dp : Ex → Nat
  | .none => 1
  | .num _ => 1
  | .var _ => 1
  | .op _ a b => 1 + max (dp a) (dp b)
  | .make _ as => 1 + dps as
def dps : Exs → Nat
  | .nil => 0
  | .cons a r => max (dp a) (dps r)
end
def exl : Exs → Nat
  | .nil => 0
  | .cons _ r => exl r + 1
def sgn (s : Str) : Prop := s = "+" ∨ s = "-" ∨ s = "*" ∨ s = "<" ∨ s = "="
mutual
def wf [Pool] : Ex → Prop
  | .none => True
  | .num n => bnd n
  | .var x => pn x
  | .op s a b => sgn s ∧ wf a ∧ wf b
  | .make r as => nm r ∧ exl as ≤ 3 ∧ wfs as
def wfs [Pool] : Exs → Prop
  | .nil => True
  | .cons a r => wf a ∧ wfs r
end
inductive Head where
  | leaf (h : Str) (rest : List D) | ife (e : D) | whl (e : D) | tr (cs : List (Str × Str))
mutual
inductive Deed where
  | mk (h : Head) (bs : Bls)
inductive Blk where
  | nil | cons (d : Deed) (r : Blk)
inductive Bls where
  | nil | cons (b : Blk) (r : Bls)
end
def E6 : List (Str × Str) → List D → List D
  | (w, x) :: cs, t :: ts => .tup [.str w, .str x, t] :: E6 cs ts
  | _, _ => []
def headD : Head → List D → D
  | .leaf h r, _ => .tup (.str h :: r)
  | .ife e, ts => .tup (.str "if" :: e :: ts)
  | .whl e, ts => .tup (.str "while" :: e :: ts)
  | .tr cs, ts => .tup [.str "try", ts.getD 0 (.tup []), .tup (E6 cs ts.tail), ts.getD (cs.length + 1) (.tup [])]
mutual
def dD : Deed → D
  | .mk h bs => headD h (dTs bs)
def dB : Blk → List D
  | .nil => []
  | .cons d r => dD d :: dB r
def dTs : Bls → List D
  | .nil => []
  | .cons b r => .tup (dB b) :: dTs r
end
mutual
def G8 : Deed → Nat
  | .mk _ bs => 1 + G3 bs
def C6 : Blk → Nat
  | .nil => 0
  | .cons d r => G8 d + C6 r
def G3 : Bls → Nat
  | .nil => 0
  | .cons b r => C6 b + G3 r
end
mutual
def dpD : Deed → Nat
  | .mk _ bs => Z5 bs
def dpB : Blk → Nat
  | .nil => 0
  | .cons d r => max (dpD d) (dpB r)
def Z5 : Bls → Nat
  | .nil => 0
  | .cons b r => max (1 + dpB b) (Z5 r)
end
def EV : Blk → Nat
  | .nil => 0
  | .cons _ r => EV r + 1
def bsl : Bls → Nat
  | .nil => 0
  | .cons _ r => bsl r + 1
def DT [Pool] (d : D) : Prop := ∃ e, d = eD e ∧ wf e ∧ nd e ≤ 9 ∧ dp e ≤ 4
def FI [Pool] (h : Str) (r : List D) : Prop :=
  ((h = "let" ∨ h = "give" ∨ h = "on") ∧ ∃ x e, r = [.str x, e] ∧ pn x ∧ DT e) ∨
  ((h = "note" ∨ h = "close" ∨ h = "end") ∧ ∃ e, r = [e] ∧ DT e) ∨
  (h = "ask" ∧ ∃ x y g e, r = [.str x, .str y, g, e] ∧ pn x ∧ pn y ∧ DT g ∧ DT e) ∨
  (h = "cast" ∧ ∃ x y g w e, r = [.str x, .str y, g, .str w, e] ∧ pn x ∧ pn y ∧ nm w ∧ DT g ∧ DT e) ∨
  (h = "leave" ∧ r = []) ∨
  (h = "fault" ∧ ∃ w e, r = [.str w, e] ∧ nm w ∧ DT e)
def hOk [Pool] : Head → Nat → Prop
  | .leaf h r, n => n = 0 ∧ FI h r
  | .ife e, n => n = 2 ∧ DT e
  | .whl e, n => n = 1 ∧ DT e
  | .tr cs, n => n = cs.length + 2 ∧ cs.length ≤ 3 ∧ ∀ c ∈ cs, nm c.1 ∧ pn c.2
mutual
def okD [Pool] : Deed → Prop
  | .mk h bs => hOk h (bsl bs) ∧ VI bs
def okB [Pool] : Blk → Prop
  | .nil => True
  | .cons d r => okD d ∧ okB r
def VI [Pool] : Bls → Prop
  | .nil => True
  | .cons b r => okB b ∧ VI r
end
def hdD (h : Str × List Str) : D := .tup [.str h.1, .tup (h.2.map D.str)]
def X1 [Pool] (M : Mem) (e p : Addr) : Prop := ∃ (hs : List (Str × List Str)) (ps : List Str), M e = some (.dct [(.inr "heads", .lst (hs.map hdD)), (.inr "pool", .lst (ps.map D.str))]) ∧
  (hs ≠ [] ∧ hs.length ≤ 8 ∧ ∀ h ∈ hs, nm h.1 ∧ h.2.length ≤ 3 ∧ ∀ y ∈ h.2, nm y) ∧ (ps ≠ [] ∧ ps.length ≤ 15 ∧ ∀ y ∈ ps, pn y) ∧ e ≠ p
def J5 : Sp3 := fun ds M Q => ∃ p b, ∃ n : Int, ds = [.ref p, .int n] ∧ Pen M p b ∧ b + 12 < 2 ^ 30 ∧ 0 ≤ n ∧ n ≤ 10 ∧ ∀ x M', ltr x → (x.length : Int) = n → Pen M' p (b + 10) → Same3 p M M' → Q (.str x) M'
def S4 : Sp3 := fun ds M Q => ∃ p a b, ∃ ys : List Str, ds = [.ref p, .ref a] ∧ a ≠ p ∧ M a = some (.lst (ys.map D.str)) ∧ ys.length ≤ 15 ∧ Pen M p b ∧ b + 30 < 2 ^ 30 ∧ ∀ x M', nm x → Pen M' p (b + 20) → Same3 p M M' → Q (.str x) M'
def Y3 : Sp3 := fun ds M Q => ∃ p b, ∃ n : Int, ds = [.ref p, .int n] ∧ Pen M p b ∧ b + 300 < 2 ^ 30 ∧ 0 ≤ n ∧ n ≤ 8 ∧ ∀ (ys : List Str) M', (ys.length : Int) = n → (∀ y ∈ ys, nm y) → Pen M' p (b + 200) → Same3 p M M' → Q (.lst (ys.map D.str)) M'
def T4 : Sp3 := fun ds M Q => ∃ p b, ds = [.ref p] ∧ Pen M p b ∧ b + 30 < 2 ^ 30 ∧ ∀ x M', nm x → Pen M' p (b + 20) → Same3 p M M' → Q (.str x) M'
def Y2 : Sp3 := fun ds M Q => ∃ _ : Pool, ∃ p e b, ds = [.ref p, .ref e] ∧ X1 M e p ∧ Pen M p b ∧ b + 30 < 2 ^ 30 ∧ ∀ x M', wf x → nd x = 1 → dp x = 1 → Pen M' p (b + 20) → Same3 p M M' → Q (eD x) M'
def cst : Nat → Nat
  | 0 => 0
  | n + 1 => 3 * cst n + 40
def J3 (n : Nat) : Sp3 := fun ds M Q => ∃ _ : Pool, ∃ p e b, ∃ room deep : Nat, ds = [.ref p, .ref e, .int room, .int deep] ∧ X1 M e p ∧ Pen M p b ∧ b + cst n < 2 ^ 30 ∧ (1 ≤ room ∧ room ≤ 9) ∧ (1 ≤ deep ∧ deep ≤ n ∧ deep ≤ 4) ∧
  ∀ x M', wf x → nd x ≤ room → dp x ≤ deep → Pen M' p (b + cst n) → Same3 p M M' → Q (eD x) M'
def P9 : Sp3 := fun ds M Q => ∃ _ : Pool, ∃ p e b w, ds = [.ref p, .ref e, .bl w] ∧ X1 M e p ∧ Pen M p b ∧ b + 11000 < 2 ^ 30 ∧ ∀ h r M', FI h r → Pen M' p (b + 11000) → Same3 p M M' → Q (dD (.mk (.leaf h r) .nil)) M'
def F4 : Sp3 := fun ds M Q => ∃ _ : Pool, ∃ h bs, ds = [dD (.mk h bs)] ∧ hOk h (bsl bs) ∧ Q (.lst (dTs bs)) M
def L5 (n : Nat) : Sp3 := fun ds M Q => ∃ _ : Pool, ∃ b, ds = [.tup (dB b)] ∧ okB b ∧ dpB b + 1 ≤ n ∧ C6 b ≤ 1000 ∧ Q (.int (C6 b)) M
def KK : Nat := 20000
def W1 (n : Nat) : Sp3 := fun ds M Q => ∃ _ : Pool, ∃ p e b w, ∃ deep left : Nat, ds = [.ref p, .ref e, .int deep, .bl w, .int left] ∧ X1 M e p ∧ Pen M p b ∧ b + KK * left < 2 ^ 30 ∧ (1 ≤ deep ∧ deep ≤ 4 ∧ 3 * (5 - deep) + 1 ≤ n) ∧ (4 ≤ left ∧ left ≤ 30) ∧
  ∀ d M', okD d → G8 d ≤ left → dpD d ≤ 5 - deep → Pen M' p (b + KK * G8 d) → Same3 p M M' → Q (dD d) M'
def N4 (n : Nat) : Sp3 := fun ds M Q => ∃ _ : Pool, ∃ p e b w, ∃ deep left : Nat, ds = [.ref p, .ref e, .int deep, .bl w, .int left] ∧ X1 M e p ∧ Pen M p b ∧ b + 5 + KK * left < 2 ^ 30 ∧ (1 ≤ deep ∧ deep ≤ 5 ∧ 3 * (5 - deep) + 2 ≤ n) ∧ (1 ≤ left ∧ left ≤ 30) ∧
  ∀ d M', okD d → G8 d ≤ left → dpD d ≤ 5 - deep → Pen M' p (b + 5 + KK * G8 d) → Same3 p M M' → Q (dD d) M'
def E5 (n : Nat) : Sp3 := fun ds M Q => ∃ _ : Pool, ∃ p e b w, ∃ deep left : Nat, ds = [.ref p, .ref e, .int deep, .bl w, .int left] ∧ X1 M e p ∧ Pen M p b ∧ b + 30 + KK * left < 2 ^ 30 ∧ (1 ≤ deep ∧ deep ≤ 5 ∧ 3 * (5 - deep) + 3 ≤ n) ∧ (1 ≤ left ∧ left ≤ 30) ∧
  ∀ k M', okB k → k ≠ .nil → C6 k ≤ left → dpB k ≤ 5 - deep → Pen M' p (b + 30 + KK * C6 k) → Same3 p M M' → Q (.tup (dB k)) M'
structure Rl where
  name : Str
  pars : List Str
  blk : Blk
def rD (r : Rl) : D := .tup [.str r.name, .tup (r.pars.map D.str), .tup (dB r.blk)]
def rOk (deeds : Nat) (r : Rl) : Prop := nm r.name ∧ r.pars.length ≤ 3 ∧ (∀ y ∈ r.pars, nm y) ∧ (∃ P : Pool, Pool.ps.length ≤ 15 ∧ okB r.blk) ∧ r.blk ≠ .nil ∧ C6 r.blk ≤ deeds ∧ dpB r.blk ≤ 4
def DC : Sp3 := fun ds M Q => ∃ p b, ∃ rules deeds : Nat, ds = [.ref p, .int rules, .int deeds] ∧ Pen M p b ∧ b + 8000000 < 2 ^ 30 ∧ (1 ≤ rules ∧ rules ≤ 8) ∧ (1 ≤ deeds ∧ deeds ≤ 30) ∧
  ∀ (bk : List Rl) M', (1 ≤ bk.length ∧ bk.length ≤ rules) → (∀ r ∈ bk, rOk deeds r) → Pen M' p (b + 8000000) → Same3 p M M' → Q (.tup (bk.map rD)) M'
abbrev BM : List Str := ["_law_script"]
def X9 : TS3 :=
    (B8 (CU [((tC3 (.str "cells")), (E2 DA (A0 (AK8 (A1 0) W7 (DJ (tC3 (.int 63)))) A2))), ((tC3 (.str "at")), (tC3 (.int 0))), ((tC3 (.str "left")), (tC3 (.int 0)))]))
abbrev AF : List Str := ["_law_pen_here", "_law_many", "_law_digit", "_law_cells", "_law_at", "_law_cell", "_law_number"]
def V7 : TS3 :=
    (A6 (D0 (B6 (A4 AF8 (A4 D9 (A1 0) (tC3 (.str "left"))) (tC3 (.int 0)))) (A6 (B7 2 (A4 O0 (A4 D9 (A1 0) (tC3 (.str "left"))) (A1 1)))
    (A6 (Y0 (A1 0) (tC3 (.str "left")) (A4 Z9 (A4 D9 (A1 0) (tC3 (.str "left"))) (A1 1)))
    (B8 (A1 2)))) C2)
    (A6 (B7 3 (A4 D9 (A1 0) (tC3 (.str "cells"))))
    (A6 (B7 4 (A4 D9 (A1 0) (tC3 (.str "at"))))
    (A6 (Y0 (A1 0) (tC3 (.str "at")) (A4 C7 (A1 4) (tC3 (.int 1))))
    (A6 (B7 5 (A4 C7 (A4 Z8 (tC3 (.int 30011)) (A1 4)) (tC3 (.int 77))))
    (A6 (D0 (B6 (A4 ND (A1 3) (F6 A2))) (B7 5 (A4 C9 (A1 3) (A4 O0 (A1 4) (E2 K4 (A0 (A1 3) A2))))) C2)
    (A6 (D0 (FK (B6 (A4 CH (A1 4) (E2 K4 (A0 (A1 3) A2)))) (B6 (A4 AN4 (E2 AD (A0 (A1 5) A2)) (A4 U1 (tC3 (.int 10)) (tC3 (.int 18)))))) (A6 (Y0 (A1 0) (tC3 (.str "left")) (A4 Z9 (E2 AD (A0 (A1 5) A2)) (A1 1)))
    (B8 (A4 O0 (E2 AD (A0 (A1 5) A2)) (A1 1)))) C2)
    (A6 (B7 6 (A4 O0 (A4 U1 (A4 C7 (A4 C7 (A4 O0 (A1 5) (tC3 (.int 2147483587))) (A4 Z8 (tC3 (.int 50021)) (A1 4))) (tC3 (.int 29))) (tC3 (.int 5))) (tC3 (.int 2147483629))))
    (A6 (B7 6 (A4 O0 (A4 U1 (A4 C7 (A4 Z8 (A1 6) (A4 C7 (A4 Z8 (tC3 (.int 2)) (A1 4)) (tC3 (.int 5)))) (tC3 (.int 81799))) (tC3 (.int 3))) (tC3 (.int 2147483647))))
    (B8 (A4 O0 (A4 Z9 (A1 6) (tC3 (.int 16))) (A1 1))))))))))))
abbrev O6 : List Str := ["_law_pen_here", "_law_size"]
def J2 : TS3 :=
    (B8 (R0 "str" PX (tC3 (.str "")) (A0 (K5 (DP (A0 (A1 1) A2)) 1 [0] (P1 0) U7 (A4 C9 (tC3 (.str "abcdefghijklmnopqrstuvwxyz")) (A7 B3 (A0 (A1 1) (A0 (tC3 (.int 26)) A2))))) A2)))
theorem DV (d0 d1 : D) : B5 O6 [d0, d1] = [some d0, some d1] := rfl
abbrev R8 : List Str := ["_law_pen_here", "_law_taken", "_law_shut", "_law_some", "_law_word_here"]
def N9 : TS3 :=
    (A6 (B7 2 (tC3 (.str "any ask cast catch close else end fault give if last leave make none note on rule try while")))
    (A6 (B7 3 (F6 (A0 (tC3 (.str "let")) (A0 (tC3 (.str "x")) (A0 (tC3 (.str "g")) (A0 (tC3 (.str "i")) (A0 (tC3 (.str "onn")) (A0 (tC3 (.str "a")) (A0 (tC3 (.str "rules")) (A0 (tC3 (.str "tryy")) A2))))))))))
    (A6 (B7 4 (A4 C9 (F6 (A0 (A7 J5 (A0 (A1 0) (A0 (A4 C7 (tC3 (.int 1)) (A7 B3 (A0 (A1 0) (A0 (tC3 (.int 7)) A2)))) A2))) (A0 (A4 C9 (A1 3) (A7 B3 (A0 (A1 0) (A0 (tC3 (.int 8)) A2)))) A2))) (A7 B3 (A0 (A1 0) (A0 (tC3 (.int 2)) A2)))))
    (A6 (D0 (LT (B6 (A4 (ER false) (A1 4) (A1 1))) (LT (B6 (A4 (ER false) (A1 4) (R0 "str" RZ (A1 2) (A0 (tC3 (.str " ")) A2)))) (B6 (A4 G7 (A7 B3 (A0 (A1 0) (A0 (tC3 (.int 8)) A2))) (tC3 (.int 0)))))) (B8 (A4 C7 (tC3 (.str "qqqqqqq")) (A4 C9 (tC3 (.str "abcdefghijklmnop")) (E2 K4 (A0 (A1 1) A2))))) C2)
    (B8 (A1 4))))))
theorem HK (d0 d1 : D) : B5 R8 [d0, d1] = [some d0, some d1, none, none, none] := rfl
abbrev R9 : List Str := ["_law_pen_here", "_law_many", "_law_found", "_law_k"]
def N3 : TS3 :=
    (A6 (B7 2 (N6 A2))
    (A6 (Q8 (DP (A0 (A1 1) A2)) 3 (F1 (R0 "list" J1 (A1 2) (A0 (A7 S4 (A0 (A1 0) (A0 (A1 2) A2))) A2))))
    (B8 (A1 2))))
theorem GS (d0 d1 : D) : B5 R9 [d0, d1] = [some d0, some d1, none, none] := rfl
abbrev V1 : List Str := ["_law_pen_here", "_law_some", "_law_word_here"]
def Q7 : TS3 :=
    (A6 (B7 1 (F6 (A0 (tC3 (.str "close")) (A0 (tC3 (.str "ring")) (A0 (tC3 (.str "kind")) (A0 (tC3 (.str "none")) (A0 (tC3 (.str "anyy")) (A0 (tC3 (.str "e")) (A0 (tC3 (.str "gives")) (A0 (tC3 (.str "if")) A2))))))))))
    (A6 (B7 2 (A4 C9 (F6 (A0 (A4 C9 (A1 1) (A7 B3 (A0 (A1 0) (A0 (tC3 (.int 8)) A2)))) (A0 (A7 J5 (A0 (A1 0) (A0 (A4 C7 (tC3 (.int 1)) (A7 B3 (A0 (A1 0) (A0 (tC3 (.int 8)) A2)))) A2))) A2))) (A7 B3 (A0 (A1 0) (A0 (tC3 (.int 2)) A2)))))
    (B8 (A4 C9 (F6 (A0 (A1 2) (A0 (tC3 (.str "an")) A2))) (E2 NL (A0 (A4 G7 (A1 2) (tC3 (.str "any"))) A2))))))
theorem JT (d0 : D) : B5 V1 [d0] = [some d0, none, none] := rfl
abbrev W2 : List Str := ["_law_pen_here", "_law_env", "_law_way", "_law_bare", "_law_some"]
def P8 : TS3 :=
    (A6 (B7 2 (A7 B3 (A0 (A1 0) (A0 (tC3 (.int 6)) A2))))
    (A6 (B7 3 (K5 (N5 (A4 D9 (A1 1) (tC3 (.str "heads")))) 2 [] (BA [0, 1]) (B6 (A4 G7 (A1 1) (D8 A2))) (A1 0)))
    (A6 (D0 (B6 (A4 G7 (A1 2) (tC3 (.int 0)))) (B8 (D8 (A0 (tC3 (.str "none")) A2))) C2)
    (A6 (D0 (FK (B6 (A4 G7 (A1 2) (tC3 (.int 5)))) (B6 (A4 ND (A1 3) (F6 A2)))) (B8 (D8 (A0 (tC3 (.str "make")) (A0 (A4 C9 (A1 3) (A7 B3 (A0 (A1 0) (A0 (E2 K4 (A0 (A1 3) A2)) A2)))) (A0 (D8 A2) A2))))) C2)
    (A6 (D0 (B6 (A4 CH (A1 2) (tC3 (.int 3)))) (A6 (B7 4 (F6 (A0 (A7 B3 (A0 (A1 0) (A0 (tC3 (.int 4)) A2))) (A0 (A4 F5 (A7 B3 (A0 (A1 0) (A0 (tC3 (.int 100)) A2))) (tC3 (.int 50))) (A0 (A4 F5 (A4 U1 (tC3 (.int 10)) (tC3 (.int 30))) (tC3 (.int 1))) (A0 (A4 C7 (WU AD7 (A4 U1 (tC3 (.int 10)) (tC3 (.int 30)))) (tC3 (.int 1))) (A0 (A7 B3 (A0 (A1 0) (A0 (A4 U1 (tC3 (.int 10)) (tC3 (.int 30))) A2))) A2)))))))
    (B8 (D8 (A0 (tC3 (.str "number")) (A0 (A4 C9 (A1 4) (A7 B3 (A0 (A1 0) (A0 (tC3 (.int 5)) A2)))) A2))))) C2)
    (B8 (D8 (A0 (tC3 (.str "var")) (A0 (A4 C9 (A4 D9 (A1 1) (tC3 (.str "pool"))) (A7 B3 (A0 (A1 0) (A0 (E2 K4 (A0 (A4 D9 (A1 1) (tC3 (.str "pool"))) A2)) A2)))) A2)))))))))
theorem KJ (d0 d1 : D) : B5 W2 [d0, d1] = [some d0, some d1, none, none, none] := rfl
abbrev G9 : List Str := ["_law_pen_here", "_law_env", "_law_room", "_law_deep", "_law_way", "_law_own", "_law_a", "_law_name", "_law_params", "_law_left", "_law_args", "_law_k"]
def F7 (q__law_expression : Sp3) : TS3 :=
    (A6 (B7 4 (A7 B3 (A0 (A1 0) (A0 (tC3 (.int 5)) A2))))
    (A6 (D0 (LT (B6 (A4 CH (A1 2) (tC3 (.int 3)))) (LT (B6 (A4 CH (A1 3) (tC3 (.int 2)))) (B6 (A4 CH (A1 4) (tC3 (.int 2)))))) (B8 (A7 Y2 (A0 (A1 0) (A0 (A1 1) A2)))) C2)
    (A6 (D0 (B6 (A4 CH (A1 4) (tC3 (.int 4)))) (A6 (B7 5 (A4 C7 (tC3 (.int 1)) (A7 B3 (A0 (A1 0) (A0 (A4 F5 (A1 2) (tC3 (.int 2))) A2)))))
    (A6 (B7 6 (A7 q__law_expression (A0 (A1 0) (A0 (A1 1) (A0 (A1 5) (A0 (A4 F5 (A1 3) (tC3 (.int 1))) A2))))))
    (B8 (D8 (A0 (tC3 (.str "op")) (A0 (A4 C9 (tC3 (.str "+-*<=")) (A7 B3 (A0 (A1 0) (A0 (tC3 (.int 5)) A2)))) (A0 (A1 6) (A0 (A7 q__law_expression (A0 (A1 0) (A0 (A1 1) (A0 (A4 F5 (A4 F5 (A1 2) (tC3 (.int 1))) (A1 5)) (A0 (A4 F5 (A1 3) (tC3 (.int 1))) A2))))) A2)))))))) C2)
    (A6 (SX (BA [7, 8]) (A4 C9 (A4 D9 (A1 1) (tC3 (.str "heads"))) (A7 B3 (A0 (A1 0) (A0 (E2 K4 (A0 (A4 D9 (A1 1) (tC3 (.str "heads"))) A2)) A2)))))
    (A6 (B7 9 (A4 F5 (A1 2) (tC3 (.int 1))))
    (A6 (D0 (B6 (A4 AF8 (E2 K4 (A0 (A1 8) A2)) (A1 9))) (B8 (A7 Y2 (A0 (A1 0) (A0 (A1 1) A2)))) C2)
    (A6 (B7 10 (N6 A2))
    (A6 (Q8 (DP (A0 (E2 K4 (A0 (A1 8) A2)) A2)) 11 (A6 (B7 5 (A4 C7 (tC3 (.int 1)) (A7 B3 (A0 (A1 0) (A0 (A4 C7 (A4 F5 (A1 9) (A4 F5 (E2 K4 (A0 (A1 8) A2)) (A1 11))) (tC3 (.int 1))) A2)))))
    (A6 (F1 (R0 "list" J1 (A1 10) (A0 (A7 q__law_expression (A0 (A1 0) (A0 (A1 1) (A0 (A1 5) (A0 (A4 F5 (A1 3) (tC3 (.int 1))) A2))))) A2)))
    (B7 9 (A4 F5 (A1 9) (A1 5))))))
    (B8 (D8 (A0 (tC3 (.str "make")) (A0 (A1 7) (A0 (E2 J4 (A0 (A1 10) A2)) A2)))))))))))))
theorem BL (d0 d1 d2 d3 : D) : B5 G9 [d0, d1, d2, d3] = [some d0, some d1, some d2, some d3, none, none, none, none, none, none, none, none] := rfl
abbrev P6 : List Str := ["_law_pen_here", "_law_env", "_law_in_while", "_law_way", "_law_x", "_law_y", "_law_e"]
def K9 : TS3 :=
    (A6 (B7 3 (A7 B3 (A0 (A1 0) (A0 (A4 C7 (tC3 (.int 10)) (E2 NL (A0 (A1 2) A2))) A2))))
    (A6 (SX (AE9 [4, 5]) (K5 (DP (A0 (tC3 (.int 2)) A2)) 1 [1, 0] (P1 0) U7 (A4 C9 (A4 D9 (A1 1) (tC3 (.str "pool"))) (A7 B3 (A0 (A1 2) (A0 (E2 K4 (A0 (A4 D9 (A1 1) (tC3 (.str "pool"))) A2)) A2))))))
    (A6 (B7 6 (A7 (J3 5) (A0 (A1 0) (A0 (A1 1) (A0 (tC3 (.int 9)) (A0 (tC3 (.int 4)) A2))))))
    (A6 (D0 (B6 (A4 CH (A1 3) (tC3 (.int 3)))) (B8 (D8 (A0 (A4 C9 (F6 (A0 (tC3 (.str "let")) (A0 (tC3 (.str "give")) (A0 (tC3 (.str "on")) A2)))) (A1 3)) (A0 (A1 4) (A0 (A1 6) A2))))) C2)
    (A6 (D0 (B6 (A4 CH (A1 3) (tC3 (.int 6)))) (B8 (D8 (A0 (A4 C9 (F6 (A0 (tC3 (.str "note")) (A0 (tC3 (.str "close")) (A0 (tC3 (.str "end")) A2)))) (A4 F5 (A1 3) (tC3 (.int 3)))) (A0 (A1 6) A2)))) C2)
    (A6 (D0 (B6 (A4 G7 (A1 3) (tC3 (.int 6)))) (B8 (D8 (A0 (tC3 (.str "ask")) (A0 (A1 4) (A0 (A1 5) (A0 (A7 (J3 5) (A0 (A1 0) (A0 (A1 1) (A0 (tC3 (.int 3)) (A0 (tC3 (.int 2)) A2))))) (A0 (A1 6) A2))))))) C2)
    (A6 (D0 (B6 (A4 G7 (A1 3) (tC3 (.int 7)))) (B8 (D8 (A0 (tC3 (.str "cast")) (A0 (A1 4) (A0 (A1 5) (A0 (A7 (J3 5) (A0 (A1 0) (A0 (A1 1) (A0 (tC3 (.int 3)) (A0 (tC3 (.int 2)) A2))))) (A0 (A7 T4 (A0 (A1 0) A2)) (A0 (A1 6) A2)))))))) C2)
    (A6 (D0 (B6 (A4 G7 (A1 3) (tC3 (.int 10)))) (B8 (D8 (A0 (tC3 (.str "leave")) A2))) C2)
    (B8 (A4 C9 (F6 (A0 (D8 (A0 (tC3 (.str "fault")) (A0 (A7 T4 (A0 (A1 0) A2)) (A0 (A1 6) A2)))) (A0 (D8 (A0 (tC3 (.str "give")) (A0 (A1 4) (A0 (A1 6) A2)))) A2))) (A4 F5 (A1 3) (tC3 (.int 8)))))))))))))
theorem FZ (d0 d1 d2 : D) : B5 P6 [d0, d1, d2] = [some d0, some d1, some d2, none, none, none, none] := rfl
abbrev S0 : List Str := ["_law_deed_here"]
def O2 : TS3 :=
    (A6 (D0 (B6 (A4 G7 (A4 C9 (A1 0) (tC3 (.int 0))) (tC3 (.str "if")))) (B8 (F6 (A0 (A4 C9 (A1 0) (tC3 (.int 2))) (A0 (A4 C9 (A1 0) (tC3 (.int 3))) A2)))) C2)
    (A6 (D0 (B6 (A4 G7 (A4 C9 (A1 0) (tC3 (.int 0))) (tC3 (.str "while")))) (B8 (F6 (A0 (A4 C9 (A1 0) (tC3 (.int 2))) A2))) C2)
    (A6 (D0 (B6 (A4 G7 (A4 C9 (A1 0) (tC3 (.int 0))) (tC3 (.str "try")))) (B8 (A4 C7 (A4 C7 (F6 (A0 (A4 C9 (A1 0) (tC3 (.int 1))) A2)) (K5 (BB (A4 C9 (A1 0) (tC3 (.int 2)))) 1 [] (P1 0) U7 (A4 C9 (A1 0) (tC3 (.int 2))))) (F6 (A0 (A4 C9 (A1 0) (tC3 (.int 3))) A2)))) C2)
    (B8 (F6 A2)))))
theorem GL (d0 : D) : B5 S0 [d0] = [some d0] := rfl
abbrev S1 : List Str := ["_law_block_here"]
def O9 (q__law_count : Sp3) : TS3 :=
    (B8 (E2 QW (A0 (K5 (BB (A1 0)) 1 [] (P1 0) U7 (A4 C7 (tC3 (.int 1)) (E2 QW (A0 (K5 (N5 (A7 F4 (A0 (A1 0) A2))) 1 [] (P1 0) U7 (A7 q__law_count (A0 (A1 0) A2))) A2)))) A2)))
theorem GR (d0 : D) : B5 S1 [d0] = [some d0] := rfl
abbrev Z0 : List Str := ["_law_pen_here", "_law_env", "_law_deep", "_law_in_while", "_law_left", "_law_one", "_law_body", "_law_rest", "_law_many", "_law_catches", "_law_k", "_law_own", "_law_word_here", "_law_x", "_law_lasts"]
def T6 (q__law_try q__law_deed q__law_block : Sp3) : TS3 :=
    (A6 (B7 5 (A4 C7 (tC3 (.int 1)) (A7 B3 (A0 (A1 0) (A0 (A4 F5 (A1 4) (tC3 (.int 2))) A2)))))
    (A6 (B7 6 (A7 q__law_block (A0 (A1 0) (A0 (A1 1) (A0 (A4 C7 (A1 2) (tC3 (.int 1))) (A0 (A1 3) (A0 (A1 5) A2)))))))
    (A6 (B7 7 (A4 F5 (A4 F5 (A1 4) (tC3 (.int 1))) (A1 5)))
    (A6 (B7 8 (E2 YE (A0 (A7 B3 (A0 (A1 0) (A0 (tC3 (.int 4)) A2))) (A0 (A4 F5 (A1 7) (tC3 (.int 1))) A2))))
    (A6 (B7 9 (N6 A2))
    (A6 (Q8 (DP (A0 (A1 8) A2)) 10 (A6 (B7 11 (A4 C7 (tC3 (.int 1)) (A7 B3 (A0 (A1 0) (A0 (A4 F5 (A1 7) (A4 F5 (A1 8) (A1 10))) A2)))))
    (A6 (B7 12 (A4 C9 (F6 (A0 (A7 T4 (A0 (A1 0) A2)) (A0 (tC3 (.str "any")) A2))) (A7 B3 (A0 (A1 0) (A0 (tC3 (.int 2)) A2)))))
    (A6 (B7 13 (A4 C9 (A4 D9 (A1 1) (tC3 (.str "pool"))) (A7 B3 (A0 (A1 0) (A0 (E2 K4 (A0 (A4 D9 (A1 1) (tC3 (.str "pool"))) A2)) A2)))))
    (A6 (F1 (R0 "list" J1 (A1 9) (A0 (D8 (A0 (A1 12) (A0 (A1 13) (A0 (A7 q__law_block (A0 (A1 0) (A0 (A1 1) (A0 (A4 C7 (A1 2) (tC3 (.int 1))) (A0 (A1 3) (A0 (A1 11) A2)))))) A2)))) A2)))
    (B7 7 (A4 F5 (A1 7) (A1 11))))))))
    (A6 (B7 14 (D8 A2))
    (A6 (D0 (LT (B6 (A4 G7 (A1 8) (tC3 (.int 0)))) (B6 (A4 G7 (A7 B3 (A0 (A1 0) (A0 (tC3 (.int 2)) A2))) (tC3 (.int 0))))) (B7 14 (A7 q__law_block (A0 (A1 0) (A0 (A1 1) (A0 (A4 C7 (A1 2) (tC3 (.int 1))) (A0 (A1 3) (A0 (A4 C7 (tC3 (.int 1)) (A7 B3 (A0 (A1 0) (A0 (A1 7) A2)))) A2))))))) C2)
    (B8 (D8 (A0 (tC3 (.str "try")) (A0 (A1 6) (A0 (E2 J4 (A0 (A1 9) A2)) (A0 (A1 14) A2))))))))))))))
theorem NR (d0 d1 d2 d3 d4 : D) : B5 Z0 [d0, d1, d2, d3, d4] = [some d0, some d1, some d2, some d3, some d4, none, none, none, none, none, none, none, none, none, none] := rfl
abbrev V9 : List Str := ["_law_pen_here", "_law_env", "_law_deep", "_law_in_while", "_law_left", "_law_way", "_law_e", "_law_one", "_law_block_here", "_law_elses"]
def Q6 (q__law_try q__law_deed q__law_block : Sp3) : TS3 :=
    (A6 (B7 5 (A7 B3 (A0 (A1 0) (A0 (tC3 (.int 6)) A2))))
    (A6 (D0 (LT (B6 (A4 AN4 (A1 2) (tC3 (.int 5)))) (LT (B6 (A4 CH (A1 4) (tC3 (.int 4)))) (B6 (A4 CH (A1 5) (tC3 (.int 3)))))) (B8 (A7 P9 (A0 (A1 0) (A0 (A1 1) (A0 (A1 3) A2))))) C2)
    (A6 (D0 (B6 (A4 G7 (A1 5) (tC3 (.int 5)))) (B8 (A7 q__law_try (A0 (A1 0) (A0 (A1 1) (A0 (A1 2) (A0 (A1 3) (A0 (A1 4) A2))))))) C2)
    (A6 (B7 6 (A7 (J3 5) (A0 (A1 0) (A0 (A1 1) (A0 (tC3 (.int 5)) (A0 (tC3 (.int 3)) A2))))))
    (A6 (B7 7 (A4 C7 (tC3 (.int 1)) (A7 B3 (A0 (A1 0) (A0 (A4 F5 (A1 4) (tC3 (.int 2))) A2)))))
    (A6 (B7 8 (A7 q__law_block (A0 (A1 0) (A0 (A1 1) (A0 (A4 C7 (A1 2) (tC3 (.int 1))) (A0 (AA1 (A1 3) (A4 G7 (A1 5) (tC3 (.int 4)))) (A0 (A1 7) A2)))))))
    (A6 (D0 (B6 (A4 G7 (A1 5) (tC3 (.int 4)))) (B8 (D8 (A0 (tC3 (.str "while")) (A0 (A1 6) (A0 (A1 8) A2))))) C2)
    (A6 (B7 9 (D8 A2))
    (A6 (D0 (B6 (A4 G7 (A7 B3 (A0 (A1 0) (A0 (tC3 (.int 2)) A2))) (tC3 (.int 0)))) (B7 9 (A7 q__law_block (A0 (A1 0) (A0 (A1 1) (A0 (A4 C7 (A1 2) (tC3 (.int 1))) (A0 (A1 3) (A0 (A4 F5 (A4 F5 (A1 4) (tC3 (.int 1))) (A1 7)) A2))))))) C2)
    (B8 (D8 (A0 (tC3 (.str "if")) (A0 (A1 6) (A0 (A1 8) (A0 (A1 9) A2)))))))))))))))
theorem JC (d0 d1 d2 d3 d4 : D) : B5 V9 [d0, d1, d2, d3, d4] = [some d0, some d1, some d2, some d3, some d4, none, none, none, none, none] := rfl
abbrev S2 : List Str := ["_law_pen_here", "_law_env", "_law_deep", "_law_in_while", "_law_left", "_law_found", "_law_most", "_law_deed_here"]
def O4 (q__law_try q__law_deed q__law_block : Sp3) : TS3 :=
    (A6 (B7 5 (N6 A2))
    (A6 (B7 6 (A4 C7 (tC3 (.int 1)) (A7 B3 (A0 (A1 0) (A0 (tC3 (.int 4)) A2)))))
    (A6 (KI (FK (B6 (A4 AF8 (A1 4) (tC3 (.int 0)))) (B6 (A4 CH (E2 K4 (A0 (A1 5) A2)) (A1 6)))) (A6 (B7 7 (A7 q__law_deed (A0 (A1 0) (A0 (A1 1) (A0 (A1 2) (A0 (A1 3) (A0 (A1 4) A2)))))))
    (A6 (F1 (R0 "list" J1 (A1 5) (A0 (A1 7) A2)))
    (B7 4 (A4 F5 (A1 4) (A7 (L5 8) (A0 (D8 (A0 (A1 7) A2)) A2)))))))
    (B8 (E2 J4 (A0 (A1 5) A2))))))
theorem HL (d0 d1 d2 d3 d4 : D) : B5 S2 [d0, d1, d2, d3, d4] = [some d0, some d1, some d2, some d3, some d4, none, none, none] := rfl
abbrev U9 : List Str := ["_law_pen_here", "_law_rules", "_law_deeds", "_law_names_here", "_law_heads", "_law_book_here", "_law_name", "_law_params", "_law_pool", "_law_k", "_law_env"]
def Q0 : TS3 :=
    (A6 (B7 3 (A7 Y3 (A0 (A1 0) (A0 (A4 C7 (tC3 (.int 1)) (A7 B3 (A0 (A1 0) (A0 (A1 1) A2)))) A2))))
    (A6 (B7 4 (K5 (N5 (A1 3)) 1 [0] (P1 0) U7 (D8 (A0 (A1 0) (A0 (E2 J4 (A0 (A7 Y3 (A0 (A1 1) (A0 (A7 B3 (A0 (A1 1) (A0 (tC3 (.int 4)) A2))) A2))) A2)) A2)))))
    (A6 (B7 5 (N6 A2))
    (A6 (QE (N5 (A1 4)) (BA [6, 7]) (A6 (B7 8 (KA (A0 (A1 7) A2)))
    (A6 (Q8 (DP (A0 (A4 C7 (tC3 (.int 1)) (A7 B3 (A0 (A1 0) (A0 (A4 F5 (tC3 (.int 12)) (E2 K4 (A0 (A1 7) A2))) A2)))) A2)) 9 (F1 (R0 "list" J1 (A1 8) (A0 (A7 S4 (A0 (A1 0) (A0 (A1 8) A2))) A2))))
    (AE8 8 (A6 (B7 10 (CU [((tC3 (.str "heads")), (A1 4)), ((tC3 (.str "pool")), (A1 8))]))
    (F1 (R0 "list" J1 (A1 5) (A0 (D8 (A0 (A1 6) (A0 (A1 7) (A0 (A7 (E5 20) (A0 (A1 0) (A0 (A1 10) (A0 (tC3 (.int 1)) (A0 (tC3 (.bl false)) (A0 (A4 C7 (tC3 (.int 1)) (A7 B3 (A0 (A1 0) (A0 (A1 2) A2)))) A2)))))) A2)))) A2))))))))
    (B8 (E2 J4 (A0 (A1 5) A2)))))))
theorem LF (d0 d1 d2 : D) : B5 U9 [d0, d1, d2] = [some d0, some d1, some d2, none, none, none, none, none, none, none, none] := rfl
end PK
namespace L3
open PySem PySem.Spec PyProof.Rows L2
section
variable {T : R5} {σ : Lo} {M : Mem} {Q : DK} {QB : Bool → Mem → Prop} {d x y : D}
theorem AH0 {i j : Int} (h : Q (.int (if j < i then j else i)) M) : YE [.int i, .int j] M Q := h
theorem AG5 {ds : List D} (h : Q (.tup ds) M) : J4 [.lst ds] M Q := h
theorem EI {a : Addr} {ds : List D} (hm : M a = some (.lst ds)) (h : Q (.tup ds) M) : J4 [.ref a] M Q := ⟨ds, hm, h⟩
theorem RX {a : Addr} {ds : List D} (hm : M a = some (.lst ds)) (h : Q (.int ds.length) M) : K4 [.ref a] M Q := ⟨ds, hm, h⟩
theorem AE6 {c : TT3} {tb : TS3} (h : ∃ W : Nat → Lo → Mem → Prop, (∃ m, W m σ M) ∧ ∀ m σ M, W m σ M →
  c σ M fun b M1 => if b = true then tb { T with nx := fun σ' M' => ∃ m', m' < m ∧ W m' σ' M', ct := fun σ' M' => ∃ m', m' < m ∧ W m' σ' M', bk := T.nx } σ M1 else T.nx σ M1) : KI c tb T σ M := h
theorem D7 {z : Str} {y : D} {ys : List Str} {neg : Bool} (e : GW M y = some (ys.map D.str)) (h : Q (.bl (neg ^^ ys.any (· == z))) M) : ER neg (.str z) y M Q := .inr ⟨z, ys, rfl, e, h⟩
theorem NH {a : Addr} {kds : List (Key × D)} {k : Str} (hm : M a = some (.dct kds)) (hv : Z4 kds (.inr k) = some d) (h : Q d M) : D9 (.ref a) (.str k) M Q := ⟨.inr k, d, rfl, ⟨kds, hm, hv⟩, h⟩
theorem RN {ns : List Int} (h1 : ∀ n ∈ ns, 0 ≤ n ∧ n ≤ 1000000) (h2 : ns.length ≤ 1000000) (h : Q (.int ns.sum) M) : QW [.lst (ns.map D.int)] M Q := ⟨ns, rfl, h1, h2, h⟩
def RC (Q : DK) : List D → Mem → Prop := fun ds M1 => match ds with
  | [.lst xs] => ∀ p, M1 p = none → Q (.ref p) (D4 M1 p (.lst xs))
  | [.tup xs] => ∀ p, M1 p = none → Q (.ref p) (D4 M1 p (.lst xs))
  | _ => False
theorem YD {tas : TA3} (h : tas σ M (RC Q)) : KA tas σ M Q := h
theorem QC {xs : List D} (h : ∀ p, M p = none → Q (.ref p) (D4 M p (.lst xs))) : RC Q [.tup xs] M := h
theorem AG4 {trs : List (TE3 × TE3)} (h : ∀ p, M p = none → N1 trs σ (D4 M p (.dct [])) fun ps M1 => M1 p = some (.dct []) ∧ ∃ kds : List (Key × D), ps = kds.map (fun kd => (kD kd.1, kd.2)) ∧ kds.length ≤ 15 ∧ Q (.ref p) (D4 M1 p (.dct (Z6 [] kds)))) : CU trs σ M Q := h
theorem NP {tk tv : TE3} {r : List (TE3 × TE3)} {QP : List (D × D) → Mem → Prop} (h : tk σ M fun x M1 => tv σ M1 fun y M2 => N1 r σ M2 fun ps M3 => QP ((x, y) :: ps) M3) : N1 ((tk, tv) :: r) σ M QP := h
theorem AH6 {QP : List (D × D) → Mem → Prop} (h : QP [] M) : N1 [] σ M QP := h
end
theorem NM {M M' : Mem} {p a : Addr} {o : MO} (h : Same3 p (D4 M a o) M') (hn : a ≠ p) : M' a = some o := by rw [h a hn, A5]
theorem View.frz {Q : DK} {a : Addr} {ds : List D} {M : Mem} (hm : M a = some (.lst ds)) (q : Q (.lst ds) (J0 M a)) : View Q (.ref a) M := ⟨.lst ds, J0 M a, Vs.frzL hm, q⟩
theorem View.drop {Q : DK} {d : D} {a : Addr} {M : Mem} (q : Q d (J0 M a)) : View Q d M := View.sub (fun b o e => by
  by_cases h : b = a
  · subst h; rw [K1] at e; cases e
  · rw [K3 h] at e; exact e) q
theorem BY {M M' : Mem} {p a : Addr} (hp : M a = none) (h : ∀ b, b ≠ p → b ≠ a → M' b = M b) : Same3 p M (J0 M' a) := fun b hb => by
  by_cases e : b = a
  · subst e; rw [K1, hp]
  · rw [K3 e]; exact h b hb e
theorem CB {M : Mem} {p a : Addr} {b : Nat} (h : Pen M p b) (hn : p ≠ a) : Pen (J0 M a) p b := CG h (p := a) (fun _ hb => K3 hb) hn
theorem FL {ds acc : List D} {P : Nat → D → D → Prop} (hl : acc.length = ds.length) (h : ∀ (k : Nat) d e, ds[k]? = some d → acc[k]? = some e → P k d e) : ∀ e ∈ acc, ∃ (k : Nat) (d : D), ds[k]? = some d ∧ P k d e := fun e he => by
  obtain ⟨k, hk, rfl⟩ := List.getElem_of_mem he
  have hk' : k < ds.length := by rw [← hl]; exact hk
  exact ⟨k, ds[k], by simp, h k ds[k] _ (by simp) (by simp)⟩
theorem T7 {α : Type} {f : α → D} {P : α → Prop} : ∀ {l : List D}, (∀ e ∈ l, ∃ c, e = f c ∧ P c) → ∃ cs : List α, l = cs.map f ∧ ∀ c ∈ cs, P c
  | [], _ => ⟨[], rfl, fun _ h => by cases h⟩
  | e :: l, h => by
    obtain ⟨c, rfl, hc⟩ := h e List.mem_cons_self
    obtain ⟨cs, rfl, hcs⟩ := T7 fun x hx => h x (List.mem_cons_of_mem _ hx)
    exact ⟨c :: cs, rfl, fun x hx => by
      rcases List.mem_cons.mp hx with rfl | hx
      · exact hc
      · exact hcs x hx⟩
theorem WX {z : Str} {ys : List Str} {M : Mem} {Q : DK} (hj : PF z ys) (h : Q (.str (Txt.join z ys)) M) : PX (.str z) [.lst (ys.map D.str)] M Q := ⟨z, ys, rfl, rfl, hj, h⟩
theorem EY {M : Mem} {a : Addr} {ds : List D} (h : M a = some (.lst ds)) : GW M (.ref a) = some ds := by
  unfold GW
  dsimp only
  rw [h]
theorem AL {b : Bool} {P R : Prop} (h1 : P) (h2 : R) : if b = true then P else R := by cases b <;> assumption
theorem VN {g : TG3} {tt : TT3} {te : TE3} {σ0 : Lo} {M1 : Mem} {Q : DK} {ds : List D} (P : D → Prop) (hl : ds.length < sizeLine)
    (turn : ∀ (k : Nat) d M2 (R : D → Mem → Prop) (F : Mem → Prop), ds[k]? = some d → (∀ a, M1 a ≠ none → M2 a = M1 a) → (∀ e, P e → R e M2) → F M2 → g d σ0 M2 fun σ' M3 => tt σ' M3 fun bb M4 => if bb = true then te σ' M4 R else F M4)
    (done : ∀ acc : List D, acc.length ≤ ds.length → (∀ e ∈ acc, P e) → Q (.lst acc) M1) : IL g tt te σ0 ds M1 Q := by
  intro p hp
  refine ⟨fun k acc M2 => acc.length ≤ k ∧ (∀ e ∈ acc, P e) ∧ M2 p = some (.lst acc) ∧ ∀ a, a ≠ p → M2 a = M1 a, ⟨Nat.le_refl _, (fun e h => by cases h), A5, fun a ha => B2 ha⟩, ?_, ?_⟩
  · rintro k d acc M2 hd ⟨hk, hall, hacc, hsame⟩
    have hkl : k < ds.length := (List.getElem?_eq_some_iff.mp hd).1
    refine turn k d M2 _ _ hd (fun a ha => hsame a (by rintro rfl; exact ha hp)) (fun e he => ⟨hacc, by lia, by simp; lia, fun x hx => ?_, A5, fun a ha => by rw [B2 ha]; exact hsame a ha⟩) ⟨by lia, hall, hacc, hsame⟩
    rcases List.mem_append.mp hx with z | z
    · exact hall x z
    · cases List.mem_singleton.mp z; exact he
  · rintro acc M2 ⟨hk, hall, hacc, hsame⟩
    have : J0 M2 p = M1 := funext fun a => by
      by_cases ha : a = p
      · subst ha; rw [K1, hp]
      · rw [K3 ha]; exact hsame a ha
    rw [this]
    exact ⟨hacc, done acc hk hall⟩
theorem LG : ∀ {ys : List Str}, (∀ y ∈ ys, PyData.strOk y = true) → L8 (ys.map D.str) = true ∧ PyData.canLayAll0 (K7 (ys.map D.str)) = true ∧ PyData.depthAll (K7 (ys.map D.str)) = 0
  | [], _ => ⟨rfl, rfl, rfl⟩
  | y :: ys, h => by
    obtain ⟨h1, h2, h3⟩ := LG fun x hx => h x (List.mem_cons_of_mem _ hx)
    refine ⟨by simpa [L8, plain] using h1, ?_, ?_⟩
    · simp only [List.map_cons, K7, pyD, PyData.canLayAll0, PyData.canLay0, Bool.and_eq_true]
      exact ⟨h y List.mem_cons_self, h2⟩
    · simp only [List.map_cons, K7, pyD, PyData.depthAll, PyData.depth, h3]; rfl
theorem VU {ys : List Str} (h : ∀ y ∈ ys, PyData.strOk y = true) : dOk (.lst (ys.map D.str)) := by
  obtain ⟨h1, h2, h3⟩ := LG h
  refine ⟨by simpa [plain] using h1, by simpa [pyD, PyData.canLay0] using h2, ?_⟩
  simp [pyD, PyData.depth, h3]
theorem VB {ys : List Str} (h : ∀ y ∈ ys, PyData.strOk y = true) : dOk (.tup (ys.map D.str)) := by
  obtain ⟨h1, h2, h3⟩ := LG h
  refine ⟨by simpa [plain] using h1, by simpa [pyD, PyData.canLay0] using h2, ?_⟩
  simp [pyD, PyData.depth, h3]
theorem AA7 {ds : List D} : PyData.eqv (pyD (.lst ds)) (pyD (.lst [])) = ds.isEmpty := by
  cases ds <;> simp [pyD, K7, PyData.eqv, PyData.eqvAll]
theorem XA {ds : List D} : PyData.eqv (pyD (.tup ds)) (pyD (.tup [])) = ds.isEmpty := by
  cases ds <;> simp [pyD, K7, PyData.eqv, PyData.eqvAll]
theorem AL7 : dOk (.lst []) := ⟨rfl, rfl, by decide⟩
theorem AH2 : dOk (.tup []) := ⟨rfl, rfl, by decide⟩
theorem II {g : TG3} {tt : TT3} {te : TE3} {σ0 : Lo} {M1 : Mem} {Q : DK} {ds : List D} {q : Addr} {b : Nat} (c : Nat) (P : Nat → D → D → Prop) (hP : Pen M1 q b) (hl : ds.length < sizeLine)
    (turn : ∀ (k : Nat) d M2 (R : D → Mem → Prop) (F : Mem → Prop), ds[k]? = some d → Pen M2 q (b + c * k) → (∀ a, M1 a ≠ none → a ≠ q → M2 a = M1 a) → (∀ e M5, P k d e → Pen M5 q (b + c * (k + 1)) → Same3 q M2 M5 → R e M5) →
      g d σ0 M2 fun σ' M3 => tt σ' M3 fun bb M4 => if bb = true then te σ' M4 R else F M4)
    (done : ∀ (acc : List D) M2, acc.length = ds.length → (∀ (k : Nat) d e, ds[k]? = some d → acc[k]? = some e → P k d e) → Pen M2 q (b + c * ds.length) → Same3 q M1 M2 → Q (.lst acc) M2) : IL g tt te σ0 ds M1 Q := by
  intro p hp
  have hqp := Y1 hP hp
  refine ⟨fun k acc M2 => acc.length = k ∧ (∀ (j : Nat) d e, ds[j]? = some d → acc[j]? = some e → P j d e) ∧ Pen M2 q (b + c * k) ∧ M2 p = some (.lst acc) ∧ ∀ a, a ≠ q → a ≠ p → M2 a = M1 a, ⟨rfl, fun j d e _ h => by simp at h, by rw [Nat.mul_zero, Nat.add_zero]; exact F8 hP hqp, A5, fun a _ ha => B2 ha⟩, ?_, ?_⟩
  · rintro k d acc M2 hd ⟨hk, hall, hpen, hacc, hsame⟩
    have hkl : k < ds.length := (List.getElem?_eq_some_iff.mp hd).1
    refine turn k d M2 _ _ hd hpen (fun a ha hq => hsame a hq (by rintro rfl; exact ha hp)) fun e M5 he hp5 hs5 => ?_
    refine ⟨by rw [hs5 p (Ne.symm hqp)]; exact hacc, by lia, by simp [hk], fun j d' e' hd' he' => ?_, F8 hp5 hqp, A5, fun a ha1 ha2 => ?_⟩
    · rcases Nat.lt_or_ge j acc.length with hj | hj
      · rw [List.getElem?_append_left hj] at he'
        exact hall j d' e' hd' he'
      · rw [List.getElem?_append_right hj] at he'
        have hj0 : j - acc.length = 0 := by
          rcases Nat.eq_zero_or_pos (j - acc.length) with z | z
          · exact z
          · rw [List.getElem?_eq_none (by simp; lia)] at he'; cases he'
        rw [hj0] at he'
        cases he'
        have : j = k := by lia
        subst this
        rw [hd] at hd'; cases hd'
        exact he
    · rw [B2 ha2, hs5 a ha1]; exact hsame a ha1 ha2
  · rintro acc M2 ⟨hk, hall, hpen, hacc, hsame⟩
    refine ⟨hacc, done acc (J0 M2 p) hk hall ?_ fun a ha => ?_⟩
    · exact CG hpen (p := p) (fun a ha => K3 ha) hqp
    · by_cases hap : a = p
      · subst hap; rw [K1, hp]
      · rw [K3 hap]; exact hsame a ha hap
theorem BU {α : Type} {gt : TG3} {tt : TT3} {te : TE3} {σ0 : Lo} {M1 : Mem} {Q : DK} (l : List α) (f g : α → D) (hl : l.length < sizeLine)
    (turn : ∀ a ∈ l, ∀ M2 (R : D → Mem → Prop) (F : Mem → Prop), (∀ x, M1 x ≠ none → M2 x = M1 x) → R (g a) M2 → gt (f a) σ0 M2 fun σ' M3 => tt σ' M3 fun bb M4 => if bb = true then te σ' M4 R else F M4)
    (done : Q (.lst (l.map g)) M1) : IL gt tt te σ0 (l.map f) M1 Q := by
  intro p hp
  refine ⟨fun k acc M2 => acc = (l.take k).map g ∧ M2 p = some (.lst acc) ∧ ∀ a, a ≠ p → M2 a = M1 a, ⟨rfl, A5, fun a ha => B2 ha⟩, ?_, ?_⟩
  · rintro k d acc M2 hd ⟨rfl, hacc, hsame⟩
    have hk : k < l.length := by simpa using (List.getElem?_eq_some_iff.mp hd).1
    have hdk : d = f l[k] := by
      rw [List.getElem?_map, List.getElem?_eq_getElem hk] at hd
      exact (Option.some.inj hd).symm
    subst hdk
    refine turn l[k] (List.getElem_mem hk) M2 _ _ (fun a ha => hsame a (by rintro rfl; exact ha hp)) ⟨hacc, by simp; lia, ?_, A5, fun a ha => by rw [B2 ha]; exact hsame a ha⟩
    rw [List.take_succ, List.getElem?_eq_getElem hk, List.map_append]
    rfl
  · rintro acc M2 ⟨rfl, hacc, hsame⟩
    have hlen : (l.map f).length = l.length := by simp
    rw [hlen, List.take_length] at hacc ⊢
    have : J0 M2 p = M1 := funext fun a => by
      by_cases ha : a = p
      · subst ha; rw [K1, hp]
      · rw [K3 ha]; exact hsame a ha
    rw [this]
    exact ⟨hacc, done⟩
end L3
open L3
local macro_rules | `(tactic| walk_at "r2") => `(tactic| first | (with_reducible first | refine WT ?_ | refine ZO ?_ | refine RP ?_ | refine AO7 ?_ | refine AP7 ?_ | refine BH7 ?_ | refine PP ?_ | refine YG ?_ | refine RA ?_ | refine Y8 ?_ | refine JL ?_ | refine AP5 ?_ | refine PN ?_ | refine EJ ?_ | refine RY ?_ | refine TB ?_ | refine WI ?_ | refine AP4 ?_ | refine rd_not ?_ | refine rd_andV ?_ | refine AB0 ?_ | refine rd_notV ?_ | refine rd_if3 ?_ | refine rd_chain ?_ | refine AO4 ?_ | refine AP8 ?_ | refine SA ?_ | refine ST ?_ | refine J7 ?_ | refine V3 ?_ | refine WH ?_ | refine rd_iteNF ?_ | refine AQ4 ?_ | refine BI6 ?_ | refine RJ ?_ | refine RK ?_ | refine SD ?_ | refine ZQ ?_ | refine rd_intI ?_ | refine RI ?_ | refine OD ?_ | refine OL ?_ | refine ZK ?_ | refine rd_isN ?_ | refine rd_isntN ?_ | refine AY0 ?_ | refine AE3 ?_ | refine AI2 ?_ | refine BD1 ?_ | refine rd_slA ?_ | refine rd_slAL ?_ | refine rd_intTI ?_ | refine rd_intTB ?_ | refine rd_join3 ?_ | refine rd_parts ?_ | refine rd_fmt ?_ | refine AM7 ?_ | refine AH0 ?_ | refine AG5 ?_ | refine rd_tupT ?_ | refine AF4 ?_ | refine AK2 ?_ | refine rd_iStr ?_ | refine AI7 ?_ | refine YL ?_ | refine rd_onStr ?_ | refine WF ?_ | refine YX ?_ | refine AU0 ?_ | refine rd_neI ?_ | refine rd_eqB ?_ | refine rd_neB ?_ | refine AY6 ?_ | refine AV7 ?_ | refine AC7 ?_ | refine XY ?_) | ((with_reducible show A1 _ _ _ _); refine DE rfl ?_) | ((with_reducible show _ ∧ _); refine ⟨(by first | decide | (simp only [List.length_cons, List.length_nil]; decide)), ?_⟩))
local macro_rules | `(tactic| walk_at "rd") => `(tactic| repeat walk_at "r2")
namespace PK
open PySem L2 L3
theorem KE : ∀ ds M Q, FR ds M Q → ds.length = 1 := by rintro _ _ _ ⟨_, rfl, _⟩; rfl
theorem MZ : ∀ ds M Q, FR ds M Q → X9 { nx := fun _ M' => View Q .non M', rt := View Q } (B5 BM ds) M := by
  intro ds M Q h
  obtain ⟨d, rfl⟩ : ∃ d, ds = [d] := by obtain ⟨ns, rfl, _⟩ := h; exact ⟨_, rfl⟩
  exact AU5 h d rfl _
theorem HM : ∀ ds M Q, B3 ds M Q → ds.length = 2 := by rintro _ _ _ ⟨_, _, _, rfl, _⟩; rfl
theorem LW : ∀ ds M Q, B3 ds M Q → V7 { nx := fun _ M' => View Q .non M', rt := View Q } (B5 AF ds) M := by
  intro ds M Q h
  obtain ⟨d0, d1, rfl⟩ : ∃ d0 d1, ds = [d0, d1] := by obtain ⟨_, _, _, rfl, _⟩ := h; exact ⟨_, _, rfl⟩
  exact AL0 h d0 d1 rfl _
def abc : Str := "abcdefghijklmnopqrstuvwxyz"
theorem AX5 {n : Int} (h0 : 0 ≤ n) (h1 : n < 26) : ∃ c, atI abc.cps.toList n = some c ∧ 97 ≤ c ∧ c ≤ 122 := by
  have e : abc.cps.toList = (List.range 26).map (· + 97) := by decide +kernel
  obtain ⟨c, hc, hm⟩ := V2 (ds := abc.cps.toList) h0 (by rw [e]; simpa using h1)
  refine ⟨c, hc, ?_⟩
  rw [e] at hm
  obtain ⟨k, hk, rfl⟩ := List.mem_map.mp hm
  have := List.mem_range.mp hk
  lia
def one (c : Nat) : Str := ⟨#[c]⟩
theorem IG : ∀ (cs : List Nat) (a : Array Nat), (List.foldl (fun acc (p : Str) => acc ++ (("" : Str)).cps ++ p.cps) a (cs.map one)).toList = a.toList ++ cs
  | [], a => by simp
  | c :: cs, a => by
    rw [List.map_cons, List.foldl_cons, IG cs]
    have : (("" : Str)).cps = #[] := by decide +kernel
    rw [this]
    simp [one]
theorem IM (cs : List Nat) : (Txt.join "" (cs.map one)).cps.toList = cs := by
  show (List.foldl _ (((cs.map one).headD Str.empty).cps) (List.drop 1 (cs.map one))).toList = cs
  cases cs with
  | nil => rfl
  | cons c cs =>
    rw [List.map_cons, List.drop_one, List.tail_cons]
    refine (IG cs _).trans ?_
    simp [one]
theorem DF : ∀ ds M Q, J5 ds M Q → ds.length = 2 := by rintro _ _ _ ⟨_, _, _, rfl, _⟩; rfl
theorem DR : ∀ ds M Q, J5 ds M Q → J2 { nx := fun _ M' => View Q .non M', rt := View Q } (B5 O6 ds) M := by
  rintro _ M Q ⟨p, b, n, rfl, hP, hb, h0, h1, q⟩
  rw [DV]
  unfold J2
  walk_at "rd"
  refine ⟨rfl, ?_⟩
  walk_at "rd"
  refine ⟨by lia, by lia, ?_⟩
  walk_at "rd"
  refine ZE 1 (fun _ _ e => ∃ c, e = .str ⟨#[c]⟩ ∧ 97 ≤ c ∧ c ≤ 122) hP ?_ ?_ ?_
  · rw [List.length_map, List.length_range, sizeLine_eq]; lia
  · intro k2 d2 p2 acc M2 R F hd2 hP2 hacc hne hsame hR
    have hk2 : k2 < n.toNat := by simpa using (List.getElem?_eq_some_iff.mp hd2).1
    walk_at "rd"
    refine draw hP2 (by lia) (by decide) (by decide) fun m M3 m0 m1 hP3 e3 => ?_
    obtain ⟨c, hc, hc1⟩ := AX5 m0 m1
    refine QM (by decide +kernel) hc ?_
    exact hR _ _ ⟨c, rfl, hc1⟩ (B0 hP3 (by lia)) e3
  intro acc M2 hlen hall hP2 hs2
  obtain ⟨cs, rfl, hcs⟩ := T7 (f := fun c => D.str (one c)) (P := fun c => 97 ≤ c ∧ c ≤ 122) fun e he => by
    obtain ⟨_, _, _, c, hc, h2⟩ := FL hlen hall e he
    exact ⟨c, hc, h2⟩
  have hl2 : cs.length = n.toNat := by simpa using hlen
  have e2 : cs.map (fun c => D.str (one c)) = (cs.map one).map D.str := by rw [List.map_map]; rfl
  rw [e2]
  walk_at "rd"
  refine WX ?_ ?_
  · have : ((cs.map one).map fun y => y.length).sum = cs.length := by
      clear hall hlen hl2 e2 hcs
      induction cs with
      | nil => rfl
      | cons c cs ih =>
        rw [List.map_cons, List.map_cons, List.sum_cons, ih]
        show 1 + cs.length = cs.length + 1
        lia
    unfold PF
    rw [this, List.length_map, show (("" : Str)).length = 0 by decide +kernel]
    lia
  refine View.of (q _ M2 (fun c hc => hcs c (by rw [IM] at hc; exact hc)) ?_ (B0 hP2 (by rw [List.length_map, List.length_range]; lia)) hs2)
  rw [EG, IM, hl2]; lia
theorem OT (x : Str) (h : (x.cps.toList.all fun c => decide (97 ≤ c ∧ c ≤ 122)) = true) (h1 : (decide (1 ≤ x.length) && decide (x.length ≤ 8)) = true) : nm x := by
  rw [List.all_eq_true] at h
  simp only [Bool.and_eq_true, decide_eq_true_eq] at h1
  exact ⟨fun c hc => by simpa using h c hc, h1⟩
theorem AJ3 {x y : Str} (hx : ltr x) (hy : ltr y) : ltr (x ++ y) := fun c hc => by
  rw [TL] at hc
  rcases List.mem_append.mp hc with h | h
  · exact hx c h
  · exact hy c h
theorem len_app (x y : Str) : (x ++ y).length = x.length + y.length := by rw [EG, TL, List.length_append, ← EG, ← EG]
def pq : Str := "abcdefghijklmnop"
theorem BB4 {n : Int} (h0 : 0 ≤ n) (h1 : n < 16) : ∃ c, atI pq.cps.toList n = some c ∧ 97 ≤ c ∧ c ≤ 122 := by
  have e : pq.cps.toList = (List.range 16).map (· + 97) := by decide +kernel
  obtain ⟨c, hc, hm⟩ := V2 (ds := pq.cps.toList) h0 (by rw [e]; simpa using h1)
  refine ⟨c, hc, ?_⟩
  rw [e] at hm
  obtain ⟨k, hk, rfl⟩ := List.mem_map.mp hm
  have := List.mem_range.mp hk
  lia
theorem IX {l : List Str} (hl : ∀ x ∈ l, nm x) {n : Int} (h0 : 0 ≤ n) (h1 : n < (l.length : Int)) : ∃ x, atI (l.map D.str) n = some (.str x) ∧ nm x := by
  obtain ⟨d, hd, hm⟩ := V2 (ds := l.map D.str) h0 (by rw [List.length_map]; exact h1)
  obtain ⟨x, hx, rfl⟩ := List.mem_map.mp hm
  exact ⟨x, hd, hl x hx⟩
theorem ES : ∀ ds M Q, S4 ds M Q → ds.length = 2 := by rintro _ _ _ ⟨_, _, _, _, rfl, _⟩; rfl
theorem AZ1 : ∀ x ∈ (["let", "x", "g", "i", "onn", "a", "rules", "tryy"] : List Str), nm x := by
  intro x hx
  simp only [List.mem_cons, List.not_mem_nil, or_false] at hx
  rcases hx with rfl | rfl | rfl | rfl | rfl | rfl | rfl | rfl <;> exact OT _ (by decide +kernel) (by decide +kernel)
theorem HB : ∀ ds M Q, S4 ds M Q → N9 { nx := fun _ M' => View Q .non M', rt := View Q } (B5 R8 ds) M := by
  rintro _ M Q ⟨p, a, b, ys, rfl, hap, ha, hyl, hP, hb, q⟩
  rw [HK]
  unfold N9
  walk_at "rd"
  refine draw hP (by lia) (by decide) (by decide) fun n M1 n0 n1 hP1 e1 => ?_
  walk_at "rd"
  refine ⟨p, b + 1, 1 + n, rfl, hP1, by lia, by lia, by lia, fun x M2 hx hxl hP2 e2 => ?_⟩
  walk_at "rd"
  refine draw hP2 (by lia) (by decide) (by decide) fun m M3 m0 m1 hP3 e3 => ?_
  obtain ⟨y, hy, hny⟩ := IX AZ1 m0 (by simpa using m1)
  refine G2 hy ?_
  walk_at "rd"
  refine draw hP3 (by lia) (by decide) (by decide) fun k M4 k0 k1 hP4 e4 => ?_
  have hnx : nm x := ⟨hx, by lia, by lia⟩
  obtain ⟨w, hw, hnw⟩ := IX (l := [x, y]) (n := k) (by
    intro z hz
    simp only [List.mem_cons, List.not_mem_nil, or_false] at hz
    rcases hz with rfl | rfl
    · exact hnx
    · exact hny) k0 (by simpa using k1)
  refine G2 hw ?_
  have ee := e1.trans (e2.trans (e3.trans e4))
  have ha4 : M4 a = some (.lst (ys.map D.str)) := by rw [ee a hap]; exact ha
  walk_at "rd"
  refine D7 (ys := ys) (EY ha4) ?_
  have fin1 : ∀ M', Pen M' p (b + 15) → Same3 p M M' → B8 (A4 C7 (tC3 (.str "qqqqqqq")) (A4 C9 (tC3 (.str "abcdefghijklmnop")) (E2 K4 (A0 (A1 1) A2)))) { nx := B8 (A1 4) { nx := fun _ M' => View Q .non M', rt := View Q }, rt := View Q }
      [some (.ref p), some (.ref a), some (.str "any ask cast catch close else end fault give if last leave make none note on rule try while"), some (.lst [.str "let", .str "x", .str "g", .str "i", .str "onn", .str "a", .str "rules", .str "tryy"]), some (.str w)] M' := by
    intro M' hP' hs'
    have ha' : M' a = some (.lst (ys.map D.str)) := by rw [hs' a hap]; exact ha
    walk_at "rd"
    refine RX ha' ?_
    obtain ⟨c, hc, hc1⟩ := BB4 (n := ((ys.map D.str).length : Int)) (by lia) (by rw [List.length_map]; lia)
    refine QM (by decide +kernel) hc ?_
    have e7 : (("qqqqqqq" : Str)).length = 7 := by decide +kernel
    refine AL4 (by rw [e7, sizeLine_eq]; show 7 + 1 ≤ _; decide) ?_
    refine View.of (q _ M' ⟨AJ3 (OT _ (by decide +kernel) (by decide +kernel)).1 (fun d hd => ?_), ?_, ?_⟩ (B0 hP' (by lia)) hs')
    · have : d = c := by simpa using hd
      subst this; exact hc1
    · rw [len_app, e7]; lia
    · rw [len_app, e7]; show 7 + 1 ≤ 8; decide
  have fin2 : ∀ M', Pen M' p (b + 15) → Same3 p M M' → B8 (A1 4) { nx := fun _ M' => View Q .non M', rt := View Q }
      [some (.ref p), some (.ref a), some (.str "any ask cast catch close else end fault give if last leave make none note on rule try while"), some (.lst [.str "let", .str "x", .str "g", .str "i", .str "onn", .str "a", .str "rules", .str "tryy"]), some (.str w)] M' := by
    intro M' hP' hs'
    walk_at "rd"
    exact View.of (q w M' hnw (B0 hP' (by lia)) hs')
  walk_at "rd"
  refine AL (J7 (fin1 M4 (B0 hP4 (by lia)) ee)) ?_
  walk_at "rd"
  refine ⟨rfl, ?_⟩
  walk_at "rd"
  refine ⟨"any ask cast catch close else end fault give if last leave make none note on rule try while", 32, rfl, rfl, by decide, ⟨by decide +kernel, by decide +kernel⟩, by decide +kernel, by decide +kernel, by decide +kernel, ?_⟩
  refine D7 (ys := Builtin.Str.partsBetween _ _ _) rfl ?_
  walk_at "rd"
  refine AL (J7 (fin1 M4 (B0 hP4 (by lia)) ee)) ?_
  walk_at "rd"
  refine draw hP4 (by lia) (by decide) (by decide) fun j M5 j0 j1 hP5 e5 => ?_
  walk_at "rd"
  exact AL (fin1 M5 (B0 hP5 (by lia)) (ee.trans e5)) (fin2 M5 (B0 hP5 (by lia)) (ee.trans e5))
theorem EK : ∀ ds M Q, Y3 ds M Q → ds.length = 2 := by rintro _ _ _ ⟨_, _, _, rfl, _⟩; rfl
theorem HN : ∀ ds M Q, Y3 ds M Q → N3 { nx := fun _ M' => View Q .non M', rt := View Q } (B5 R9 ds) M := by
  rintro _ M Q ⟨p, b, n, rfl, hP, hb, h0, h1, q⟩
  rw [GS]
  unfold N3
  walk_at "rd"
  intro f hf
  have hpf := Y1 hP hf
  walk_at "rd"
  refine ⟨by lia, by lia, fun k σ M1 => ∃ ys : List Str, ∃ s3, ys.length = k ∧ (∀ y ∈ ys, nm y) ∧ σ = [some (.ref p), some (.int n), some (.ref f), s3] ∧ Pen M1 p (b + 20 * k) ∧ M1 f = some (.lst (ys.map D.str)) ∧ ∀ a, a ≠ p → a ≠ f → M1 a = M a, ⟨[], _, rfl, (fun _ h => by cases h), rfl, F8 hP hpf, A5, fun a _ ha => B2 ha⟩, ?_, ?_⟩
  · rintro k d σ M1 hd ⟨ys, s3, hlen, hys, rfl, hP1, hf1, hs1⟩
    have hk : k < n.toNat := by simpa using (List.getElem?_eq_some_iff.mp hd).1
    walk_at "rd"
    refine ⟨.inl ⟨rfl, _, hf1⟩, ?_⟩
    walk_at "rd"
    refine ⟨p, f, _, ys, rfl, Ne.symm hpf, hf1, by lia, hP1, by lia, fun x M2 hx hP2 hs2 => ?_⟩
    walk_at "rd"
    have hf2 : M2 f = some (.lst (ys.map D.str)) := by rw [hs2 f (Ne.symm hpf)]; exact hf1
    refine G5 hf2 (by rw [List.length_map, sizeLine_eq]; lia) ?_
    refine ⟨ys ++ [x], _, by simp [hlen], fun y hy => ?_, rfl, F8 (B0 hP2 (by lia)) hpf, by rw [A5, List.map_append]; rfl, fun a ha1 ha2 => by rw [B2 ha2, hs2 a ha1]; exact hs1 a ha1 ha2⟩
    rcases List.mem_append.mp hy with z | z
    · exact hys y z
    · cases List.mem_singleton.mp z; exact hx
  · rintro σ M1 ⟨ys, s3, hlen, hys, rfl, hP1, hf1, hs1⟩
    have hl2 : ys.length = n.toNat := by simpa using hlen
    walk_at "rd"
    exact View.frz hf1 (q ys _ (by lia) hys (CB (B0 hP1 (by rw [List.length_map, List.length_range]; lia)) hpf) (BY hf hs1))
theorem AX9 : ∀ x ∈ (["close", "ring", "kind", "none", "anyy", "e", "gives", "if"] : List Str), nm x := by
  intro x hx
  simp only [List.mem_cons, List.not_mem_nil, or_false] at hx
  rcases hx with rfl | rfl | rfl | rfl | rfl | rfl | rfl | rfl <;> exact OT _ (by decide +kernel) (by decide +kernel)
theorem HH : ∀ ds M Q, T4 ds M Q → ds.length = 1 := by rintro _ _ _ ⟨_, _, rfl, _⟩; rfl
theorem MC : ∀ ds M Q, T4 ds M Q → Q7 { nx := fun _ M' => View Q .non M', rt := View Q } (B5 V1 ds) M := by
  rintro _ M Q ⟨p, b, rfl, hP, hb, q⟩
  rw [JT]
  unfold Q7
  walk_at "rd"
  refine draw hP (by lia) (by decide) (by decide) fun m M1 m0 m1 hP1 e1 => ?_
  obtain ⟨y, hy, hny⟩ := IX AX9 m0 (by simpa using m1)
  refine G2 hy ?_
  walk_at "rd"
  refine draw hP1 (by lia) (by decide) (by decide) fun n M2 n0 n1 hP2 e2 => ?_
  walk_at "rd"
  refine ⟨p, b + 2, 1 + n, rfl, hP2, by lia, by lia, by lia, fun x M3 hx hxl hP3 e3 => ?_⟩
  walk_at "rd"
  refine draw hP3 (by lia) (by decide) (by decide) fun k M4 k0 k1 hP4 e4 => ?_
  have hnx : nm x := ⟨hx, by lia, by lia⟩
  obtain ⟨w, hw, hnw⟩ := IX (l := [y, x]) (n := k) (by
    intro z hz
    simp only [List.mem_cons, List.not_mem_nil, or_false] at hz
    rcases hz with rfl | rfl
    · exact hny
    · exact hnx) k0 (by simpa using k1)
  refine G2 hw ?_
  have ee := e1.trans (e2.trans (e3.trans e4))
  walk_at "rd"
  have han : nm "an" := OT _ (by decide +kernel) (by decide +kernel)
  cases hb2 : (w == Str.ofString "any") with
  | false =>
    refine G2 (d := .str w) rfl ?_
    exact View.of (q w M4 hnw (B0 hP4 (by lia)) ee)
  | true =>
    refine G2 (d := .str "an") rfl ?_
    exact View.of (q _ M4 han (B0 hP4 (by lia)) ee)
end PK
open L3
namespace PK
open PySem L2 L3
theorem ZT [Pool] {l : List Str} (hl : ∀ x ∈ l, pn x) {n : Int} (h0 : 0 ≤ n) (h1 : n < (l.length : Int)) : ∃ x, atI (l.map D.str) n = some (.str x) ∧ pn x := by
  obtain ⟨d, hd, hm⟩ := V2 (ds := l.map D.str) h0 (by rw [List.length_map]; exact h1)
  obtain ⟨x, hx, rfl⟩ := List.mem_map.mp hm
  exact ⟨x, hd, hl x hx⟩
theorem AN8 {x : Str} (h : nm x) : PyData.strOk x = true := by
  unfold PyData.strOk
  rw [Array.all_eq_true']
  intro c hc
  have := h.1 c (Array.mem_toList_iff.mpr hc)
  simp; lia
theorem BI1 : ¬ (("heads" : Str) = "pool") := by decide +kernel
theorem E3 [Pool] {M M' : Mem} {e p : Addr} (h : X1 M e p) (s : Same3 p M M') : X1 M' e p := by
  obtain ⟨hs, ps, h1, h2, h3, h4⟩ := h
  exact ⟨hs, ps, by rw [s e h4]; exact h1, h2, h3, h4⟩
theorem DI {M : Mem} {e : Addr} {x y : D} {Q : DK} (h : M e = some (.dct [(.inr "heads", x), (.inr "pool", y)])) (q : Q x M) : D9 (.ref e) (.str "heads") M Q :=
  NH h (by simp [Z4]) q
theorem X4 {M : Mem} {e : Addr} {x y : D} {Q : DK} (h : M e = some (.dct [(.inr "heads", x), (.inr "pool", y)])) (q : Q y M) : D9 (.ref e) (.str "pool") M Q :=
  NH h (by simp [Z4, L7 BI1]) q
theorem GY : ∀ ds M Q, Y2 ds M Q → ds.length = 2 := by rintro _ _ _ ⟨_, _, _, _, rfl, _⟩; rfl
theorem LV : ∀ ds M Q, Y2 ds M Q → P8 { nx := fun _ M' => View Q .non M', rt := View Q } (B5 W2 ds) M := by
  rintro _ M Q ⟨P, p, e, b, rfl, hE, hP, hb, q⟩
  rw [KJ]
  unfold P8
  walk_at "rd"
  refine draw hP (by lia) (by decide) (by decide) fun way M1 w0 w1 hP1 e1 => ?_
  obtain ⟨hs, ps, hM1, ⟨hs0, hs1, hs2⟩, ⟨ps0, ps1, ps2⟩, hep⟩ := E3 hE e1
  walk_at "rd"
  refine DI hM1 ?_
  walk_at "rd"
  refine VN (fun d => ∃ x, d = .str x ∧ nm x) (by rw [List.length_map, sizeLine_eq]; lia) ?_ ?_
  · intro k d M2 R F hd hsame hR hF
    obtain ⟨h, hh, rfl⟩ := List.mem_map.mp (List.mem_of_getElem? hd)
    obtain ⟨hn1, hn2, hn3⟩ := hs2 h hh
    refine AM rfl ?_
    walk_at "rd"
    refine AC4 (VB fun y hy => AN8 (hn3 y hy)) AH2 XA ?_
    walk_at "rd"
    refine AL ?_ hF
    walk_at "rd"
    exact hR _ ⟨_, rfl, hn1⟩
  intro acc hacc hall
  obtain ⟨bs, rfl, hbs⟩ := T7 (f := D.str) (P := nm) hall
  simp only [List.length_map] at hacc
  walk_at "rd"
  by_cases hw0 : way = 0
  · refine C4 (by simp [hw0]) ?_
    walk_at "rd"
    exact View.of (q .none M1 trivial rfl rfl (B0 hP1 (by lia)) e1)
  refine A8 (by simp [hw0]) ?_
  walk_at "rd"
  have rest : A6 (D0 (B6 (A4 CH (A1 2) (tC3 (.int 3)))) (A6 (B7 4 (F6 (A0 (A7 B3 (A0 (A1 0) (A0 (tC3 (.int 4)) A2))) (A0 (A4 F5 (A7 B3 (A0 (A1 0) (A0 (tC3 (.int 100)) A2))) (tC3 (.int 50))) (A0 (A4 F5 (A4 U1 (tC3 (.int 10)) (tC3 (.int 30))) (tC3 (.int 1))) (A0 (A4 C7 (WU AD7 (A4 U1 (tC3 (.int 10)) (tC3 (.int 30)))) (tC3 (.int 1))) (A0 (A7 B3 (A0 (A1 0) (A0 (A4 U1 (tC3 (.int 10)) (tC3 (.int 30))) A2))) A2)))))))
    (B8 (D8 (A0 (tC3 (.str "number")) (A0 (A4 C9 (A1 4) (A7 B3 (A0 (A1 0) (A0 (tC3 (.int 5)) A2)))) A2))))) C2)
    (B8 (D8 (A0 (tC3 (.str "var")) (A0 (A4 C9 (A4 D9 (A1 1) (tC3 (.str "pool"))) (A7 B3 (A0 (A1 0) (A0 (E2 K4 (A0 (A4 D9 (A1 1) (tC3 (.str "pool"))) A2)) A2)))) A2))))
      { nx := fun _ M' => View Q .non M', rt := View Q } [some (.ref p), some (.ref e), some (.int way), some (.lst (bs.map D.str)), none] M1 := by
    walk_at "rd"
    refine K6 (fun h3 => ?_) (fun h3 => ?_)
    · walk_at "rd"
      refine draw hP1 (by lia) (by decide) (by decide) fun n1 M2 a1 b1 hP2 e2 => ?_
      walk_at "rd"
      refine draw hP2 (by lia) (by decide) (by decide) fun n2 M3 a2 b2 hP3 e3 => ?_
      walk_at "rd"
      refine X2 ⟨by decide, by decide, by decide⟩ ?_
      walk_at "rd"
      refine X2 ⟨by decide, by decide, by decide⟩ ?_
      walk_at "rd"
      refine X2 ⟨by decide, by decide, by decide⟩ ?_
      walk_at "rd"
      refine draw hP3 (by lia) (by decide) (by decide) fun n3 M4 a3 b3 hP4 e4 => ?_
      walk_at "rd"
      refine draw hP4 (by lia) (by decide) (by decide) fun n4 M5 a4 b4 hP5 e5 => ?_
      have e30 : (10 : Int) ^ Int.toNat 30 = DQ := by decide
      simp only [e30] at *
      have et : DQ = 1000000000000000000000000000000 := rfl
      obtain ⟨d, hd, hm⟩ := V2 (ds := [D.int n1, .int (n2 - 50), .int (DQ - 1), .int (-DQ + 1), .int n3]) a4 (by simp only [List.length_cons, List.length_nil]; lia)
      refine G2 hd ?_
      obtain ⟨m, rfl, hbm⟩ : ∃ m, d = .int m ∧ bnd m := by
        simp only [List.mem_cons, List.not_mem_nil, or_false] at hm
        rcases hm with rfl | rfl | rfl | rfl | rfl
        all_goals exact ⟨_, rfl, by constructor <;> lia⟩
      walk_at "rd"
      exact View.of (q (.num m) M5 hbm rfl rfl (B0 hP5 (by lia)) (e1.trans (e2.trans (e3.trans (e4.trans e5)))))
    · walk_at "rd"
      refine X4 hM1 ?_
      walk_at "rd"
      refine X4 hM1 ?_
      walk_at "rd"
      have hpl : 0 < ps.length := by cases ps with | nil => exact absurd rfl ps0 | cons _ _ => simp
      refine draw hP1 (by lia) (by rw [List.length_map]; lia) (by rw [List.length_map]; lia) fun n1 M2 a1 b1 hP2 e2 => ?_
      obtain ⟨x, hx, hnx⟩ := ZT ps2 a1 (by simpa using b1)
      refine G2 hx ?_
      walk_at "rd"
      exact View.of (q (.var x) M2 hnx rfl rfl (B0 hP2 (by lia)) (e1.trans e2))
  by_cases hw5 : way = 5
  · refine C4 (by simp [hw5]) ?_
    walk_at "rd"
    refine AV6 (VU fun y hy => AN8 (hbs y hy)) AL7 AA7 ?_
    walk_at "rd"
    cases bs with
    | nil =>
      exact A8 rfl (Y8 rest)
    | cons z zs =>
      refine C4 rfl ?_
      walk_at "rd"
      refine draw hP1 (by lia) (by rw [List.length_map, List.length_cons]; lia) (by rw [List.length_map]; lia) fun n1 M2 a1 b1 hP2 e2 => ?_
      obtain ⟨x, hx, hnx⟩ := IX hbs a1 (by simpa using b1)
      refine G2 hx ?_
      walk_at "rd"
      exact View.of (q (.make x .nil) M2 ⟨hnx, Nat.zero_le _, trivial⟩ rfl rfl (B0 hP2 (by lia)) (e1.trans e2))
  · exact A8 (by simp [hw5]) (V3 (Y8 rest))
def X5 : Exs → Ex → Exs
  | .nil, x => .cons x .nil
  | .cons a r, x => .cons a (X5 r x)
theorem RE : ∀ (l : Exs) (x : Ex), eDs (X5 l x) = eDs l ++ [eD x]
  | .nil, x => rfl
  | .cons a r, x => by
    show eD a :: eDs (X5 r x) = _
    rw [RE r x]; rfl
theorem SG : ∀ (l : Exs) (x : Ex), nds (X5 l x) = nds l + nd x
  | .nil, x => by simp [X5, nds]
  | .cons a r, x => by
    show nd a + nds (X5 r x) = nd a + nds r + nd x
    rw [SG r x]; lia
theorem SJ : ∀ (l : Exs) (x : Ex), dps (X5 l x) = max (dps l) (dp x)
  | .nil, x => by simp [X5, dps]
  | .cons a r, x => by
    show max (dp a) (dps (X5 r x)) = max (max (dp a) (dps r)) (dp x)
    rw [SJ r x]; lia
theorem SE : ∀ (l : Exs) (x : Ex), exl (X5 l x) = exl l + 1
  | .nil, x => rfl
  | .cons a r, x => by
    show exl (X5 r x) + 1 = exl r + 1 + 1
    rw [SE r x]
theorem SN [Pool] : ∀ (l : Exs) (x : Ex), wfs l → wf x → wfs (X5 l x)
  | .nil, x, _, hx => ⟨hx, trivial⟩
  | .cons a r, x, h, hx => ⟨h.1, SN r x h.2 hx⟩
theorem QX : ∀ l : Exs, (eDs l).length = exl l
  | .nil => rfl
  | .cons a r => by
    show (eD a :: eDs r).length = exl r + 1
    rw [List.length_cons, QX r]
theorem AU7 {n : Int} (h0 : 0 ≤ n) (h1 : n < 5) : ∃ c, atI (("+-*<=" : Str)).cps.toList n = some c ∧ sgn ⟨#[c]⟩ := by
  have e : (("+-*<=" : Str)).cps.toList = [43, 45, 42, 60, 61] := by decide +kernel
  obtain ⟨c, hc, hm⟩ := V2 (ds := (("+-*<=" : Str)).cps.toList) h0 (by rw [e]; simpa using h1)
  refine ⟨c, hc, ?_⟩
  rw [e] at hm
  simp only [List.mem_cons, List.not_mem_nil, or_false] at hm
  rcases hm with rfl | rfl | rfl | rfl | rfl
  · exact .inl (by decide +kernel)
  · exact .inr (.inl (by decide +kernel))
  · exact .inr (.inr (.inl (by decide +kernel)))
  · exact .inr (.inr (.inr (.inl (by decide +kernel))))
  · exact .inr (.inr (.inr (.inr (by decide +kernel))))
theorem R4 : ∀ n ds M Q, J3 n ds M Q → ds.length = 4 := by rintro _ _ _ _ ⟨_, _, _, _, _, _, rfl, _⟩; rfl
theorem Z7 : ∀ ds M Q, ¬ J3 0 ds M Q := by
  rintro _ _ _ ⟨_, _, _, _, _, _, rfl, _, _, _, _, ⟨h1, h2, _⟩, _⟩
  lia
theorem BK : ∀ n ds M Q, J3 (n + 1) ds M Q → F7 (J3 n) { nx := fun _ M' => View Q .non M', rt := View Q } (B5 G9 ds) M := by
  rintro lv _ M Q ⟨P, p, e, b, room, deep, rfl, hE, hP, hb, ⟨hr1, hr2⟩, ⟨hd1, hd2, hd3⟩, q⟩
  have hc : cst (lv + 1) = 3 * cst lv + 40 := rfl
  rw [hc] at hb q
  rw [BL]
  unfold F7
  walk_at "rd"
  refine draw hP (by lia) (by decide) (by decide) fun way M1 w0 w1 hP1 e1 => ?_
  have hE1 := E3 hE e1
  obtain ⟨hs, ps, hM1, ⟨hs0, hs1, hs2⟩, ⟨ps0, ps1, ps2⟩, hep⟩ := id hE1
  have leaf : ∀ (σ : Lo) (T : R5), T.rt = View Q → σ[0]? = some (some (.ref p)) → σ[1]? = some (some (.ref e)) → ∀ M2, Pen M2 p (b + 2) → Same3 p M M2 → B8 (A7 Y2 (A0 (A1 0) (A0 (A1 1) A2))) T σ M2 := by
    intro σ T hT h0 h1 M2 hP2 hs2'
    refine PP (JL (EJ (DE h0 (EJ (DE h1 (PN ?_))))))
    rw [hT]
    exact ⟨P, p, e, b + 2, rfl, E3 hE hs2', hP2, by lia, fun x M3 hx hn hdd hP3 hs3 => View.of (q x M3 hx (by lia) (by lia) (B0 hP3 (by lia)) (hs2'.trans hs3))⟩
  walk_at "rd"
  refine K6 (fun _ => ?_) (fun hroom => ?_)
  · exact J7 (leaf _ _ rfl rfl rfl M1 (B0 hP1 (by lia)) e1)
  walk_at "rd"
  refine K6 (fun _ => ?_) (fun hdeep => ?_)
  · exact J7 (leaf _ _ rfl rfl rfl M1 (B0 hP1 (by lia)) e1)
  walk_at "rd"
  refine K6 (fun _ => leaf _ _ rfl rfl rfl M1 (B0 hP1 (by lia)) e1) (fun hway => ?_)
  walk_at "rd"
  refine K6 (fun h4 => ?_) (fun h4 => ?_)
  · walk_at "rd"
    refine draw hP1 (by lia) (by lia) (by lia) fun own M2 o0 o1 hP2 e2 => ?_
    walk_at "rd"
    obtain ⟨ow, rfl⟩ : ∃ ow : Nat, own = (ow : Int) := ⟨own.toNat, by lia⟩
    refine ⟨P, p, e, b + 1 + 1, 1 + ow, deep - 1, by rw [show ((1 + ow : Nat) : Int) = 1 + (ow : Int) by lia, show ((deep - 1 : Nat) : Int) = (deep : Int) - 1 by lia], E3 hE1 e2, hP2, by lia, ⟨by lia, by lia⟩, ⟨by lia, by lia, by lia⟩, fun x M3 hx hxn hxd hP3 e3 => ?_⟩
    walk_at "rd"
    refine draw hP3 (by lia) (by decide) (by decide) fun sg M4 s0 s1 hP4 e4 => ?_
    obtain ⟨c, hcs, hsg⟩ := AU7 s0 s1
    refine QM (by decide +kernel) hcs ?_
    walk_at "rd"
    refine ⟨P, p, e, _, room - 1 - (1 + ow), deep - 1, by rw [show ((room - 1 - (1 + ow) : Nat) : Int) = (room : Int) - 1 - (1 + (ow : Int)) by lia, show ((deep - 1 : Nat) : Int) = (deep : Int) - 1 by lia], E3 hE1 (e2.trans (e3.trans e4)), hP4, by lia, ⟨by lia, by lia⟩, ⟨by lia, by lia, by lia⟩, fun y M5 hy hyn hyd hP5 e5 => ?_⟩
    walk_at "rd"
    refine View.of (q (.op _ x y) M5 ⟨hsg, hx, hy⟩ ?_ ?_ (B0 hP5 (by lia)) (e1.trans (e2.trans (e3.trans (e4.trans e5)))))
    · show 1 + nd x + nd y ≤ room; lia
    · show 1 + max (dp x) (dp y) ≤ deep; lia
  · walk_at "rd"
    refine DI hM1 ?_
    walk_at "rd"
    refine DI hM1 ?_
    walk_at "rd"
    have hpl : 0 < hs.length := by cases hs with | nil => exact absurd rfl hs0 | cons _ _ => simp
    refine draw hP1 (by lia) (by rw [List.length_map]; lia) (by rw [List.length_map]; lia) fun i M2 i0 i1 hP2 e2 => ?_
    obtain ⟨d, hd, hm⟩ := V2 (ds := hs.map hdD) i0 i1
    obtain ⟨h, hh, rfl⟩ := List.mem_map.mp hm
    obtain ⟨hn1, hn2, hn3⟩ := hs2 h hh
    refine G2 hd ?_
    refine AM rfl ?_
    walk_at "rd"
    refine K6 (fun _ => leaf _ _ rfl rfl rfl M2 (B0 hP2 (by lia)) (e1.trans e2)) (fun hpar => ?_)
    rw [List.length_map] at hpar
    walk_at "rd"
    intro f hf
    have hpf := Y1 hP2 hf
    walk_at "rd"
    rw [List.length_map]
    have hE2 := E3 hE1 e2
    refine ⟨by lia, by lia, fun k σ M3 => ∃ (as : Exs) (left : Nat) (s5 s11 : Option D), σ = [some (.ref p), some (.ref e), some (.int room), some (.int deep), some (.int way), s5, none, some (.str h.1), some (.tup (h.2.map D.str)), some (.int left), some (.ref f), s11] ∧
      exl as = k ∧ wfs as ∧ dps as + 1 ≤ deep ∧ nds as + left + 1 ≤ room ∧ h.2.length ≤ left + k ∧ Pen M3 p (b + 2 + (1 + cst lv) * k) ∧ M3 f = some (.lst (eDs as)) ∧ ∀ a, a ≠ p → a ≠ f → M3 a = M2 a,
      ⟨.nil, room - 1, _, _, by rw [show ((room - 1 : Nat) : Int) = (room : Int) - 1 by lia]; rfl, rfl, trivial, by show 0 + 1 ≤ deep; lia, by show 0 + (room - 1) + 1 ≤ room; lia, by lia, F8 (by simpa using hP2) hpf, A5, fun a _ ha => B2 ha⟩, ?_, ?_⟩
    · rintro k d σ M3 hd' ⟨as, left, s5, s11, rfl, hk, hwf, hdp, hnd, hlf, hP3, hf3, hs3⟩
      have hk' : k < h.2.length := by simpa using (List.getElem?_eq_some_iff.mp hd').1
      have hdk : d = .int (k : Nat) := by
        rw [List.getElem?_map, List.getElem?_range (by simpa using hk')] at hd'
        exact (Option.some.inj hd').symm
      subst hdk
      have hmul : (1 + cst lv) * (k + 1) = (1 + cst lv) * k + 1 + cst lv := by rw [Nat.mul_add]; lia
      have hle : (1 + cst lv) * k ≤ (1 + cst lv) * 2 := Nat.mul_le_mul_left _ (by lia)
      walk_at "rd"
      rw [List.length_map]
      refine draw hP3 (by lia) (by lia) (by lia) fun own M4 o0 o1 hP4 e4 => ?_
      walk_at "rd"
      have hf4 : M4 f = some (.lst (eDs as)) := by rw [e4 f (Ne.symm hpf)]; exact hf3
      refine ⟨.inl ⟨rfl, _, hf4⟩, ?_⟩
      walk_at "rd"
      obtain ⟨ow, rfl⟩ : ∃ ow : Nat, own = (ow : Int) := ⟨own.toNat, by lia⟩
      have hE4 : X1 M4 e p := by
        obtain ⟨hs', ps', hm', r1, r2, r3⟩ := hE2
        have hef : e ≠ f := by rintro rfl; rw [hf] at hm'; cases hm'
        exact ⟨hs', ps', by rw [e4 e r3, hs3 e r3 hef]; exact hm', r1, r2, r3⟩
      refine ⟨P, p, e, _, 1 + ow, deep - 1, by rw [show ((1 + ow : Nat) : Int) = 1 + (ow : Int) by lia, show ((deep - 1 : Nat) : Int) = (deep : Int) - 1 by lia], hE4, hP4, by lia, ⟨by lia, by lia⟩, ⟨by lia, by lia, by lia⟩, fun x M5 hx hxn hxd hP5 e5 => ?_⟩
      walk_at "rd"
      have hf5 : M5 f = some (.lst (eDs as)) := by rw [e5 f (Ne.symm hpf)]; exact hf4
      refine G5 hf5 (by rw [QX, sizeLine_eq]; lia) ?_
      walk_at "rd"
      refine ⟨X5 as x, left - (1 + ow), _, _, by rw [show ((left - (1 + ow) : Nat) : Int) = (left : Int) - (1 + (ow : Int)) by lia]; rfl, by rw [SE, hk], SN as x hwf hx, by rw [SJ]; lia, by rw [SG]; lia, by lia, F8 (B0 hP5 (by lia)) hpf, by rw [A5, RE], fun a ha1 ha2 => by rw [B2 ha2, e5 a ha1, e4 a ha1]; exact hs3 a ha1 ha2⟩
    · rintro σ M3 ⟨as, left, s5, s11, rfl, hk, hwf, hdp, hnd, hlf, hP3, hf3, hs3⟩
      have hk2 : exl as = h.2.length := by simpa using hk
      walk_at "rd"
      refine EI hf3 ?_
      walk_at "rd"
      have hle : (1 + cst lv) * (List.map (fun k : Nat => D.int ↑k) (List.range (Int.toNat ↑h.2.length))).length ≤ (1 + cst lv) * 3 := Nat.mul_le_mul_left _ (by simp; lia)
      refine View.drop (a := f) (q (.make h.1 as) _ ⟨hn1, by lia, hwf⟩ ?_ ?_ (CB (B0 hP3 (by lia)) hpf) ?_)
      · show 1 + nds as ≤ room; lia
      · show 1 + dps as ≤ deep; lia
      · have h1 := BY hf hs3
        exact (e1.trans e2).trans h1
end PK
open L3
namespace PK
open PySem L2 L3
theorem EB : ∀ ds M Q, P9 ds M Q → ds.length = 3 := by rintro _ _ _ ⟨_, _, _, _, _, rfl, _⟩; rfl
theorem EE [Pool] {x : Ex} (h : wf x) (h1 : nd x ≤ 9) (h2 : dp x ≤ 4) : DT (eD x) := ⟨x, rfl, h, h1, h2⟩
theorem three {l : List Str} {n : Int} (h0 : 0 ≤ n) (h1 : n < (l.length : Int)) : ∃ x, atI (l.map D.str) n = some (.str x) ∧ x ∈ l := by
  obtain ⟨d, hd, hm⟩ := V2 (ds := l.map D.str) h0 (by rw [List.length_map]; exact h1)
  obtain ⟨x, hx, rfl⟩ := List.mem_map.mp hm
  exact ⟨x, hd, hx⟩
theorem FT : ∀ ds M Q, P9 ds M Q → K9 { nx := fun _ M' => View Q .non M', rt := View Q } (B5 P6 ds) M := by
  rintro _ M Q ⟨P, p, e, b, w, rfl, hE, hP, hb, q⟩
  have c5 : cst 5 = 4840 := by decide
  rw [FZ]
  unfold K9
  walk_at "rd"
  have hw : (0 : Int) ≤ (if w = true then 1 else 0) ∧ (if w = true then 1 else 0 : Int) ≤ 1 := by cases w <;> decide
  refine draw hP (by lia) (by lia) (by lia) fun way M1 w0 w1 hP1 e1 => ?_
  obtain ⟨hs, ps, hM1, ⟨hs0, hs1, hs2⟩, ⟨ps0, ps1, ps2⟩, hep⟩ := E3 hE e1
  have hpl : 0 < ps.length := by cases ps with | nil => exact absurd rfl ps0 | cons _ _ => simp
  walk_at "rd"
  refine II 1 (fun _ _ d => ∃ x, d = .str x ∧ pn x) hP1 ?_ ?_ ?_
  · decide
  · intro k d M2 R F hd hP2 hsame hR
    have hk : k < 2 := by simpa using (List.getElem?_eq_some_iff.mp hd).1
    have hM2 : M2 e = some (.dct [(.inr "heads", .lst (hs.map hdD)), (.inr "pool", .lst (ps.map D.str))]) := by rw [hsame e (by rw [hM1]; simp) hep]; exact hM1
    walk_at "rd"
    refine X4 hM2 ?_
    walk_at "rd"
    refine X4 hM2 ?_
    walk_at "rd"
    refine draw hP2 (by lia) (by rw [List.length_map]; lia) (by rw [List.length_map]; lia) fun n1 M3 a1 b1 hP3 e3 => ?_
    obtain ⟨x, hx, hnx⟩ := ZT ps2 a1 (by simpa using b1)
    refine G2 hx ?_
    exact hR _ _ ⟨x, rfl, hnx⟩ (B0 hP3 (by lia)) e3
  intro acc M2 hlen hall hP2 e2
  obtain ⟨ns, rfl, hns⟩ := T7 (f := D.str) (P := pn) fun d hd => by
    obtain ⟨_, _, _, h⟩ := FL hlen hall d hd
    exact h
  obtain ⟨x, y, rfl⟩ : ∃ x y, ns = [x, y] := by
    have : ns.length = 2 := by simpa using hlen
    match ns, this with
    | [x, y], _ => exact ⟨x, y, rfl⟩
  have hx := hns x (by simp)
  have hy := hns y (by simp)
  refine AN2 rfl ?_
  have hE2 := E3 hE (e1.trans e2)
  walk_at "rd"
  refine ⟨P, p, e, b + 10, 9, 4, rfl, hE2, B0 hP2 (by simp), by lia, ⟨by lia, by lia⟩, ⟨by lia, by lia, by lia⟩, fun ex M3 h1 h2 h3 hP3 e3 => ?_⟩
  have hex := EE h1 h2 h3
  have ee := e1.trans (e2.trans e3)
  have hE3 := E3 hE ee
  walk_at "rd"
  refine K6 (fun h3' => ?_) (fun h3' => ?_)
  · walk_at "rd"
    obtain ⟨h, hh, hm⟩ := three (l := ["let", "give", "on"]) w0 (by simpa using h3')
    refine G2 hh ?_
    walk_at "rd"
    refine View.of (q h [.str x, eD ex] M3 (.inl ⟨by simpa using hm, x, _, rfl, hx, hex⟩) (B0 hP3 (by lia)) ee)
  walk_at "rd"
  refine K6 (fun h6 => ?_) (fun h6 => ?_)
  · walk_at "rd"
    obtain ⟨h, hh, hm⟩ := three (l := ["note", "close", "end"]) (n := way - 3) (by lia) (by show way - 3 < 3; lia)
    refine G2 hh ?_
    walk_at "rd"
    refine View.of (q h [eD ex] M3 (.inr (.inl ⟨by simpa using hm, _, rfl, hex⟩)) (B0 hP3 (by lia)) ee)
  walk_at "rd"
  by_cases hw6 : way = 6
  · refine C4 (by simp [hw6]) ?_
    walk_at "rd"
    refine ⟨P, p, e, _, 3, 2, rfl, hE3, hP3, by lia, ⟨by lia, by lia⟩, ⟨by lia, by lia, by lia⟩, fun g M4 g1 g2 g3 hP4 e4 => ?_⟩
    walk_at "rd"
    exact View.of (q "ask" [.str x, .str y, eD g, eD ex] M4 (.inr (.inr (.inl ⟨rfl, x, y, _, _, rfl, hx, hy, EE g1 (by lia) (by lia), hex⟩))) (B0 hP4 (by lia)) (ee.trans e4))
  refine A8 (by simp [hw6]) ?_
  walk_at "rd"
  by_cases hw7 : way = 7
  · refine C4 (by simp [hw7]) ?_
    walk_at "rd"
    refine ⟨P, p, e, _, 3, 2, rfl, hE3, hP3, by lia, ⟨by lia, by lia⟩, ⟨by lia, by lia, by lia⟩, fun g M4 g1 g2 g3 hP4 e4 => ?_⟩
    walk_at "rd"
    refine ⟨p, _, rfl, hP4, by lia, fun wd M5 hwd hP5 e5 => ?_⟩
    walk_at "rd"
    exact View.of (q "cast" [.str x, .str y, eD g, .str wd, eD ex] M5 (.inr (.inr (.inr (.inl ⟨rfl, x, y, _, wd, _, rfl, hx, hy, hwd, EE g1 (by lia) (by lia), hex⟩)))) (B0 hP5 (by lia)) (ee.trans (e4.trans e5)))
  refine A8 (by simp [hw7]) ?_
  walk_at "rd"
  by_cases hw10 : way = 10
  · refine C4 (by simp [hw10]) ?_
    walk_at "rd"
    exact View.of (q "leave" [] M3 (.inr (.inr (.inr (.inr (.inl ⟨rfl, rfl⟩))))) (B0 hP3 (by lia)) ee)
  refine A8 (by simp [hw10]) ?_
  walk_at "rd"
  refine ⟨p, _, rfl, hP3, by lia, fun wd M4 hwd hP4 e4 => ?_⟩
  walk_at "rd"
  have hway : way = 8 ∨ way = 9 := by lia
  rcases hway with rfl | rfl
  · refine G2 (d := dD (.mk (.leaf "fault" [.str wd, eD ex]) .nil)) rfl ?_
    exact View.of (q "fault" [.str wd, eD ex] M4 (.inr (.inr (.inr (.inr (.inr ⟨rfl, wd, _, rfl, hwd, hex⟩))))) (B0 hP4 (by lia)) (ee.trans e4))
  · refine G2 (d := dD (.mk (.leaf "give" [.str x, eD ex]) .nil)) rfl ?_
    exact View.of (q "give" [.str x, eD ex] M4 (.inl ⟨.inr (.inl rfl), x, _, rfl, hx, hex⟩) (B0 hP4 (by lia)) (ee.trans e4))
end PK
open L3
namespace PK
open PySem L2 L3
def toL : Blk → List Deed
  | .nil => []
  | .cons d r => d :: toL r
def L0 : Bls → List Blk
  | .nil => []
  | .cons b r => b :: L0 r
def tB (b : Blk) : D := .tup (dB b)
theorem SI : ∀ b : Blk, dB b = (toL b).map dD
  | .nil => rfl
  | .cons d r => by show dD d :: dB r = _; rw [SI r]; rfl
theorem CY : ∀ bs : Bls, dTs bs = (L0 bs).map tB
  | .nil => rfl
  | .cons b r => by show D.tup (dB b) :: dTs r = _; rw [CY r]; rfl
theorem CQ : ∀ bs : Bls, (L0 bs).length = bsl bs
  | .nil => rfl
  | .cons b r => by show (L0 r).length + 1 = bsl r + 1; rw [CQ r]
theorem BQ (bs : Bls) : (dTs bs).length = bsl bs := by rw [CY, List.length_map, CQ]
theorem RU [Pool] {h : Str} {r : List D} (hl : FI h r) : (h == ("if" : Str)) = false ∧ (h == ("while" : Str)) = false ∧ (h == ("try" : Str)) = false := by
  rcases hl with ⟨h1 | h1 | h1, _⟩ | ⟨h1 | h1 | h1, _⟩ | ⟨h1, _⟩ | ⟨h1, _⟩ | ⟨h1, _⟩ | ⟨h1, _⟩ <;> subst h1 <;> exact ⟨by decide +kernel, by decide +kernel, by decide +kernel⟩
def NJ : D → D
  | .tup [_, _, t] => t
  | _ => .non
theorem CV : ∀ (cs : List (Str × Str)) (ts : List D), cs.length ≤ ts.length → (E6 cs ts).map NJ = ts.take cs.length
  | [], ts, _ => by cases ts <;> rfl
  | (w, x) :: cs, [], h => by simp at h
  | (w, x) :: cs, t :: ts, h => by
    show NJ (.tup [.str w, .str x, t]) :: (E6 cs ts).map NJ = _
    rw [CV cs ts (by simpa using h)]
    rfl
theorem BX : ∀ (cs : List (Str × Str)) (ts : List D), (E6 cs ts).length ≤ cs.length
  | [], ts => by cases ts <;> simp [E6]
  | (w, x) :: cs, [] => by simp [E6]
  | (w, x) :: cs, t :: ts => by
    show (E6 cs ts).length + 1 ≤ cs.length + 1
    have := BX cs ts
    lia
theorem CP : ∀ (cs : List (Str × Str)) (ts : List D) (d : D), d ∈ E6 cs ts → ∃ w x t, d = .tup [.str w, .str x, t]
  | [], ts, d, h => by cases ts <;> simp [E6] at h
  | (w, x) :: cs, [], d, h => by simp [E6] at h
  | (w, x) :: cs, t :: ts, d, h => by
    rcases List.mem_cons.mp h with rfl | h
    · exact ⟨w, x, t, rfl⟩
    · exact CP cs ts d h
theorem GF : ∀ ds M Q, F4 ds M Q → ds.length = 1 := by rintro _ _ _ ⟨_, _, _, rfl, _⟩; rfl
theorem HD : ∀ ds M Q, F4 ds M Q → O2 { nx := fun _ M' => View Q .non M', rt := View Q } (B5 S0 ds) M := by
  rintro _ M Q ⟨P, h, bs, rfl, hh, q⟩
  have hl := BQ bs
  rw [GL]
  unfold O2
  show _
  change (A6 _ _) _ [some (headD h (dTs bs))] M
  generalize dTs bs = ts at q hl
  cases h with
  | leaf h r =>
    obtain ⟨h0, hlf⟩ := hh
    obtain ⟨n1, n2, n3⟩ := RU hlf
    have hts : ts = [] := List.length_eq_zero_iff.mp (hl.trans h0)
    subst hts
    walk_at "rd"
    refine A9 (d := .str h) (E9 (j := 0) rfl) ?_
    walk_at "rd"
    refine A8 n1 ?_
    walk_at "rd"
    refine A9 (d := .str h) (E9 (j := 0) rfl) ?_
    walk_at "rd"
    refine A8 n2 ?_
    walk_at "rd"
    refine A9 (d := .str h) (E9 (j := 0) rfl) ?_
    walk_at "rd"
    refine A8 n3 ?_
    walk_at "rd"
    exact View.of q
  | ife e =>
    obtain ⟨h0, _⟩ := hh
    obtain ⟨t0, t1, rfl⟩ : ∃ t0 t1, ts = [t0, t1] := by
      match ts, hl.trans h0 with
      | [a, b], _ => exact ⟨a, b, rfl⟩
    walk_at "rd"
    refine A9 (d := .str "if") rfl ?_
    walk_at "rd"
    refine C4 (by decide +kernel) ?_
    walk_at "rd"
    refine A9 (d := t0) rfl ?_
    walk_at "rd"
    refine A9 (d := t1) rfl ?_
    walk_at "rd"
    exact View.of q
  | whl e =>
    obtain ⟨h0, _⟩ := hh
    obtain ⟨t0, rfl⟩ : ∃ t0, ts = [t0] := by
      match ts, hl.trans h0 with
      | [a], _ => exact ⟨a, rfl⟩
    walk_at "rd"
    refine A9 (d := .str "while") rfl ?_
    walk_at "rd"
    refine A8 (by decide +kernel) ?_
    walk_at "rd"
    refine A9 (d := .str "while") rfl ?_
    walk_at "rd"
    refine C4 (by decide +kernel) ?_
    walk_at "rd"
    refine A9 (d := t0) rfl ?_
    walk_at "rd"
    exact View.of q
  | tr cs =>
    obtain ⟨h0, hcs, _⟩ := hh
    obtain ⟨t0, rest, rfl⟩ : ∃ t0 rest, ts = t0 :: rest := by
      match ts, hl.trans h0 with
      | a :: r, _ => exact ⟨a, r, rfl⟩
    have hr : rest.length = cs.length + 1 := by simpa [h0] using hl
    walk_at "rd"
    refine A9 (d := .str "try") rfl ?_
    walk_at "rd"
    refine A8 (by decide +kernel) ?_
    walk_at "rd"
    refine A9 (d := .str "try") rfl ?_
    walk_at "rd"
    refine A8 (by decide +kernel) ?_
    walk_at "rd"
    refine A9 (d := .str "try") rfl ?_
    walk_at "rd"
    refine C4 (by decide +kernel) ?_
    walk_at "rd"
    refine A9 (d := t0) rfl ?_
    walk_at "rd"
    refine A9 (d := .tup (E6 cs rest)) rfl ?_
    walk_at "rd"
    have e1 : E6 cs rest = (E6 cs rest).map id := by simp
    rw [e1]
    have hcl := BX cs rest
    refine BU (E6 cs rest) id NJ (by rw [sizeLine_eq]; lia) ?_ ?_
    · intro d hd M2 R F _ hR
      obtain ⟨w, x, t, rfl⟩ := CP cs rest d hd
      walk_at "rd"
      exact A9 (d := t) rfl hR
    rw [CV cs rest (by lia)]
    refine EC (by simp; rw [sizeLine_eq]; lia) ?_
    walk_at "rd"
    have hlast : ∃ l, rest[cs.length]? = some l := ⟨rest[cs.length], by simp⟩
    obtain ⟨l, hl2⟩ := hlast
    have e2 : (t0 :: rest).getD (cs.length + 1) (.tup []) = l := by simp [List.getD, hl2]
    refine A9 (d := l) (by rw [← e2]; rfl) ?_
    walk_at "rd"
    refine EC (by simp; rw [sizeLine_eq]; lia) ?_
    have e3 : [t0] ++ rest.take cs.length ++ [l] = t0 :: rest := by
      have : rest.take cs.length ++ [l] = rest := by
        have h5 := List.take_succ (l := rest) (i := cs.length)
        rw [hl2] at h5
        rw [show rest.take cs.length ++ [l] = rest.take cs.length ++ (some l).toList from rfl, ← h5, List.take_of_length_le (by lia)]
      rw [List.append_assoc, this]; rfl
    rw [e3]
    exact View.of q
theorem MN : ∀ b : Blk, ((toL b).map fun d => ((G8 d : Nat) : Int)).sum = (C6 b : Nat)
  | .nil => rfl
  | .cons d r => by
    show (G8 d : Int) + ((toL r).map fun d => ((G8 d : Nat) : Int)).sum = ((G8 d + C6 r : Nat) : Int)
    rw [MN r]; lia
theorem IU : ∀ bs : Bls, ((L0 bs).map fun b => ((C6 b : Nat) : Int)).sum = (G3 bs : Nat)
  | .nil => rfl
  | .cons b r => by
    show (C6 b : Int) + ((L0 r).map fun b => ((C6 b : Nat) : Int)).sum = ((C6 b + G3 r : Nat) : Int)
    rw [IU r]; lia
theorem MK : ∀ d : Deed, 1 ≤ G8 d
  | .mk h bs => by show 1 ≤ 1 + G3 bs; lia
theorem RL : ∀ b : Blk, (toL b).length ≤ C6 b
  | .nil => Nat.le_refl _
  | .cons d r => by
    show (toL r).length + 1 ≤ G8 d + C6 r
    have := RL r
    have := MK d
    lia
theorem CN [Pool] : ∀ (b : Blk) (d : Deed), d ∈ toL b → G8 d ≤ C6 b ∧ dpD d ≤ dpB b ∧ (okB b → okD d)
  | .cons x r, d, h => by
    rcases List.mem_cons.mp h with rfl | h
    · exact ⟨Nat.le_add_right _ _, Nat.le_max_left _ _, fun z => z.1⟩
    · obtain ⟨a, b, c⟩ := CN r d h
      exact ⟨Nat.le_trans a (Nat.le_add_left _ _), Nat.le_trans b (Nat.le_max_right _ _), fun z => c z.2⟩
theorem W9 [Pool] : ∀ (bs : Bls) (b : Blk), b ∈ L0 bs → C6 b ≤ G3 bs ∧ dpB b + 1 ≤ Z5 bs ∧ (VI bs → okB b)
  | .cons x r, b, h => by
    rcases List.mem_cons.mp h with rfl | h
    · exact ⟨Nat.le_add_right _ _, by show dpB b + 1 ≤ max (1 + dpB b) (Z5 r); lia, fun z => z.1⟩
    · obtain ⟨a, c, d⟩ := W9 r b h
      exact ⟨Nat.le_trans a (Nat.le_add_left _ _), by show dpB b + 1 ≤ max (1 + dpB x) (Z5 r); lia, fun z => d z.2⟩
theorem AF3 [Pool] {h : Head} {n : Nat} (hh : hOk h n) : n ≤ 5 := by
  cases h with
  | leaf _ _ => have := hh.1; lia
  | ife _ => have := hh.1; lia
  | whl _ => have := hh.1; lia
  | tr cs => have := hh.1; have := hh.2.1; lia
theorem AK : ∀ n ds M Q, L5 n ds M Q → ds.length = 1 := by rintro _ _ _ _ ⟨_, _, rfl, _⟩; rfl
theorem DS : ∀ ds M Q, ¬ L5 0 ds M Q := by
  rintro _ _ _ ⟨_, _, rfl, _, h, _⟩
  lia
theorem GP : ∀ n ds M Q, L5 (n + 1) ds M Q → O9 (L5 n) { nx := fun _ M' => View Q .non M', rt := View Q } (B5 S1 ds) M := by
  rintro lv _ M Q ⟨P, b, rfl, hok, hdp, hcnt, q⟩
  rw [GR]
  unfold O9
  walk_at "rd"
  rw [SI]
  have hlen := RL b
  refine BU (toL b) dD (fun d => .int ((G8 d : Nat) : Int)) (by rw [sizeLine_eq]; lia) ?_ ?_
  · intro d hd M2 R F _ hR
    obtain ⟨h1, h2, h3⟩ := CN b d hd
    cases d with
    | mk h bs =>
      have hokd := h3 hok
      walk_at "rd"
      refine ⟨P, h, bs, rfl, hokd.1, ?_⟩
      walk_at "rd"
      rw [CY]
      have hfew := AF3 hokd.1
      have hbl := CQ bs
      refine BU (L0 bs) tB (fun b => .int ((C6 b : Nat) : Int)) (by rw [sizeLine_eq]; lia) ?_ ?_
      · intro c hc M3 R3 F3 _ hR3
        obtain ⟨c1, c2, c3⟩ := W9 bs c hc
        have hc4 : G3 bs ≤ G8 (.mk h bs) := by show G3 bs ≤ 1 + G3 bs; lia
        have hc5 : Z5 bs = dpD (.mk h bs) := rfl
        walk_at "rd"
        exact ⟨P, c, rfl, c3 hokd.2, by lia, by lia, hR3⟩
      walk_at "rd"
      have e1 : (L0 bs).map (fun b => D.int ((C6 b : Nat) : Int)) = ((L0 bs).map fun b => ((C6 b : Nat) : Int)).map D.int := by rw [List.map_map]; rfl
      rw [e1]
      refine RN (fun n hn => ?_) (by rw [List.length_map]; lia) ?_
      · obtain ⟨c, hc, rfl⟩ := List.mem_map.mp hn
        obtain ⟨c1, _, _⟩ := W9 bs c hc
        have hc4 : G3 bs ≤ G8 (.mk h bs) := by show G3 bs ≤ 1 + G3 bs; lia
        lia
      rw [IU]
      walk_at "rd"
      have e2 : (1 : Int) + (G3 bs : Nat) = ((G8 (.mk h bs) : Nat) : Int) := by show _ = ((1 + G3 bs : Nat) : Int); lia
      rw [e2]
      exact hR
  walk_at "rd"
  have e1 : (toL b).map (fun d => D.int ((G8 d : Nat) : Int)) = ((toL b).map fun d => ((G8 d : Nat) : Int)).map D.int := by rw [List.map_map]; rfl
  rw [e1]
  refine RN (fun n hn => ?_) (by rw [List.length_map]; lia) ?_
  · obtain ⟨d, hd, rfl⟩ := List.mem_map.mp hn
    have := (CN b d hd).1
    lia
  rw [MN]
  exact View.of q
end PK
open L3
namespace PK
open PySem L2 L3
def T9 : Blk → Deed → Blk
  | .nil, x => .cons x .nil
  | .cons a r, x => .cons a (T9 r x)
theorem ZH : ∀ (k : Blk) (d : Deed), dB (T9 k d) = dB k ++ [dD d]
  | .nil, d => rfl
  | .cons a r, d => by show dD a :: dB (T9 r d) = _; rw [ZH r d]; rfl
theorem FO : ∀ (k : Blk) (d : Deed), C6 (T9 k d) = C6 k + G8 d
  | .nil, d => by show G8 d + 0 = 0 + G8 d; lia
  | .cons a r, d => by show G8 a + C6 (T9 r d) = G8 a + C6 r + G8 d; rw [FO r d]; lia
theorem CA : ∀ (k : Blk) (d : Deed), EV (T9 k d) = EV k + 1
  | .nil, d => rfl
  | .cons a r, d => by show EV (T9 r d) + 1 = EV r + 1 + 1; rw [CA r d]
theorem SW : ∀ (k : Blk) (d : Deed), dpB (T9 k d) = max (dpB k) (dpD d)
  | .nil, d => by show max (dpD d) 0 = max 0 (dpD d); lia
  | .cons a r, d => by show max (dpD a) (dpB (T9 r d)) = max (max (dpD a) (dpB r)) (dpD d); rw [SW r d]; lia
theorem RO [Pool] : ∀ (k : Blk) (d : Deed), okB k → okD d → okB (T9 k d)
  | .nil, d, _, h => ⟨h, trivial⟩
  | .cons a r, d, h, hd => ⟨h.1, RO r d h.2 hd⟩
theorem OW : ∀ k : Blk, (dB k).length = EV k
  | .nil => rfl
  | .cons a r => by show (dB r).length + 1 = EV r + 1; rw [OW r]
def O8 : List Blk → Bls
  | [] => .nil
  | b :: r => .cons b (O8 r)
theorem NK : ∀ l : List Blk, dTs (O8 l) = l.map tB
  | [] => rfl
  | b :: r => by show D.tup (dB b) :: dTs (O8 r) = _; rw [NK r]; rfl
theorem OS : ∀ l : List Blk, bsl (O8 l) = l.length
  | [] => rfl
  | b :: r => by show bsl (O8 r) + 1 = r.length + 1; rw [OS r]
theorem EU : ∀ l : List Blk, G3 (O8 l) = (l.map C6).sum
  | [] => rfl
  | b :: r => by show C6 b + G3 (O8 r) = _; rw [EU r]; rfl
theorem IA : ∀ (l : List Blk) (m : Nat), (∀ b ∈ l, dpB b + 1 ≤ m) → Z5 (O8 l) ≤ m
  | [], m, _ => Nat.zero_le _
  | b :: r, m, h => by
    show max (1 + dpB b) (Z5 (O8 r)) ≤ m
    have := h b List.mem_cons_self
    have := IA r m fun x hx => h x (List.mem_cons_of_mem _ hx)
    lia
theorem IY [Pool] : ∀ l : List Blk, (∀ b ∈ l, okB b) → VI (O8 l)
  | [], _ => trivial
  | b :: r, h => ⟨h b List.mem_cons_self, IY r fun x hx => h x (List.mem_cons_of_mem _ hx)⟩
theorem TJ : ∀ (cs : List (Str × Str)) (ts : List D) (w x : Str) (t : D), cs.length = ts.length → E6 (cs ++ [(w, x)]) (ts ++ [t]) = E6 cs ts ++ [.tup [.str w, .str x, t]]
  | [], [], w, x, t, _ => rfl
  | (a, b) :: cs, u :: ts, w, x, t, h => by
    show D.tup [.str a, .str b, u] :: E6 (cs ++ [(w, x)]) (ts ++ [t]) = _
    rw [TJ cs ts w x t (by simpa using h)]; rfl
theorem GE : ∀ (cs : List (Str × Str)) (ts us : List D), cs.length = ts.length → E6 cs (ts ++ us) = E6 cs ts
  | [], [], us, _ => by cases us <;> rfl
  | (a, b) :: cs, u :: ts, us, h => by
    show D.tup [.str a, .str b, u] :: E6 cs (ts ++ us) = _
    rw [GE cs ts us (by simpa using h)]; rfl
theorem NU : ∀ (cs : List (Str × Str)) (ts : List D), cs.length = ts.length → (E6 cs ts).length = cs.length
  | [], [], _ => rfl
  | (a, b) :: cs, u :: ts, h => by
    show (E6 cs ts).length + 1 = cs.length + 1
    rw [NU cs ts (by simpa using h)]
theorem BE : ∀ n ds M Q, N4 n ds M Q → ds.length = 5 := by rintro _ _ _ _ ⟨_, _, _, _, _, _, _, rfl, _⟩; rfl
theorem FQ : ∀ ds M Q, ¬ N4 0 ds M Q := by
  rintro _ _ _ ⟨_, _, _, _, _, _, _, rfl, _, _, _, ⟨_, _, h⟩, _⟩
  lia
theorem JV : ∀ n ds M Q, N4 (n + 1) ds M Q → Q6 (W1 n) (N4 n) (E5 n) { nx := fun _ M' => View Q .non M', rt := View Q } (B5 V9 ds) M := by
  rintro lv _ M Q ⟨P, p, e, b, w, deep, left, rfl, hE, hP, hb, ⟨hd1, hd2, hd3⟩, ⟨hl1, hl2⟩, q⟩
  have c5 : cst 5 = 4840 := by decide
  have hKK : KK = 20000 := rfl
  rw [hKK] at hb q
  rw [JC]
  unfold Q6
  walk_at "rd"
  refine draw hP (by lia) (by decide) (by decide) fun way M1 w0 w1 hP1 e1 => ?_
  have simple : ∀ (T : R5), T.rt = View Q → B8 (A7 P9 (A0 (A1 0) (A0 (A1 1) (A0 (A1 3) A2)))) T [some (.ref p), some (.ref e), some (.int deep), some (.bl w), some (.int left), some (.int way), none, none, none, none] M1 := by
    intro T hT
    walk_at "rd"
    rw [hT]
    refine ⟨P, p, e, _, w, rfl, E3 hE e1, hP1, by lia, fun h r M2 hlf hP2 e2 => View.of (q _ M2 ⟨⟨rfl, hlf⟩, trivial⟩ ?_ (Nat.zero_le _) (B0 hP2 ?_) (e1.trans e2))⟩
    · show 1 + 0 ≤ left; lia
    · show b + 1 + 11000 ≤ b + 5 + 20000 * (1 + 0); lia
  walk_at "rd"
  refine K6 (fun _ => J7 (simple _ rfl)) (fun hdeep => ?_)
  walk_at "rd"
  refine K6 (fun _ => J7 (simple _ rfl)) (fun hleft => ?_)
  walk_at "rd"
  refine K6 (fun _ => simple _ rfl) (fun hway => ?_)
  walk_at "rd"
  by_cases h5 : way = 5
  · refine C4 (by simp [h5]) ?_
    walk_at "rd"
    refine ⟨P, p, e, _, w, deep, left, rfl, E3 hE e1, hP1, by rw [hKK]; lia, ⟨by lia, by lia, by lia⟩, ⟨by lia, by lia⟩, fun d M2 h1 h2 h3 hP2 e2 => View.of (q d M2 h1 h2 h3 (B0 hP2 ?_) (e1.trans e2))⟩
    rw [hKK]; lia
  refine A8 (by simp [h5]) ?_
  walk_at "rd"
  refine ⟨P, p, e, _, 5, 3, rfl, E3 hE e1, hP1, by lia, ⟨by lia, by lia⟩, ⟨by lia, by lia, by lia⟩, fun ex M2 x1 x2 x3 hP2 e2 => ?_⟩
  have hex : DT (eD ex) := EE x1 (by lia) (by lia)
  walk_at "rd"
  refine draw hP2 (by lia) (by lia) (by lia) fun one M3 o0 o1 hP3 e3 => ?_
  obtain ⟨on, rfl⟩ : ∃ on : Nat, one = (on : Int) := ⟨one.toNat, by lia⟩
  have e13 := e1.trans (e2.trans e3)
  have nxt : ∀ w' : Bool, E5 lv [.ref p, .ref e, .int (deep + 1), .bl w', .int (1 + on)] M3 fun d1 M1' => A6 (D0 (B6 (A4 G7 (A1 5) (tC3 (.int 4)))) (B8 (D8 (A0 (tC3 (.str "while")) (A0 (A1 6) (A0 (A1 8) A2))))) C2)
    (A6 (B7 9 (D8 A2))
    (A6 (D0 (B6 (A4 G7 (A7 B3 (A0 (A1 0) (A0 (tC3 (.int 2)) A2))) (tC3 (.int 0)))) (B7 9 (A7 (E5 lv) (A0 (A1 0) (A0 (A1 1) (A0 (A4 C7 (A1 2) (tC3 (.int 1))) (A0 (A1 3) (A0 (A4 F5 (A4 F5 (A1 4) (tC3 (.int 1))) (A1 7)) A2))))))) C2)
    (B8 (D8 (A0 (tC3 (.str "if")) (A0 (A1 6) (A0 (A1 8) (A0 (A1 9) A2)))))))) { nx := fun _ M' => View Q .non M', rt := View Q }
      [some (.ref p), some (.ref e), some (.int deep), some (.bl w), some (.int left), some (.int way), some (eD ex), some (.int (1 + on)), some d1, none] M1' := by
    intro w'
    refine ⟨P, p, e, _, w', deep + 1, 1 + on, by rw [show ((deep + 1 : Nat) : Int) = (deep : Int) + 1 by lia, show ((1 + on : Nat) : Int) = 1 + (on : Int) by lia], E3 hE e13, hP3, by rw [hKK]; lia, ⟨by lia, by lia, by lia⟩, ⟨by lia, by lia⟩, fun k M4 k1 k2 k3 k4 hP4 e4 => ?_⟩
    rw [hKK] at hP4
    walk_at "rd"
    by_cases h4 : way = 4
    · refine C4 (by simp [h4]) ?_
      walk_at "rd"
      refine View.of (q (.mk (.whl (eD ex)) (.cons k .nil)) M4 ⟨⟨rfl, hex⟩, k1, trivial⟩ ?_ ?_ (B0 hP4 ?_) (e13.trans e4))
      · show 1 + (C6 k + 0) ≤ left; lia
      · show max (1 + dpB k) 0 ≤ 5 - deep; lia
      · show _ ≤ b + 5 + 20000 * (1 + (C6 k + 0)); lia
    refine A8 (by simp [h4]) ?_
    walk_at "rd"
    refine draw hP4 (by lia) (by decide) (by decide) fun el M5 el0 el1 hP5 e5 => ?_
    walk_at "rd"
    refine AL ?_ ?_
    · walk_at "rd"
      refine ⟨P, p, e, _, w, deep + 1, left - 1 - (1 + on), by rw [show ((deep + 1 : Nat) : Int) = (deep : Int) + 1 by lia, show ((left - 1 - (1 + on) : Nat) : Int) = (left : Int) - 1 - (1 + (on : Int)) by lia], E3 hE (e13.trans (e4.trans e5)), hP5, by rw [hKK]; lia, ⟨by lia, by lia, by lia⟩, ⟨by lia, by lia⟩, fun k' M6 j1 j2 j3 j4 hP6 e6 => ?_⟩
      rw [hKK] at hP6
      walk_at "rd"
      refine View.of (q (.mk (.ife (eD ex)) (.cons k (.cons k' .nil))) M6 ⟨⟨rfl, hex⟩, k1, j1, trivial⟩ ?_ ?_ (B0 hP6 ?_) (e13.trans (e4.trans (e5.trans e6))))
      · show 1 + (C6 k + (C6 k' + 0)) ≤ left; lia
      · show max (1 + dpB k) (max (1 + dpB k') 0) ≤ 5 - deep; lia
      · show _ ≤ b + 5 + 20000 * (1 + (C6 k + (C6 k' + 0))); lia
    · walk_at "rd"
      refine View.of (q (.mk (.ife (eD ex)) (.cons k (.cons .nil .nil))) M5 ⟨⟨rfl, hex⟩, k1, trivial, trivial⟩ ?_ ?_ (B0 hP5 ?_) (e13.trans (e4.trans e5)))
      · show 1 + (C6 k + (0 + 0)) ≤ left; lia
      · show max (1 + dpB k) (max (1 + 0) 0) ≤ 5 - deep; lia
      · show _ ≤ b + 5 + 20000 * (1 + (C6 k + (0 + 0))); lia
  walk_at "rd"
  cases w with
  | true =>
    refine J7 ?_
    walk_at "rd"
    exact nxt true
  | false =>
    refine V3 ?_
    walk_at "rd"
    exact nxt _
end PK
open L3
namespace PK
open PySem L2 L3
theorem AI : ∀ n ds M Q, E5 n ds M Q → ds.length = 5 := by rintro _ _ _ _ ⟨_, _, _, _, _, _, _, rfl, _⟩; rfl
theorem EA : ∀ ds M Q, ¬ E5 0 ds M Q := by
  rintro _ _ _ ⟨_, _, _, _, _, _, _, rfl, _, _, _, ⟨_, _, h⟩, _⟩
  lia
theorem GT : ∀ n ds M Q, E5 (n + 1) ds M Q → O4 (W1 n) (N4 n) (E5 n) { nx := fun _ M' => View Q .non M', rt := View Q } (B5 S2 ds) M := by
  rintro lv _ M Q ⟨P, p, e, b, w, deep, left, rfl, hE, hP, hb, ⟨hd1, hd2, hd3⟩, ⟨hl1, hl2⟩, q⟩
  have hKK : KK = 20000 := rfl
  rw [hKK] at hb q
  rw [HL]
  unfold O4
  walk_at "rd"
  intro f hf
  have hpf := Y1 hP hf
  walk_at "rd"
  refine draw (F8 hP hpf) (by lia) (by decide) (by decide) fun ms M1 m0 m1 hP1 e1 => ?_
  have hf1 : M1 f = some (.lst []) := NM e1 (Ne.symm hpf)
  have hs1 : ∀ a, a ≠ p → a ≠ f → M1 a = M a := fun a h1 h2 => by rw [e1 a h1, B2 h2]
  walk_at "rd"
  refine AE6 ⟨fun mm σ M2 => ∃ (k : Blk) (lf : Nat) (s7 : Option D), mm + EV k = 4 ∧ ((EV k : Nat) : Int) ≤ 1 + ms ∧ σ = [some (.ref p), some (.ref e), some (.int deep), some (.bl w), some (.int lf), some (.ref f), some (.int (1 + ms)), s7] ∧
    okB k ∧ lf + C6 k = left ∧ dpB k ≤ 5 - deep ∧ Pen M2 p (b + 2 + 5 * EV k + 20000 * C6 k) ∧ M2 f = some (.lst (dB k)) ∧ ∀ a, a ≠ p → a ≠ f → M2 a = M a,
    ⟨4, .nil, left, _, rfl, by show ((0 : Nat) : Int) ≤ _; lia, rfl, trivial, by show left + 0 = left; lia, Nat.zero_le _, B0 hP1 (by lia), hf1, hs1⟩, ?_⟩
  rintro mm σ M2 ⟨k, lf, s7, hmm, hms, rfl, hok, hlf, hdp, hP2, hf2, hs2⟩
  have fin : k ≠ .nil → B8 (E2 J4 (A0 (A1 5) A2)) { nx := fun _ M' => View Q .non M', rt := View Q } [some (.ref p), some (.ref e), some (.int deep), some (.bl w), some (.int lf), some (.ref f), some (.int (1 + ms)), s7] M2 := by
    intro hk
    walk_at "rd"
    refine EI hf2 ?_
    exact View.drop (a := f) (q k _ hok hk (by lia) hdp (CB (B0 hP2 (by lia)) hpf) (BY hf hs2))
  walk_at "rd"
  refine K6 (fun hpos => ?_) (fun hneg => ?_)
  · walk_at "rd"
    refine RX hf2 ?_
    rw [OW]
    walk_at "rd"
    refine K6 (fun hlt => ?_) (fun hge => ?_)
    · walk_at "rd"
      have hE2 : X1 M2 e p := by
        obtain ⟨hs', ps', hm', r1, r2, r3⟩ := hE
        have hef : e ≠ f := by rintro rfl; rw [hf] at hm'; cases hm'
        exact ⟨hs', ps', by rw [hs2 e r3 hef]; exact hm', r1, r2, r3⟩
      refine ⟨P, p, e, _, w, deep, lf, rfl, hE2, hP2, by rw [hKK]; lia, ⟨by lia, by lia, by lia⟩, ⟨by lia, by lia⟩, fun d M3 d1 d2 d3 hP3 e3 => ?_⟩
      rw [hKK] at hP3
      have hf3 : M3 f = some (.lst (dB k)) := by rw [e3 f (Ne.symm hpf)]; exact hf2
      walk_at "rd"
      refine ⟨.inl ⟨rfl, _, hf3⟩, ?_⟩
      walk_at "rd"
      refine G5 hf3 (by rw [OW, sizeLine_eq]; lia) ?_
      walk_at "rd"
      refine ⟨P, .cons d .nil, rfl, ⟨d1, trivial⟩, ?_, ?_, ?_⟩
      · show max (dpD d) 0 + 1 ≤ 8; lia
      · show G8 d + 0 ≤ 1000; lia
      walk_at "rd"
      refine ⟨mm - 1, by lia, T9 k d, lf - G8 d, _, by rw [CA]; lia, by rw [CA]; lia, by rw [show ((lf - G8 d : Nat) : Int) = (lf : Int) - ((C6 (.cons d .nil) : Nat) : Int) by show _ = (lf : Int) - ((G8 d + 0 : Nat) : Int); lia]; rfl, RO k d hok d1, by rw [FO]; lia, by rw [SW]; lia, F8 (B0 hP3 (by rw [CA, FO]; lia)) hpf, by rw [A5, ZH], fun a h1 h2 => by rw [B2 h2, e3 a h1]; exact hs2 a h1 h2⟩
    · exact fin fun hk => by
        subst hk
        have : EV Blk.nil = 0 := rfl
        lia
  · refine V3 (fin fun hk => ?_)
    subst hk
    have : C6 Blk.nil = 0 := rfl
    lia
theorem BW : ∀ n ds M Q, W1 n ds M Q → ds.length = 5 := by rintro _ _ _ _ ⟨_, _, _, _, _, _, _, rfl, _⟩; rfl
theorem GN : ∀ ds M Q, ¬ W1 0 ds M Q := by
  rintro _ _ _ ⟨_, _, _, _, _, _, _, rfl, _, _, _, ⟨_, _, h⟩, _⟩
  lia
theorem AS7 : nm "any" := OT _ (by decide +kernel) (by decide +kernel)
theorem NQ : ∀ n ds M Q, W1 (n + 1) ds M Q → T6 (W1 n) (N4 n) (E5 n) { nx := fun _ M' => View Q .non M', rt := View Q } (B5 Z0 ds) M := by
  rintro lv _ M Q ⟨P, p, e, b, w, deep, left, rfl, hE, hP, hb, ⟨hd1, hd2, hd3⟩, ⟨hl1, hl2⟩, q⟩
  have hKK : KK = 20000 := rfl
  rw [hKK] at hb q
  rw [NR]
  unfold T6
  walk_at "rd"
  refine draw hP (by lia) (by lia) (by lia) fun one M1 o0 o1 hP1 e1 => ?_
  obtain ⟨on, rfl⟩ : ∃ on : Nat, one = (on : Int) := ⟨one.toNat, by lia⟩
  walk_at "rd"
  refine ⟨P, p, e, _, w, deep + 1, 1 + on, by rw [show ((deep + 1 : Nat) : Int) = (deep : Int) + 1 by lia, show ((1 + on : Nat) : Int) = 1 + (on : Int) by lia], E3 hE e1, hP1, by rw [hKK]; lia, ⟨by lia, by lia, by lia⟩, ⟨by lia, by lia⟩, fun k M2 k1 k2 k3 k4 hP2 e2 => ?_⟩
  rw [hKK] at hP2
  walk_at "rd"
  refine draw hP2 (by lia) (by decide) (by decide) fun mn M3 mn0 mn1 hP3 e3 => ?_
  have e13 := e1.trans (e2.trans e3)
  walk_at "rd"
  obtain ⟨many, hmany, hm1, hm2⟩ : ∃ many : Nat, (if (left : Int) - 1 - (1 + (on : Int)) - 1 < mn then (left : Int) - 1 - (1 + (on : Int)) - 1 else mn) = (many : Int) ∧ many ≤ 3 ∧ many + 1 ≤ left - 1 - (1 + on) := by
    by_cases h : (left : Int) - 1 - (1 + (on : Int)) - 1 < mn
    · rw [if_pos h]
      exact ⟨left - 1 - (1 + on) - 1, by lia, by lia, by lia⟩
    · rw [if_neg h]
      exact ⟨mn.toNat, by lia, by lia, by lia⟩
  rw [hmany]
  intro f hf
  have hpf := Y1 hP3 hf
  walk_at "rd"
  have hE3 := E3 hE e13
  refine ⟨by lia, by lia, fun j σ M4 => ∃ (cs : List (Str × Str)) (ks : List Blk) (rest : Nat) (s10 s11 s12 s13 : Option D), σ = [some (.ref p), some (.ref e), some (.int deep), some (.bl w), some (.int left), some (.int (1 + on)), some (.tup (dB k)), some (.int rest), some (.int many), some (.ref f), s10, s11, s12, s13, none] ∧
      cs.length = j ∧ ks.length = j ∧ (∀ c ∈ cs, nm c.1 ∧ pn c.2) ∧ (∀ x ∈ ks, okB x ∧ dpB x + 1 ≤ 5 - deep) ∧ C6 k + (ks.map C6).sum + rest + 1 ≤ left ∧ many + 1 ≤ rest + j ∧ Pen M4 p (b + 100 + 20000 * C6 k + 100 * j + 20000 * (ks.map C6).sum) ∧ M4 f = some (.lst (E6 cs (ks.map tB))) ∧ ∀ a, a ≠ p → a ≠ f → M4 a = M3 a,
      ⟨[], [], left - 1 - (1 + on), _, _, _, _, by rw [show ((left - 1 - (1 + on) : Nat) : Int) = (left : Int) - 1 - (1 + (on : Int)) by lia]; rfl, rfl, rfl, (fun _ h => by cases h), (fun _ h => by cases h), by show C6 k + 0 + _ + 1 ≤ left; lia, by lia, F8 (B0 hP3 (by show _ ≤ b + 100 + 20000 * C6 k + 100 * 0 + 20000 * 0; lia)) hpf, A5, fun a _ ha => B2 ha⟩, ?_, ?_⟩
  · rintro j d σ M4 hd' ⟨cs, ks, rest, s10, s11, s12, s13, rfl, hcl, hkl, hcs, hks, hcnt, hrest, hP4, hf4, hs4⟩
    have hj : j < many := by simpa using (List.getElem?_eq_some_iff.mp hd').1
    have hdk : d = .int (j : Nat) := by
      rw [List.getElem?_map, List.getElem?_range (by simpa using hj)] at hd'
      exact (Option.some.inj hd').symm
    subst hdk
    have hE4 : ∀ M5, Same3 p M4 M5 → X1 M5 e p := fun M5 h5 => by
      obtain ⟨hs', ps', hm', r1, r2, r3⟩ := hE3
      have hef : e ≠ f := by rintro rfl; rw [hf] at hm'; cases hm'
      exact ⟨hs', ps', by rw [h5 e r3, hs4 e r3 hef]; exact hm', r1, r2, r3⟩
    walk_at "rd"
    refine draw hP4 (by lia) (by lia) (by lia) fun own M5 ow0 ow1 hP5 e5 => ?_
    obtain ⟨ow, rfl⟩ : ∃ ow : Nat, own = (ow : Int) := ⟨own.toNat, by lia⟩
    walk_at "rd"
    refine ⟨p, _, rfl, hP5, by lia, fun wd M6 hwd hP6 e6 => ?_⟩
    walk_at "rd"
    refine draw hP6 (by lia) (by decide) (by decide) fun an M7 an0 an1 hP7 e7 => ?_
    obtain ⟨cw, hcw, hncw⟩ := IX (l := [wd, "any"]) (n := an) (by
      intro z hz
      simp only [List.mem_cons, List.not_mem_nil, or_false] at hz
      rcases hz with rfl | rfl
      · exact hwd
      · exact AS7) an0 (by simpa using an1)
    refine G2 hcw ?_
    walk_at "rd"
    have e47 := e5.trans (e6.trans e7)
    obtain ⟨hs', ps', hM7, r1, ⟨ps0, ps1, ps2⟩, hep⟩ := hE4 M7 e47
    have hpl : 0 < ps'.length := by cases ps' with | nil => exact absurd rfl ps0 | cons _ _ => simp
    refine X4 hM7 ?_
    walk_at "rd"
    refine X4 hM7 ?_
    walk_at "rd"
    refine draw hP7 (by lia) (by rw [List.length_map]; lia) (by rw [List.length_map]; lia) fun xi M8 x0 x1 hP8 e8 => ?_
    obtain ⟨x, hx, hnx⟩ := ZT ps2 x0 (by simpa using x1)
    refine G2 hx ?_
    walk_at "rd"
    have e48 := e47.trans e8
    have hf8 : M8 f = some (.lst (E6 cs (ks.map tB))) := by rw [e48 f (Ne.symm hpf)]; exact hf4
    refine ⟨.inl ⟨rfl, _, hf8⟩, ?_⟩
    walk_at "rd"
    refine ⟨P, p, e, _, w, deep + 1, 1 + ow, by rw [show ((deep + 1 : Nat) : Int) = (deep : Int) + 1 by lia, show ((1 + ow : Nat) : Int) = 1 + (ow : Int) by lia], hE4 M8 e48, hP8, by rw [hKK]; lia, ⟨by lia, by lia, by lia⟩, ⟨by lia, by lia⟩, fun k' M9 j1 j2 j3 j4 hP9 e9 => ?_⟩
    rw [hKK] at hP9
    walk_at "rd"
    have hf9 : M9 f = some (.lst (E6 cs (ks.map tB))) := by rw [e9 f (Ne.symm hpf)]; exact hf8
    have hcat := NU cs (ks.map tB) (by rw [List.length_map]; lia)
    refine G5 hf9 (by rw [hcat, sizeLine_eq]; lia) ?_
    walk_at "rd"
    have hsum : ((ks ++ [k']).map C6).sum = (ks.map C6).sum + C6 k' := by simp
    refine ⟨cs ++ [(cw, x)], ks ++ [k'], rest - (1 + ow), _, _, _, _, by rw [show ((rest - (1 + ow) : Nat) : Int) = (rest : Int) - (1 + (ow : Int)) by lia]; rfl, by simp [hcl], by simp [hkl], fun c hc => ?_, fun c hc => ?_, by rw [hsum]; lia, by lia, F8 (B0 hP9 (by rw [hsum]; lia)) hpf, ?_, fun a h1 h2 => by rw [B2 h2, e9 a h1, e48 a h1]; exact hs4 a h1 h2⟩
    · rcases List.mem_append.mp hc with z | z
      · exact hcs c z
      · cases List.mem_singleton.mp z; exact ⟨hncw, hnx⟩
    · rcases List.mem_append.mp hc with z | z
      · exact hks c z
      · cases List.mem_singleton.mp z; exact ⟨j1, by lia⟩
    · rw [A5, List.map_append, List.map_singleton, TJ cs (ks.map tB) cw x (tB k') (by rw [List.length_map]; lia)]; rfl
  · rintro σ M4 ⟨cs, ks, rest, s10, s11, s12, s13, rfl, hcl, hkl, hcs, hks, hcnt, hrest, hP4, hf4, hs4⟩
    have hcl2 : cs.length = many := by simpa using hcl
    have hkl2 : ks.length = many := by simpa using hkl
    have hP4' : Pen M4 p (b + 400 + 20000 * C6 k + 20000 * (ks.map C6).sum) := B0 hP4 (by rw [List.length_map, List.length_range]; lia)
    have hrest2 : 1 ≤ rest := by
      have : (List.map (fun k : Nat => D.int ↑k) (List.range (Int.toNat ↑many))).length = many := by simp
      lia
    have hE4 : ∀ M5, Same3 p M4 M5 → X1 M5 e p := fun M5 h5 => by
      obtain ⟨hs', ps', hm', r1, r2, r3⟩ := hE3
      have hef : e ≠ f := by rintro rfl; rw [hf] at hm'; cases hm'
      exact ⟨hs', ps', by rw [h5 e r3, hs4 e r3 hef]; exact hm', r1, r2, r3⟩
    have fin : ∀ (l : Blk) (M5 : Mem), okB l → dpB l + 1 ≤ 5 - deep → C6 l ≤ rest → Pen M5 p (b + 500 + 20000 * C6 k + 20000 * (ks.map C6).sum + 20000 * C6 l) → Same3 p M4 M5 →
        B8 (D8 (A0 (tC3 (.str "try")) (A0 (A1 6) (A0 (E2 J4 (A0 (A1 9) A2)) (A0 (A1 14) A2))))) { nx := fun _ M' => View Q .non M', rt := View Q }
          [some (.ref p), some (.ref e), some (.int deep), some (.bl w), some (.int left), some (.int (1 + on)), some (.tup (dB k)), some (.int rest), some (.int many), some (.ref f), s10, s11, s12, s13, some (.tup (dB l))] M5 := by
      intro l M5 hl1 hl2 hl3 hP5 e5
      have hf5 : M5 f = some (.lst (E6 cs (ks.map tB))) := by rw [e5 f (Ne.symm hpf)]; exact hf4
      walk_at "rd"
      refine EI hf5 ?_
      walk_at "rd"
      have hD : dD (.mk (.tr cs) (O8 (k :: (ks ++ [l])))) = .tup [.str "try", .tup (dB k), .tup (E6 cs (ks.map tB)), .tup (dB l)] := by
        show headD (.tr cs) (dTs (O8 (k :: (ks ++ [l])))) = _
        rw [NK]
        show D.tup [.str "try", tB k, .tup (E6 cs ((ks ++ [l]).map tB)), ((k :: (ks ++ [l])).map tB).getD (cs.length + 1) (.tup [])] = _
        rw [List.map_append, GE cs (ks.map tB) _ (by rw [List.length_map]; lia)]
        have hg : ((k :: (ks ++ [l])).map tB).getD (cs.length + 1) (.tup []) = tB l := by
          rw [hcl2, ← hkl2]
          simp [List.getD]
        rw [hg]; rfl
      rw [← hD]
      have hc : G8 (.mk (.tr cs) (O8 (k :: (ks ++ [l])))) = 1 + (C6 k + ((ks.map C6).sum + C6 l)) := by
        show 1 + G3 (O8 (k :: (ks ++ [l]))) = _
        rw [EU]; simp
      refine View.drop (a := f) (q _ _ ⟨⟨?_, by lia, hcs⟩, IY _ fun x hx => ?_⟩ (by rw [hc]; lia) ?_ (CB (B0 hP5 (by rw [hc]; lia)) hpf) ?_)
      · rw [OS]; simp; lia
      · rcases List.mem_cons.mp hx with rfl | hx
        · exact k1
        · rcases List.mem_append.mp hx with z | z
          · exact (hks x z).1
          · cases List.mem_singleton.mp z; exact hl1
      · refine IA _ _ fun x hx => ?_
        rcases List.mem_cons.mp hx with rfl | hx
        · lia
        · rcases List.mem_append.mp hx with z | z
          · exact (hks x z).2
          · cases List.mem_singleton.mp z; exact hl2
      · exact e13.trans (BY hf fun a h1 h2 => by rw [e5 a h1]; exact hs4 a h1 h2)
    have lasts : ∀ M5, Pen M5 p (b + 420 + 20000 * C6 k + 20000 * (ks.map C6).sum) → Same3 p M4 M5 →
        B7 14 (A7 (E5 lv) (A0 (A1 0) (A0 (A1 1) (A0 (A4 C7 (A1 2) (tC3 (.int 1))) (A0 (A1 3) (A0 (A4 C7 (tC3 (.int 1)) (A7 B3 (A0 (A1 0) (A0 (A1 7) A2)))) A2))))))
          { nx := B8 (D8 (A0 (tC3 (.str "try")) (A0 (A1 6) (A0 (E2 J4 (A0 (A1 9) A2)) (A0 (A1 14) A2))))) { nx := fun _ M' => View Q .non M', rt := View Q }, rt := View Q }
          [some (.ref p), some (.ref e), some (.int deep), some (.bl w), some (.int left), some (.int (1 + on)), some (.tup (dB k)), some (.int rest), some (.int many), some (.ref f), s10, s11, s12, s13, some (.tup [])] M5 := by
      intro M5 hP5 e5
      walk_at "rd"
      refine draw hP5 (by lia) (by lia) (by lia) fun la M6 la0 la1 hP6 e6 => ?_
      obtain ⟨ln, rfl⟩ : ∃ ln : Nat, la = (ln : Int) := ⟨la.toNat, by lia⟩
      walk_at "rd"
      refine ⟨P, p, e, _, w, deep + 1, 1 + ln, by rw [show ((deep + 1 : Nat) : Int) = (deep : Int) + 1 by lia, show ((1 + ln : Nat) : Int) = 1 + (ln : Int) by lia], hE4 M6 (e5.trans e6), hP6, by rw [hKK]; lia, ⟨by lia, by lia, by lia⟩, ⟨by lia, by lia⟩, fun l M7 j1 j2 j3 j4 hP7 e7 => ?_⟩
      rw [hKK] at hP7
      exact fin l M7 j1 (by lia) (by lia) (B0 hP7 (by lia)) (e5.trans (e6.trans e7))
    walk_at "rd"
    by_cases hm0 : many = 0
    · refine C4 (by simp [hm0]) (J7 ?_)
      exact lasts M4 (B0 hP4' (by lia)) .refl
    refine A8 (by simp; lia) ?_
    walk_at "rd"
    refine draw hP4' (by lia) (by decide) (by decide) fun ch M5 ch0 ch1 hP5 e5 => ?_
    walk_at "rd"
    refine AL (lasts M5 (B0 hP5 (by lia)) e5) ?_
    exact fin .nil M5 trivial (by show 0 + 1 ≤ 5 - deep; lia) (Nat.zero_le _) (B0 hP5 (by show _ ≤ _ + 20000 * 0; lia)) e5
end PK
open L3
namespace PK
open PySem L2 L3
theorem View.only {Q : DK} {d : D} {p : Addr} {M M1 : Mem} (h : ∀ a, a ≠ p → M a ≠ none → M1 a = M a) (q : Q d (fun a => if a = p then M1 p else M a)) : View Q d M1 := View.sub (fun a o e => by
  by_cases ha : a = p
  · subst ha; rw [if_pos rfl] at e; exact e
  · rw [if_neg ha] at e; rw [h a ha (by rw [e]; simp)]; exact e) q
theorem VQ (x y : D) : Z6 [] [(.inr "heads", x), (.inr "pool", y)] = ([(.inr "heads", x), (.inr "pool", y)] : List (Key × D)) := by
  simp [Z6, putD, L7 BI1]
theorem GU : ∀ ds M Q, DC ds M Q → ds.length = 3 := by rintro _ _ _ ⟨_, _, _, _, rfl, _⟩; rfl
theorem MA : ∀ ds M Q, DC ds M Q → Q0 { nx := fun _ M' => View Q .non M', rt := View Q } (B5 U9 ds) M := by
  rintro _ M Q ⟨p, b, rules, deeds, rfl, hP, hb, ⟨hr1, hr2⟩, ⟨hd1, hd2⟩, q⟩
  have hKK : KK = 20000 := rfl
  rw [LF]
  unfold Q0
  walk_at "rd"
  refine draw hP (by lia) (by lia) (by lia) fun rn M1 n0 n1 hP1 e1 => ?_
  walk_at "rd"
  refine ⟨p, _, 1 + rn, rfl, hP1, by lia, by lia, by lia, fun xs M2 hxl hxs hP2 e2 => ?_⟩
  walk_at "rd"
  refine II 201 (fun _ d h => ∃ x ps, d = D.str x ∧ h = hdD (x, ps) ∧ ps.length ≤ 3 ∧ ∀ y ∈ ps, nm y) hP2 ?_ ?_ ?_
  · rw [List.length_map, sizeLine_eq]; lia
  · intro k d M3 R F hd hP3 hsame hR
    have hk : k < xs.length := by simpa using (List.getElem?_eq_some_iff.mp hd).1
    obtain ⟨x, hx, rfl⟩ := List.mem_map.mp (List.mem_of_getElem? hd)
    walk_at "rd"
    refine draw hP3 (by lia) (by decide) (by decide) fun pn M4 p0 p1 hP4 e4 => ?_
    walk_at "rd"
    refine ⟨p, _, pn, rfl, hP4, by lia, by lia, by lia, fun ps M5 hpl hps hP5 e5 => ?_⟩
    walk_at "rd"
    exact hR _ _ ⟨x, ps, rfl, rfl, by lia, hps⟩ (B0 hP5 (by lia)) (e4.trans e5)
  intro acc M3 hlen hall hP3 e3
  obtain ⟨hs, rfl, hhs⟩ := T7 (f := hdD) (P := fun h => nm h.1 ∧ h.2.length ≤ 3 ∧ ∀ y ∈ h.2, nm y) fun e he => by
    obtain ⟨k, d, hkd, x, ps, rfl, rfl, h1, h2⟩ := FL hlen hall e he
    obtain ⟨x', hx', ex⟩ := List.mem_map.mp (List.mem_of_getElem? hkd)
    cases ex
    exact ⟨(x, ps), rfl, hxs x hx', h1, h2⟩
  simp only [List.length_map] at hlen hP3
  have hsl : hs ≠ [] ∧ hs.length ≤ 8 := by
    constructor
    · intro h; rw [h] at hlen; simp at hlen; lia
    · lia
  have hP3' : Pen M3 p (b + 3000) := B0 hP3 (by lia)
  have e03 := e1.trans (e2.trans e3)
  walk_at "rd"
  intro f hf
  have hpf := Y1 hP3 hf
  walk_at "rd"
  refine ⟨fun k σ M4 => ∃ (rs : List Rl) (s6 s7 s8 s9 s10 : Option D), rs.length = k ∧ (∀ r ∈ rs, rOk deeds r) ∧ σ = [some (.ref p), some (.int rules), some (.int deeds), some (.lst (xs.map D.str)), some (.lst (hs.map hdD)), some (.ref f), s6, s7, s8, s9, s10] ∧
      Pen M4 p (b + 3000 + 700000 * k) ∧ M4 f = some (.lst (rs.map rD)) ∧ ∀ a, a ≠ p → a ≠ f → M3 a ≠ none → M4 a = M3 a,
    ⟨[], _, _, _, _, _, rfl, (fun _ h => by cases h), rfl, F8 hP3' hpf, A5, fun a _ ha _ => B2 ha⟩, ?_, ?_⟩
  · rintro k d σ M4 hd ⟨rs, s6, s7, s8, s9, s10, hrl, hrs, rfl, hP4, hf4, hs4⟩
    have hk : k < hs.length := by simpa using (List.getElem?_eq_some_iff.mp hd).1
    obtain ⟨h, hh, rfl⟩ := List.mem_map.mp (List.mem_of_getElem? hd)
    obtain ⟨hn1, hn2, hn3⟩ := hhs h hh
    refine AM rfl ?_
    walk_at "rd"
    refine YD ?_
    walk_at "rd"
    refine QC fun pl hpl => ?_
    have hppl := Y1 hP4 hpl
    have hfpl : f ≠ pl := by rintro rfl; rw [hpl] at hf4; cases hf4
    walk_at "rd"
    rw [List.length_map]
    refine draw (F8 hP4 hppl) (by lia) (by lia) (by lia) fun cn M5 c0 c1 hP5 e5 => ?_
    walk_at "rd"
    refine ⟨by lia, by lia, fun j σ M6 => ∃ (ys : List Str) (s9 : Option D), ys.length = h.2.length + j ∧ (∀ y ∈ ys, nm y) ∧ σ = [some (.ref p), some (.int rules), some (.int deeds), some (.lst (xs.map D.str)), some (.lst (hs.map hdD)), some (.ref f), some (.str h.1), some (.tup (h.2.map D.str)), some (.ref pl), s9, s10] ∧
        Pen M6 p (b + 3000 + 700000 * k + 1 + 20 * j) ∧ M6 pl = some (.lst (ys.map D.str)) ∧ ∀ a, a ≠ p → a ≠ pl → M6 a = M4 a,
      ⟨h.2, _, rfl, hn3, rfl, B0 hP5 (by lia), NM e5 (Ne.symm hppl), fun a h1 h2 => by rw [e5 a h1, B2 h2]⟩, ?_, ?_⟩
    · rintro j d σ M6 hd6 ⟨ys, s9, hyl, hys, rfl, hP6, hpl6, hs6⟩
      have hj : j < (1 + cn).toNat := by simpa using (List.getElem?_eq_some_iff.mp hd6).1
      walk_at "rd"
      refine ⟨.inl ⟨rfl, _, hpl6⟩, ?_⟩
      walk_at "rd"
      refine ⟨p, pl, _, ys, rfl, Ne.symm hppl, hpl6, by lia, hP6, by lia, fun x M7 hx hP7 e7 => ?_⟩
      walk_at "rd"
      have hpl7 : M7 pl = some (.lst (ys.map D.str)) := by rw [e7 pl (Ne.symm hppl)]; exact hpl6
      refine G5 hpl7 (by rw [List.length_map, sizeLine_eq]; lia) ?_
      refine ⟨ys ++ [x], _, by simp [hyl]; lia, fun y hy => ?_, rfl, F8 (B0 hP7 (by lia)) hppl, by rw [A5, List.map_append]; rfl, fun a h1 h2 => by rw [B2 h2, e7 a h1]; exact hs6 a h1 h2⟩
      rcases List.mem_append.mp hy with z | z
      · exact hys y z
      · cases List.mem_singleton.mp z; exact hx
    rintro σ M6 ⟨ys, s9, hyl, hys, rfl, hP6, hpl6, hs6⟩
    rw [List.length_map, List.length_range] at hyl hP6
    refine AW3 rfl hpl6 ?_
    have hP7 : Pen (J0 M6 pl) p (b + 3000 + 700000 * k + 300) := CB (B0 hP6 (by lia)) hppl
    have hs7 : ∀ a, a ≠ p → J0 M6 pl a = M4 a := fun a h1 => by
      by_cases h2 : a = pl
      · subst h2; rw [K1, hpl]
      · rw [K3 h2]; exact hs6 a h1 h2
    generalize J0 M6 pl = M7 at hP7 hs7 ⊢
    walk_at "rd"
    refine AG4 fun e he => ?_
    have hpe := Y1 hP7 he
    refine NP ?_
    walk_at "rd"
    refine NP ?_
    walk_at "rd"
    refine AH6 ?_
    refine ⟨A5, [(.inr "heads", .lst (hs.map hdD)), (.inr "pool", .lst (ys.map D.str))], rfl, by simp, ?_⟩
    rw [VQ, S7]
    have hf7 : M7 f = some (.lst (rs.map rD)) := by rw [hs7 f (Ne.symm hpf)]; exact hf4
    have hfe : f ≠ e := by rintro rfl; rw [he] at hf7; cases hf7
    have hE : @X1 ⟨ys⟩ (D4 M7 e (.dct [(.inr "heads", .lst (hs.map hdD)), (.inr "pool", .lst (ys.map D.str))])) e p := by
      refine ⟨hs, ys, A5, ⟨hsl.1, hsl.2, hhs⟩, ⟨?_, by lia, fun y hy => ⟨hys y hy, hy⟩⟩, Ne.symm hpe⟩
      intro h0; rw [h0] at hyl; simp at hyl; lia
    have hP8 := F8 (o := .dct [(.inr "heads", .lst (hs.map hdD)), (.inr "pool", .lst (ys.map D.str))]) hP7 hpe
    have hf8 : D4 M7 e (.dct [(.inr "heads", .lst (hs.map hdD)), (.inr "pool", .lst (ys.map D.str))]) f = some (.lst (rs.map rD)) := by rw [B2 hfe]; exact hf7
    have hs8 : ∀ a, a ≠ p → M4 a ≠ none → D4 M7 e (.dct [(.inr "heads", .lst (hs.map hdD)), (.inr "pool", .lst (ys.map D.str))]) a = M4 a := fun a h1 h2 => by
      rw [B2]
      · exact hs7 a h1
      · rintro rfl; rw [hs7 _ h1] at he; exact h2 he
    generalize D4 M7 e (.dct [(.inr "heads", .lst (hs.map hdD)), (.inr "pool", .lst (ys.map D.str))]) = M8 at hE hP8 hf8 hs8 ⊢
    walk_at "rd"
    refine ⟨.inl ⟨rfl, _, hf8⟩, ?_⟩
    walk_at "rd"
    refine draw hP8 (by lia) (by lia) (by lia) fun dn M9 d0 d1 hP9 e9 => ?_
    obtain ⟨dnn, rfl⟩ : ∃ dnn : Nat, dn = (dnn : Int) := ⟨dn.toNat, by lia⟩
    walk_at "rd"
    refine ⟨⟨ys⟩, p, e, _, false, 1, 1 + dnn, by rw [show ((1 + dnn : Nat) : Int) = 1 + (dnn : Int) by lia]; rfl, @E3 ⟨ys⟩ _ _ _ _ hE e9, hP9, by rw [hKK]; lia, ⟨by lia, by lia, by lia⟩, ⟨by lia, by lia⟩, fun kb M10 k1 k2 k3 k4 hP10 e10 => ?_⟩
    rw [hKK] at hP10
    walk_at "rd"
    have hf10 : M10 f = some (.lst (rs.map rD)) := by rw [e10 f (Ne.symm hpf), e9 f (Ne.symm hpf)]; exact hf8
    refine G5 hf10 (by rw [List.length_map, sizeLine_eq]; lia) ?_
    refine ⟨rs ++ [⟨h.1, h.2, kb⟩], _, _, _, _, _, by simp [hrl], fun r hr => ?_, rfl, F8 (B0 hP10 (by lia)) hpf, by rw [A5, List.map_append]; rfl, fun a h1 h2 h3 => ?_⟩
    · rcases List.mem_append.mp hr with z | z
      · exact hrs r z
      · cases List.mem_singleton.mp z
        exact ⟨hn1, hn2, hn3, ⟨⟨ys⟩, by show ys.length ≤ 15; lia, k1⟩, k2, by show C6 kb ≤ deeds; lia, by show dpB kb ≤ 4; lia⟩
    · rw [B2 h2, e10 a h1, e9 a h1]
      have h4 := hs4 a h1 h2 h3
      rw [hs8 a h1 (by rw [h4]; exact h3), h4]
  · rintro σ M4 ⟨rs, s6, s7, s8, s9, s10, hrl, hrs, rfl, hP4, hf4, hs4⟩
    rw [List.length_map] at hrl hP4
    walk_at "rd"
    refine EI hf4 ?_
    refine View.only (p := p) (M := M) (fun a h1 h2 => ?_) (q rs _ ⟨?_, by lia⟩ hrs ?_ ?_)
    · have h3 : M3 a = M a := e03 a h1
      have h4 : a ≠ f := by rintro rfl; rw [hf] at h3; exact h2 h3.symm
      rw [hs4 a h1 h4 (by rw [h3]; exact h2), h3]
    · rcases Nat.eq_zero_or_pos rs.length with z | z
      · exfalso; apply hsl.1; exact List.length_eq_zero_iff.mp (by lia)
      · exact z
    · obtain ⟨ns, a, l, h1, h2, h3, h4, h5⟩ := hP4
      exact ⟨ns, a, l, (show (if p = p then M4 p else M p) = _ by rw [if_pos rfl]; exact h1), h2, h3, by lia, h5⟩
    · intro a ha
      show (if a = p then M4 p else M a) = M a
      rw [if_neg ha]
structure Sm (w n : Nat) (d : D) : Prop where
  pl : plain d = true
  sh : (pyD d).showable = true
  nd : (pyD d).hasDict = false
  lf : (pyD d).leavesShort 40 = true
  wt : (pyD d).weight ≤ w
  dp : (pyD d).depth ≤ n
  cl : (pyD d).canLay0 = true
structure SmL (w n : Nat) (ds : List D) : Prop where
  pl : L8 ds = true
  sh : PyData.showableAll (K7 ds) = true
  nd : PyData.hasDictAll (K7 ds) = false
  lf : PyData.leavesShortAll 40 (K7 ds) = true
  wt : PyData.weightAll (K7 ds) ≤ w
  dp : PyData.depthAll (K7 ds) ≤ n
  cl : PyData.canLayAll0 (K7 ds) = true
theorem SmL.nil {w n : Nat} : SmL w n [] := ⟨rfl, rfl, rfl, rfl, Nat.zero_le _, Nat.zero_le _, rfl⟩
theorem SmL.cons {w v n : Nat} {d : D} {ds : List D} (a : Sm w n d) (b : SmL v n ds) {u : Nat} (h : w + 1 + v ≤ u := by lia) : SmL u n (d :: ds) := by
  refine ⟨?_, ?_, ?_, ?_, ?_, ?_, ?_⟩
  · simp only [L8, a.pl, b.pl]; rfl
  · simp only [K7, PyData.showableAll, a.sh, b.sh]; rfl
  · simp only [K7, PyData.hasDictAll, a.nd, b.nd]; rfl
  · simp only [K7, PyData.leavesShortAll, a.lf, b.lf]; rfl
  · have := a.wt; have := b.wt; simp only [K7, PyData.weightAll]; lia
  · have := a.dp; have := b.dp; simp only [K7, PyData.depthAll]; lia
  · simp only [K7, PyData.canLayAll0, a.cl, b.cl]; rfl
theorem Sm.tup {w n m : Nat} {ds : List D} (a : SmL w n ds) (h : n + 1 ≤ m := by lia) : Sm w m (.tup ds) := by
  refine ⟨by simpa [L3.plain] using a.pl, by simpa [pyD, PyData.showable] using a.sh, by simpa [pyD, PyData.hasDict] using a.nd, by simpa [pyD, PyData.leavesShort] using a.lf, by simpa [pyD, PyData.weight] using a.wt, ?_, by simpa [pyD, PyData.canLay0] using a.cl⟩
  have := a.dp
  simp only [pyD, PyData.depth]; lia
theorem Sm.mono {w v n m : Nat} {d : D} (a : Sm w n d) (h1 : w ≤ v := by lia) (h2 : n ≤ m := by lia) : Sm v m d := ⟨a.pl, a.sh, a.nd, a.lf, Nat.le_trans a.wt h1, Nat.le_trans a.dp h2, a.cl⟩
theorem SmL.mono {w v n m : Nat} {d : List D} (a : SmL w n d) (h1 : w ≤ v := by lia) (h2 : n ≤ m := by lia) : SmL v m d := ⟨a.pl, a.sh, a.nd, a.lf, Nat.le_trans a.wt h1, Nat.le_trans a.dp h2, a.cl⟩
theorem SmL.app {w v n : Nat} : ∀ {ds es : List D}, SmL w n ds → SmL v n es → SmL (w + v) n (ds ++ es)
  | [], es, a, b => b.mono
  | d :: ds, es, a, b => by
    have h1 : Sm (pyD d).weight n d := by
      have := a.pl; have h2 := a.sh; have h3 := a.nd; have h4 := a.lf; have h5 := a.dp; have h6 := a.cl
      simp only [L8, K7, PyData.showableAll, PyData.hasDictAll, PyData.leavesShortAll, PyData.depthAll, PyData.canLayAll0, Bool.and_eq_true, Bool.or_eq_false_iff] at *
      exact ⟨this.1, h2.1, h3.1, h4.1, Nat.le_refl _, by lia, h6.1⟩
    have h2 : SmL (w - (pyD d).weight - 1) n ds := by
      have := a.pl; have h2 := a.sh; have h3 := a.nd; have h4 := a.lf; have h5 := a.dp; have h6 := a.cl; have h7 := a.wt
      simp only [L8, K7, PyData.showableAll, PyData.hasDictAll, PyData.leavesShortAll, PyData.depthAll, PyData.canLayAll0, PyData.weightAll, Bool.and_eq_true, Bool.or_eq_false_iff] at *
      exact ⟨this.2, h2.2, h3.2, h4.2, by lia, by lia, h6.2⟩
    have h7 := a.wt
    simp only [K7, PyData.weightAll] at h7
    exact SmL.cons h1 (SmL.app h2 b)
theorem Sm.show {w n : Nat} {d : D} (a : Sm w n d) (hw : w ≤ 399000 := by lia) (hn : n ≤ 60 := by lia) : PH d := by
  refine ⟨a.pl, a.sh, a.nd, Nat.le_trans a.dp hn, ?_⟩
  have h1 := PyData.shown_le 40 (by decide) _ a.lf
  have h2 : (40 + 2) * (pyD d).weight ≤ 42 * 399000 := Nat.mul_le_mul (by decide) (Nat.le_trans a.wt hw)
  rw [sizeLine_eq]; lia
theorem Sm.str {x : Str} (h : (x.cps.toList.all fun c => decide (c < 1114112)) = true) (w : Nat) (hw : x.length ≤ w) : Sm w 0 (.str x) := by
  have hs : PyData.strOk x = true := by
    unfold PyData.strOk
    rw [List.all_eq_true] at h
    rw [Array.all_eq_true']
    intro c hc
    exact h c (Array.mem_toList_iff.mpr hc)
  refine ⟨rfl, by simpa [pyD, PyData.showable] using hs, rfl, ?_, ?_, by simp [pyD, PyData.depth], by simpa [pyD, PyData.canLay0] using hs⟩
  · simp only [pyD, PyData.leavesShort]
    rw [List.all_eq_true] at h ⊢
    intro c hc
    have := h c hc
    simp at this ⊢
    lia
  · simp only [pyD, PyData.weight]; exact hw
theorem Sm.nm {x : Str} (h : nm x) : Sm 8 0 (.str x) := Sm.str (by
  rw [List.all_eq_true]
  intro c hc
  have := h.1 c hc
  simp; lia) 8 h.2.2
theorem OM {n : Int} (h : bnd n) : (PyData.shown (.int n)).length ≤ 40 := by
  have hn : n.natAbs < 10 ^ 30 := by unfold bnd DQ at h; lia
  have e := int_text_length_le10 (k := 30) (by decide) hn
  show (Str.ofString (toString n)).length ≤ 40
  rw [ofString_length]; lia
theorem Sm.int {n : Int} (h : bnd n) : Sm 101 0 (.int n) := by
  have hn : n.natAbs < 2 ^ 100 := by unfold bnd DQ at h; lia
  have h2 : n.natAbs.log2 < 100 := by
    by_cases h0 : n.natAbs = 0
    · rw [h0]; decide +kernel
    · exact (Nat.log2_lt h0).mpr hn
  refine ⟨rfl, by simp [pyD, PyData.showable]; lia, rfl, ?_, ?_, by simp [pyD, PyData.depth], by simp [pyD, PyData.canLay0]⟩
  · simp only [pyD, PyData.leavesShort, decide_eq_true_eq]; exact OM h
  · simp only [pyD, PyData.weight]; split <;> lia
theorem AX2 {s : Str} (h : sgn s) : Sm 1 0 (.str s) := by
  rcases h with rfl | rfl | rfl | rfl | rfl <;> exact Sm.str (by decide +kernel) 1 (by decide +kernel)
mutual
theorem SH [Pool] : ∀ (e : Ex), wf e → Sm (130 * nd e) (2 * dp e) (eD e)
  | .none, _ => Sm.tup (w := 130) (n := 0) (SmL.cons (Sm.str (by decide +kernel) 4 (by decide +kernel)) SmL.nil (v := 0)) (by simp [dp])
  | .num n, h => Sm.tup (w := 130) (n := 0) (SmL.cons (Sm.str (by decide +kernel) 6 (by decide +kernel)) (SmL.cons (Sm.int h) SmL.nil (v := 0) (u := 102))) (by simp [dp])
  | .var x, h => Sm.tup (w := 130) (n := 0) (SmL.cons (Sm.str (by decide +kernel) 3 (by decide +kernel)) (SmL.cons (Sm.nm h.1) SmL.nil (v := 0) (u := 102))) (by simp [dp])
  | .op s a b, h => by
    have ha := SH a h.2.1
    have hb := SH b h.2.2
    have e1 : nd (.op s a b) = 1 + nd a + nd b := rfl
    have e2 : dp (.op s a b) = 1 + max (dp a) (dp b) := rfl
    rw [e1, e2]
    exact Sm.tup (n := 2 * max (dp a) (dp b)) (SmL.cons ((Sm.str (by decide +kernel) 2 (by decide +kernel)).mono (v := 2)) (SmL.cons ((AX2 h.1).mono (v := 1)) (SmL.cons (ha.mono (v := 130 * nd a)) (SmL.cons (hb.mono (v := 130 * nd b)) SmL.nil (v := 0) (u := 130 * nd b + 1)) (u := 130 * nd a + 130 * nd b + 2)) (u := 130 * nd a + 130 * nd b + 4)))
  | .make r as, h => by
    have ha := AD6 as h.2.2
    have hl := h.2.1
    have e1 : nd (.make r as) = 1 + nds as := rfl
    have e2 : dp (.make r as) = 1 + dps as := rfl
    rw [e1, e2]
    exact Sm.tup (n := 2 * dps as + 1) (SmL.cons ((Sm.str (by decide +kernel) 4 (by decide +kernel)).mono (v := 4)) (SmL.cons ((Sm.nm h.1).mono (v := 8)) (SmL.cons (Sm.tup (m := 2 * dps as + 1) ha) SmL.nil (v := 0) (u := 130 * nds as + exl as + 1)) (u := 130 * nds as + exl as + 10)))
theorem AD6 [Pool] : ∀ (as : Exs), wfs as → SmL (130 * nds as + exl as) (2 * dps as) (eDs as)
  | .nil, _ => SmL.nil
  | .cons a r, h => by
    have ha := SH a h.1
    have hr := AD6 r h.2
    have e1 : nds (.cons a r) = nd a + nds r := rfl
    have e2 : dps (.cons a r) = max (dp a) (dps r) := rfl
    have e3 : exl (.cons a r) = exl r + 1 := rfl
    rw [e1, e2, e3]
    exact SmL.cons (ha.mono (v := 130 * nd a)) (hr.mono (v := 130 * nds r + exl r))
end
theorem X0 [Pool] {d : D} (h : DT d) : Sm 1170 8 d := by
  obtain ⟨e, rfl, h1, h2, h3⟩ := h
  exact (SH e h1).mono
theorem AL6 [Pool] {h : Str} {r : List D} (hl : FI h r) : Sm 2500 9 (.tup (.str h :: r)) := by
  rcases hl with ⟨h1 | h1 | h1, x, e, rfl, hx, he⟩ | ⟨h1 | h1 | h1, e, rfl, he⟩ | ⟨h1, x, y, g, e, rfl, hx, hy, hg, he⟩ | ⟨h1, x, y, g, w, e, rfl, hx, hy, hw, hg, he⟩ | ⟨h1, rfl⟩ | ⟨h1, w, e, rfl, hw, he⟩
  · subst h1
    exact Sm.tup (n := 8) (SmL.cons ((Sm.str (by decide +kernel) 5 (by decide +kernel)).mono (v := 5)) (SmL.cons ((Sm.nm hx.1).mono (v := 8)) (SmL.cons (X0 he) SmL.nil (v := 0) (u := 1171)) (u := 1180)))
  · subst h1
    exact Sm.tup (n := 8) (SmL.cons ((Sm.str (by decide +kernel) 5 (by decide +kernel)).mono (v := 5)) (SmL.cons ((Sm.nm hx.1).mono (v := 8)) (SmL.cons (X0 he) SmL.nil (v := 0) (u := 1171)) (u := 1180)))
  · subst h1
    exact Sm.tup (n := 8) (SmL.cons ((Sm.str (by decide +kernel) 5 (by decide +kernel)).mono (v := 5)) (SmL.cons ((Sm.nm hx.1).mono (v := 8)) (SmL.cons (X0 he) SmL.nil (v := 0) (u := 1171)) (u := 1180)))
  · subst h1
    exact Sm.tup (n := 8) (SmL.cons ((Sm.str (by decide +kernel) 5 (by decide +kernel)).mono (v := 5)) (SmL.cons (X0 he) SmL.nil (v := 0) (u := 1171)))
  · subst h1
    exact Sm.tup (n := 8) (SmL.cons ((Sm.str (by decide +kernel) 5 (by decide +kernel)).mono (v := 5)) (SmL.cons (X0 he) SmL.nil (v := 0) (u := 1171)))
  · subst h1
    exact Sm.tup (n := 8) (SmL.cons ((Sm.str (by decide +kernel) 5 (by decide +kernel)).mono (v := 5)) (SmL.cons (X0 he) SmL.nil (v := 0) (u := 1171)))
  · subst h1
    exact Sm.tup (n := 8) (SmL.cons ((Sm.str (by decide +kernel) 5 (by decide +kernel)).mono (v := 5)) (SmL.cons ((Sm.nm hx.1).mono (v := 8)) (SmL.cons ((Sm.nm hy.1).mono (v := 8)) (SmL.cons (X0 hg) (SmL.cons (X0 he) SmL.nil (v := 0) (u := 1171)) (u := 2342)) (u := 2351)) (u := 2360)))
  · subst h1
    exact Sm.tup (n := 8) (SmL.cons ((Sm.str (by decide +kernel) 5 (by decide +kernel)).mono (v := 5)) (SmL.cons ((Sm.nm hx.1).mono (v := 8)) (SmL.cons ((Sm.nm hy.1).mono (v := 8)) (SmL.cons (X0 hg) (SmL.cons ((Sm.nm hw).mono (v := 8)) (SmL.cons (X0 he) SmL.nil (v := 0) (u := 1171)) (u := 1180)) (u := 2351)) (u := 2360)) (u := 2369)))
  · subst h1
    exact Sm.tup (n := 8) (SmL.cons ((Sm.str (by decide +kernel) 5 (by decide +kernel)).mono (v := 5)) SmL.nil (v := 0))
  · subst h1
    exact Sm.tup (n := 8) (SmL.cons ((Sm.str (by decide +kernel) 5 (by decide +kernel)).mono (v := 5)) (SmL.cons ((Sm.nm hw).mono (v := 8)) (SmL.cons (X0 he) SmL.nil (v := 0) (u := 1171)) (u := 1180)))
theorem YR : ∀ (cs : List (Str × Str)) (ts : List D) (w n : Nat), (∀ c ∈ cs, nm c.1 ∧ nm c.2) → SmL w n ts → SmL (w + 30 * cs.length) (n + 1) (E6 cs ts)
  | [], ts, w, n, _, _ => by cases ts <;> exact SmL.nil
  | (a, b) :: cs, [], w, n, _, _ => SmL.nil
  | (a, b) :: cs, t :: ts, w, n, hc, h => by
    have h1 : Sm (pyD t).weight n t := by
      have := h.pl; have h2 := h.sh; have h3 := h.nd; have h4 := h.lf; have h5 := h.dp; have h6 := h.cl
      simp only [L8, K7, PyData.showableAll, PyData.hasDictAll, PyData.leavesShortAll, PyData.depthAll, PyData.canLayAll0, Bool.and_eq_true, Bool.or_eq_false_iff] at *
      exact ⟨this.1, h2.1, h3.1, h4.1, Nat.le_refl _, by lia, h6.1⟩
    have h2 : SmL (w - (pyD t).weight - 1) n ts := by
      have := h.pl; have h2 := h.sh; have h3 := h.nd; have h4 := h.lf; have h5 := h.dp; have h6 := h.cl; have h7 := h.wt
      simp only [L8, K7, PyData.showableAll, PyData.hasDictAll, PyData.leavesShortAll, PyData.depthAll, PyData.canLayAll0, PyData.weightAll, Bool.and_eq_true, Bool.or_eq_false_iff] at *
      exact ⟨this.2, h2.2, h3.2, h4.2, by lia, by lia, h6.2⟩
    have h7 := h.wt
    simp only [K7, PyData.weightAll] at h7
    have h8 := YR cs ts _ n (fun c hc' => hc c (List.mem_cons_of_mem _ hc')) h2
    obtain ⟨ha, hb⟩ := hc (a, b) List.mem_cons_self
    show SmL _ _ (.tup [.str a, .str b, t] :: E6 cs ts)
    exact SmL.cons (Sm.tup (w := (pyD t).weight + 19) (n := n) (SmL.cons ((Sm.nm ha).mono (v := 8)) (SmL.cons ((Sm.nm hb).mono (v := 8)) (SmL.cons h1 SmL.nil (v := 0) (u := (pyD t).weight + 1)) (u := (pyD t).weight + 10)))) h8 (by simp only [List.length_cons]; lia)
def U8 : List Blk → Nat
  | [] => 0
  | b :: l => 2600 * C6 b + 1 + U8 l
theorem NA : ∀ (l k : List Blk), U8 (l ++ k) = U8 l + U8 k
  | [], k => by simp [U8]
  | b :: l, k => by
    show 2600 * C6 b + 1 + U8 (l ++ k) = 2600 * C6 b + 1 + U8 l + U8 k
    rw [NA l k]; lia
theorem IV : ∀ bs : Bls, U8 (L0 bs) = 2600 * G3 bs + bsl bs
  | .nil => rfl
  | .cons b r => by
    show 2600 * C6 b + 1 + U8 (L0 r) = 2600 * (C6 b + G3 r) + (bsl r + 1)
    rw [IV r]; lia
theorem EF {n : Nat} : ∀ (l : List Blk), (∀ b ∈ l, SmL (2600 * C6 b) n (dB b)) → SmL (U8 l) (n + 1) (l.map tB)
  | [], _ => SmL.nil
  | b :: l, h => by
    show SmL (2600 * C6 b + 1 + U8 l) _ (tB b :: l.map tB)
    exact SmL.cons (Sm.tup (m := n + 1) (h b List.mem_cons_self)) (EF l fun x hx => h x (List.mem_cons_of_mem _ hx))
mutual
theorem AZ6 [Pool] : ∀ (d : Deed), okD d → Sm (2600 * G8 d - 50) (10 + 4 * dpD d) (dD d)
  | .mk h bs, hk => by
    have hall := RR bs hk.2
    have hs := IV bs
    have hc : G8 (.mk h bs) = 1 + G3 bs := rfl
    have hd : dpD (.mk h bs) = Z5 bs := rfl
    have hall2 : ∀ b ∈ L0 bs, SmL (2600 * C6 b) (6 + 4 * Z5 bs) (dB b) := fun b hb => (hall b hb).mono (h2 := by have := (W9 bs b hb).2.1; lia)
    have hk1 := hk.1
    rw [hc, hd]
    show Sm _ _ (headD h (dTs bs))
    rw [CY]
    have hlen := CQ bs
    cases h with
    | leaf h r => exact (AL6 hk1.2).mono
    | ife e =>
      have h0 := hk1.1
      exact Sm.tup (n := 8 + 4 * Z5 bs) (SmL.cons ((Sm.str (by decide +kernel) 2 (by decide +kernel)).mono (v := 2)) (SmL.cons ((X0 hk1.2).mono (v := 1170)) ((EF _ hall2).mono (v := U8 (L0 bs))) (u := 1171 + U8 (L0 bs))))
    | whl e =>
      have h0 := hk1.1
      exact Sm.tup (n := 8 + 4 * Z5 bs) (SmL.cons ((Sm.str (by decide +kernel) 5 (by decide +kernel)).mono (v := 5)) (SmL.cons ((X0 hk1.2).mono (v := 1170)) ((EF _ hall2).mono (v := U8 (L0 bs))) (u := 1171 + U8 (L0 bs))))
    | tr cs =>
      obtain ⟨h0, h1, h2⟩ := hk1
      obtain ⟨b0, ms, l, he, hml⟩ : ∃ b0 ms l, L0 bs = b0 :: (ms ++ [l]) ∧ ms.length = cs.length := by
        match e : L0 bs with
        | [] => rw [e] at hlen; simp at hlen; lia
        | b0 :: r =>
          rw [e] at hlen
          simp only [List.length_cons] at hlen
          have hne : r ≠ [] := by intro z; rw [z] at hlen; simp at hlen; lia
          exact ⟨b0, r.dropLast, r.getLast hne, by rw [List.dropLast_concat_getLast], by rw [List.length_dropLast]; lia⟩
      rw [he] at hall2 hs ⊢
      have ex : headD (.tr cs) ((b0 :: (ms ++ [l])).map tB) = .tup [.str "try", tB b0, .tup (E6 cs (ms.map tB)), tB l] := by
        show D.tup [.str "try", tB b0, .tup (E6 cs ((ms ++ [l]).map tB)), ((b0 :: (ms ++ [l])).map tB).getD (cs.length + 1) (.tup [])] = _
        rw [List.map_append, GE cs (ms.map tB) _ (by rw [List.length_map]; lia)]
        have hg : ((b0 :: (ms ++ [l])).map tB).getD (cs.length + 1) (.tup []) = tB l := by
          rw [← hml]
          simp [List.getD]
        rw [hg]
      rw [ex]
      have hb0 := hall2 b0 List.mem_cons_self
      have hl := hall2 l (by simp)
      have hms := EF ms fun b hb => hall2 b (by simp [hb])
      have hcat := YR cs (ms.map tB) _ _ (fun c hc => ⟨(h2 c hc).1, (h2 c hc).2.1⟩) hms
      have hsum : U8 (b0 :: (ms ++ [l])) = 2600 * C6 b0 + 1 + (U8 ms + (2600 * C6 l + 1 + 0)) := by
        show 2600 * C6 b0 + 1 + U8 (ms ++ [l]) = _
        rw [NA]; rfl
      exact Sm.tup (n := 9 + 4 * Z5 bs) (SmL.cons ((Sm.str (by decide +kernel) 3 (by decide +kernel)).mono (v := 3)) (SmL.cons (Sm.tup (w := 2600 * C6 b0) (m := 9 + 4 * Z5 bs) hb0) (SmL.cons (Sm.tup (w := U8 ms + 30 * cs.length) (m := 9 + 4 * Z5 bs) hcat) (SmL.cons (Sm.tup (w := 2600 * C6 l) (m := 9 + 4 * Z5 bs) hl) SmL.nil (v := 0) (u := 2600 * C6 l + 1)) (u := U8 ms + 30 * cs.length + 2600 * C6 l + 2)) (u := 2600 * C6 b0 + U8 ms + 30 * cs.length + 2600 * C6 l + 3)))
theorem XG [Pool] : ∀ (b : Blk), okB b → SmL (2600 * C6 b) (10 + 4 * dpB b) (dB b)
  | .nil, _ => SmL.nil
  | .cons d r, h => by
    have h1 := AZ6 d h.1
    have h2 := XG r h.2
    have hc : C6 (.cons d r) = G8 d + C6 r := rfl
    have hd : dpB (.cons d r) = max (dpD d) (dpB r) := rfl
    have hp := MK d
    rw [hc, hd]
    show SmL _ _ (dD d :: dB r)
    exact SmL.cons (h1.mono (v := 2600 * G8 d - 50)) (h2.mono (v := 2600 * C6 r))
theorem RR [Pool] : ∀ (bs : Bls), VI bs → ∀ b ∈ L0 bs, SmL (2600 * C6 b) (10 + 4 * dpB b) (dB b)
  | .nil, _, b, hb => by cases hb
  | .cons c r, h, b, hb => by
    rcases List.mem_cons.mp hb with e | hb
    · rw [e]; exact XG c h.1
    · exact RR r h.2 b hb
end
theorem QK : ∀ (ys : List Str), (∀ y ∈ ys, nm y) → SmL (9 * ys.length) 0 (ys.map D.str)
  | [], _ => SmL.nil
  | y :: ys, h => by
    show SmL _ _ (.str y :: ys.map D.str)
    exact SmL.cons (Sm.nm (h y List.mem_cons_self)) (QK ys fun x hx => h x (List.mem_cons_of_mem _ hx)) (by simp only [List.length_cons]; lia)
theorem AL2 {deeds : Nat} {r : Rl} (h : rOk deeds r) : Sm (2600 * deeds + 100) 28 (rD r) := by
  obtain ⟨h1, h2, h3, ⟨P, _, h4⟩, h5, h6, h7⟩ := h
  have hp := QK r.pars h3
  have hb := XG r.blk h4
  exact Sm.tup (n := 27) (SmL.cons ((Sm.nm h1).mono (v := 8)) (SmL.cons (Sm.tup (w := 27) (m := 27) (hp.mono (m := 26) (h1 := by lia))) (SmL.cons (Sm.tup (w := 2600 * deeds) (m := 27) (hb.mono (m := 26))) SmL.nil (v := 0) (u := 2600 * deeds + 1)) (u := 2600 * deeds + 30)))
theorem TN {deeds : Nat} : ∀ (bk : List Rl), (∀ r ∈ bk, rOk deeds r) → SmL ((2600 * deeds + 101) * bk.length) 28 (bk.map rD)
  | [], _ => SmL.nil
  | r :: bk, h => by
    have h1 := AL2 (h r List.mem_cons_self)
    have h2 := TN bk fun x hx => h x (List.mem_cons_of_mem _ hx)
    show SmL _ _ (rD r :: bk.map rD)
    refine SmL.cons h1 h2 ?_
    rw [List.length_cons, Nat.mul_add]; lia
end PK
namespace L3
open PySem PySem.Spec PyProof.Rows L2
theorem HC (it t : Addr) (i : Nat) (items : Array Value) (x : Value) : Meets (Builtin.«tuple_iterator.__next__» { pos := [.ref it] }) fun A R s =>
    s.heap.IsTupleIter it t i ∧ s.heap.IsTuple t items ∧ items[i]? = some x ∧ ∀ h', h'.IsTupleIter it t (i + 1) → Heap.SameBut it s.heap h' → R (.ok (.ret x)) { s with heap := h' } := by
  rintro prog w A R s ⟨⟨⟨cls, dct, data, sl⟩, ho, hc, hd⟩, ⟨ot, hto, htc, n, htd⟩, hx, k⟩
  simp only at hc hd
  subst hc hd
  refine wpAny_bind (wpAny_pure ?_)
  refine wpAny_bind (wpAny_field ho rfl rfl ?_)
  rw [if_neg (by simp)]
  refine wpAny_bind (wpAny_field ho rfl rfl ?_)
  refine wpAny_bind (wpAny_seqItems hto htd ?_)
  have e : (↑i : Int).toNat = i := by simp
  simp only [e, hx]
  refine wpAny_bind (wpAny_setField ho rfl (by simp) ?_)
  refine wpAny_pure (k _ ?_ ?_)
  · exact ⟨_, Heap.get?_update_self _ ho rfl, rfl, rfl⟩
  · exact ⟨by simp [Heap.update], fun b hb => Heap.get?_update_other _ _ (Ne.symm hb)⟩
theorem LZ (it t : Addr) (i : Nat) (items : Array Value) : Meets (Builtin.«tuple_iterator.__next__» { pos := [.ref it] }) fun A R s =>
    A.handled = none ∧ s.heap.IsTupleIter it t i ∧ s.heap.IsTuple t items ∧ items[i]? = none ∧ ∀ h' e, Heap.ExtBut it s.heap h' → (∃ o, h'.get? e = some o ∧ o.cls = .type "StopIteration") → R (.error (.ref e)) { s with heap := h' } := by
  rintro prog w A R s ⟨hA, ⟨⟨cls, dct, data, sl⟩, ho, hc, hd⟩, ⟨ot, hto, htc, n, htd⟩, hx, k⟩
  simp only at hc hd
  subst hc hd
  refine wpAny_bind (wpAny_pure ?_)
  refine wpAny_bind (wpAny_field ho rfl rfl ?_)
  rw [if_neg (by simp)]
  refine wpAny_bind (wpAny_field ho rfl rfl ?_)
  refine wpAny_bind (wpAny_seqItems hto htd ?_)
  have e : (↑i : Int).toNat = i := by simp
  simp only [e, hx]
  refine wpAny_bind (wpAny_rule ?_)
  refine wpAny_bind (wpAny_setField ho rfl (by simp) ?_)
  unfold Builtin.SmallTypes.stopIteration
  refine wpAny_bind (wpAny_bind (wpAny_newObj_type ?_))
  refine wpAny_bind (wpAny_bind (wpAny_pure (wpAny_pure ?_)))
  refine wpAny_newObj_type ?_ (by first | decide | (unfold sizeOk; simp [ownMembersOf, sizeLine_eq]))
  refine wpAny_raiseNew_none hA (k _ _ (fun b ob hb hob => ?_) ⟨_, Heap.get?_push_size _ rfl, rfl⟩)
  exact Heap.get?_push_of_some _ (Heap.get?_push_of_some _ ((Heap.get?_update_other _ _ (Ne.symm hb)).trans hob))
theorem U6 {prog : Program} {w : World} {A : Around} {E : Value → Shared → Prop} {s : Shared} {it t : Addr} {i : Nat} {items : Array Value} {x : Value} {Q : Value → Shared → Prop} (hi : s.heap.IsTupleIter it t i) (ht : s.heap.IsTuple t items) (hx : items[i]? = some x)
    (k : ∀ h', h'.IsTupleIter it t (i + 1) → Heap.SameBut it s.heap h' → Q x { s with heap := h' }) : wpAny (model prog w) A (Builtin.SmallTypes.nextOf (.ref it)) Q E s := by
  obtain ⟨o, ho, hc, hd⟩ := id hi
  refine wpAny_bind (wpAny_callSpecial?_slot ⟨o, ho, hc⟩ slot_tupleiter_next ?_)
  refine call_meets slot_tupleiter_next ⟨o, ho, hc⟩ entry_tupleiter_next (F.args_tuple_iterator_next_1 _) (HC it t i items x) ⟨hi, ht, hx, fun h' a b => ?_⟩
  exact wpAny_pure (k h' a b)
theorem BC {prog : Program} {w : World} {A : Around} {E : Value → Shared → Prop} {s : Shared} {it t : Addr} {i : Nat} {items : Array Value} {Q : Value → Shared → Prop} (hA : A.handled = none) (hi : s.heap.IsTupleIter it t i) (ht : s.heap.IsTuple t items) (hx : items[i]? = none)
    (k : ∀ h' e, Heap.ExtBut it s.heap h' → (∃ o, h'.get? e = some o ∧ o.cls = .type "StopIteration") → E (.ref e) { s with heap := h' }) : wpAny (model prog w) A (Builtin.SmallTypes.nextOf (.ref it)) Q E s := by
  obtain ⟨o, ho, hc, hd⟩ := id hi
  refine wpAny_bind (wpAny_callSpecial?_slot ⟨o, ho, hc⟩ slot_tupleiter_next ?_)
  exact call_meets slot_tupleiter_next ⟨o, ho, hc⟩ entry_tupleiter_next (F.args_tuple_iterator_next_1 _) (LZ it t i items) ⟨hA, hi, ht, hx, fun h' e a b => k h' e a b⟩
theorem WB {prog : Program} {w : World} {A : Around} {E : Value → Shared → Prop} {s : Shared} {z TI TO i1 i2 l1 l2 : Addr} {k : Nat} {xs ys : Array Value} {x y a b : Value} {Q : Value → Shared → Prop}
    (ap : ZipApart z TI TO i1 i2 l1 l2) (hz : IsZip s.heap z TI TO .none) (hI : IsPair s.heap TI (.ref i1) (.ref i2)) (hO : IsPair s.heap TO a b)
    (h1 : s.heap.IsTupleIter i1 l1 k) (h2 : s.heap.IsTupleIter i2 l2 k) (t1 : s.heap.IsTuple l1 xs) (t2 : s.heap.IsTuple l2 ys) (hx : xs[k]? = some x) (hy : ys[k]? = some y)
    (q : ∀ h', IsZip h' z TI TO (rawInt ↑s.heap.objs.size) → IsPair h' TO x y → h'.IsTupleIter i1 l1 (k + 1) → h'.IsTupleIter i2 l2 (k + 1) → IsPair h' s.heap.objs.size x y → h'.objs.size = s.heap.objs.size + 1 →
      (∀ c o, c ≠ z → c ≠ TO → c ≠ i1 → c ≠ i2 → s.heap.get? c = some o → h'.get? c = some o) → Q (.ref s.heap.objs.size) { s with heap := h' }) :
    wpAny (model prog w) A (Builtin.«zip.__next__» { pos := [.ref z] }) (fun fin s' => ∃ v, fin = .done (.ret v) ∧ Q v s') E s := by
  refine wpAny_bind (wpAny_pure ?_)
  try dsimp only
  refine wpAny_bind (wpAny_field hz rfl rfl ?_)
  try dsimp only
  refine wpAny_bind (wpAny_field hz rfl rfl ?_)
  refine wpAny_bind (wpAny_seqItems hI rfl ?_)
  try dsimp only
  rw [if_neg (by simp)]
  refine wpAny_bind (wpAny_bind (wpAny_field hz rfl rfl ?_))
  refine wpAny_pure ?_
  rw [if_pos rfl]
  refine wpAny_bind (wpAny_rule ?_)
  refine wpAny_bind (wpAny_field hz rfl rfl ?_)
  try dsimp only
  refine wpAny_bind (wpAny_setField hz rfl (by simp) ?_)
  have zip2 : [Value.ref i1, Value.ref i2].zipIdx = [(Value.ref i1, 0), (Value.ref i2, 1)] := rfl
  have hz1 := Heap.get?_update_self (h := s.heap) (a := z) (Obj.mapFields fun x => x.setIfInBounds 0 Value.ellipsis) hz rfl
  have o1 : ∀ c, c ≠ z → (s.heap.update z (Obj.mapFields fun x => x.setIfInBounds 0 Value.ellipsis)).get? c = s.heap.get? c := fun c hc => Heap.get?_update_other _ _ (Ne.symm hc)
  have sz1 : (s.heap.update z (Obj.mapFields fun x => x.setIfInBounds 0 Value.ellipsis)).objs.size = s.heap.objs.size := by simp [Heap.update]
  generalize s.heap.update z (Obj.mapFields fun x => x.setIfInBounds 0 Value.ellipsis) = g1 at hz1 o1 sz1
  have kI : ∀ {g : Heap} {it t n}, g.get? it = s.heap.get? it → s.heap.IsTupleIter it t n → g.IsTupleIter it t n := fun e ⟨o, ho, r⟩ => ⟨o, e.trans ho, r⟩
  have kT : ∀ {g : Heap} {t its}, g.get? t = s.heap.get? t → s.heap.IsTuple t its → g.IsTuple t its := fun e ⟨o, ho, r⟩ => ⟨o, e.trans ho, r⟩
  rw [zip2, List.forIn_cons]
  refine wpAny_bind (wpAny_bind (wpAny_bind (wpAny_onRaise ?_)))
  refine wpAny_bind (m := Builtin.SmallTypes.nextOf (.ref i1)) (U6 (kI (o1 _ ap.i1z) h1) (kT (o1 _ ap.l1z) t1) hx fun g2 hi2 sb2 => ?_)
  refine wpAny_pure ?_
  have hO2 : IsPair g2 TO a b := ((sb2.2 _ ap.TOi1).trans (o1 _ ap.TOz)).trans hO
  refine wpAny_bind (wpAny_seqItems hO2 rfl ?_)
  refine wpAny_bind (wpAny_updateSeq_pair hO2 fun g3 hO3 sb3 => ?_)
  refine wpAny_bind (wpAny_letGo ?_)
  refine wpAny_pure ?_
  show wpAny _ _ (forIn [(Value.ref i2, 1)] _ _) _ _ _
  rw [List.forIn_cons]
  have hO3 : IsPair g3 TO x b := hO3
  have e3 : ∀ c, c ≠ z → c ≠ i1 → c ≠ TO → g3.get? c = s.heap.get? c := fun c h1 h2 h3 => (sb3.2 c h3).trans ((sb2.2 c h2).trans (o1 c h1))
  refine wpAny_bind (wpAny_bind (wpAny_onRaise ?_))
  refine wpAny_bind (m := Builtin.SmallTypes.nextOf (.ref i2)) (U6 (kI (e3 _ ap.i2z (Ne.symm ap.i12) (Ne.symm ap.TOi2)) h2) (kT (e3 _ ap.l2z ap.l2i1 ap.l2TO) t2) hy fun g4 hi4 sb4 => ?_)
  refine wpAny_pure ?_
  have hO4 : IsPair g4 TO x b := (sb4.2 _ ap.TOi2).trans hO3
  refine wpAny_bind (wpAny_seqItems hO4 rfl ?_)
  refine wpAny_bind (wpAny_updateSeq_pair hO4 fun g5 hO5 sb5 => ?_)
  refine wpAny_bind (wpAny_letGo ?_)
  refine wpAny_pure ?_
  show wpAny _ _ (forIn [] _ _) _ _ _
  rw [List.forIn_nil]
  refine wpAny_pure ?_
  have hO5 : IsPair g5 TO x y := hO5
  refine wpAny_bind (wpAny_seqItems hO5 rfl ?_)
  refine wpAny_bind (wpAny_newObj_type (data := .seq #[x, y]) ?_)
  have hz5 : g5.get? z = some { cls := .type "zip", data := .fields #[Value.ellipsis, Value.bool false, Value.bool false, Value.ref TI, Value.ref TO] } := (sb5.2 z (Ne.symm ap.TOz)).trans ((sb4.2 z (Ne.symm ap.i2z)).trans ((sb3.2 z (Ne.symm ap.TOz)).trans ((sb2.2 z (Ne.symm ap.i1z)).trans hz1)))
  have sz5 : g5.objs.size = s.heap.objs.size := sb5.1.trans (sb4.1.trans (sb3.1.trans (sb2.1.trans sz1)))
  have e5 : ∀ c, c ≠ z → c ≠ i1 → c ≠ TO → c ≠ i2 → g5.get? c = s.heap.get? c := fun c h1 h2 h3 h4 => (sb5.2 c h3).trans ((sb4.2 c h4).trans (e3 c h1 h2 h3))
  show wpAny _ _ _ _ _ { s with heap := g5.push { cls := .type "tuple", data := .seq #[x, y] } }
  have hz6 : (g5.push { cls := .type "tuple", data := .seq #[x, y] }).get? z = _ := Heap.get?_push_of_some _ hz5
  refine wpAny_bind (wpAny_bind (wpAny_setField hz6 rfl (by simp) ?_))
  have hz7 := Heap.get?_update_self (h := g5.push { cls := .type "tuple", data := .seq #[x, y] }) (a := z) (Obj.mapFields fun v => v.setIfInBounds 0 (rawInt (g5.objs.size : Nat))) hz6 rfl
  refine wpAny_setField hz7 rfl (by simp [Obj.mapFields]) ?_
  have hz8 := Heap.get?_update_self (h := (g5.push { cls := .type "tuple", data := .seq #[x, y] }).update z (Obj.mapFields fun v => v.setIfInBounds 0 (rawInt (g5.objs.size : Nat)))) (a := z) (Obj.mapFields fun v => v.setIfInBounds 1 (.bool false)) hz7 rfl
  have e8 : ∀ c, c ≠ z → (((g5.push { cls := .type "tuple", data := .seq #[x, y] }).update z (Obj.mapFields fun v => v.setIfInBounds 0 (rawInt (g5.objs.size : Nat)))).update z (Obj.mapFields fun v => v.setIfInBounds 1 (.bool false))).get? c = (g5.push { cls := .type "tuple", data := .seq #[x, y] }).get? c := fun c hc => (Heap.get?_update_other _ _ (Ne.symm hc)).trans (Heap.get?_update_other _ _ (Ne.symm hc))
  have sz8 : (((g5.push { cls := .type "tuple", data := .seq #[x, y] }).update z (Obj.mapFields fun v => v.setIfInBounds 0 (rawInt (g5.objs.size : Nat)))).update z (Obj.mapFields fun v => v.setIfInBounds 1 (.bool false))).objs.size = g5.objs.size + 1 := by simp [Heap.update, Heap.push]
  show wpAny _ _ (pure (PySem.Fin.done (.ret (.ref g5.objs.size)))) _ _ { s with heap := ((g5.push { cls := .type "tuple", data := .seq #[x, y] }).update z (Obj.mapFields fun v => v.setIfInBounds 0 (rawInt (g5.objs.size : Nat)))).update z (Obj.mapFields fun v => v.setIfInBounds 1 (.bool false)) }
  refine wpAny_pure ⟨_, rfl, ?_⟩
  generalize ((g5.push { cls := .type "tuple", data := .seq #[x, y] }).update z (Obj.mapFields fun v => v.setIfInBounds 0 (rawInt (g5.objs.size : Nat)))).update z (Obj.mapFields fun v => v.setIfInBounds 1 (.bool false)) = g8 at hz8 e8 sz8 ⊢
  have zl := Heap.lt_size hz5
  rw [sz5]
  have p8 : ∀ c o, c ≠ z → g5.get? c = some o → g8.get? c = some o := fun c o hc e => (e8 c hc).trans (Heap.get?_push_of_some _ e)
  have i5 : g5.IsTupleIter i1 l1 (k + 1) := by
    obtain ⟨o, ho, r⟩ := hi2
    exact ⟨o, (sb5.2 _ (Ne.symm ap.TOi1)).trans ((sb4.2 _ ap.i12).trans ((sb3.2 _ (Ne.symm ap.TOi1)).trans ho)), r⟩
  have j5 : g5.IsTupleIter i2 l2 (k + 1) := by
    obtain ⟨o, ho, r⟩ := hi4
    exact ⟨o, (sb5.2 _ (Ne.symm ap.TOi2)).trans ho, r⟩
  refine q g8 (by rw [sz5] at hz8; exact hz8) (p8 _ _ ap.TOz hO5) ?_ ?_ ?_ (by rw [sz8, sz5]) fun c o h1 h2 h3 h4 e => p8 c o h1 ((e5 c h1 h3 h2 h4).trans e)
  · obtain ⟨o, ho, r⟩ := i5
    exact ⟨o, p8 _ _ ap.i1z ho, r⟩
  · obtain ⟨o, ho, r⟩ := j5
    exact ⟨o, p8 _ _ ap.i2z ho, r⟩
  · show g8.get? s.heap.objs.size = _
    rw [e8 _ (by rw [← sz5]; exact Nat.ne_of_gt zl), ← sz5]
    exact Heap.get?_push_size _ rfl
theorem AE2 {prog : Program} {w : World} {A : Around} {E : Value → Shared → Prop} {s : Shared} {z TI TO i1 i2 l1 l2 : Addr} {k : Nat} {xs ys : Array Value} {a b : Value} {Q : PySem.Fin → Shared → Prop}
    (hA : A.handled = none) (ap : ZipApart z TI TO i1 i2 l1 l2) (hz : IsZip s.heap z TI TO .none) (hI : IsPair s.heap TI (.ref i1) (.ref i2)) (hO : IsPair s.heap TO a b)
    (h1 : s.heap.IsTupleIter i1 l1 k) (h2 : s.heap.IsTupleIter i2 l2 k) (t1 : s.heap.IsTuple l1 xs) (t2 : s.heap.IsTuple l2 ys) (hx : xs[k]? = none ∨ ys[k]? = none)
    (q : ∀ h' e, (∀ c o, c ≠ z → c ≠ TO → c ≠ i1 → c ≠ i2 → s.heap.get? c = some o → h'.get? c = some o) → (∃ o, h'.get? e = some o ∧ o.cls = .type "StopIteration") → E (.ref e) { s with heap := h' }) :
    wpAny (model prog w) A (Builtin.«zip.__next__» { pos := [.ref z] }) Q E s := by
  refine wpAny_bind (wpAny_pure ?_)
  refine wpAny_bind (wpAny_field hz rfl rfl ?_)
  try dsimp only
  refine wpAny_bind (wpAny_field hz rfl rfl ?_)
  refine wpAny_bind (wpAny_seqItems hI rfl ?_)
  try dsimp only
  rw [if_neg (by simp)]
  refine wpAny_bind (wpAny_bind (wpAny_field hz rfl rfl ?_))
  refine wpAny_pure ?_
  rw [if_pos rfl]
  refine wpAny_bind (wpAny_rule ?_)
  refine wpAny_bind (wpAny_field hz rfl rfl ?_)
  try dsimp only
  refine wpAny_bind (wpAny_setField hz rfl (by simp) ?_)
  have zip2 : [Value.ref i1, Value.ref i2].zipIdx = [(Value.ref i1, 0), (Value.ref i2, 1)] := rfl
  have hz1 := Heap.get?_update_self (h := s.heap) (a := z) (Obj.mapFields fun x => x.setIfInBounds 0 Value.ellipsis) hz rfl
  have o1 : ∀ c, c ≠ z → (s.heap.update z (Obj.mapFields fun x => x.setIfInBounds 0 Value.ellipsis)).get? c = s.heap.get? c := fun c hc => Heap.get?_update_other _ _ (Ne.symm hc)
  generalize s.heap.update z (Obj.mapFields fun x => x.setIfInBounds 0 Value.ellipsis) = g1 at hz1 o1
  have kI : ∀ {g : Heap} {it t n}, g.get? it = s.heap.get? it → s.heap.IsTupleIter it t n → g.IsTupleIter it t n := fun e ⟨o, ho, r⟩ => ⟨o, e.trans ho, r⟩
  have kT : ∀ {g : Heap} {t its}, g.get? t = s.heap.get? t → s.heap.IsTuple t its → g.IsTuple t its := fun e ⟨o, ho, r⟩ => ⟨o, e.trans ho, r⟩
  rw [zip2, List.forIn_cons]
  have fin : ∀ (g : Heap) (e : Addr) (o : Obj) (vs : Array Value), g.get? z = some o → o.data = .fields vs → 0 < vs.size → (∀ c o, c ≠ z → c ≠ TO → c ≠ i1 → c ≠ i2 → s.heap.get? c = some o → g.get? c = some o) → (∃ o, g.get? e = some o ∧ o.cls = .type "StopIteration") → o.cls = .type "zip" →
      wpAny (model prog w) A (setField (.ref z) 0 .none) (fun x s'' => E (.ref e) s'') E { s with heap := g } := by
    rintro g e o vs ho hd hv kk ⟨oe, he, hc⟩ hoc
    have hne : e ≠ z := by rintro rfl; rw [he] at ho; cases ho; rw [hc] at hoc; injection hoc with hh; exact absurd hh (by decide)
    refine wpAny_setField ho hd hv (q _ e (fun c o' a1 a2 a3 a4 r => (Heap.get?_update_other _ _ (Ne.symm a1)).trans (kk c o' a1 a2 a3 a4 r)) ⟨oe, (Heap.get?_update_other _ _ (Ne.symm hne)).trans he, hc⟩)
  by_cases hxx : xs[k]? = none
  · refine wpAny_bind (wpAny_bind (wpAny_bind (wpAny_onRaise ?_)))
    refine wpAny_bind (m := Builtin.SmallTypes.nextOf (.ref i1)) (BC hA (kI (o1 _ ap.i1z) h1) (kT (o1 _ ap.l1z) t1) hxx fun g2 e ex hs => ?_)
    exact fin g2 e _ _ (ex z _ (Ne.symm ap.i1z) hz1) rfl (by simp) (fun c o a1 a2 a3 a4 r => ex c o a3 ((o1 c a1).trans r)) hs rfl
  · have hyy : ys[k]? = none := hx.resolve_left hxx
    obtain ⟨x, hx⟩ := Option.ne_none_iff_exists'.mp hxx
    refine wpAny_bind (wpAny_bind (wpAny_bind (wpAny_onRaise ?_)))
    refine wpAny_bind (m := Builtin.SmallTypes.nextOf (.ref i1)) (U6 (kI (o1 _ ap.i1z) h1) (kT (o1 _ ap.l1z) t1) hx fun g2 hi2 sb2 => ?_)
    refine wpAny_pure ?_
    have hO2 : IsPair g2 TO a b := ((sb2.2 _ ap.TOi1).trans (o1 _ ap.TOz)).trans hO
    refine wpAny_bind (wpAny_seqItems hO2 rfl ?_)
    refine wpAny_bind (wpAny_updateSeq_pair hO2 fun g3 hO3 sb3 => ?_)
    refine wpAny_bind (wpAny_letGo ?_)
    refine wpAny_pure ?_
    show wpAny _ _ (forIn [(Value.ref i2, 1)] _ _) _ _ _
    rw [List.forIn_cons]
    have e3 : ∀ c, c ≠ z → c ≠ i1 → c ≠ TO → g3.get? c = s.heap.get? c := fun c h1 h2 h3 => (sb3.2 c h3).trans ((sb2.2 c h2).trans (o1 c h1))
    refine wpAny_bind (wpAny_bind (wpAny_onRaise ?_))
    refine wpAny_bind (m := Builtin.SmallTypes.nextOf (.ref i2)) (BC hA (kI (e3 _ ap.i2z (Ne.symm ap.i12) (Ne.symm ap.TOi2)) h2) (kT (e3 _ ap.l2z ap.l2i1 ap.l2TO) t2) hyy fun g4 e ex hs => ?_)
    have hz3 := (sb3.2 z (Ne.symm ap.TOz)).trans ((sb2.2 z (Ne.symm ap.i1z)).trans hz1)
    exact fin g4 e _ _ (ex z _ (Ne.symm ap.i2z) hz3) rfl (by simp) (fun c o a1 a2 a3 a4 r => ex c o a4 ((e3 c a1 a3 a2).trans r)) hs rfl
theorem GG {prog : Program} {w : World} {A : Around} {E : Value → Shared → Prop} {s : Shared} {z TI TO i1 i2 l1 l2 : Addr} {k : Nat} {xs ys : Array Value} {x y a b : Value} {Q : Option Value → Shared → Prop}
    (ap : ZipApart z TI TO i1 i2 l1 l2) (hz : IsZip s.heap z TI TO .none) (hI : IsPair s.heap TI (.ref i1) (.ref i2)) (hO : IsPair s.heap TO a b)
    (h1 : s.heap.IsTupleIter i1 l1 k) (h2 : s.heap.IsTupleIter i2 l2 k) (t1 : s.heap.IsTuple l1 xs) (t2 : s.heap.IsTuple l2 ys) (hx : xs[k]? = some x) (hy : ys[k]? = some y)
    (q : ∀ h', IsZip h' z TI TO (rawInt ↑s.heap.objs.size) → IsPair h' TO x y → h'.IsTupleIter i1 l1 (k + 1) → h'.IsTupleIter i2 l2 (k + 1) → IsPair h' s.heap.objs.size x y → h'.objs.size = s.heap.objs.size + 1 →
      (∀ c o, c ≠ z → c ≠ TO → c ≠ i1 → c ≠ i2 → s.heap.get? c = some o → h'.get? c = some o) → Q (some (.ref s.heap.objs.size)) { s with heap := h' }) :
    wpAny (model prog w) A (pyNext (.ref z)) Q E s := by
  refine wpAny_bind (wpAny_attempt (wpAny_callSpecial?_slot ⟨_, hz, rfl⟩ F.slot_zip_next ?_))
  refine call_meets F.slot_zip_next ⟨_, hz, rfl⟩ F.entry_zip_next (F.args_zip_next_1 _) (S := fun A R s' => s' = s ∧ ∀ h', IsZip h' z TI TO (rawInt ↑s.heap.objs.size) → IsPair h' TO x y → h'.IsTupleIter i1 l1 (k + 1) → h'.IsTupleIter i2 l2 (k + 1) → IsPair h' s.heap.objs.size x y → h'.objs.size = s.heap.objs.size + 1 →
      (∀ c o, c ≠ z → c ≠ TO → c ≠ i1 → c ≠ i2 → s.heap.get? c = some o → h'.get? c = some o) → R (.ok (.ret (.ref s.heap.objs.size))) { s with heap := h' }) ?_ ⟨rfl, fun h' a b c d e f g => wpAny_pure (q h' a b c d e f g)⟩
  rintro prog w A R s' ⟨rfl, k⟩
  refine wpAny_mono (WB ap hz hI hO h1 h2 t1 t2 hx hy (Q := fun v s => R (.ok (.ret v)) s) k) (fun fin s1 h => ?_) fun _ _ h => h
  obtain ⟨v, rfl, h⟩ := h
  exact h
theorem HP {prog : Program} {w : World} {A : Around} {E : Value → Shared → Prop} {s : Shared} {z TI TO i1 i2 l1 l2 : Addr} {k : Nat} {xs ys : Array Value} {a b : Value} {Q : Option Value → Shared → Prop}
    (hA : A.handled = none) (ap : ZipApart z TI TO i1 i2 l1 l2) (hz : IsZip s.heap z TI TO .none) (hI : IsPair s.heap TI (.ref i1) (.ref i2)) (hO : IsPair s.heap TO a b)
    (h1 : s.heap.IsTupleIter i1 l1 k) (h2 : s.heap.IsTupleIter i2 l2 k) (t1 : s.heap.IsTuple l1 xs) (t2 : s.heap.IsTuple l2 ys) (hx : xs[k]? = none ∨ ys[k]? = none)
    (q : ∀ h', (∀ c o, c ≠ z → c ≠ TO → c ≠ i1 → c ≠ i2 → s.heap.get? c = some o → h'.get? c = some o) → Q none { s with heap := h' }) :
    wpAny (model prog w) A (pyNext (.ref z)) Q E s := by
  refine wpAny_bind (wpAny_attempt (wpAny_callSpecial?_slot ⟨_, hz, rfl⟩ F.slot_zip_next ?_))
  refine call_meets F.slot_zip_next ⟨_, hz, rfl⟩ F.entry_zip_next (F.args_zip_next_1 _) (S := fun A R s' => A.handled = none ∧ s' = s ∧ ∀ h' e, (∀ c o, c ≠ z → c ≠ TO → c ≠ i1 → c ≠ i2 → s.heap.get? c = some o → h'.get? c = some o) → (∃ o, h'.get? e = some o ∧ o.cls = .type "StopIteration") → R (.error (.ref e)) { s with heap := h' }) ?_ ⟨hA, rfl, fun h' e kk hs => ?_⟩
  · rintro prog w A R s' ⟨hA, rfl, k⟩
    exact AE2 (A := A.in1) hA ap hz hI hO h1 h2 t1 t2 hx k
  · obtain ⟨o, ho, hc⟩ := hs
    refine wpAny_bind (wpAny_isInstance (T := "StopIteration") (b := true) ⟨_, ho, hc⟩ isSubtype_stop ?_)
    rw [if_pos rfl]
    exact wpAny_pure (q h' kk)
theorem QH (l1 l2 : Addr) (xs ys : Array Value) : Meets (Builtin.«zip.__new__» { pos := [.type "zip", .ref l1, .ref l2] }) fun A R s =>
    s.heap.IsTuple l1 xs ∧ s.heap.IsTuple l2 ys ∧ ∀ h', IsZip h' (s.heap.objs.size + 4) (s.heap.objs.size + 2) (s.heap.objs.size + 3) .none → IsPair h' (s.heap.objs.size + 2) (.ref s.heap.objs.size) (.ref (s.heap.objs.size + 1)) → IsPair h' (s.heap.objs.size + 3) .none .none →
      h'.IsTupleIter s.heap.objs.size l1 0 → h'.IsTupleIter (s.heap.objs.size + 1) l2 0 → (∀ c o, s.heap.get? c = some o → h'.get? c = some o) → R (.ok (.ret (.ref (s.heap.objs.size + 4)))) { s with heap := h' } := by
  rintro prog w A R s ⟨t1, t2, k⟩
  refine wpAny_bind ?_
  refine wpAny_bind (wpAny_pure ?_)
  refine wpAny_bind ?_
  rw [sub_zip]
  refine wpAny_pure (wpAny_pure ?_)
  dsimp only
  rw [if_neg (by simp)]
  refine wpAny_bind ?_
  unfold Builtin.SmallTypes.iterAll
  dsimp only
  rw [List.forIn_cons]
  refine wpAny_bind (wpAny_bind (wpAny_bind (wpAny_holding (wpAny_pyIter_tuple t1 ?_))))
  refine wpAny_pure ?_
  show wpAny _ _ (forIn [Value.ref l2] _ _) _ _ _
  rw [List.forIn_cons]
  have t2' : (s.heap.push { cls := .type "tuple_iterator", data := .fields #[.ref l1, .int 0 0] }).IsTuple l2 ys := by
    obtain ⟨o, ho, r⟩ := t2
    exact ⟨o, Heap.get?_push_of_some _ ho, r⟩
  refine wpAny_bind (wpAny_bind (wpAny_holding (wpAny_pyIter_tuple t2' ?_)))
  refine wpAny_pure ?_
  show wpAny _ _ (forIn [] _ _) _ _ _
  rw [List.forIn_nil]
  refine wpAny_pure (wpAny_pure ?_)
  refine wpAny_bind (wpAny_newObj_type (data := .seq #[.ref s.heap.objs.size, .ref (s.heap.push { cls := .type "tuple_iterator", data := .fields #[.ref l1, .int 0 0] }).objs.size]) ?_)
  refine wpAny_bind (wpAny_newObj_type (data := .seq #[.none, .none]) ?_)
  refine wpAny_bind (wpAny_newObj_type (data := .fields #[.none, .bool false, .bool false, .ref ((s.heap.push { cls := .type "tuple_iterator", data := .fields #[.ref l1, .int 0 0] }).push { cls := .type "tuple_iterator", data := .fields #[.ref l2, .int 0 0] }).objs.size, .ref (((s.heap.push { cls := .type "tuple_iterator", data := .fields #[.ref l1, .int 0 0] }).push { cls := .type "tuple_iterator", data := .fields #[.ref l2, .int 0 0] }).push { cls := .type "tuple", data := .seq #[.ref s.heap.objs.size, .ref (s.heap.push { cls := .type "tuple_iterator", data := .fields #[.ref l1, .int 0 0] }).objs.size] }).objs.size]) ?_)
  refine wpAny_pure ?_
  have a1 : (s.heap.push { cls := .type "tuple_iterator", data := .fields #[.ref l1, .int 0 0] }).objs.size = s.heap.objs.size + 1 := by simp [Heap.push]
  have b1 : (s.heap.push { cls := .type "tuple_iterator", data := .fields #[.ref l1, .int 0 0] }).get? s.heap.objs.size = _ := Heap.get?_push_size _ rfl
  have c1 : ∀ c o, s.heap.get? c = some o → (s.heap.push { cls := .type "tuple_iterator", data := .fields #[.ref l1, .int 0 0] }).get? c = some o := fun c o e => Heap.get?_push_of_some _ e
  show R _ { s with heap := ((((s.heap.push { cls := .type "tuple_iterator", data := .fields #[.ref l1, .int 0 0] }).push { cls := .type "tuple_iterator", data := .fields #[.ref l2, .int 0 0] }).push { cls := .type "tuple", data := .seq #[.ref s.heap.objs.size, .ref (s.heap.push { cls := .type "tuple_iterator", data := .fields #[.ref l1, .int 0 0] }).objs.size] }).push { cls := .type "tuple", data := .seq #[.none, .none] }).push { cls := .type "zip", data := .fields #[.none, .bool false, .bool false, .ref ((s.heap.push { cls := .type "tuple_iterator", data := .fields #[.ref l1, .int 0 0] }).push { cls := .type "tuple_iterator", data := .fields #[.ref l2, .int 0 0] }).objs.size, .ref (((s.heap.push { cls := .type "tuple_iterator", data := .fields #[.ref l1, .int 0 0] }).push { cls := .type "tuple_iterator", data := .fields #[.ref l2, .int 0 0] }).push { cls := .type "tuple", data := .seq #[.ref s.heap.objs.size, .ref (s.heap.push { cls := .type "tuple_iterator", data := .fields #[.ref l1, .int 0 0] }).objs.size] }).objs.size] } }
  show R (.ok (.ret (.ref ((((s.heap.push { cls := .type "tuple_iterator", data := .fields #[.ref l1, .int 0 0] }).push { cls := .type "tuple_iterator", data := .fields #[.ref l2, .int 0 0] }).push { cls := .type "tuple", data := .seq #[.ref s.heap.objs.size, .ref (s.heap.push { cls := .type "tuple_iterator", data := .fields #[.ref l1, .int 0 0] }).objs.size] }).push { cls := .type "tuple", data := .seq #[.none, .none] }).objs.size))) _
  generalize s.heap.push { cls := .type "tuple_iterator", data := .fields #[.ref l1, .int 0 0] } = g1 at *
  have a2 : (g1.push { cls := .type "tuple_iterator", data := .fields #[.ref l2, .int 0 0] }).objs.size = s.heap.objs.size + 2 := by simp [Heap.push]; exact a1
  have b2 : (g1.push { cls := .type "tuple_iterator", data := .fields #[.ref l2, .int 0 0] }).get? g1.objs.size = _ := Heap.get?_push_size _ rfl
  have c2 : ∀ c o, g1.get? c = some o → (g1.push { cls := .type "tuple_iterator", data := .fields #[.ref l2, .int 0 0] }).get? c = some o := fun c o e => Heap.get?_push_of_some _ e
  generalize g1.push { cls := .type "tuple_iterator", data := .fields #[.ref l2, .int 0 0] } = g2 at *
  rw [a1] at b2 ⊢
  have a3 : (g2.push { cls := .type "tuple", data := .seq #[.ref s.heap.objs.size, .ref (s.heap.objs.size + 1)] }).objs.size = s.heap.objs.size + 3 := by simp [Heap.push]; exact a2
  have b3 : (g2.push { cls := .type "tuple", data := .seq #[.ref s.heap.objs.size, .ref (s.heap.objs.size + 1)] }).get? g2.objs.size = _ := Heap.get?_push_size _ rfl
  have c3 : ∀ c o, g2.get? c = some o → (g2.push { cls := .type "tuple", data := .seq #[.ref s.heap.objs.size, .ref (s.heap.objs.size + 1)] }).get? c = some o := fun c o e => Heap.get?_push_of_some _ e
  generalize g2.push { cls := .type "tuple", data := .seq #[.ref s.heap.objs.size, .ref (s.heap.objs.size + 1)] } = g3 at *
  rw [a2] at b3 ⊢
  have a4 : (g3.push { cls := .type "tuple", data := .seq #[.none, .none] }).objs.size = s.heap.objs.size + 4 := by simp [Heap.push]; exact a3
  have b4 : (g3.push { cls := .type "tuple", data := .seq #[.none, .none] }).get? g3.objs.size = _ := Heap.get?_push_size _ rfl
  have c4 : ∀ c o, g3.get? c = some o → (g3.push { cls := .type "tuple", data := .seq #[.none, .none] }).get? c = some o := fun c o e => Heap.get?_push_of_some _ e
  generalize g3.push { cls := .type "tuple", data := .seq #[.none, .none] } = g4 at *
  rw [a3] at b4 ⊢
  rw [a4]
  refine k _ (by rw [← a4]; exact Heap.get?_push_size _ rfl) (Heap.get?_push_of_some _ (c4 _ _ b3)) (Heap.get?_push_of_some _ b4) ⟨_, Heap.get?_push_of_some _ (c4 _ _ (c3 _ _ (c2 _ _ b1))), rfl, rfl⟩ ⟨_, Heap.get?_push_of_some _ (c4 _ _ (c3 _ _ b2)), rfl, rfl⟩ fun c o e => Heap.get?_push_of_some _ (c4 _ _ (c3 _ _ (c2 _ _ (c1 _ _ e))))
theorem TR {prog : Program} {w : World} {A : Around} {E : Value → Shared → Prop} {s : Shared} {l1 l2 : Addr} {xs ys : Array Value} {Q : Value → Shared → Prop} (t1 : s.heap.IsTuple l1 xs) (t2 : s.heap.IsTuple l2 ys)
    (k : ∀ h', IsZip h' (s.heap.objs.size + 4) (s.heap.objs.size + 2) (s.heap.objs.size + 3) .none → IsPair h' (s.heap.objs.size + 2) (.ref s.heap.objs.size) (.ref (s.heap.objs.size + 1)) → IsPair h' (s.heap.objs.size + 3) .none .none →
      h'.IsTupleIter s.heap.objs.size l1 0 → h'.IsTupleIter (s.heap.objs.size + 1) l2 0 → (∀ c o, s.heap.get? c = some o → h'.get? c = some o) → Q (.ref (s.heap.objs.size + 4)) { s with heap := h' }) :
    wpAny (model prog w) A (call (.type "zip") [.ref l1, .ref l2]) Q E s :=
  callType_new F.called_zip (by decide) (F.typeCall_zip_2 _ _) (F.newCall_zip_2 _ _) (fun obj => F.args_object_init_3 _ _ _) F.entry_zip_new (QH l1 l2 xs ys) ⟨t1, t2, fun h' a b c d e f => ⟨⟨_, a, rfl⟩, k h' a b c d e f⟩⟩
def IzT (K : PySem.W.Frag) (a b : Addr) : It :=
  ⟨fun i H => ∃ xs ys x y, SqT K H a xs ∧ SqT K H b ys ∧ xs[i]? = some x ∧ ys[i]? = some y, fun i H x H' => ∃ T v u, H T = none ∧ (∀ xs, SqT K H a xs → xs[i]? = some v) ∧ (∀ ys, SqT K H b ys → ys[i]? = some u) ∧ x = .ref T ∧ H' = upd H T (.tup [v, u]), fun i H => ∃ xs ys, SqT K H a xs ∧ SqT K H b ys ∧ min xs.length ys.length = i⟩
theorem Inv.pair2 {X : Cx} {pins : List (Addr × Obj)} {σ : L2.St} {H : Hp} {s : Shared} {ch : List Addr} {h' : Heap} {v v' : V} {u u' : Value} (I : Inv X pins σ H s) (fc : ∀ b ∈ ch, KH X pins H b)
    (ru : RelV v u) (ru' : RelV v' u') (hnew : h'.get? s.heap.objs.size = some { cls := .type "tuple", data := .seq #[u, u'] })
    (hk : ∀ b o, b ∉ ch → s.heap.get? b = some o → h'.get? b = some o) : Inv X pins σ (upd H s.heap.objs.size (.tup [v, v'])) { s with heap := h' } := by
  have hf := I.fresh
  have nT : ∀ b u, H b = some u → b ≠ s.heap.objs.size := fun b u q => by rintro rfl; rw [hf] at q; cases q
  have ne : ∀ b u, H b = some u → b ∉ ch := fun b u q hb => by rw [(fc b hb).1] at q; cases q
  refine I.call' (s' := { s with heap := h' }) (ch := ch) rfl ⟨fun b o q n _ hx => hk b o hx q, fun b o q n _ hx => ⟨o.slots, hk b o hx q⟩, fun b o q n hx => ?_, fun b o q hx => ⟨o, hk b o hx q⟩, fun b xs q => ?_, fun b o u q => ?_, fun b ps q => ?_⟩ (fun b o q => ?_) I.bare (fun b hb => ⟨(fc b hb).2.2.2.1, (fc b hb).2.1, (fc b hb).2.2.2.2.1, (fc b hb).2.2.2.2.2⟩)
  · rw [D1 (Nat.ne_of_lt (Heap.lt_size q))]; exact n
  · rw [D1 (nT b _ q)]; exact q
  · rw [D1 (nT b _ q)]; exact q
  · exact ⟨#[], by rw [D1 (nT b _ q), q]; simp⟩
  · by_cases hb : b = s.heap.objs.size
    · subst hb
      rw [D5] at q
      cases q
      exact ⟨by rw [sizeLine_eq]; show 2 ≤ _; lia, [u, u'], .cons ru (.cons ru' .nil), ⟨_, hnew, rfl, _, rfl⟩⟩
    · rw [D1 hb] at q
      refine (I.hok b o q).stay (fun c w hc r => ?_) (fun c r => by rw [D1 (nT c _ r)]; exact r) fun c xs r => by rw [D1 (nT c _ r)]; exact r
      rcases hc with rfl | hc
      · exact hk c w (ne c o q) r
      · exact hk c w (ne c _ hc) r
theorem Inv.lost {X : Cx} {pins : List (Addr × Obj)} {σ : L2.St} {H : Hp} {s : Shared} {ch : List Addr} {h' : Heap} (I : Inv X pins σ H s) (fc : ∀ b ∈ ch, KH X pins H b)
    (hk : ∀ b o, b ∉ ch → s.heap.get? b = some o → h'.get? b = some o) : Inv X pins σ H { s with heap := h' } := by
  have ne : ∀ b u, H b = some u → b ∉ ch := fun b u q hb => by rw [(fc b hb).1] at q; cases q
  refine I.call' (s' := { s with heap := h' }) (ch := ch) rfl ⟨fun b o q n _ hx => hk b o hx q, fun b o q n _ hx => ⟨o.slots, hk b o hx q⟩, fun b o q n hx => n, fun b o q hx => ⟨o, hk b o hx q⟩, fun b xs q => q, fun b o u q => q, fun b ps q => ⟨#[], by rw [q]; simp⟩⟩ (fun b o q => ?_) I.bare (fun b hb => ⟨(fc b hb).2.2.2.1, (fc b hb).2.1, (fc b hb).2.2.2.2.1, (fc b hb).2.2.2.2.2⟩)
  refine (I.hok b o q).stay (fun c w hc r => ?_) (fun c r => r) fun c xs r => r
  rcases hc with rfl | hc
  · exact hk c w (ne c o q) r
  · exact hk c w (ne c _ hc) r
theorem UJ {P : Program} {w : World} {K : PySem.W.Frag} {elts : List Expr} {k : Nat} {pos : Pos} (a b z TI TO i1 i2 : Addr) (ap : ZipApart z TI TO i1 i2 a b) :
    Turn P w K (.Tuple elts k pos) (IzT K a b) [z, TO, i1, i2, TI] z (fun i h => (∃ x y, IsPair h TO x y) ∧ IsZip h z TI TO .none ∧ IsPair h TI (.ref i1) (.ref i2) ∧ h.IsTupleIter i1 a i ∧ h.IsTupleIter i2 b i) where
  mem := by simp
  obj := fun i h st c hc => by
    obtain ⟨⟨x, y, hO⟩, hz, hI, ⟨o1, e1, r1, d1⟩, ⟨o2, e2, r2, d2⟩⟩ := st
    simp only [List.mem_cons, List.not_mem_nil, or_false] at hc
    rcases hc with rfl | rfl | rfl | rfl | rfl
    · exact ⟨_, hz, fun v z => by cases z⟩
    · exact ⟨_, hO, fun v z => by cases z⟩
    · exact ⟨_, e1, fun v z => by rw [d1] at z; cases z⟩
    · exact ⟨_, e2, fun v z => by rw [d2] at z; cases z⟩
    · exact ⟨_, hI, fun v z => by cases z⟩
  keep := fun i h h' st kk => by
    obtain ⟨⟨x, y, hO⟩, hz, hI, ⟨o1, e1, r1⟩, ⟨o2, e2, r2⟩⟩ := st
    exact ⟨⟨x, y, kk TO (by simp) _ hO⟩, kk z (by simp) _ hz, kk TI (by simp) _ hI, ⟨o1, kk i1 (by simp) _ e1, r1⟩, ⟨o2, kk i2 (by simp) _ e2, r2⟩⟩
  item := by
    intro X hP hw hK hc i pins s σ H E I hf st hg
    subst hP hw hK
    obtain ⟨xs, ys, x, y, hq, hq', hx, hy⟩ := hg
    obtain ⟨its, rv, p, hz'⟩ := I.tuple hq
    obtain ⟨its', rv', p', _⟩ := I.tuple hq'
    obtain ⟨u, hu, ru⟩ := rv.get hx
    obtain ⟨u', hu', ru'⟩ := rv'.get hy
    obtain ⟨⟨x0, y0, hO⟩, hz, hI, h1, h2⟩ := st
    have lz := Heap.lt_size hz
    refine GG ap hz hI hO h1 h2 p p' (x := u) (y := u') (by simpa using hu) (by simpa using hu') fun h' z1 O1 j1 j2 T1 s1 k1 => ?_
    refine ⟨_, rfl, wpAny_letOwnedTupleGo_zip z1 fun h'' z2 sb => ?_⟩
    have hk2 : ∀ c o, c ∉ [z, TO, i1, i2] → s.heap.get? c = some o → h''.get? c = some o := fun c o hc q => by
      simp only [List.mem_cons, List.not_mem_nil, or_false, not_or] at hc
      exact (sb.2 c hc.1).trans (k1 c o hc.1 hc.2.1 hc.2.2.1 hc.2.2.2 q)
    have I2 := Inv.pair2 (s := s) (h' := h'') (ch := [z, TO, i1, i2]) I (fun c hc => hf c (by simp only [List.mem_cons, List.not_mem_nil, or_false] at hc ⊢; rcases hc with h | h | h | h <;> simp [h])) ru ru' ((sb.2 _ (Nat.ne_of_gt lz)).trans T1) hk2
    refine ⟨.ref s.heap.objs.size, _, I2, rfl, ⟨s.heap.objs.size, x, y, I.fresh, fun zs hzs => by rw [I.tuple_inj hzs hq]; exact hx, fun zs hzs => by rw [I.tuple_inj hzs hq']; exact hy, rfl, rfl⟩, ⟨⟨u, u', (sb.2 _ ap.TOz).trans O1⟩, z2, hk2 _ _ (by simp [ap.TIz, ap.TITO, ap.TIi1, ap.TIi2]) hI, ?_, ?_⟩, fun c hc => ?_⟩
    · obtain ⟨o, ho, r⟩ := j1
      exact ⟨o, (sb.2 _ ap.i1z).trans ho, r⟩
    · obtain ⟨o, ho, r⟩ := j2
      exact ⟨o, (sb.2 _ ap.i2z).trans ho, r⟩
    · have hH := (hf c hc).1
      have hl : c < s.heap.objs.size := by
        simp only [List.mem_cons, List.not_mem_nil, or_false] at hc
        obtain ⟨o1, e1, _⟩ := h1
        obtain ⟨o2, e2, _⟩ := h2
        rcases hc with rfl | rfl | rfl | rfl | rfl
        · exact lz
        · exact Heap.lt_size hO
        · exact Heap.lt_size e1
        · exact Heap.lt_size e2
        · exact Heap.lt_size hI
      rw [D1 (Nat.ne_of_lt hl)]; exact hH
  done := by
    intro X hP hw hK hc i pins s σ H E I hf st hg
    subst hP hw hK
    obtain ⟨xs, ys, hq, hq', hm⟩ := hg
    obtain ⟨its, rv, p, _⟩ := I.tuple hq
    obtain ⟨its', rv', p', _⟩ := I.tuple hq'
    obtain ⟨⟨x0, y0, hO⟩, hz, hI, h1, h2⟩ := st
    have l1 := rv.length
    have l2 := rv'.length
    refine HP (by exact I.ok.hd hc) ap hz hI hO h1 h2 p p' ?_ fun h' k1 => ⟨rfl, ?_⟩
    · simp only [List.getElem?_toArray, List.getElem?_eq_none_iff]; lia
    · exact Inv.lost (ch := [z, TO, i1, i2]) I (fun c hc => hf c (by simp only [List.mem_cons, List.not_mem_nil, or_false] at hc ⊢; rcases hc with h | h | h | h <;> simp [h])) fun c o hc q => by
        simp only [List.mem_cons, List.not_mem_nil, or_false, not_or] at hc
        exact k1 c o hc.1 hc.2.1 hc.2.2.1 hc.2.2.2 q
  self := fun _ _ _ _ _ st h => wpAny_pyIter_zip st.2.1 h
theorem AZ7 {K : PySem.W.Frag} {M : Mem} {H : Hp} {d e : D} {vs : List V} (r : Reps K M H [d, e] vs) : ∃ v v', vs = [v, v'] ∧ Rep K M H d v ∧ Rep K M H e v' := by
  cases r with | cons a r => cases r with | cons b r => cases r; exact ⟨_, _, rfl, a, b⟩
def Z3 : List D → List D → List D
  | x :: xs, y :: ys => .tup [x, y] :: Z3 xs ys
  | _, _ => []
theorem NO : ∀ (xs ys : List D) (i : Nat) (d : D), (Z3 xs ys)[i]? = some d → ∃ x y, xs[i]? = some x ∧ ys[i]? = some y ∧ d = .tup [x, y]
  | [], _, i, d, h => by simp [Z3] at h
  | _ :: _, [], i, d, h => by simp [Z3] at h
  | x :: xs, y :: ys, 0, d, h => by simp [Z3] at h; exact ⟨x, y, rfl, rfl, h.symm⟩
  | x :: xs, y :: ys, i + 1, d, h => by
    have h' : (Z3 xs ys)[i]? = some d := by simpa [Z3] using h
    obtain ⟨a, b, h1, h2, h3⟩ := NO xs ys i d h'
    exact ⟨a, b, by simpa using h1, by simpa using h2, h3⟩
theorem FV : ∀ (xs ys : List D), (Z3 xs ys).length = min xs.length ys.length
  | [], ys => by simp [Z3]
  | x :: xs, [] => by simp [Z3]
  | x :: xs, y :: ys => by
    show (Z3 xs ys).length + 1 = min (xs.length + 1) (ys.length + 1)
    rw [FV xs ys]; lia
def YB (ta : TA3) : TI3 := fun σ M R => ta σ M fun ds M1 => ∃ xs ys, ds = [.tup xs, .tup ys] ∧ R (Z3 xs ys) M1
theorem AG9 {ta : TA3} {σ : Lo} {M : Mem} {R : List D → Mem → Prop} (h : ta σ M fun ds M1 => ∃ xs ys, ds = [.tup xs, .tup ys] ∧ R (Z3 xs ys) M1) : YB ta σ M R := h
theorem AI8 {X : Cx} {a b : Expr} {ta : TA3} {elts : List Expr} {k : Nat} {tpos p pos : Pos} (hg : Gl X "zip") (hm : X.mg "zip" = none) (ha : PA3 X [a, b] ta) (he : starEach [a, b] X.env = (false, eval a X.env) :: starEach [b] X.env := by rfl) (hpl : (backTo pos (starEach [b] X.env)).any (·.1) = false := by rfl) :
    GO X (.Tuple elts k tpos) (.Call (.Name "zip" p) [a, b] [] pos) (YB ta) := by
  rintro pins s σv H R2 I ⟨σ, M, R, hS, hM, h, kk⟩
  refine wpAny_Call_Name_kw (BP I hg hm boot_zip ?_ (by decide) (by decide))
  refine PyProof.Rows.callWith_type1 (thn (ha pos pins s σv H σ M _ I hS hM h) fun us s1 ⟨ds, vs, M1, H1, I1, st1, m1, rv1, p1, q1⟩ => ?_) he hpl
  obtain ⟨xs, ys, rfl, q⟩ := q1
  obtain ⟨xv, yv, rfl, px, py⟩ := AZ7 p1
  obtain ⟨u, u', rfl, ru, ru'⟩ := vals2 rv1
  cases px with
  | @tup aT _ vx h1 r1 =>
  cases py with
  | @tup bT _ vy h2 r2 =>
  cases ru; cases ru'
  obtain ⟨its, ri, pl, hz⟩ := I1.tuple (SqT.of3 h1)
  obtain ⟨its', ri', pl', hz'⟩ := I1.tuple (SqT.of3 h2)
  have la : aT < s1.heap.objs.size := by obtain ⟨o, ho, _⟩ := id pl; exact Heap.lt_size ho
  have lb : bT < s1.heap.objs.size := by obtain ⟨o, ho, _⟩ := id pl'; exact Heap.lt_size ho
  refine TR (show s1.heap.IsTuple aT its.toArray from pl) (show s1.heap.IsTuple bT its'.toArray from pl') fun h' z1 I3 O3 j1 j2 kp => ?_
  refine wpAny_pyIter_zip z1 ?_
  have ap : ZipApart (s1.heap.objs.size + 4) (s1.heap.objs.size + 2) (s1.heap.objs.size + 3) s1.heap.objs.size (s1.heap.objs.size + 1) aT bT := by
    constructor <;> lia
  refine ⟨s1.heap.objs.size + 4, [s1.heap.objs.size + 4, s1.heap.objs.size + 3, s1.heap.objs.size, s1.heap.objs.size + 1, s1.heap.objs.size + 2], _, IzT X.K aT bT, H1, rfl, I1.kept (t' := s1.toks) kp, UJ aT bT _ _ _ _ _ ap, ⟨⟨_, _, O3⟩, z1, I3, j1, j2⟩, fun c hc => ?_, ?_⟩
  · have hb' : s1.heap.objs.size ≤ c := by
      simp only [List.mem_cons, List.not_mem_nil, or_false] at hc
      rcases hc with rfl | rfl | rfl | rfl | rfl <;> lia
    exact I1.fpOk hb' (I1.hok.fresh hb')
  · refine kk (Z3 xs ys) _ M1 H1 st1 m1 (fun M' H' st m' => ?_) q
    have sq := SqT.of3 (h1.imp (Fix.mono st) id)
    have sq' := SqT.of3 (h2.imp (Fix.mono st) id)
    have rr := r1.mono st
    have rr' := r2.mono st
    refine ⟨fun i hi => ?_, fun i d x H'' hd hyy => ?_, ?_⟩
    · rw [FV] at hi
      have i1 : i < xs.length := by lia
      have i2 : i < ys.length := by lia
      obtain ⟨v, hv, _⟩ := rr.get (i := i) (d := xs[i]) (by simp [i1])
      obtain ⟨v', hv', _⟩ := rr'.get (i := i) (d := ys[i]) (by simp [i2])
      exact ⟨_, _, v, v', sq, sq', hv, hv'⟩
    · obtain ⟨T, v, v', hT, hv, hv', rfl, rfl⟩ := hyy
      obtain ⟨x, y, e1, e2, rfl⟩ := NO xs ys i d hd
      obtain ⟨w1, hw1, rw1⟩ := rr.get e1
      obtain ⟨w2, hw2, rw2⟩ := rr'.get e2
      rw [hv _ sq] at hw1
      rw [hv' _ sq'] at hw2
      cases hw1; cases hw2
      exact ⟨Step.lay hT, m'.lay hT, .tup (.inl ⟨.inl D5, m'.free hT⟩) (.cons (rw1.mono (Step.lay hT)) (.cons (rw2.mono (Step.lay hT)) .nil))⟩
    · rw [FV]
      exact ⟨_, _, sq, sq', by rw [rr.length, rr'.length]⟩
def isStar : Expr → Bool
  | .Starred .. => true
  | _ => false
theorem VY {e : Expr} (h : isStar e = false) (es : List Expr) (env : Env) : starEach (e :: es) env = (false, eval e env) :: starEach es env := by
  cases e <;> first | rfl | cases h
theorem AO2 {X : Cx} {e : Expr} {es : List Expr} {te : TE3} {t : TA3} (ha : PE3 X e te) (hr : PA3 X es t) (hs : isStar e = false := by rfl) : PA3 X (e :: es) (A0 te t) := ZF ha hr (VY hs es _)
theorem BC5 {X : Cx} {x : Str} {j : Nat} {pos : Pos} {es : List Expr} {t : TA3} (hr : PA3 X es t) : PA3 X (.Constant (.str x) j pos :: es) (A0 (tC3 (.str x)) t) := AO2 SF hr
section
variable {X : Cx} {o i e : Expr} {to ti te : TE3} {pos p : Pos}
def AR : C3 := fun ds M Q => match ds with
  | [.ref a] => ∃ xs, M a = some (.lst xs) ∧ PH (.lst xs) ∧ Q (.str (pyD (.lst xs)).shown) M
  | [d] => PH d ∧ Q (.str (pyD d).shown) M
  | _ => False
theorem AA8 {k : Nat} (hr : Room k X.A) : CallR3 X (.builtin "repr") AR := by
  intro pins s σv H M xs xvs us Q I m rv px q
  match xs, px, q with
  | [.ref a], px, ⟨ys, hm, hsh, q⟩ =>
    obtain ⟨xv, rfl, p1⟩ := FU px
    cases p1
    obtain ⟨m2, r2, sub⟩ := Vs.frzL hm X.K H (.ref a) m .ref
    obtain ⟨u, rfl, ru⟩ := vals1 rv
    cases ru
    obtain ⟨h1, h2, h3, h4, h5⟩ := hsh
    obtain ⟨as, rd⟩ := P0 I h1 r2 rfl
    refine PySem.repr_of_reads' rd h2 (PyData.noDict_hsm h3) hr.gd (by have := hr.units; lia) (fun b o e => e) (fun h' u tk kp => ?_) h5
    exact ⟨_, .str _, M, H, I.kept (t' := tk) kp, .refl, m, ⟨_, rfl⟩, .str, q⟩
  | [.non], px, q => exact W4 hr pins s σv H M _ xvs us Q I m rv px q
  | [.bl _], px, q => exact W4 hr pins s σv H M _ xvs us Q I m rv px q
  | [.int _], px, q => exact W4 hr pins s σv H M _ xvs us Q I m rv px q
  | [.str _], px, q => exact W4 hr pins s σv H M _ xvs us Q I m rv px q
  | [.tup _], px, q => exact W4 hr pins s σv H M _ xvs us Q I m rv px q
  | [.lst _], px, q => exact W4 hr pins s σv H M _ xvs us Q I m rv px q
  | [.dct _], px, q => exact W4 hr pins s σv H M _ xvs us Q I m rv px q
  | [.ty _], px, q => exact W4 hr pins s σv H M _ xvs us Q I m rv px q
end
theorem ZS {y : Str} {py spos : Pos} {iy : Nat} {X : Cx} {elt tg iter : Expr} {pos : Pos} {ifs : List Expr} {scope : Scope} {tns caps : List Str} {slots : List Nat} {ti : TI3} {g : TG3} {tt : TT3} {te : TE3}
    (hc : X.calm = true) (hi : GO X tg iter ti) (hkind : scope.kind = .function) (hcell : ∀ y ∈ scope.names, y.2 ≠ .cell)
    (hnames : ∀ y ∈ scope.names, y.2 = .local → scope.names.lookup y.1 = some .local)
    (hfree : ∀ y ∈ scope.names, y.2 = .free → X.env.kindOf y.1 = some .cell ∨ X.env.kindOf y.1 = some .free)
    (hcf : ∀ y ∈ caps, scope.names.lookup y = some .free) (hcaps : slots.map (fun j => X.N[j]?) = caps.map some)
    (hgk : ∀ d M Q (cs : Lo), g d (List.replicate tns.length none ++ cs) M Q → g d (List.replicate tns.length none ++ cs) M (fun σ' M' => σ'.drop tns.length = cs ∧ Q σ' M'))
    (hg : ∀ cl s₀ H₀ ex, PG3 (C0 X scope cl s₀ H₀ ex (tns ++ caps)) tg g)
    (ht : ∀ cl s₀ H₀ ex, BH (C0 X scope cl s₀ H₀ ex (tns ++ caps)) ifs tt) (he : ∀ cl s₀ H₀ ex, PE3 (C0 X scope cl s₀ H₀ ex (tns ++ caps)) elt te)
    (hN : X.N.Nodup) (hiy : X.N[iy]? = some y) (hy : Loc X.env.scope y) (hsw : swapsWith (.ListComp elt [⟨tg, iter, ifs, 0⟩] scope pos) (some (.Name y py)) spos.line X.env = pure true) (hf : X.fn y = true ∨ X.env.scope.names.lookup y = some .local)
    (hs : ∀ y, foldedSetIterable iter X.env y = pure y := by intro _; rfl) :
    PS3 X (.Assign [.Name y py] (.ListComp elt [⟨tg, iter, ifs, 0⟩] scope pos) spos) (B7 iy (K5 ti tns.length slots g tt te)) := by
  intro pins s σv H σ M T0 I hS hM h
  rw [exec_Assign_Name_used _ _ _ _ hsw]
  refine wpAny_bind (wpAny_standAt (wpAny_bind ?_))
  rw [arm_evalThenUse_ListComp]
  refine wpAny_bind ?_
  refine AO hc hi hkind hcell hnames hfree hcf hcaps hgk hg ht he hs (use := some (assign (.Name y py) X.env)) (F := fun p acc M => T0.nx (σ.set iy (some (.lst acc))) (J0 M p)) I hS hM h fun D C acc H5 M5 s6 m hn I7 c1 c2 c3 c4 c5 c6 st m5 hp hq => ?_
  obtain ⟨mF, rF, sF⟩ := Vs.frzL hp X.K H5 (.ref D) m5 .ref
  obtain ⟨oC, es, ep, hoC, hdC, rC⟩ := hn
  have pinC : Inv X (pins ++ [(C, oC)]) σv H5 s6 := I7.pins_of fun p hp => by
    rcases List.mem_append.mp hp with z | z
    · exact I7.pin p (List.mem_append_right _ z)
    · cases List.mem_singleton.mp z
      exact ⟨hoC, c1, c2, c3, fun v z => by rw [hdC] at z; cases z⟩
  show wpAny (model X.prog X.w) X.A (assign (.Name y py) X.env (.ref D)) _ X.xe s6
  refine wpAny_assign_Name (CK pinC hN hiy hy (v := .ref D) rfl (fun s7 I8 => ?_) hf)
  have hp8 := (I8.pin (C, oC) (List.mem_append_right _ (List.mem_append_right _ List.mem_cons_self))).1
  refine ⟨m, ⟨oC, es, ep, hp8, hdC, rC⟩, fun h' sb => wpAny_pure (wpAny_pure ?_)⟩
  have I9 : Inv X pins (σv.set iy (some (.ref D))) H5 { s7 with heap := h', toks := s7.toks } := I8.unpinned.turned (it := C) (fun b o hb e => (sb.2 b hb).trans e) c1 c2 (.inr c4) c5 c6
  exact ⟨_, _, J0 M5 D, H5, I9, st.less sF, mF, ((hS.mono st).mono ⟨fun _ _ h _ => h, fun b h => .inl (sF b h)⟩).set rF iy, hq⟩
theorem QL {X : Cx} {elt tg iter : Expr} {pos py spos : Pos} {y : Str} {ifs : List Expr} {scope : Scope} (iy : Nat) (tns caps : List Str) (slots : List Nat) {ti : TI3} {g : TG3} {tt : TT3} {te : TE3}
    (hc : X.calm = true) (hi : GO X tg iter ti) (hkind : scope.kind = .function) (hok : U5 X.env scope caps = true) (hcaps : slots.map (fun j => X.N[j]?) = caps.map some)
    (hgk : ∀ d M Q (cs : Lo), g d (List.replicate tns.length none ++ cs) M Q → g d (List.replicate tns.length none ++ cs) M (fun σ' M' => σ'.drop tns.length = cs ∧ Q σ' M'))
    (hg : ∀ cl s₀ H₀ ex, PG3 (C0 X scope cl s₀ H₀ ex (tns ++ caps)) tg g)
    (ht : ∀ cl s₀ H₀ ex, BH (C0 X scope cl s₀ H₀ ex (tns ++ caps)) ifs tt) (he : ∀ cl s₀ H₀ ex, PE3 (C0 X scope cl s₀ H₀ ex (tns ++ caps)) elt te)
    (hN : X.N.Nodup) (hiy : X.N[iy]? = some y) (hy : Loc X.env.scope y) (hf : X.fn y = true ∨ X.env.scope.names.lookup y = some .local)
    (hsw : swapsWith (.ListComp elt [⟨tg, iter, ifs, 0⟩] scope pos) (some (.Name y py)) spos.line X.env = pure true := by rfl)
    (hs : ∀ y, foldedSetIterable iter X.env y = pure y := by intro _; rfl) :
    PS3 X (.Assign [.Name y py] (.ListComp elt [⟨tg, iter, ifs, 0⟩] scope pos) spos) (B7 iy (K5 ti tns.length slots g tt te)) := by
  unfold U5 at hok
  rw [Bool.and_eq_true, List.all_eq_true, List.all_eq_true] at hok
  obtain ⟨h1, h2⟩ := hok
  refine ZS hc hi hkind (fun y hy e => ?_) (fun y hy e => ?_) (fun y hy e => ?_) (fun y hy => ?_) hcaps hgk hg ht he hN hiy hy hsw hf hs
  · have := h1 y hy; rw [e] at this; cases this
  · have := h1 y hy
    rw [e] at this
    dsimp only at this
    split at this
    · assumption
    · cases this
  · have := h1 y hy
    rw [e] at this
    dsimp only at this
    split at this
    · exact .inl (by assumption)
    · exact .inr (by assumption)
    · cases this
  · have := h2 y hy
    split at this
    · assumption
    · cases this
theorem TU {X : Cx} {elt tg iter : Expr} {pos py spos : Pos} {y : Str} {ifs : List Expr} {scope : Scope} (iy : Nat) (tns caps : List Str) (slots : List Nat) {ti : TI3} {g : TG3} {tt : TT3} {te : TE3}
    (hc : X.calm = true) (hi : PI3 X tg iter ti) (hkind : scope.kind = .function) (hok : U5 X.env scope caps = true) (hcaps : slots.map (fun j => X.N[j]?) = caps.map some)
    (hgk : ∀ d M Q (cs : Lo), g d (List.replicate tns.length none ++ cs) M Q → g d (List.replicate tns.length none ++ cs) M (fun σ' M' => σ'.drop tns.length = cs ∧ Q σ' M'))
    (hg : ∀ cl s₀ H₀ ex, PG3 (C0 X scope cl s₀ H₀ ex (tns ++ caps)) tg g)
    (ht : ∀ cl s₀ H₀ ex, BH (C0 X scope cl s₀ H₀ ex (tns ++ caps)) ifs tt) (he : ∀ cl s₀ H₀ ex, PE3 (C0 X scope cl s₀ H₀ ex (tns ++ caps)) elt te)
    (hN : X.N.Nodup) (hiy : X.N[iy]? = some y) (hy : Loc X.env.scope y) (hf : X.fn y = true ∨ X.env.scope.names.lookup y = some .local)
    (hsw : swapsWith (.ListComp elt [⟨tg, iter, ifs, 0⟩] scope pos) (some (.Name y py)) spos.line X.env = pure true := by rfl)
    (hs : ∀ y, foldedSetIterable iter X.env y = pure y := by intro _; rfl) :
    PS3 X (.Assign [.Name y py] (.ListComp elt [⟨tg, iter, ifs, 0⟩] scope pos) spos) (B7 iy (K5 ti tns.length slots g tt te)) :=
  QL iy tns caps slots hc hi.toE hkind hok hcaps hgk hg ht he hN hiy hy hf hsw hs
end L3
namespace L2
open PySem PySem.Spec PyProof.Rows
section
variable {X : Cx} {tg : Expr}
end
end L2
namespace L3
open PySem PySem.Spec PyProof.Rows L2
section
variable {X : Cx} {a b c e : Expr} {t : TA3} {te : TE3} {p pos : Pos}
def CW (te : TE3) : TE3 := fun σ M Q => te σ M fun d M1 => ∃ p xs, d = .ref p ∧ M1 p = some (.lst xs) ∧ Q (.lst xs) (J0 M1 p)
theorem ZZ (h : PE3 X e te) : PE3 X e (CW te) := by
  intro pins s σv H σ M Q I hS hM hw
  refine thn (h pins s σv H σ M _ I hS hM hw) fun u s1 hx0 => ?_
  obtain ⟨x, xv, M1, H1, I1, st1, m1, rv1, p1, q1⟩ := hx0
  obtain ⟨p, xs, rfl, hp, q⟩ := q1
  obtain ⟨mF, rF, sF⟩ := Vs.frzL hp X.K H1 xv m1 p1
  exact ⟨.lst xs, xv, J0 M1 p, H1, I1, st1.less sF, mF, rv1, rF, q⟩
end
section
variable {X : Cx} {e i : Expr} {te ti : TE3} {pos : Pos}
def NY (M : Mem) (x : D) (ds : List D) : Prop := x = .lst ds ∨ ∃ a, x = .ref a ∧ M a = some (.lst ds)
theorem NB {K : PySem.W.Frag} {M : Mem} {H : Hp} {x : D} {v : V} {ds : List D} (m : MRel K M H) (r : Rep K M H x v) (e : NY M x ds) : ∃ p vs, v = .ref p ∧ SqL K H p vs ∧ Reps K M H ds vs := by
  rcases e with rfl | ⟨a, rfl, ha⟩
  · cases r with | lst h r => exact ⟨_, _, rfl, SqL.of3 h, r⟩
  · cases r
    obtain ⟨ho, e1, r⟩ := m _ _ ha
    cases ho <;> first | exact (r : False).elim | skip
    exact ⟨_, _, rfl, .inl (.inl e1), r⟩
def OU : R3 := fun x y M Q => ∃ ds es, NY M x ds ∧ NY M y es ∧ ds.length + es.length ≤ sizeLine ∧ ∀ p, M p = none → Q (.ref p) (D4 M p (.lst (ds ++ es)))
theorem AK9 : OpR3 X (binaryOp .Add) OU := by
  rintro pins s σv H M x y xv yv v u Q I m rx ry px py ⟨ds, es, hx, hy, hz, q⟩
  obtain ⟨p1, vs1, rfl, s1, r1⟩ := NB m px hx
  obtain ⟨p2, vs2, rfl, s2, r2⟩ := NB m py hy
  cases rx; cases ry
  obtain ⟨its, e1, p1, z1⟩ := I.list s1
  obtain ⟨its2, e2, p2, z2⟩ := I.list s2
  obtain ⟨⟨cls, dd, data, sl⟩, ho, hc, n, hd⟩ := p1.isList
  obtain ⟨⟨cls2, dd2, data2, sl2⟩, ho2, hc2, n2, hd2⟩ := p2.isList
  simp only at hc hd hc2 hd2
  subst hc hd hc2 hd2
  have l1 := r1.length
  have l2 := r2.length
  have l3 := e1.length
  have l4 := e2.length
  refine concat_meets ⟨_, ho, rfl⟩ ⟨_, ho2, rfl⟩ noFill_list_add seq_list_add PySem.F.slot_list_add PySem.F.entry_list_add (PySem.F.args_list_add_2 _ _) (list_addW _ _ _ _ n n2 dd dd2 sl sl2 (by simp; lia)) ⟨ho, ho2, ?_⟩
  have ea : its.toArray ++ its2.toArray = (its ++ its2).toArray := by simp
  rw [ea]
  have hf := I.fresh
  have rr := r1.append r2
  exact ⟨.ref s.heap.objs.size, .ref s.heap.objs.size, D4 M s.heap.objs.size (.lst (ds ++ es)), _, I.lnew (t' := s.toks) (e1.append e2) (by rw [List.length_append]; lia), Step.put (.inl hf), m.put (.inl hf) rr, rfl, .ref, q _ (m.free hf)⟩
theorem AF5 {x y : D} {ds es : List D} {M : Mem} {Q : DK} (hx : NY M x ds) (hy : NY M y es) (hz : ds.length + es.length ≤ sizeLine) (h : ∀ p, M p = none → Q (.ref p) (D4 M p (.lst (ds ++ es)))) : OU x y M Q := ⟨ds, es, hx, hy, hz, h⟩
def AH8 (P : Params) (r : Str × Tok × Addr) : DictEntry := ⟨PyData.keyHash P r.1, .str r.1 r.2.1, .ref r.2.2⟩
inductive GRows (K : PySem.W.Frag) : List (Str × Tok × Addr) → List (Str × List Str) → Prop
  | nil : GRows K [] []
  | cons {s : Str} {t : Tok} {b : Addr} {xs : List Str} {rows : List (Str × Tok × Addr)} {tbl : List (Str × List Str)} : AI1 K b (xs.map V.str) → GRows K rows tbl → GRows K ((s, t, b) :: rows) ((s, xs) :: tbl)
def AO0 (K : PySem.W.Frag) (P : Params) (a : Addr) (tbl : List (Str × List Str)) : Prop := ∃ (rows : List (Str × Tok × Addr)) (ep : Nat), K.lookup a = some ⟨.type "dict", none, .dict (rows.map (AH8 P)).toArray ep, #[]⟩ ∧ (rows.map (·.1)).Nodup ∧ GRows K rows tbl
def DO (rows : List (Str × Tok × Addr)) : List (Key × Value) := rows.map fun r => (Sum.inr r.1, .ref r.2.2)
theorem PC {K : PySem.W.Frag} {rows : List (Str × Tok × Addr)} {tbl : List (Str × List Str)} (h : GRows K rows tbl) {w : Str} {xs : List Str} (e : tbl.lookup w = some xs) : ∃ b, valueAt (DO rows) (Sum.inr w) = some (.ref b) ∧ AI1 K b (xs.map V.str) := by
  induction h with
  | nil => cases e
  | @cons s t b ys rows tbl k _ ih =>
    rw [List.lookup_cons] at e
    by_cases hw : w = s
    · subst hw
      simp only [beq_self_eq_true] at e
      cases e
      exact ⟨b, by simp [valueAt, DO], k⟩
    · have hne : (w == s) = false := by simpa using hw
      rw [hne] at e
      obtain ⟨b', h1, h2⟩ := ih e
      refine ⟨b', ?_, h2⟩
      have : ¬ (Sum.inr s : Key) = Sum.inr w := fun z => hw (Sum.inr.inj z).symm
      unfold valueAt DO at h1 ⊢
      rw [List.map_cons, List.find?_cons_of_neg (by simpa using this)]
      exact h1
theorem FA {P : Program} {w : World} : ∀ rows : List (Str × Tok × Addr), Pairs (F2 P w) (rows.map (AH8 w.params)) (DO rows)
  | [] => .nil
  | r :: rows => .cons (AC P w r.1 r.2.1) rfl (FA rows)
theorem XB {P : Program} {w : World} {K : PySem.W.Frag} {h : Heap} {a : Addr} {rows : List (Str × Tok × Addr)} {ep : Nat} (hk : h.get? a = some ⟨.type "dict", none, .dict (rows.map (AH8 w.params)).toArray ep, #[]⟩) (hn : (rows.map (·.1)).Nodup) : h.DictOf (F2 P w) a (DO rows) := by
  refine ⟨_, _, ep, hk, ⟨rfl, rfl, rfl⟩, rfl, fun e he => ?_, by simpa using FA rows, ?_⟩
  · obtain ⟨s, t, b, _, rfl⟩ : ∃ s t b, (s, t, b) ∈ rows ∧ AH8 w.params (s, t, b) = e := by simpa using he
    exact ⟨.inr s, AC P w s t, rfl⟩
  · have : (DO rows).map (·.1) = (rows.map (·.1)).map Sum.inr := by unfold DO; rw [List.map_map, List.map_map]; rfl
    rw [this]
    exact List.Pairwise.map _ (fun a b hab hc => hab (Sum.inr.inj hc)) hn
def AX8 (tbl : List (Str × List Str)) (ti : TE3) : TE3 := fun σ M Q => ti σ M fun d M1 => ∃ w xs, d = .str w ∧ tbl.lookup w = some xs ∧ Q (.tup (xs.map D.str)) M1
theorem AR2 {x : Str} {tbl : List (Str × List Str)} {p1 : Pos} (hg : Gl X x) (hm : ∃ a, X.mg x = some (.ref a) ∧ AO0 X.K X.w.params a tbl) (hi : PE3 X i ti) (hs : AM3 i) (hd : (x == ("__debug__" : Str)) = false := by decide) : PE3 X (.Subscript (.Name x p1) i pos) (AX8 tbl ti) := by
  obtain ⟨a, hm, rows, ep, hk, hn, gr⟩ := hm
  intro pins s σv H σ M Q I hS hM h
  refine SQ PySem.F.slot_dict_getitem.lookup hs (thn (AA6 (d := .ref a) (v := .ref a) hg hm rfl (fun _ _ => .ref) hd pins s σv H σ M (fun d M1 => d = .ref a ∧ ti σ M1 fun d M1 => ∃ w xs, d = .str w ∧ tbl.lookup w = some xs ∧ Q (.tup (xs.map D.str)) M1) I hS hM ⟨rfl, h⟩) fun u s1 ⟨d, v, M1, H1, I1, st1, m1, r1, p1, e1, q1⟩ => ?_)
  subst e1
  cases p1
  obtain rfl : u = Value.ref a := r1
  refine thn (hi pins s1 σv H1 σ M1 _ I1 (hS.mono st1) m1 q1) fun iv s2 ⟨y, yv, M2, H2, I2, st2, m2, r2, p2, w, xs, e2, hl, q2⟩ => ?_
  subst e2
  cases p2
  have dd : s2.heap.DictOf (F2 X.prog X.w) a (DO rows) := XB (K := X.K) (I2.kIn a _ hk) hn
  obtain ⟨b, hv, kt⟩ := PC gr hl
  exact ⟨dd.typeIs, wpAny_getItem_of (MV (k := .inr w) r2) dd.mapOf hv ⟨_, .ref b, M2, H2, I2.tok _, st1.trans st2, m2, rfl, .tup (.inr kt) (AW xs), q2⟩⟩
theorem BB6 {tbl : List (Str × List Str)} {σ : Lo} {M : Mem} {Q : DK} (h : ti σ M fun d M1 => ∃ w xs, d = .str w ∧ tbl.lookup w = some xs ∧ Q (.tup (xs.map D.str)) M1) : AX8 tbl ti σ M Q := h
end
end L3
namespace HT
open PySem PySem.Spec PyProof.Rows
section
variable {prog : Program} {w : World} {A : Around} {E : Value → Shared → Prop} {s : Shared}
end
end HT
namespace L3
open PySem PySem.Spec PyProof.Rows L2
section
variable {X : Cx} {e st : Expr} {te : TE3} {ts : TO3} {pos p2 : Pos}
end
theorem FW {X : Cx} {elt tg iter : Expr} {pos : Pos} {ifs : List Expr} {scope : Scope} (tns caps : List Str) (slots : List Nat) {ti : TI3} {g : TG3} {tt : TT3} {te : TE3}
    (hc : X.calm = true) (hi : PI3 X tg iter ti) (hkind : scope.kind = .function) (hok : U5 X.env scope caps = true) (hcaps : slots.map (fun j => X.N[j]?) = caps.map some)
    (hgk : ∀ d M Q (cs : Lo), g d (List.replicate tns.length none ++ cs) M Q → g d (List.replicate tns.length none ++ cs) M (fun σ' M' => σ'.drop tns.length = cs ∧ Q σ' M'))
    (hg : ∀ cl s₀ H₀ ex, PG3 (C0 X scope cl s₀ H₀ ex (tns ++ caps)) tg g)
    (ht : ∀ cl s₀ H₀ ex, BH (C0 X scope cl s₀ H₀ ex (tns ++ caps)) ifs tt) (he : ∀ cl s₀ H₀ ex, PE3 (C0 X scope cl s₀ H₀ ex (tns ++ caps)) elt te)
    (hs : ∀ y, foldedSetIterable iter X.env y = pure y := by intro _; rfl) :
    PE3 X (.ListComp elt [⟨tg, iter, ifs, 0⟩] scope pos) (N7 ti tns.length slots g tt te) := by
  unfold U5 at hok
  rw [Bool.and_eq_true, List.all_eq_true, List.all_eq_true] at hok
  obtain ⟨h1, h2⟩ := hok
  refine QF hc hi hkind (fun y hy e => ?_) (fun y hy e => ?_) (fun y hy e => ?_) (fun y hy => ?_) hcaps hgk hg ht he hs
  · have := h1 y hy; rw [e] at this; cases this
  · have := h1 y hy
    rw [e] at this
    dsimp only at this
    split at this
    · assumption
    · cases this
  · have := h1 y hy
    rw [e] at this
    dsimp only at this
    split at this
    · exact .inl (by assumption)
    · exact .inr (by assumption)
    · cases this
  · have := h2 y hy
    split at this
    · assumption
    · cases this
end L3
namespace PySem.SeqAt
open AutoSeq1 (wpAny_loadPart')
open MeetsSeq
end PySem.SeqAt
namespace HT
open PySem PySem.Spec PyProof.Rows L2
theorem AX {prog : Program} {w : World} {A : Around} {E : Value → Shared → Prop} {s : Shared} {t sl : Addr} {items : Array Value} {vl vu : Value} {lo hi : Option Int} {Q : Value → Shared → Prop} (ht : IsTup s.heap t items) (hs : s.heap.IsSliceOf sl vl vu .none) (pl : IsPart vl lo) (pu : IsPart vu hi)
    (hw : sIx items.size 0 lo = 0 ∧ sIx items.size items.size hi = items.size) (h : Q (.ref t) s) : wpAny (model prog w) A (getItem (.ref t) (.ref sl)) Q E s := by
  obtain ⟨os, hos, hcs, hds⟩ := id hs
  have hTs : s.TypeIs (.ref sl) "slice" := ⟨os, hos, hcs⟩
  obtain ⟨o, ho, hc, n, hd⟩ := id ht
  unfold getItem
  try with_reducible refine wpAny_holding ?_
  first | refine wpAny_bind (wpAny_pure ?_) | skip
  refine wpAny_bind (wpAny_sequenceKey ht.typeIs (by decide) ?_)
  refine wpAny_bind (wpAny_callSpecial?_slot (name := Str.ofString "__getitem__") ht.typeIs PyProof.Rows.slot_tuple_getitem
    (wpAny_call_entry PyProof.Rows.slot_tuple_getitem ht.typeIs entry_tuple_getitem ?_ (args_tuple_getitem _ _)))
  show wpAny _ _ (Builtin.Tuple.tupleItemsOf (.ref t) >>= _) _ _ s
  refine wpAny_bind (tupleItemsOf_ ht ?_)
  refine wpAny_bind (wpAny_typeOf hTs ?_)
  rw [if_pos (by decide)]
  refine wpAny_bind (X3 hs pl pu ?_)
  have hyes : (((sIx items.size 0 lo : Nat) : Int) == 0 && (1 : Int) == 1 && (sIx items.size items.size hi - sIx items.size 0 lo) == items.size) = true := by
    rw [hw.1, hw.2]; simp
  show wpAny _ _ (if (((sIx items.size 0 lo : Nat) : Int) == 0 && (1 : Int) == 1 && (sIx items.size items.size hi - sIx items.size 0 lo) == items.size) = true then _ else _) _ _ s
  rw [if_pos hyes]
  unfold Builtin.Tuple.tupleIsExact
  refine wpAny_bind ?_
  first
    | exact wpAny_typeOf ht.typeIs (by rw [if_pos (by decide)]; exact wpAny_bind (wpAny_rule (wpAny_pure ⟨_, rfl, wpAny_pure h⟩)))
    | exact wpAny_bind (wpAny_typeOf ht.typeIs (wpAny_pure (by rw [if_pos (by decide)]; exact wpAny_bind (wpAny_rule (wpAny_pure ⟨_, rfl, wpAny_pure h⟩)))))
end HT
namespace L3
open PySem PySem.Spec PyProof.Rows L2
section
variable {X : Cx} {pins : List (Addr × Obj)} {σv : L2.St} {M : Mem} {H : Hp} {s : Shared}
end
section
variable {X : Cx} {e : Expr} {te : TE3} {pos : Pos}
def AP0 (K : PySem.W.Frag) : V → Option Int → Option Int → Hp → VK → Prop := fun x lo hi H Q => ∃ a xs, x = .ref a ∧ SqT K H a xs ∧
  (HT.sIx xs.length 0 lo = 0 ∧ HT.sIx xs.length xs.length hi = xs.length) ∧ Q (.ref a) H
theorem AH4 : SlR X (AP0 X.K) := by
  intro pins s σ H x v vl vu lo hi sl Q I rx hs pl pu h
  obtain ⟨a, xs, rfl, hx, hw, q⟩ := h
  cases rx
  obtain ⟨its, r, ht, hz⟩ := I.tuple hx
  have hlen : its.toArray.size = xs.length := by rw [List.size_toArray]; exact r.length.symm
  refine ⟨"tuple", _, PyProof.Rows.slot_tuple_getitem.lookup, ht.typeIs, ?_⟩
  exact HT.AX ht hs pl pu (by rw [hlen]; exact hw) ⟨.ref a, H, I, rfl, q⟩
def AB2 : D → Option Int → Option Int → Mem → DK → Prop := fun x lo hi M Q => match x with
  | .lst ds => Q (.lst (cutD ds lo hi)) M
  | .tup ds => Q (.tup (cutD ds lo hi)) M
  | .str z => z.length ≤ sizeLine ∧ Q (.str (Txt.slice z lo hi)) M
  | _ => False
def SS (te : TE3) (tl th : TO3) : TE3 := fun σ M Q => te σ M fun x M1 => tl σ M1 fun l M2 => th σ M2 fun u M3 => AB2 x l u M3 Q
theorem VC {ds : List D} {lo hi : Option Int} (h : HT.sIx ds.length 0 lo = 0 ∧ HT.sIx ds.length ds.length hi = ds.length) : cutD ds lo hi = ds := by
  unfold cutD
  rw [h.1, h.2]
  simp
theorem SY {lo hi : Option Expr} {tl th : TO3} {p2 : Pos} (he : PE3 X e te) (hl : PO3 X lo tl) (hu : PO3 X hi th) :
    PE3 X (.Subscript e (.Slice lo hi none p2) pos) (SS te tl th) := by
  intro pins s σv H σ M Q I hS hM h
  refine Subscript_ (thn (he pins s σv H σ M _ I hS hM h) fun v s1 ⟨x, xv, M1, H1, I1, st1, m1, rv1, p1, q1⟩ => ?_)
  refine wpAny_Slice (thn (hl pins s1 σv H1 σ M1 _ I1 (hS.mono st1) m1 q1) fun vl s2 ⟨l, M2, H2, I2, st2, m2, pl, q2⟩ => thn (hu pins s2 σv H2 σ M2 _ I2 (hS.mono (st1.trans st2)) m2 q2) fun vu s3 ⟨u, M3, H3, I3, st3, m3, pu, q3⟩ => ?_)
  rw [evalPart_none]
  refine wpAny_pure ?_
  have I4 : Inv X pins σv H3 { s3 with heap := s3.heap.push { cls := .type "slice", data := .fields #[vl, vu, .none] } } := I3.kept (t' := s3.toks) fun b ob q => Heap.get?_push_of_some _ q
  have p3 := p1.mono (st2.trans st3)
  have fin : ((AT5 X.K xv l u H3 (Up X.K M3 H3 Q) ∨ AS3 X.K xv l u H3 (Up X.K M3 H3 Q)) ∨ BD3 xv l u H3 (Up X.K M3 H3 Q)) ∨ AP0 X.K xv l u H3 (Up X.K M3 H3 Q) := by
    cases x with
    | str z =>
      cases p3
      exact .inl (.inr ⟨_, rfl, q3.1, up0 m3 .str q3.2⟩)
    | tup ds =>
      cases p3 with | tup h1 r =>
      by_cases hw : HT.sIx ds.length 0 l = 0 ∧ HT.sIx ds.length ds.length u = ds.length
      · have q3 : Q (.tup (cutD ds l u)) M3 := q3
        rw [VC hw] at q3
        exact .inr ⟨_, _, rfl, SqT.of3 h1, by rw [← r.length]; exact hw, up0 m3 (.tup h1 r) q3⟩
      · rw [r.length] at hw
        exact .inl (.inl (.inr ⟨_, _, rfl, SqT.of3 h1, hw, fun p hp => ⟨_, M3, Step.lay hp, m3.lay hp, .tup (.inl ⟨.inl D5, m3.free hp⟩) ((r.cut l u).mono (Step.lay hp)), q3⟩⟩))
    | lst ds =>
      cases p3 with | lst h1 r =>
      refine .inl (.inl (.inl ⟨_, _, rfl, SqL.of3 h1, fun p hp => ?_⟩))
      exact ⟨_, M3, Step.lay hp, m3.lay hp, .lst (.inl ⟨.inl D5, m3.free hp⟩) ((r.cut l u).mono (Step.lay hp)), q3⟩
    | _ => exact (q3 : False).elim
  obtain ⟨T, id, hT, ht, hg⟩ := (((sl_list.or WN).or AV3).or AH4) pins { s3 with heap := s3.heap.push { cls := .type "slice", data := .fields #[vl, vu, .none] } } σv H3 xv v vl vu l u s3.heap.objs.size _ I4 rv1 (Heap.IsSliceOf.new ..) pl pu fin
  show wpAny (model X.prog X.w) X.A (subscriptTail e (.Slice lo hi none p2) v (.ref s3.heap.objs.size)) (EP3 X pins σv M H Q) X.xe { s3 with heap := s3.heap.push { cls := .type "slice", data := .fields #[vl, vu, .none] } }
  exact tail_any (ops := [.ref s3.heap.objs.size, v]) ht hT (thn hg fun _ _ z => (S8 z).trans ((st1.trans st2).trans st3)) (by with_unfolding_all rfl)
end
end L3
namespace L2
open PySem PySem.Spec PyProof.Rows
end L2
namespace L3
open PySem PySem.Spec PyProof.Rows L2
section
variable {X : Cx} {st : Stmt} {rest : List Stmt} {t u : TX3} {pos np cpos : Pos}
end
section
variable {P : Program} {w : World} {K : PySem.W.Frag} {mg : Str → Option Value} {base : Heap}
end
end L3
namespace L2
open PySem PySem.Spec PyProof.Rows
theorem ObjOk.get {P : Program} {w : World} {H : Hp} {h : Heap} {a : Addr} {o : HO} (x : ObjOk P w H h a o) : ∃ u, h.get? a = some u := by
  cases o with
  | lst xs => obtain ⟨_, _, _, _, e⟩ := x; exact ⟨_, e⟩
  | tup xs => obtain ⟨_, _, _, u, e, _⟩ := x; exact ⟨u, e⟩
  | dK kvs => obtain ⟨_, _, _, _, o, _, _, e, _⟩ := x; exact ⟨_, e⟩
  | dT kvs => obtain ⟨_, _, _, _, o, _, _, e, _⟩ := x; exact ⟨_, e⟩
  | set S n => obtain ⟨o, _, _, _, e, _⟩ := x; exact ⟨_, e⟩
  | ins C dx fs => obtain ⟨_, _, _, e, _⟩ := x; exact ⟨_, e⟩
  | own y => exact x
  | xd fs => obtain ⟨_, ⟨_, _, _, e, _⟩, _⟩ := x; exact ⟨_, e⟩
  | rng lo hi => obtain ⟨_, _, _, e⟩ := x; exact ⟨_, e⟩
  | frz ob u => obtain ⟨e, _⟩ := x; exact ⟨_, e⟩
  | tbl ps => exact ⟨_, (show h.get? a = some _ from x)⟩
  | met f y => exact ⟨_, (show h.get? a = some _ from x)⟩
  | ext φ => exact x.2.1
section
variable {X : Cx} {pins : List (Addr × Obj)} {σ : St} {H H2 : Hp} {s s1 : Shared} {ea : Addr} {cls a0 : Value} {B h6 : Heap}
theorem AI4 (hok : HOk X.prog X.w H2 B) (hn : B.get? ea = none) : H2 ea = none := by
  cases e : H2 ea with
  | none => rfl
  | some o =>
    obtain ⟨u, e'⟩ := (hok ea o e).get
    rw [hn] at e'; cases e'
end
end L2
namespace PySem.W
open PySem PySem.Spec PySem.Calls PyProof.Rows
section
variable {prog : Program} {w : World} {A : Around} {E : Value → Shared → Prop} {h : Heap} {g : Array GenState} {d : Drawn} {t : Nat} {os : OsState} {a C : Addr} {o : Obj} {K : Frag}
end
end PySem.W
namespace L2
open PySem PySem.Spec PyProof.Rows
section
variable {X : Cx} {pins : List (Addr × Obj)} {σ : St} {H : Hp} {s : Shared} {p : Addr × Obj}
end
end L2
namespace L3
open PySem PySem.Spec PyProof.Rows L2
section
variable {X : Cx} {k : Nat} {f C : Addr} {fd : FuncData} {ps : List Str} {sp : SpX3} {fx cx xi xj xl : Str} {i j l : Nat} {e : Expr} {es : List Expr} {ta : TA3} {p cp ap tp np hp pi pj pl ap2 : Pos}
end
end L3
namespace PySem.SeqAt
end PySem.SeqAt
namespace L3
open PySem PySem.Spec PyProof.Rows L2
section
variable {X : Cx} {pos : Pos}
end
end L3
namespace TSt
open PySem
def tx : Value → Str
  | .str z _ => z
  | _ => ⟨#[]⟩
section
variable {P : Program} {w : World} {A : Around} {E : Value → Shared → Prop} {s : Shared} {h h' : Heap} {a : Addr} {L : List Str} {z : Str} {tk : Tok}
def E8 (w : World) : Bool := !(w.params.followText "set-order")
def TSet (P : Program) (w : World) (h : Heap) (a : Addr) (L : List Str) : Prop :=
  ∃ o es ep t, h.get? a = some o ∧ o.ExactSet ∧ o.data = .set es ep t ∧ ElemsOf (strKind P w) es.toList ∧ es.toList.map (fun e => tx e.2) = L ∧ L.Nodup ∧ es.size < scanBound ∧ t.fits es.size = true ∧ (t.plain = true → es.size = 0) ∧ t.led = E8 w
theorem ZD {k : Str} {v : Value} (q : (strKind P w).is k v = true) : tx v = k := by
  obtain ⟨t, rfl⟩ := Value.isStrOf_shape (x := k) (v := v) q
  rfl
theorem MQ {e : Int × Value} {l : List (Int × Value)} (q : ElemsOf (strKind P w) l) (m : e ∈ l) : (strKind P w).is (tx e.2) e.2 = true ∧ e.1 = (strKind P w).hash (tx e.2) := by
  obtain ⟨⟨k, q1, q2⟩, _⟩ := q e m
  rw [ZD q1]
  exact ⟨q1, q2⟩
theorem N8 {l : List (Int × Value)} (q : ElemsOf (strKind P w) l) (k : Str) : (∃ e ∈ l, (strKind P w).is k e.2 = true) ↔ k ∈ l.map fun e => tx e.2 := by
  constructor
  · rintro ⟨e, m, i⟩
    exact List.mem_map.mpr ⟨e, m, ZD i⟩
  · intro m
    obtain ⟨e, m', rfl⟩ := List.mem_map.mp m
    exact ⟨e, m', (MQ q m').1⟩
theorem TSet.len (T : TSet P w h a L) : L.length < scanBound := by
  obtain ⟨o, es, ep, t, _, _, _, _, rfl, _, b, _⟩ := T
  rw [List.length_map, Array.length_toList]; exact b
theorem TSet.keep (T : TSet P w h a L) (k : ∀ o, h.get? a = some o → h'.get? a = some o) : TSet P w h' a L := by
  obtain ⟨o, es, ep, t, g, r⟩ := T
  exact ⟨o, es, ep, t, k _ g, r⟩
theorem TSet.setOf (T : TSet P w h a L) : h.SetOf (strKind P w) a (fun k => decide (k ∈ L)) L.length := by
  obtain ⟨o, es, ep, t, g, x, d, el, rfl, nd, b, f, _⟩ := T
  refine ⟨o, es, ep, t, g, x, d, el, fun k => ?_, b, f, by rw [List.length_map, Array.length_toList]⟩
  rw [decide_eq_true_eq, N8 el]
theorem OI {t : SetTable} {es : Array (Int × Value)} {n : Nat} (q : t.plain = false) : (relayAll t es n).2.1.plain = false := by
  unfold relayAll SetTable.relaid SetTable.laid
  cases SetTable.layClean (SetTable.sizeAbove n - 1) (es.map (·.1)) with
  | none => rfl
  | some ow =>
    simp only [Option.pure_def, Option.bind_eq_bind, Option.bind_some]
    split
    · exact q
    · rfl
theorem VP {t : SetTable} {es : Array (Int × Value)} {n : Nat} : (relayAll t es n).2.1.led = t.led := by
  unfold relayAll SetTable.relaid SetTable.laid
  cases SetTable.layClean (SetTable.sizeAbove n - 1) (es.map (·.1)) with
  | none => rfl
  | some ow =>
    simp only [Option.pure_def, Option.bind_eq_bind, Option.bind_some]
    split <;> rfl
theorem VR (t : SetTable) (n : Nat) : (t.orStandIn n).led = t.led := by
  unfold SetTable.orStandIn
  split <;> rfl
theorem AF6 {t : SetTable} {es : Array (Int × Value)} {h : Int} {x : Value} : (layNew t es h x).2.1.led = t.led := by
  unfold layNew
  split
  · exact VR _ _
  · rfl
theorem Y5 {l m : List Str} (q : List.Perm l m) (n : m.Nodup) : l.Nodup := q.nodup_iff.mpr n
set_option maxHeartbeats 1000000 in
theorem ON {Q : Bool → Shared → Prop} (T : TSet P w s.heap a L) (room : L.length + 1 < scanBound)
    (q : ∀ h' L', Heap.SameBut a s.heap h' → TSet P w h' a L' → List.Perm L' (if z ∈ L then L else L ++ [z]) → Q (!decide (z ∈ L)) { s with heap := h' }) :
    wpAny (model P w) A (setAddHashed a (.str z tk) ((strKind P w).hash z)) Q E s := by
  obtain ⟨o, es, ep, t, g, x, d, el, rfl, nd, b, f, pl, ld⟩ := T
  have key : (strKind P w).is z (.str z tk) = true := by simp [strKind, Value.isStrOf]
  have sc : (Value.str z tk).scannable = true := rfl
  unfold setAddHashed setAddHashedIn
  refine wpAny_holding (wpAny_bind (wpAny_setState_of g d f ?_))
  dsimp only
  rw [if_pos (byScan_of sc b el)]
  unfold setAddByScan
  refine wpAny_bind (wpAny_bind (wpAny_rule (wpAny_bind (wpAny_setScan_of key g d f el ?_))))
  cases fi : es.toList.findIdx? (fun e => (strKind P w).is z e.2) with
  | some j =>
    dsimp only
    obtain ⟨hj, hp, _⟩ := List.findIdx?_eq_some_iff_getElem.mp fi
    have m : z ∈ es.toList.map fun e => tx e.2 := (N8 el z).mp ⟨_, List.getElem_mem hj, hp⟩
    have r := q s.heap _ (.refl a _) ⟨o, es, ep, t, g, x, d, el, rfl, nd, b, f, pl, ld⟩ (by rw [if_pos m])
    rw [decide_eq_true m] at r
    exact wpAny_pure (wpAny_pure r)
  | none =>
    dsimp only
    have m : z ∉ es.toList.map fun e => tx e.2 := fun m => by
      obtain ⟨e, me, i⟩ := (N8 el z).mpr m
      have := List.findIdx?_eq_none_iff.mp fi e me
      rw [i] at this; cases this
    have pe := layNew_perm t es ((strKind P w).hash z) (.str z tk)
    have le := AF6 (t := t) (es := es) (h := (strKind P w).hash z) (x := .str z tk)
    have fe := layNew_fits t es ((strKind P w).hash z) (.str z tk)
    generalize layNew t es ((strKind P w).hash z) (.str z tk) = R at pe fe le ⊢
    obtain ⟨es1, t1, dm, gv⟩ := R
    dsimp only at pe fe le ⊢
    rw [Array.toList_push] at pe
    have el1 : ElemsOf (strKind P w) es1.toList := (el.push key sc).perm pe
    have pm : List.Perm (es1.toList.map fun e => tx e.2) ((es.toList.map fun e => tx e.2) ++ [z]) := by
      have := pe.map (fun e : Int × Value => tx e.2)
      rw [List.map_append] at this
      exact this
    have nd1 : (es1.toList.map fun e => tx e.2).Nodup := Y5 pm (by
      rw [List.nodup_append]
      refine ⟨nd, by simp, fun u hu v hv => ?_⟩
      rw [List.mem_singleton] at hv
      subst hv
      rintro rfl
      exact m hu)
    have sz : es1.size = es.size + 1 := by rw [← Array.length_toList, pe.length_eq, List.length_append, Array.length_toList]; rfl
    have b1 : es1.size < scanBound := by
      rw [List.length_map, Array.length_toList] at room
      rw [sz]; exact room
    have rule1 : ∀ (bb : Bool) {s1 : Shared} {Q1 : Unit → Shared → Prop}, Q1 () s1 → wpAny (model P w) A (match bb with | true => rule "set.scan.the-table-gave-way" | false => pure ()) Q1 E s1 := fun bb s1 Q1 y => by
      cases bb
      · exact wpAny_pure y
      · exact wpAny_rule y
    refine wpAny_bind (rule1 _ ?_)
    have fin : ∀ h' L', Heap.SameBut a s.heap h' → TSet P w h' a L' → List.Perm L' (es1.toList.map fun e => tx e.2) → Q true { s with heap := h' } := fun h' L' sb T p => by
      have r := q h' L' sb T (by rw [if_neg m]; exact p.trans pm)
      rw [decide_eq_false m] at r
      exact r
    have tail : ∀ (t2 : SetTable), t2.fits es1.size = true → t2.plain = false → t2.led = E8 w → wpAny (model P w) A (do
        storeSet a es1 t2
        if (!dm && t2.tooFull) = true then do
            (match (relayAll t2 es1 (SetTable.grown es1.size)).2.2 with | true => rule "set.scan.the-table-gave-way" | false => pure ())
            storeSet a (relayAll t2 es1 (SetTable.grown es1.size)).1 (relayAll t2 es1 (SetTable.grown es1.size)).2.1
            pure (some true)
          else pure (some true)) (fun r s' => r = some true ∧ Q true s') E s := fun t2 f2 p2 l2 => by
      refine wpAny_bind (wpAny_storeSet_of g d ?_ (fits_of_scanBound b1))
      obtain ⟨g1, _⟩ := SetOf_store (knd := strKind P w) (S' := fun k => decide (k ∈ es1.toList.map fun e => tx e.2)) g x d el1 (fun k => by rw [decide_eq_true_eq, N8 el1]) b1 f2
      have sb := Heap.SameBut.update s.heap a (Obj.putSet es1 t2)
      split
      · have rp := relayAll_perm t2 es1 (SetTable.grown es1.size)
        have rf := relayAll_fits t2 es1 (SetTable.grown es1.size)
        have rk := VP (t := t2) (es := es1) (n := SetTable.grown es1.size)
        have rl := OI (es := es1) (n := SetTable.grown es1.size) p2
        generalize relayAll t2 es1 (SetTable.grown es1.size) = R at rp rf rl rk ⊢
        obtain ⟨es2, t3, gv2⟩ := R
        dsimp only at rp rf rl rk ⊢
        have s2 : es2.size = es1.size := by rw [← Array.length_toList, rp.length_eq, Array.length_toList]
        have b2 : es2.size < scanBound := by rw [s2]; exact b1
        have el2 := el1.perm rp
        have pm2 := rp.map (fun e : Int × Value => tx e.2)
        refine wpAny_bind (rule1 _ (wpAny_bind (wpAny_storeSet_of g1 rfl ?_ (fits_of_scanBound b2))))
        obtain ⟨g2, _⟩ := SetOf_store (knd := strKind P w) (S' := fun k => decide (k ∈ es2.toList.map fun e => tx e.2)) g1 x rfl el2 (fun k => by rw [decide_eq_true_eq, N8 el2]) b2 rf
        exact wpAny_pure ⟨rfl, fin _ _ (sb.trans (Heap.SameBut.update _ a _)) ⟨_, es2, _, t3, g2, x, rfl, el2, rfl, Y5 pm2 nd1, b2, rf, fun z => (by rw [rl] at z; cases z), rk.trans l2⟩ pm2⟩
      · exact wpAny_pure ⟨rfl, fin _ _ sb ⟨_, es1, _, t2, g1, x, rfl, el1, rfl, nd1, b1, f2, fun z => (by rw [p2] at z; cases z), l2⟩ (.refl _)⟩
    split
    · refine wpAny_bind ?_
      rw [hashByValue_scannable 8 sc]
      refine wpAny_pure ?_
      refine wpAny_mono (tail { t1 with plain := false } (SetTable.fits_plain_off fe) rfl (le.trans ld)) (fun r s' y => ?_) fun _ _ y => y
      obtain ⟨rfl, y⟩ := y
      exact wpAny_pure y
    · rename_i np
      refine wpAny_bind (wpAny_pure ?_)
      refine wpAny_mono (tail t1 fe (by simpa using np) (le.trans ld)) (fun r s' y => ?_) fun _ _ y => y
      obtain ⟨rfl, y⟩ := y
      exact wpAny_pure y
end
end TSt
namespace TSt
open PySem PyProof.Rows
theorem RW : ∀ {l m : List Str}, l.Nodup → (∀ x ∈ l, x ∈ m) → l.length ≤ m.length
  | [], _, _, _ => Nat.zero_le _
  | x :: l, m, n, q => by
    rw [List.nodup_cons] at n
    have hx := q x List.mem_cons_self
    have h1 : l.length ≤ (m.erase x).length := RW n.2 fun y hy => by
      have ne : y ≠ x := fun e => n.1 (e ▸ hy)
      exact (List.mem_erase_of_ne ne).mpr (q y (List.mem_cons_of_mem _ hy))
    rw [List.length_erase_of_mem hx] at h1
    have : 0 < m.length := List.length_pos_of_mem hx
    rw [List.length_cons]; lia
section
variable {P : Program} {w : World} {A : Around} {R : Result → Shared → Prop} {I S : Addr} {fp wr : List Addr} {G : Array GenState → Array GenState → Prop} {n : Nat} {Pz : Nat → Value → Prop} {St : Nat → Shared → Prop}
theorem OK (W : WalksS P w A.in1 I fp wr G n Pz St) (hSf : S ∉ fp) {zs : List Str} (hn : zs.length = n) (hv : ∀ i v, i < n → Pz i v → ∃ t, v = .str (zs.getD i ⟨#[]⟩) t) (hb : n + 1 < scanBound) :
    ∀ (k i : Nat) (s : Shared) (L : List Str), n - i = k → i ≤ n → St i s → TSet P w s.heap S L → (∀ z, z ∈ L ↔ z ∈ zs.take i) →
      (∀ s' L', Moved (S :: wr) G s s' → TSet P w s'.heap S L' → (∀ z, z ∈ L' ↔ z ∈ zs) → R (.ok (.ret .none)) s') → codeAny (model P w) A (.builtin "set.update.loop" ⟨[.ref S, .ref I], []⟩) R s := by
  have hSw : S ∉ wr := fun q => hSf (W.sub _ q)
  have wide : ∀ b ∈ wr, b ∈ S :: wr := fun b q => List.mem_cons_of_mem _ q
  intro k
  induction k with
  | zero =>
    intro i s L hk hi st T mem fin
    obtain rfl : i = n := by lia
    refine codeAny_builtin PyProof.Rows.F.entry_set_update_loop ?_
    rw [Around.under_plainId PyProof.Rows.F.plain_set_update_loop _]
    show wpAny _ A.in1 (pyNext (.ref I) >>= _) _ _ s
    refine wpAny_bind (W.done s _ _ st fun s' mv => ?_)
    refine wpAny_pure (fin s' L (mv.mono wide) (T.keep fun o e => mv.heap S o hSw e) fun z => ?_)
    rw [mem z, List.take_of_length_le (by lia)]
  | succ k ih =>
    intro i s L hk hi st T mem fin
    have hin : i < n := by lia
    refine codeAny_builtin PyProof.Rows.F.entry_set_update_loop ?_
    rw [Around.under_plainId PyProof.Rows.F.plain_set_update_loop _]
    show wpAny _ A.in1 (pyNext (.ref I) >>= _) _ _ s
    refine wpAny_bind (W.item i s _ _ hin st fun v s' pv st' mv => ?_)
    obtain ⟨t, rfl⟩ := hv i v hin pv
    generalize hz : zs.getD i ⟨#[]⟩ = z
    have hzi : zs[i]? = some z := by
      rw [List.getD_eq_getElem?_getD] at hz
      cases e : zs[i]? with
      | none => rw [List.getElem?_eq_none_iff] at e; lia
      | some y => rw [e] at hz; exact congrArg some hz
    have T' : TSet P w s'.heap S L := T.keep fun o e => mv.heap S o hSw e
    have hL : L.length ≤ i := by
      obtain ⟨o, es, ep, tb, _, _, _, _, e, nd, _⟩ := id T
      have := RW nd fun x hx => (mem x).mp hx
      rw [List.length_take] at this; lia
    show wpAny _ A.in1 (holding [Value.str z t] (setAdd S (.str z t)) >>= _) _ _ s'
    refine wpAny_bind (wpAny_holding ?_)
    unfold setAdd
    refine wpAny_holding (wpAny_bind ((PySem.strKind P w).pyHash (k := z) (by simp [PySem.strKind, Value.isStrOf]) ?_))
    refine ON (s := { s' with toks := s'.toks + 1 }) (L := L) T' (by lia) fun h' L' sb T2 pm => ?_
    refine wpAny_pure ⟨plainId_quiet PyProof.Rows.F.plain_set_update_loop _, ih (i + 1) _ L' (by lia) hin (W.frame _ s' _ _ st' (Nat.le_succ _) fun b hb' o e => ?_) T2 (fun y => ?_) fun s'' L'' mv' T3 mem' => ?_⟩
    · rw [sb.2 b (fun q : b = S => hSf (q ▸ hb'))]; exact e
    · rw [pm.mem_iff, List.take_succ, hzi]
      simp only [Option.toList_some, List.mem_append, List.mem_singleton, ← mem y]
      split
      · rename_i hm
        exact ⟨.inl, fun q => q.elim id fun e => e ▸ hm⟩
      · rw [List.mem_append, List.mem_singleton]
    · refine fin s'' L'' (Moved.trans W.gtrans ((mv.mono wide).then_heap (Nat.le_succ _) fun b o hb' e => ?_) mv') T3 mem'
      rw [sb.2 b (fun q : b = S => hb' (q ▸ List.mem_cons_self))]; exact e
end
section
variable {P : Program} {w : World} {A : Around} {E : Value → Shared → Prop} {s : Shared}
abbrev K8 (led : Bool) : Obj := { cls := .type "set", dict := none, data := .set #[] 0 (.fresh 0 0 led) }
theorem CI {h : Heap} {a : Addr} (g : h.get? a = some (K8 (E8 w))) : TSet P w h a [] :=
  ⟨_, #[], 0, _, g, ⟨rfl, rfl, rfl⟩, rfl, fun e he => absurd he (by simp), rfl, List.nodup_nil, by decide, (by cases E8 w <;> decide), fun _ => rfl, rfl⟩
theorem NF (v : Value) {Q1 : Value → Shared → Prop} (q : Q1 (.ref s.heap.objs.size) { s with heap := s.heap.push (K8 (E8 w)) }) : codeAny (model P w) A (.call (.builtin "set.__new__") ⟨[.type "set", v], []⟩) (wants Q1 E) s := by
  refine codeAny_call_builtin F.plain_set_new F.entry_set_new (wpAny_of_eq (F.newCall_set_1 v) ?_)
  unfold Builtin.«set.__new__» Builtin.Frozenset.newClass
  have y := sub_set_self
  obtain ⟨hp, g, d, tk, os⟩ := s
  dsimp only at q ⊢
  wp_walk
  refine wpAny_askSetting (wpAny_pure ?_)
  dsimp only
  simp only [newObj]
  exact wpAny_bind (wpAny_alloc (wpAny_pure (wpAny_pure q)))
theorem OF : isSubtype (.type "tuple") (.type "set") = pure false := by rw [isSubtype_type]; kernel_rfl
theorem QT : isSubtype (.type "tuple") (.type "frozenset") = pure false := by rw [isSubtype_type]; kernel_rfl
set_option maxHeartbeats 3200000 in
theorem NX {l : Addr} {items : List Value} {zs : List Str} {Q : Value → Shared → Prop} (hh : A.handled = none) (hl : s.heap.IsList l items.toArray) (hi : items.length = zs.length) (hv : ∀ (i : Nat) (v : Value), items[i]? = some v → ∃ t, v = Value.str (zs.getD i ⟨#[]⟩) t) (hb : zs.length + 1 < scanBound)
    (q : ∀ h' tk L, TSet P w h' s.heap.objs.size L → (∀ z, z ∈ L ↔ z ∈ zs) → (∀ b o, s.heap.get? b = some o → h'.get? b = some o) → Q (.ref s.heap.objs.size) { s with heap := h', toks := tk }) :
    wpAny (model P w) A (call (.type "set") [.ref l]) Q E s := by
  obtain ⟨c, tl, m1⟩ := F.called_set.mro
  have m2 := F.called_set.made
  have m3 := F.called_set.sub
  have m4 := F.called_set.notType
  have m5 := F.called_set.canCreate
  have m6 := F.typeCall_set_1 (.ref l)
  refine wpAny_call (codeAny_of_tree ?_)
  show wpAny _ _ (callAny (.type "set") _) _ _ _
  refine wpAny_pure ⟨Code.quiet_builtin _ (by decide +kernel), codeAny_builtin F.entry_type_call ?_⟩
  rw [Around.under_plain (weight_type_call_type "set" [.ref l] []) rfl]
  repeat (any_goals (first | assumption | wp_step))
  refine codeAny_mono (NF (.ref l) (E := E) (Q1 := fun v s1 => v = .ref s.heap.objs.size ∧ s1 = { s with heap := s.heap.push (K8 (E8 w)) }) ⟨rfl, rfl⟩) fun r s1 hr => ?_
  cases r with
  | error e => exact hr
  | ok fl =>
    cases fl with
    | next => exact hr.elim
    | brk => exact hr.elim
    | cont => exact hr.elim
    | ret v =>
      obtain ⟨rfl, rfl⟩ := hr
      have gS : (s.heap.push (K8 (E8 w))).get? s.heap.objs.size = some (K8 (E8 w)) := Heap.get?_push_size _ rfl
      have tS : Shared.TypeIs { s with heap := s.heap.push (K8 (E8 w)) } (.ref s.heap.objs.size) "set" := ⟨_, gS, rfl⟩
      have m7 := F.called_set.init.lookup
      have m8 := F.called_set.init.bind (.ref s.heap.objs.size)
      repeat (any_goals (first | assumption | wp_step))
      refine codeAny_mono (codeAny_call_builtin (R := wants (fun r s2 => r = .none ∧ ∃ h' tk L, s2 = { s with heap := h', toks := tk } ∧ TSet P w h' s.heap.objs.size L ∧ (∀ z, z ∈ L ↔ z ∈ zs) ∧ ∀ b o, s.heap.get? b = some o → h'.get? b = some o) E) F.called_set.init.plain F.entry_set_init (check_set_init_1 tS ?_)) fun r2 s2 hr2 => ?_
      · obtain ⟨⟨oc, od, ot, osl⟩, ho, hc, no, hd⟩ := id hl
        simp only at hc hd
        subst hc hd
        have ho' : (s.heap.push (K8 (E8 w))).get? l = some { cls := .type "list", dict := od, data := .seq items.toArray no, slots := osl } := Heap.get?_push_of_some _ ho
        have n1 := F.sub_list_set
        have n2 := F.sub_list_frozenset
        have n3 : (Value.type "list" == Value.type "dict") = false := by decide
        have l1 : (s.heap.push (K8 (E8 w))).IsList l items.toArray := ⟨_, ho', rfl, no, rfl⟩
        have lS : l < s.heap.objs.size := Heap.lt_size ho
        unfold Builtin.«set.__init__» noKeywords Builtin.Frozenset.updateFrom
        generalize hPI : pyIter = PI
        wp_walk
        subst hPI
        refine wpAny_pyIter_list l1 ?_
        refine wpAny_bind (wpAny_runValue ?_)
        have h3 : A.in1.in1.in1.handled = none := by simp [hh]
        have nI : l ≠ (s.heap.push (K8 (E8 w))).objs.size := by rw [Heap.size_push]; exact Nat.ne_of_lt (Nat.lt_succ_of_lt lS)
        have nS : s.heap.objs.size ∉ [(s.heap.push (K8 (E8 w))).objs.size, l] := by
          rw [Heap.size_push]
          simp only [List.mem_cons, List.not_mem_nil, or_false, not_or]
          exact ⟨Nat.ne_of_lt (Nat.lt_succ_self _), Nat.ne_of_gt lS⟩
        refine OK ((Walks.list h3 _ l nI items.toArray).toS) nS (zs := zs) (by simp [hi]) (fun i v _ hx => hv i v (by simpa using hx)) (by simpa [hi] using hb) _ 0 _ [] rfl (Nat.zero_le _) ⟨⟨_, Heap.get?_push_size _ rfl, rfl, rfl⟩, l1.push _⟩ (CI (Heap.get?_push_of_some _ gS)) (fun z => by simp) fun s' L mv T mem => ?_
        obtain ⟨h', g', d', tk', os'⟩ := s'
        obtain rfl : g' = s.gens := mv.gens
        obtain rfl : d' = s.drawn := mv.drawn
        obtain rfl : os' = s.os := mv.os
        show wpAny _ _ _ _ _ _
        refine wpAny_pure ?_
        show wpAny _ _ (ret Value.none) _ _ _
        refine wpAny_pure ⟨rfl, h', tk', L, rfl, T, mem, fun b o e => ?_⟩
        have hb1 := Heap.lt_size e
        refine mv.heap b o ?_ (Heap.get?_push_of_some _ (Heap.get?_push_of_some _ e))
        simp only [List.mem_cons, List.not_mem_nil, or_false, not_or, Heap.size_push]
        exact ⟨Nat.ne_of_lt hb1, Nat.ne_of_lt (Nat.lt_succ_of_lt hb1)⟩
      · cases r2 with
        | error e => exact hr2
        | ok fl2 =>
          cases fl2 with
          | next => exact hr2.elim
          | brk => exact hr2.elim
          | cont => exact hr2.elim
          | ret v =>
            obtain ⟨rfl, h', tk, L, rfl, T, mem, kp⟩ := hr2
            repeat (any_goals (first | assumption | wp_step))
            exact q h' tk L T mem kp
set_option maxHeartbeats 3200000 in
theorem LL {l : Addr} {items : List Value} {zs : List Str} {Q : Value → Shared → Prop} (hh : A.handled = none) (hl : s.heap.IsTuple l items.toArray) (hi : items.length = zs.length) (hv : ∀ (i : Nat) (v : Value), items[i]? = some v → ∃ t, v = Value.str (zs.getD i ⟨#[]⟩) t) (hb : zs.length + 1 < scanBound)
    (q : ∀ h' tk L, TSet P w h' s.heap.objs.size L → (∀ z, z ∈ L ↔ z ∈ zs) → (∀ b o, s.heap.get? b = some o → h'.get? b = some o) → Q (.ref s.heap.objs.size) { s with heap := h', toks := tk }) :
    wpAny (model P w) A (call (.type "set") [.ref l]) Q E s := by
  obtain ⟨c, tl, m1⟩ := F.called_set.mro
  have m2 := F.called_set.made
  have m3 := F.called_set.sub
  have m4 := F.called_set.notType
  have m5 := F.called_set.canCreate
  have m6 := F.typeCall_set_1 (.ref l)
  refine wpAny_call (codeAny_of_tree ?_)
  show wpAny _ _ (callAny (.type "set") _) _ _ _
  refine wpAny_pure ⟨Code.quiet_builtin _ (by decide +kernel), codeAny_builtin F.entry_type_call ?_⟩
  rw [Around.under_plain (weight_type_call_type "set" [.ref l] []) rfl]
  repeat (any_goals (first | assumption | wp_step))
  refine codeAny_mono (NF (.ref l) (E := E) (Q1 := fun v s1 => v = .ref s.heap.objs.size ∧ s1 = { s with heap := s.heap.push (K8 (E8 w)) }) ⟨rfl, rfl⟩) fun r s1 hr => ?_
  cases r with
  | error e => exact hr
  | ok fl =>
    cases fl with
    | next => exact hr.elim
    | brk => exact hr.elim
    | cont => exact hr.elim
    | ret v =>
      obtain ⟨rfl, rfl⟩ := hr
      have gS : (s.heap.push (K8 (E8 w))).get? s.heap.objs.size = some (K8 (E8 w)) := Heap.get?_push_size _ rfl
      have tS : Shared.TypeIs { s with heap := s.heap.push (K8 (E8 w)) } (.ref s.heap.objs.size) "set" := ⟨_, gS, rfl⟩
      have m7 := F.called_set.init.lookup
      have m8 := F.called_set.init.bind (.ref s.heap.objs.size)
      repeat (any_goals (first | assumption | wp_step))
      refine codeAny_mono (codeAny_call_builtin (R := wants (fun r s2 => r = .none ∧ ∃ h' tk L, s2 = { s with heap := h', toks := tk } ∧ TSet P w h' s.heap.objs.size L ∧ (∀ z, z ∈ L ↔ z ∈ zs) ∧ ∀ b o, s.heap.get? b = some o → h'.get? b = some o) E) F.called_set.init.plain F.entry_set_init (check_set_init_1 tS ?_)) fun r2 s2 hr2 => ?_
      · obtain ⟨⟨oc, od, ot, osl⟩, ho, hc, no, hd⟩ := id hl
        simp only at hc hd
        subst hc hd
        have ho' : (s.heap.push (K8 (E8 w))).get? l = some { cls := .type "tuple", dict := od, data := .seq items.toArray no, slots := osl } := Heap.get?_push_of_some _ ho
        have n1 := OF
        have n2 := QT
        have n3 : (Value.type "tuple" == Value.type "dict") = false := by decide
        have l1 : (s.heap.push (K8 (E8 w))).IsTuple l items.toArray := ⟨_, ho', rfl, no, rfl⟩
        have lS : l < s.heap.objs.size := Heap.lt_size ho
        unfold Builtin.«set.__init__» noKeywords Builtin.Frozenset.updateFrom
        generalize hPI : pyIter = PI
        wp_walk
        subst hPI
        refine wpAny_pyIter_tuple l1 ?_
        refine wpAny_bind (wpAny_runValue ?_)
        have h3 : A.in1.in1.in1.handled = none := by simp [hh]
        have nI : l ≠ (s.heap.push (K8 (E8 w))).objs.size := by rw [Heap.size_push]; exact Nat.ne_of_lt (Nat.lt_succ_of_lt lS)
        have nS : s.heap.objs.size ∉ [(s.heap.push (K8 (E8 w))).objs.size, l] := by
          rw [Heap.size_push]
          simp only [List.mem_cons, List.not_mem_nil, or_false, not_or]
          exact ⟨Nat.ne_of_lt (Nat.lt_succ_self _), Nat.ne_of_gt lS⟩
        refine OK ((Walks.tuple h3 _ l nI items.toArray).toS) nS (zs := zs) (by simp [hi]) (fun i v _ hx => hv i v (by simpa using hx)) (by simpa [hi] using hb) _ 0 _ [] rfl (Nat.zero_le _) ⟨⟨_, Heap.get?_push_size _ rfl, rfl, rfl⟩, l1.push _⟩ (CI (Heap.get?_push_of_some _ gS)) (fun z => by simp) fun s' L mv T mem => ?_
        obtain ⟨h', g', d', tk', os'⟩ := s'
        obtain rfl : g' = s.gens := mv.gens
        obtain rfl : d' = s.drawn := mv.drawn
        obtain rfl : os' = s.os := mv.os
        show wpAny _ _ _ _ _ _
        refine wpAny_pure ?_
        show wpAny _ _ (ret Value.none) _ _ _
        refine wpAny_pure ⟨rfl, h', tk', L, rfl, T, mem, fun b o e => ?_⟩
        have hb1 := Heap.lt_size e
        refine mv.heap b o ?_ (Heap.get?_push_of_some _ (Heap.get?_push_of_some _ e))
        simp only [List.mem_cons, List.not_mem_nil, or_false, not_or, Heap.size_push]
        exact ⟨Nat.ne_of_lt hb1, Nat.ne_of_lt (Nat.lt_succ_of_lt hb1)⟩
      · cases r2 with
        | error e => exact hr2
        | ok fl2 =>
          cases fl2 with
          | next => exact hr2.elim
          | brk => exact hr2.elim
          | cont => exact hr2.elim
          | ret v =>
            obtain ⟨rfl, h', tk, L, rfl, T, mem, kp⟩ := hr2
            repeat (any_goals (first | assumption | wp_step))
            exact q h' tk L T mem kp
end
end TSt
namespace TSt
open PySem
theorem slot_si_next : Slot "set_iterator" "__next__" "set_iterator.__next__" :=
  .of (owner := "set_iterator") (n := "__next__") (by rw [typeLookup_type, builtinLookup_eq_fast]; kernel_rfl) (by decide +kernel) (by decide +kernel) (by decide +kernel) (by first | exact .inl (by decide +kernel) | exact .inr (by decide +kernel)) (by rw [isSubtype_type]; kernel_rfl)
theorem P5 : entryFor table "set_iterator.__next__" = some Builtin.«set_iterator.__next__» := entryFor_of_fast (by kernel_rfl)
theorem S3 (a : Value) : argsOk "set_iterator.__next__" ⟨[a], []⟩ := by unfold argsOk; kernel_rfl
def SetAt (h : Heap) (a : Addr) (es : Array (Int × Value)) (ep : Nat) (t : SetTable) : Prop := ∃ o, h.get? a = some o ∧ o.data = .set es ep t ∧ t.fits es.size = true
abbrev O7 (first : Value) (i : Nat) (a : Addr) (n ep : Nat) : Obj := { cls := .type "set_iterator", data := .fields #[first, .int i 0, .ref a, .int n 0, .int ep 0] }
section
variable {P : Program} {w : World} {A : Around} {E : Value → Shared → Prop} {s : Shared} {I a pl : Addr} {es : Array (Int × Value)} {ep i p slot nx : Nat} {t : SetTable} {x : Value} {hs : Int} {ps : Array Value} {Q : Option Value → Shared → Prop}
theorem XX {first : Value} {h : Heap} (hI : h.get? I = some (O7 first i a es.size ep)) : (h.update I (Obj.mapFields (·.setIfInBounds 1 (rawInt ((i : Int) + 1))))).get? I = some (O7 first (i + 1) a es.size ep) := by
  rw [Heap.get?_update_self _ hI rfl]
  rfl
theorem AS2 (hI : s.heap.get? I = some (O7 (.ref pl) i a es.size ep)) (hS : SetAt s.heap a es ep t) (hT : s.heap.IsTuple pl ps) (hp : ps[i]? = some (.int (p : Nat) 0)) (hx : es[p]? = some (hs, x))
    (q : ∀ h', h'.get? I = some (O7 (.ref pl) (i + 1) a es.size ep) → Heap.SameBut I s.heap h' → Q (some x) { s with heap := h' }) : wpAny (model P w) A (pyNext (.ref I)) Q E s := by
  have ti : s.TypeIs (.ref I) "set_iterator" := ⟨_, hI, rfl⟩
  obtain ⟨o, ho, hd, hf⟩ := id hS
  unfold pyNext
  refine wpAny_bind (wpAny_attempt (wpAny_callSpecial?_slot (name := Str.ofString "__next__") ti slot_si_next (wpAny_call_entry slot_si_next ti P5 ?_ (S3 _))))
  unfold Builtin.«set_iterator.__next__»
  refine wpAny_bind (wpAny_of_eq (show slotArgs "__next__" 0 ⟨[.ref I], []⟩ = pure (.ref I, []) from rfl) ?_)
  dsimp only
  refine wpAny_bind (wpAny_fieldsOf hI rfl ?_)
  dsimp only
  refine wpAny_bind (wpAny_setEntries_of ho hd hf ?_)
  rw [if_neg (by simp)]
  simp only [Int.toNat_natCast]
  obtain ⟨ol, hol, _, nl, hdl⟩ := hT
  refine wpAny_bind (wpAny_seqItems hol hdl ?_)
  dsimp only
  rw [hp]
  dsimp only
  unfold setNextDrawn
  refine wpAny_bind (wpAny_bind (wpAny_setState_of ho hd hf ?_))
  dsimp only
  rw [if_neg (by simp), Int.toNat_natCast, hx]
  dsimp only
  exact wpAny_pure (wpAny_bind (wpAny_setField hI rfl (by simp) (wpAny_pure ⟨x, rfl, wpAny_pure (q _ (XX hI) (Heap.SameBut.update ..))⟩)))
theorem AO1 {h1 : Heap} (hh : A.handled = none) (hk : Heap.ExtBut I s.heap h1) (q : ∀ h', Heap.ExtBut I s.heap h' → Q none { s with heap := h' }) :
    wpAny (model P w) A.in1 (do
      let e ← newExc (.type "StopIteration") []
      raiseNew e : Sem PySem.Fin) (fun fin s' => ∃ v, fin = Fin.done (Flow.ret v) ∧ wpAny (model P w) A (pure (some v)) Q E s') (fun e s' => wpAny (model P w) A (do if ← isInstance e (.type "StopIteration") then pure none else throw e) Q E s') { s with heap := h1 } := by
  refine wpAny_bind ?_
  simp only [newExc, newTuple]
  refine wpAny_bind (wpAny_newObj_type ?_ (by size_fits))
  refine wpAny_bind (m := firstArgMember _ _) (wpAny_of_eq (a := Value.none) (by first | rfl | (simp only [firstArgMember]; rfl)) (wpAny_newObj_type ?_ (by size_fits)))
  simp only [raiseNew]
  refine wpAny_bind (wpAny_handled ?_)
  rw [show A.in1.handled = none from hh]
  refine wpAny_bind (wpAny_pure (wpAny_throw ?_))
  refine wpAny_bind (wpAny_isInstance (T := "StopIteration") (b := true) ⟨_, Heap.get?_push_size _ rfl, rfl⟩ isSubtype_stop ?_)
  exact wpAny_pure (q _ ((hk.push _).push _))
theorem BF2 (hh : A.handled = none) (hI : s.heap.get? I = some (O7 (.ref pl) i a es.size ep)) (hS : SetAt s.heap a es ep t) (hT : s.heap.IsTuple pl ps) (hp : ps[i]? = none)
    (q : ∀ h', Heap.ExtBut I s.heap h' → Q none { s with heap := h' }) : wpAny (model P w) A (pyNext (.ref I)) Q E s := by
  have ti : s.TypeIs (.ref I) "set_iterator" := ⟨_, hI, rfl⟩
  obtain ⟨o, ho, hd, hf⟩ := id hS
  unfold pyNext
  refine wpAny_bind (wpAny_attempt (wpAny_callSpecial?_slot (name := Str.ofString "__next__") ti slot_si_next (wpAny_call_entry slot_si_next ti P5 ?_ (S3 _))))
  unfold Builtin.«set_iterator.__next__»
  refine wpAny_bind (wpAny_of_eq (show slotArgs "__next__" 0 ⟨[.ref I], []⟩ = pure (.ref I, []) from rfl) ?_)
  dsimp only
  refine wpAny_bind (wpAny_fieldsOf hI rfl ?_)
  dsimp only
  refine wpAny_bind (wpAny_setEntries_of ho hd hf ?_)
  rw [if_neg (by simp)]
  simp only [Int.toNat_natCast]
  obtain ⟨ol, hol, _, nl, hdl⟩ := hT
  refine wpAny_bind (wpAny_seqItems hol hdl ?_)
  dsimp only
  rw [hp]
  dsimp only
  have g1 : (s.heap.update I (Obj.mapFields (·.setIfInBounds 0 (rawInt 0)))).get? I = some (O7 (.int 0 0) i a es.size ep) := by
    rw [Heap.get?_update_self _ hI rfl]; rfl
  refine wpAny_bind (wpAny_setField hI rfl (by simp) ?_)
  refine wpAny_bind (wpAny_setField g1 rfl (by simp) ?_)
  have sb : Heap.SameBut I s.heap ((s.heap.update I (Obj.mapFields (·.setIfInBounds 0 (rawInt 0)))).update I (Obj.mapFields (·.setIfInBounds 2 Value.none))) := (Heap.SameBut.update ..).trans (Heap.SameBut.update ..)
  refine AO1 (s := s) hh sb.extBut q
theorem ZG (hI : s.heap.get? I = some (O7 (.int (slot : Nat) 0) i a es.size ep)) (hS : SetAt s.heap a es ep t) (hn : ∀ {A E} {Q : Option (Value × Nat) → Shared → Prop}, Q (some (x, nx)) s → wpAny (model P w) A (setNext a slot i ep) Q E s)
    (q : ∀ h', h'.get? I = some (O7 (.int (nx : Nat) 0) (i + 1) a es.size ep) → Heap.SameBut I s.heap h' → Q (some x) { s with heap := h' }) : wpAny (model P w) A (pyNext (.ref I)) Q E s := by
  have ti : s.TypeIs (.ref I) "set_iterator" := ⟨_, hI, rfl⟩
  obtain ⟨o, ho, hd, hf⟩ := id hS
  unfold pyNext
  refine wpAny_bind (wpAny_attempt (wpAny_callSpecial?_slot (name := Str.ofString "__next__") ti slot_si_next (wpAny_call_entry slot_si_next ti P5 ?_ (S3 _))))
  unfold Builtin.«set_iterator.__next__»
  refine wpAny_bind (wpAny_of_eq (show slotArgs "__next__" 0 ⟨[.ref I], []⟩ = pure (.ref I, []) from rfl) ?_)
  dsimp only
  refine wpAny_bind (wpAny_fieldsOf hI rfl ?_)
  dsimp only
  refine wpAny_bind (wpAny_setEntries_of ho hd hf ?_)
  rw [if_neg (by simp)]
  simp only [Int.toNat_natCast]
  refine wpAny_bind (hn ?_)
  dsimp only
  have g1 : (s.heap.update I (Obj.mapFields (·.setIfInBounds 0 (rawInt nx)))).get? I = some (O7 (.int (nx : Nat) 0) i a es.size ep) := by
    rw [Heap.get?_update_self _ hI rfl]; rfl
  exact wpAny_bind (wpAny_setField hI rfl (by simp) (wpAny_bind (wpAny_setField g1 rfl (by simp) (wpAny_pure ⟨x, rfl, wpAny_pure (q _ (XX g1) ((Heap.SameBut.update ..).trans (Heap.SameBut.update ..)))⟩))))
theorem AD9 (hh : A.handled = none) (hI : s.heap.get? I = some (O7 (.int (slot : Nat) 0) i a es.size ep)) (hS : SetAt s.heap a es ep t) (hn : ∀ {A E} {Q : Option (Value × Nat) → Shared → Prop}, Q none s → wpAny (model P w) A (setNext a slot i ep) Q E s)
    (q : ∀ h', Heap.ExtBut I s.heap h' → Q none { s with heap := h' }) : wpAny (model P w) A (pyNext (.ref I)) Q E s := by
  have ti : s.TypeIs (.ref I) "set_iterator" := ⟨_, hI, rfl⟩
  obtain ⟨o, ho, hd, hf⟩ := id hS
  unfold pyNext
  refine wpAny_bind (wpAny_attempt (wpAny_callSpecial?_slot (name := Str.ofString "__next__") ti slot_si_next (wpAny_call_entry slot_si_next ti P5 ?_ (S3 _))))
  unfold Builtin.«set_iterator.__next__»
  refine wpAny_bind (wpAny_of_eq (show slotArgs "__next__" 0 ⟨[.ref I], []⟩ = pure (.ref I, []) from rfl) ?_)
  dsimp only
  refine wpAny_bind (wpAny_fieldsOf hI rfl ?_)
  dsimp only
  refine wpAny_bind (wpAny_setEntries_of ho hd hf ?_)
  rw [if_neg (by simp)]
  simp only [Int.toNat_natCast]
  refine wpAny_bind (hn ?_)
  dsimp only
  exact wpAny_bind (wpAny_setField hI rfl (by simp) (AO1 hh (Heap.SameBut.update ..).extBut q))
end
theorem Y4 {α : Type} : ∀ {l : List α} {i : Nat} {x : α}, l[i]? = some x → List.Perm (x :: l.eraseIdx i) l
  | y :: l, 0, x, e => by
    cases e
    exact .refl _
  | y :: l, i + 1, x, e => by
    have := Y4 (l := l) (i := i) (x := x) (by simpa using e)
    exact (List.Perm.swap y x _).trans (this.cons y)
theorem RB {α : Type} (nxt : Nat → Nat) : ∀ (n k : Nat) (l : List α) (out : Array α), l.length = n → List.Perm (pickOrder.go nxt n k l out).toList (out.toList ++ l)
  | 0, k, l, out, e => by
    rw [List.length_eq_zero_iff.mp e, List.append_nil]
    exact .refl _
  | n + 1, k, l, out, e => by
    have hi : nxt k % l.length < l.length := Nat.mod_lt _ (by lia)
    obtain ⟨x, hx⟩ : ∃ x, l[nxt k % l.length]? = some x := ⟨_, List.getElem?_eq_getElem hi⟩
    unfold pickOrder.go
    rw [hx]
    dsimp only
    refine (RB nxt n (k + 1) _ _ (by rw [List.length_eraseIdx_of_lt hi]; lia)).trans ?_
    rw [Array.toList_push, List.append_assoc]
    exact (Y4 hx).append_left _
theorem DB {α : Type} (nxt : Nat → Nat) (xs : Array α) : List.Perm (pickOrder nxt xs).toList xs.toList := RB nxt xs.size 0 xs.toList #[] (by simp)
section
variable {P : Program} {w : World} {A : Around} {E : Value → Shared → Prop}
theorem OX {M : Model} {src : Source} {n : Nat} {s : Shared} {Q : Nat → Shared → Prop} (hn : n ≠ 0) (q : ∀ i d, i < n → Q i { s with drawn := d }) : wpAny M A (choose src n) Q E s := fun Γ p _ => by
  show Sem.wp M Γ (.choose src n _) _ _ p s
  rw [Sem.wp_choose]
  exact ⟨hn, q _ _ (Nat.mod_lt _ (Nat.pos_of_ne_zero hn))⟩
theorem BI {M : Model} {α : Type} : ∀ {n : Nat} {l : List α} {s : Shared} {Q : List α → Shared → Prop}, l.length = n → (∀ l' d, List.Perm l' l → Q l' { s with drawn := d }) → wpAny M A (drawOrder n l) Q E s
  | 0, l, s, Q, e, q => by
    have := q [] s.drawn (by rw [List.length_eq_zero_iff.mp e])
    unfold drawOrder
    exact wpAny_pure this
  | n + 1, [], s, Q, e, q => by cases e
  | n + 1, x :: l, s, Q, e, q => by
    unfold drawOrder
    refine wpAny_bind (OX (by simp) fun i d hi => ?_)
    rw [List.getElem?_eq_getElem hi]
    dsimp only
    refine wpAny_bind (BI (by rw [List.length_eraseIdx_of_lt hi]; lia) fun l' d' hp => wpAny_pure ?_)
    exact q _ d' ((hp.cons _).trans (Y4 (List.getElem?_eq_getElem hi)))
end
theorem FH : entryFor table "set.__iter__" = some Builtin.«frozenset.__iter__» := entryFor_alias (id' := "frozenset.__iter__") (by kernel_rfl) rfl (by decide +kernel) (by kernel_rfl)
theorem BR : Slot "set_iterator" "__iter__" "set_iterator.__iter__" :=
  .of (owner := "set_iterator") (n := "__iter__") (by rw [typeLookup_type, builtinLookup_eq_fast]; kernel_rfl) (by decide +kernel) (by decide +kernel) (by decide +kernel) (by first | exact .inl (by decide +kernel) | exact .inr (by decide +kernel)) (by rw [isSubtype_type]; kernel_rfl)
theorem HI : entryFor table "set_iterator.__iter__" = some Builtin.«dict_keyiterator.__iter__» := entryFor_alias (id' := "dict_keyiterator.__iter__") (by kernel_rfl) rfl (by decide +kernel) (by kernel_rfl)
theorem JR (a : Value) : argsOk "set_iterator.__iter__" ⟨[a], []⟩ := by unfold argsOk; kernel_rfl
section
variable {P : Program} {w : World} {A : Around} {E : Value → Shared → Prop} {I a pl : Addr} {es : Array (Int × Value)} {ep : Nat} {t : SetTable}
def StD (I a pl : Addr) (es : Array (Int × Value)) (ep : Nat) (t : SetTable) (ps : Array Value) (i : Nat) (s : Shared) : Prop := s.heap.get? I = some (O7 (.ref pl) i a es.size ep) ∧ SetAt s.heap a es ep t ∧ s.heap.IsTuple pl ps
theorem SetAt.at' {h h' : Heap} (x : SetAt h a es ep t) (k : ∀ o, h.get? a = some o → h'.get? a = some o) : SetAt h' a es ep t := by
  obtain ⟨o, g, r⟩ := x
  exact ⟨o, k o g, r⟩
theorem LR {s : Shared} {o : Obj} {Q : Value → Shared → Prop} (g : s.heap.get? I = some o) (c : o.cls = .type "set_iterator") (q : Q (.ref I) s) : wpAny (model P w) A (pyIter (.ref I)) Q E s := by
  have ti : s.TypeIs (.ref I) "set_iterator" := ⟨_, g, c⟩
  refine wpAny_pyIter_slot ti BR (wpAny_call_entry BR ti HI ?_ (JR _))
  exact wpAny_pure ⟨_, rfl, "set_iterator", _, ti, slot_si_next.lookup, q⟩
theorem BF3 (hh : A.handled = none) (hIa : a ≠ I) (hIp : pl ≠ I) {ps : List Nat} (hlt : ∀ p ∈ ps, p < es.size) :
    WalksS P w A I [I, a, pl] [I] (fun x y => y = x) ps.length (fun i v => (ps.map fun p => (es.getD p (0, .none)).2)[i]? = some v) (StD I a pl es ep t (ps.map fun (p : Nat) => rawInt p).toArray) where
  sub := fun b hb => by simp at hb; simp [hb]
  grefl := fun _ => rfl
  gtrans := fun _ _ _ x y => y.trans x
  frame := fun i s h' tk st _ k => ⟨k I (by simp) _ st.1, st.2.1.at' fun o e => k a (by simp) o e, st.2.2.at fun o e => k pl (by simp) o e⟩
  item := fun i s Q E hi st q => by
    obtain ⟨p, hp⟩ : ∃ p, ps[i]? = some p := ⟨_, List.getElem?_eq_getElem hi⟩
    have hl := hlt p (List.mem_of_getElem? hp)
    refine AS2 st.1 st.2.1 st.2.2 (p := p) (hs := es[p].1) (x := es[p].2) (by simp [hp, rawInt]) (by simp [hl]) fun h' g sb => ?_
    refine q _ _ (by simp [hp, Array.getD, hl]) ⟨g, st.2.1.at' fun o e => (sb.2 a hIa).trans e, st.2.2.at fun o e => (sb.2 pl hIp).trans e⟩ ⟨fun b o hb e => (sb.2 b (by simpa using hb)).trans e, rfl, rfl, rfl, Nat.le_refl _⟩
  done := fun s Q E st q => by
    refine BF2 hh st.1 st.2.1 st.2.2 (by simp) fun h' x => ?_
    exact q _ ⟨fun b o hb e => x b o (by simpa using hb) e, rfl, rfl, rfl, Nat.le_refl _⟩
  self := fun i s Q E st q => LR st.1 rfl q
def StB (I a : Addr) (es : Array (Int × Value)) (ep : Nat) (t : SetTable) (i : Nat) (s : Shared) : Prop := s.heap.get? I = some (O7 (.int (0 : Nat) 0) i a es.size ep) ∧ SetAt s.heap a es ep t
theorem AN9 {s : Shared} {i slot : Nat} (hb : w.params.followText "set-order" = true) (hS : SetAt s.heap a es ep t) {Q : Option (Value × Nat) → Shared → Prop}
    (q : Q (((pickOrder (w.params.setOrder a ep) es)[i]?).map fun e => (e.2, slot)) s) : wpAny (model P w) A (setNext a slot i ep) Q E s := by
  obtain ⟨o, ho, hd, hf⟩ := hS
  unfold setNext
  refine wpAny_bind (wpAny_setState_of ho hd hf ?_)
  dsimp only
  unfold setsByText
  refine wpAny_bind (wpAny_bind (wpAny_askSetting (wpAny_pure ?_)))
  show wpAny _ _ (if w.params.followText "set-order" = true then _ else _) _ _ _
  rw [if_pos hb, if_neg (by simp)]
  unfold setWalk
  refine wpAny_bind (wpAny_bind (wpAny_setState_of ho hd hf ?_))
  dsimp only
  unfold setsByText
  refine wpAny_bind (wpAny_bind (wpAny_askSetting (wpAny_pure ?_)))
  show wpAny _ _ (if w.params.followText "set-order" = true then _ else _) _ _ _
  rw [if_pos hb]
  exact wpAny_bind (wpAny_askSetting (wpAny_pure (wpAny_pure q)))
theorem BE1 (hh : A.handled = none) (hIa : a ≠ I) (hb : w.params.followText "set-order" = true) :
    WalksS P w A I [I, a] [I] (fun x y => y = x) (pickOrder (w.params.setOrder a ep) es).size (fun i v => ((pickOrder (w.params.setOrder a ep) es).toList.map (·.2))[i]? = some v) (StB I a es ep t) where
  sub := fun b hb => by simp at hb; simp [hb]
  grefl := fun _ => rfl
  gtrans := fun _ _ _ x y => y.trans x
  frame := fun i s h' tk st _ k => ⟨k I (by simp) _ st.1, st.2.at' fun o e => k a (by simp) o e⟩
  item := fun i s Q E hi st q => by
    generalize hW : pickOrder (w.params.setOrder a ep) es = W at hi q
    refine ZG st.1 st.2 (nx := 0) (x := W[i].2) (fun {A E Q} y => AN9 hb st.2 (by rw [hW, Array.getElem?_eq_getElem hi]; exact y)) fun h' g sb => ?_
    exact q _ _ (by simp [hi]) ⟨g, st.2.at' fun o e => (sb.2 a hIa).trans e⟩ ⟨fun b o hb e => (sb.2 b (by simpa using hb)).trans e, rfl, rfl, rfl, Nat.le_refl _⟩
  done := fun s Q E st q => by
    generalize hW : pickOrder (w.params.setOrder a ep) es = W at st
    refine AD9 hh st.1 st.2 (fun {A E Q} y => AN9 hb st.2 (by rw [hW, Array.getElem?_eq_none (Nat.le_refl _)]; exact y)) fun h' x => ?_
    exact q _ ⟨fun b o hb e => x b o (by simpa using hb) e, rfl, rfl, rfl, Nat.le_refl _⟩
  self := fun i s Q E st q => LR st.1 rfl q
end
theorem PU {α : Type} : ∀ {x : Array α}, x.size = 1 → ∃ y, x = #[y]
  | ⟨[y]⟩, _ => ⟨y, rfl⟩
section
variable {P : Program} {w : World} {A : Around} {E : Value → Shared → Prop} {I a pl : Addr} {es : Array (Int × Value)} {ep : Nat} {t : SetTable}
theorem YH {s : Shared} {i slot : Nat} (hb : w.params.followText "set-order" = false) (h1 : es.size ≤ 1) (ld : t.led = true) (hS : SetAt s.heap a es ep t) {Q : Option (Value × Nat) → Shared → Prop}
    (q : Q (match es[SetTable.below t.place slot]?, t.place[SetTable.below t.place slot]? with | some (_, x), some j => some (x, j + 1) | _, _ => none) s) : wpAny (model P w) A (setNext a slot i ep) Q E s := by
  obtain ⟨o, ho, hd, hf⟩ := hS
  unfold setNext
  refine wpAny_bind (wpAny_setState_of ho hd hf ?_)
  dsimp only
  unfold setsByText
  refine wpAny_bind (wpAny_bind (wpAny_askSetting (wpAny_pure ?_)))
  show wpAny _ _ (if w.params.followText "set-order" = true then _ else _) _ _ _
  rw [if_neg (by rw [hb]; exact Bool.false_ne_true)]
  show wpAny _ _ (if (!t.plain && decide (es.size > 1)) = true then _ else _) _ _ _
  rw [if_neg (by rw [decide_eq_false (show ¬ es.size > 1 by lia), Bool.and_false]; exact Bool.false_ne_true)]
  refine wpAny_bind (m := if (!t.led && !es.isEmpty) = true then _ else _) ?_
  rw [if_neg (by rw [ld]; exact Bool.false_ne_true)]
  exact wpAny_pure (wpAny_pure q)
def StU (I a : Addr) (es : Array (Int × Value)) (ep : Nat) (t : SetTable) (i : Nat) (s : Shared) : Prop :=
  ((i = 0 ∧ s.heap.get? I = some (O7 (.int (0 : Nat) 0) 0 a es.size ep)) ∨ (i = 1 ∧ es.size = 1 ∧ s.heap.get? I = some (O7 (.int ((t.place.getD 0 0 + 1 : Nat) : Int) 0) 1 a es.size ep))) ∧ SetAt s.heap a es ep t
theorem StU.it {i : Nat} {s : Shared} (x : StU I a es ep t i s) : ∃ o, s.heap.get? I = some o ∧ o.cls = .type "set_iterator" := by
  rcases x.1 with ⟨_, g⟩ | ⟨_, _, g⟩
  · exact ⟨_, g, rfl⟩
  · exact ⟨_, g, rfl⟩
theorem HS (j : Nat) : SetTable.below #[j] 0 = 0 ∧ SetTable.below #[j] (j + 1) = 1 := by
  unfold SetTable.below SetTable.below.go
  simp [SetTable.below.go]
theorem BE4 (hh : A.handled = none) (hIa : a ≠ I) (hb : w.params.followText "set-order" = false) (h1 : es.size ≤ 1) (ld : t.led = true) (hf : t.fits es.size = true) :
    WalksS P w A I [I, a] [I] (fun x y => y = x) es.size (fun i v => (es.toList.map (·.2))[i]? = some v) (StU I a es ep t) where
  sub := fun b hb => by simp at hb; simp [hb]
  grefl := fun _ => rfl
  gtrans := fun _ _ _ x y => y.trans x
  frame := fun i s h' tk st _ k => ⟨st.1.imp (fun y => ⟨y.1, k I (by simp) _ y.2⟩) fun y => ⟨y.1, y.2.1, k I (by simp) _ y.2.2⟩, st.2.at' fun o e => k a (by simp) o e⟩
  item := fun i s Q E hi st q => by
    have e1 : es.size = 1 := by lia
    have pz : t.place.size = 1 := by
      unfold SetTable.fits at hf
      simp only [Bool.and_eq_true, beq_iff_eq] at hf
      rw [hf.1, e1]
    obtain ⟨j, ej⟩ := PU pz
    obtain ⟨⟨hs, x⟩, ex⟩ := PU e1
    rcases st.1 with ⟨rfl, g⟩ | ⟨rfl, _, _⟩
    · refine ZG g st.2 (nx := j + 1) (x := x) (fun {A E Q} y => YH hb h1 ld st.2 (by rw [ej, (HS j).1, ex]; exact y)) fun h' g' sb => ?_
      refine q _ _ (by rw [ex]; rfl) ⟨.inr ⟨rfl, e1, by rw [ej]; exact g'⟩, st.2.at' fun o e => (sb.2 a hIa).trans e⟩ ⟨fun b o hb e => (sb.2 b (by simpa using hb)).trans e, rfl, rfl, rfl, Nat.le_refl _⟩
    · lia
  done := fun s Q E st q => by
    have fin : ∀ h', Heap.ExtBut I s.heap h' → Q none { s with heap := h' } := fun h' x => q _ ⟨fun b o hb e => x b o (by simpa using hb) e, rfl, rfl, rfl, Nat.le_refl _⟩
    rcases st.1 with ⟨e0, g⟩ | ⟨_, e1, g⟩
    · refine AD9 hh g st.2 (fun {A E Q} y => YH hb h1 ld st.2 ?_) fin
      rw [Array.getElem?_eq_none (by lia)]
      exact y
    · have pz : t.place.size = 1 := by
        unfold SetTable.fits at hf
        simp only [Bool.and_eq_true, beq_iff_eq] at hf
        rw [hf.1, e1]
      obtain ⟨j, ej⟩ := PU pz
      refine AD9 hh g st.2 (fun {A E Q} y => YH hb h1 ld st.2 ?_) fin
      rw [ej, show ((#[j] : Array Nat).getD 0 0 + 1) = j + 1 from rfl, (HS j).2, Array.getElem?_eq_none (by lia)]
      exact y
  self := fun i s Q E st q => by
    obtain ⟨o, g, c⟩ := st.it
    exact LR g c q
end
section
variable {P : Program} {w : World} {A : Around} {E : Value → Shared → Prop} {I a pl : Addr} {L : List Str}
theorem AU3 (es : Array (Int × Value)) : (List.range es.size).map (fun p => (es.getD p (0, .none)).2) = es.toList.map (·.2) := by
  apply List.ext_getElem
  · simp
  · intro i h1 h2
    simp at h1
    simp [Array.getD, h1]
def Walk (P : Program) (w : World) (L : List Str) (a : Addr) (s s1 : Shared) (I : Addr) : Prop := ∃ (fp : List Addr) (St : Nat → Shared → Prop) (vs : List Value),
  (∀ b o, s.heap.get? b = some o → s1.heap.get? b = some o) ∧ s1.gens = s.gens ∧ s1.os = s.os ∧ s1.toks = s.toks ∧
  (∀ A : Around, A.handled = none → WalksS P w A I fp [I] (fun x y => y = x) vs.length (fun i v => vs[i]? = some v) St) ∧ St 0 s1 ∧ (∀ b ∈ fp, b < s1.heap.objs.size ∧ (b = a ∨ s.heap.get? b = none)) ∧ I ∈ fp ∧ s.heap.get? I = none ∧ List.Perm (vs.map tx) L ∧ ∀ v ∈ vs, ∃ t, v = .str (tx v) t
set_option maxHeartbeats 1000000 in
theorem AD1 {s : Shared} {Q : Value → Shared → Prop} (T : TSet P w s.heap a L) (q : ∀ s1 I, Walk P w L a s s1 I → Q (.ref I) s1) : wpAny (model P w) A (pyIter (.ref a)) Q E s := by
  obtain ⟨o, es, ep, t, g, x, d, el, rfl, nd, b, f, pz, ld⟩ := T
  have tS : s.TypeIs (.ref a) "set" := ⟨_, g, x.1⟩
  have la : a < s.heap.objs.size := Heap.lt_size g
  have txs : ∀ v ∈ es.toList.map (fun e : Int × Value => e.2), ∃ t, v = .str (tx v) t := fun v hv => by
    obtain ⟨e, he, rfl⟩ := List.mem_map.mp hv
    obtain ⟨t, r⟩ := Value.isStrOf_shape (MQ el he).1
    exact ⟨t, r⟩
  have mm : (es.toList.map (fun e : Int × Value => e.2)).map tx = es.toList.map fun e => tx e.2 := by rw [List.map_map]; rfl
  refine wpAny_pyIter_slot tS F.slot_set_iter (wpAny_call_entry F.slot_set_iter tS FH ?_ (F.args_set_iter_1 _))
  unfold Builtin.«frozenset.__iter__»
  refine wpAny_bind (wpAny_of_eq (show Builtin.Frozenset.slot0 "__iter__" ⟨[.ref a], []⟩ = pure a from rfl) ?_)
  unfold Builtin.Frozenset.sizeOf
  refine wpAny_bind (wpAny_bind (wpAny_setEntries_of g d f (wpAny_pure ?_)))
  unfold setDrawn
  refine wpAny_bind (wpAny_bind (wpAny_setState_of g d f ?_))
  dsimp only
  unfold setsByText
  refine wpAny_bind (wpAny_bind (wpAny_askSetting (wpAny_pure (wpAny_pure ?_))))
  show wpAny _ _ (if (!(w.params.followText "set-order") && (!t.plain && decide (es.size > 1))) = true then _ else _) _ _ _
  cases hb : w.params.followText "set-order" with
  | true =>
    rw [if_neg (by simp)]
    refine wpAny_bind (wpAny_pure ?_)
    refine wpAny_bind (wpAny_setEpoch_of g d f ?_)
    refine wpAny_bind (wpAny_newObj_type ?_ (by size_fits))
    have gI : (s.heap.push (O7 (.int (0 : Nat) 0) 0 a es.size ep)).get? s.heap.objs.size = some (O7 (.int (0 : Nat) 0) 0 a es.size ep) := Heap.get?_push_size _ rfl
    refine wpAny_pure ⟨_, rfl, "set_iterator", _, ⟨_, gI, rfl⟩, slot_si_next.lookup, q _ s.heap.objs.size ⟨[s.heap.objs.size, a], StB s.heap.objs.size a es ep t, (pickOrder (w.params.setOrder a ep) es).toList.map (·.2), fun b o e => Heap.get?_push_of_some _ e, rfl, rfl, rfl, fun A hh => ?_, ⟨gI, ⟨o, Heap.get?_push_of_some _ g, d, f⟩⟩, fun b hb => ?_, by simp, Heap.get?_none_of_le (Nat.le_refl _), ?_, fun v hv => ?_⟩⟩
    · have W := BE1 (P := P) (ep := ep) (t := t) (es := es) (I := s.heap.objs.size) hh (Nat.ne_of_lt la) hb
      rw [show ((pickOrder (w.params.setOrder a ep) es).toList.map (·.2)).length = (pickOrder (w.params.setOrder a ep) es).size by simp]
      exact W
    · rw [Heap.size_push]
      simp only [List.mem_cons, List.not_mem_nil, or_false] at hb
      rcases hb with rfl | rfl
      · exact ⟨by lia, .inr (Heap.get?_none_of_le (Nat.le_refl _))⟩
      · exact ⟨by lia, .inl rfl⟩
    · rw [← mm]
      exact ((DB (w.params.setOrder a ep) es).map _).map _
    · refine txs v ?_
      obtain ⟨e, he, rfl⟩ := List.mem_map.mp hv
      exact List.mem_map.mpr ⟨e, (DB _ es).mem_iff.mp he, rfl⟩
  | false =>
    have hl : t.led = true := by rw [ld]; unfold E8; rw [hb]; rfl
    by_cases hz : es.size > 1
    · have hp : t.plain = false := by
        cases e : t.plain with
        | false => rfl
        | true => have := pz e; lia
      rw [if_pos (by rw [hp, decide_eq_true hz]; rfl)]
      refine wpAny_bind (BI (List.length_range) fun ps dr pm => ?_)
      have pl : ps.length = es.size := by rw [pm.length_eq, List.length_range]
      unfold newTuple
      refine wpAny_bind (wpAny_newObj_type ?_ ?_)
      · let tp : Obj := { cls := .type "tuple", data := .seq (ps.map fun (p : Nat) => rawInt p).toArray }
        have g1 : (s.heap.push tp).get? a = some o := Heap.get?_push_of_some _ g
        have gt : (s.heap.push tp).get? s.heap.objs.size = some tp := Heap.get?_push_size _ rfl
        refine wpAny_bind (wpAny_setEpoch_of g1 d f ?_)
        refine wpAny_bind (wpAny_newObj_type ?_ (by size_fits))
        let it : Obj := O7 (.ref s.heap.objs.size) 0 a es.size ep
        have sI : (s.heap.push tp).objs.size = s.heap.objs.size + 1 := Heap.size_push ..
        have gI : ((s.heap.push tp).push it).get? (s.heap.objs.size + 1) = some it := by
          have y : ((s.heap.push tp).push it).get? (s.heap.push tp).objs.size = some it := Heap.get?_push_size _ rfl
          rwa [sI] at y
        have old : ∀ b o, s.heap.get? b = some o → ((s.heap.push tp).push it).get? b = some o := fun b o e => Heap.get?_push_of_some _ (Heap.get?_push_of_some _ e)
        have gt2 : ((s.heap.push tp).push it).get? s.heap.objs.size = some tp := Heap.get?_push_of_some _ gt
        show wpAny _ _ (ret (.ref (s.heap.push tp).objs.size)) _ _ _
        rw [sI]
        have vp : (ps.map fun p => (es.getD p (0, .none)).2).Perm (es.toList.map fun e => e.2) := by
          have y := pm.map fun p => (es.getD p (0, .none)).2
          rwa [AU3 es] at y
        refine wpAny_pure ⟨_, rfl, "set_iterator", _, ⟨_, gI, rfl⟩, slot_si_next.lookup, q _ (s.heap.objs.size + 1) ⟨[s.heap.objs.size + 1, a, s.heap.objs.size], StD (s.heap.objs.size + 1) a s.heap.objs.size es ep t (ps.map fun (p : Nat) => rawInt p).toArray, ps.map fun p => (es.getD p (0, .none)).2, old, rfl, rfl, rfl, fun A hh => ?_, ⟨gI, ⟨o, old _ _ g, d, f⟩, ⟨tp, gt2, rfl, _, rfl⟩⟩, fun b hb => ?_, by simp, Heap.get?_none_of_le (Nat.le_succ _), ?_, fun v hv => txs v (vp.mem_iff.mp hv)⟩⟩
        · have W := BF3 (P := P) (w := w) (ep := ep) (t := t) (es := es) (I := s.heap.objs.size + 1) (a := a) (pl := s.heap.objs.size) hh (by lia) (by lia) (ps := ps) fun p hp => List.mem_range.mp (pm.mem_iff.mp hp)
          rw [List.length_map]
          exact W
        · rw [Heap.size_push, sI]
          simp only [List.mem_cons, List.not_mem_nil, or_false] at hb
          rcases hb with rfl | rfl | rfl
          · exact ⟨by lia, .inr (Heap.get?_none_of_le (Nat.le_succ _))⟩
          · exact ⟨by lia, .inl rfl⟩
          · exact ⟨by lia, .inr (Heap.get?_none_of_le (Nat.le_refl _))⟩
        · rw [← mm]
          exact vp.map _
      · have sz := fits_of_scanBound b
        show (ps.map fun (p : Nat) => rawInt p).toArray.size ≤ sizeLine
        rw [List.size_toArray, List.length_map, pl]
        exact sz
    · rw [if_neg (by rw [decide_eq_false hz]; simp)]
      refine wpAny_bind (wpAny_pure ?_)
      refine wpAny_bind (wpAny_setEpoch_of g d f ?_)
      refine wpAny_bind (wpAny_newObj_type ?_ (by size_fits))
      have gI : (s.heap.push (O7 (.int (0 : Nat) 0) 0 a es.size ep)).get? s.heap.objs.size = some (O7 (.int (0 : Nat) 0) 0 a es.size ep) := Heap.get?_push_size _ rfl
      refine wpAny_pure ⟨_, rfl, "set_iterator", _, ⟨_, gI, rfl⟩, slot_si_next.lookup, q _ s.heap.objs.size ⟨[s.heap.objs.size, a], StU s.heap.objs.size a es ep t, es.toList.map (·.2), fun b o e => Heap.get?_push_of_some _ e, rfl, rfl, rfl, fun A hh => ?_, ⟨.inl ⟨rfl, gI⟩, ⟨o, Heap.get?_push_of_some _ g, d, f⟩⟩, fun b hb => ?_, by simp, Heap.get?_none_of_le (Nat.le_refl _), by rw [mm], txs⟩⟩
      · have W := BE4 (P := P) (ep := ep) (t := t) (es := es) (I := s.heap.objs.size) hh (Nat.ne_of_lt la) hb (by lia) hl f
        rw [show (es.toList.map (fun e : Int × Value => e.2)).length = es.size by simp]
        exact W
      · rw [Heap.size_push]
        simp only [List.mem_cons, List.not_mem_nil, or_false] at hb
        rcases hb with rfl | rfl
        · exact ⟨by lia, .inr (Heap.get?_none_of_le (Nat.le_refl _))⟩
        · exact ⟨by lia, .inl rfl⟩
end
theorem AG3 : typeLookup (.type "set") "__len__" = pure (some (.builtin "set.__len__")) := by rw [typeLookup_type, builtinLookup_eq_fast]; kernel_rfl
theorem set_set : isSubtype (.type "set") (.type "set") = pure true := by rw [isSubtype_type]; kernel_rfl
section
variable {P : Program} {w : World} {A : Around} {E : Value → Shared → Prop} {I a pl : Addr} {L : List Str}
theorem OG {s : Shared} {Q : List Value → Shared → Prop} (hh : A.handled = none) (T : TSet P w s.heap a L)
    (q : ∀ s' vs, (∀ b o, s.heap.get? b = some o → s'.heap.get? b = some o) → s'.gens = s.gens → s'.os = s.os → List.Perm (vs.map tx) L → (∀ v ∈ vs, ∃ t, v = .str (tx v) t) → Q vs s') : wpAny (model P w) A (collect (.ref a)) Q E s := by
  have bL := T.len
  obtain ⟨o, es, ep, t, g, x, _⟩ := id T
  have la : a < s.heap.objs.size := Heap.lt_size g
  unfold collect
  refine wpAny_bind (wpAny_runValue (codeAny_builtin PySem.F.entry_proto_collect ?_))
  rw [Around.under_plainId PySem.F.plain_proto_collect _]
  unfold Builtin.«proto.collect»
  dsimp only
  refine wpAny_bind (wpAny_newObj_type ?_)
  refine wpAny_pure ⟨plainId_quiet PySem.F.plain_list_iadd _, codeAny_builtin PySem.F.entry_list_iadd ?_⟩
  rw [Around.under_plainId PySem.F.plain_list_iadd _]
  let l0 : Obj := { cls := .type "list", data := .seq ([] : List Value).toArray }
  have gl : (s.heap.push l0).get? s.heap.objs.size = some l0 := Heap.get?_push_size _ rfl
  have T1 : TSet P w (s.heap.push l0) a L := T.keep fun o e => Heap.get?_push_of_some _ e
  have tS : Shared.TypeIs { s with heap := s.heap.push l0 } (.ref a) "set" := ⟨_, Heap.get?_push_of_some _ g, x.1⟩
  show wpAny _ A.in1 (Builtin.List.listExtendWith (.ref s.heap.objs.size) (.ref a) (.ref s.heap.objs.size)) _ _ { s with heap := s.heap.push l0 }
  unfold Builtin.List.listExtendWith
  refine wpAny_bind (wpAny_typeOf tS ?_)
  rw [if_neg (by
    have : Builtin.List.listSameRef (.ref s.heap.objs.size) (.ref a) = false := by simp [Builtin.List.listSameRef]; lia
    rw [this]; decide)]
  refine wpAny_bind (AD1 T1 fun s1 I W => ?_)
  obtain ⟨fp, St, vs, old, eg, eo, et, wk, st0, hfp, hI, hnI, pm, txs⟩ := W
  have g1 : s1.heap.get? a = some o := old _ _ (Heap.get?_push_of_some _ g)
  have tS1 : s1.TypeIs (.ref a) "set" := ⟨_, g1, x.1⟩
  have gl1 := old _ _ gl
  refine wpAny_bind (wpAny_holding ?_)
  unfold Builtin.List.listLengthHint
  refine wpAny_bind (wpAny_specialOf tS1 AG3 ?_)
  dsimp only
  rw [show splitId "set.__len__" = some ("set", "__len__") from by decide +kernel]
  dsimp only
  refine wpAny_bind (wpAny_isInstance tS1 set_set ?_)
  rw [if_neg (by decide)]
  rw [if_pos (by decide +kernel)]
  refine wpAny_bind (wpAny_typeOf tS1 ?_)
  dsimp only
  refine wpAny_pure ?_
  rw [if_pos (by decide +kernel)]
  refine wpAny_bind (wpAny_rule ?_)
  unfold Builtin.List.listTouch Builtin.List.listUpdate
  dsimp only
  have nd : ∀ b ∈ fp, b ≠ s.heap.objs.size := fun b hb e => by
    rcases (hfp b hb).2 with z | z
    · subst e; lia
    · rw [e] at z
      have := gl.symm.trans z
      cases this
  have u1 := Heap.get?_update_self (Obj.mapSeq (·.push .none)) gl1 rfl
  have u2 := Heap.get?_update_self (Obj.mapSeq (·.pop)) u1 rfl
  refine wpAny_bind (wpAny_bind (wpAny_updateSeq gl1 rfl ?_))
  refine wpAny_updateSeq u1 rfl ?_
  have oth : ∀ b, b ≠ s.heap.objs.size → ((s1.heap.update s.heap.objs.size (Obj.mapSeq (·.push .none))).update s.heap.objs.size (Obj.mapSeq (·.pop))).get? b = s1.heap.get? b := fun b hb => by
    rw [Heap.get?_update_other _ _ (Ne.symm hb), Heap.get?_update_other _ _ (Ne.symm hb)]
  have W := wk A.in1 (by simp [hh])
  have hn : vs.length ≤ sizeLine := by
    have := pm.length_eq
    rw [List.length_map] at this
    have := fits_of_scanBound bL
    lia
  have st1 := W.frame 0 s1 ((s1.heap.update s.heap.objs.size (Obj.mapSeq (·.push .none))).update s.heap.objs.size (Obj.mapSeq (·.pop))) s1.toks st0 (Nat.le_refl _) fun b hb o e => (oth b (nd b hb)).trans e
  refine wpAny_pure ⟨plainId_quiet PySem.F.plain_extend_loop _, codeAny_extend_loopS W hn _ (fun z => nd _ z rfl) _ vs.length 0 _ #[] _ rfl (Nat.zero_le _) st1 u2 (ItemsOf.nil _) fun s' acc c mv gS it => ?_⟩
  refine wpAny_bind (wpAny_load gS (wpAny_pure ?_))
  have e : acc.toList = vs := by
    apply List.ext_getElem?
    intro j
    by_cases hj : j < acc.size
    · rw [Array.getElem?_toList, Array.getElem?_eq_getElem hj, it.2 j acc[j] (Array.getElem?_eq_getElem hj)]
    · rw [Array.getElem?_toList, Array.getElem?_eq_none (by lia), List.getElem?_eq_none (by have := it.1; lia)]
  rw [e]
  refine q s' vs (fun b ob hb => ?_) (mv.gens.trans eg) (mv.os.trans eo) pm txs
  have lb := Heap.lt_size hb
  have nb : b ≠ s.heap.objs.size := Nat.ne_of_lt lb
  have h1 := old b ob (Heap.get?_push_of_some _ hb)
  refine mv.heap b ob ?_ ((oth b nb).trans h1)
  simp only [List.mem_cons, List.not_mem_nil, or_false, not_or]
  refine ⟨nb, fun z => ?_⟩
  subst z
  have := (Heap.get?_push_of_some l0 hb).symm.trans hnI
  cases this
end
end TSt
namespace TSt
open PySem PyProof.Rows
theorem X6 : ∀ {vs : List Value}, (∀ v ∈ vs, ∃ t, v = .str (tx v) t) → StrsAre vs (vs.map tx)
  | [], _ => .nil
  | v :: vs, h => by
    obtain ⟨t, e⟩ := h v List.mem_cons_self
    have r := X6 (vs := vs) fun u hu => h u (List.mem_cons_of_mem _ hu)
    rw [List.map_cons, e]
    exact .cons _ _ r
section
variable {P : Program} {w : World} {A : Around} {E : Value → Shared → Prop} {a : Addr} {L : List Str}
theorem OV {s : Shared} {Q : Value → Shared → Prop} (hh : A.handled = none) (T : TSet P w s.heap a L) (h64 : L.length < 64)
    (q : ∀ (s' : Shared) (l n : Nat) (vs : List Value) (zs : List Str), (∀ b o, s.heap.get? b = some o → s'.heap.get? b = some o) → s'.gens = s.gens → s'.os = s.os → s.heap.get? l = none → s'.heap.get? l = some (seqObj "list" vs.toArray n) → StrsAre vs zs → zs.Perm L → sortedS zs = true → Q (.ref l) s') :
    wpAny (model P w) A (call (.builtin "sorted") [.ref a]) Q E s := by
  refine Calls.call_function_entry kind_sorted plain_sorted entry_sorted (args_sorted1 _) ?_
  unfold Builtin.«sorted»
  refine wpAny_bind (m := checkCount "sorted" 1 1 _) (wpAny_pure (wpAny_bind (OG (by simp [hh]) T fun s1 vs old eg eo pm txs => ?_)))
  have hS := X6 txs
  have lv : vs.length < 64 := by
    have := pm.length_eq
    rw [List.length_map] at this; lia
  refine wpAny_bind (wpAny_newList ?_ (by rw [sizeLine_eq]; lia))
  have g0 : (s1.heap.push (seqObj "list" vs.toArray 0)).get? s1.heap.objs.size = some (seqObj "list" vs.toArray 0) := Heap.get?_push_size _ rfl
  have lt : ∀ b o, s.heap.get? b = some o → b < s1.heap.objs.size := fun b o e => Heap.lt_size (old b o e)
  refine wpAny_bind (wpAny_holding (wpAny_call_entry slot_list_sort ⟨_, g0, rfl⟩ entry_list_sort (list_sort_treeK strKind_oneLt g0 hS.keysOf (fun v1 v2 r e => keyKind_strs (by rw [← e]; exact hS)) lv fun st pe so => ⟨_, rfl, ?_⟩) (args_list_sort _)))
  obtain ⟨zs, z1, z2, z3⟩ := sorted_out_str hS pe so
  obtain ⟨n, gn⟩ := sortedHeap_at (out := (arrOf st).map (·.2)) g0
  refine wpAny_pure ⟨_, rfl, q _ s1.heap.objs.size n ((arrOf st).map (·.2)).toList zs (fun b o e => ?_) eg eo ?_ (by rw [Array.toArray_toList]; exact gn) z1 (z2.trans pm) z3⟩
  · have hl := lt b o e
    rw [sortedHeap_old (Nat.ne_of_lt hl) (by rw [Heap.size_push]; lia)]
    exact Heap.get?_push_of_some _ (old b o e)
  · cases e : s.heap.get? s1.heap.objs.size with
    | none => rfl
    | some o => exact absurd (lt _ _ e) (Nat.lt_irrefl _)
end
end TSt
namespace TSt
open PySem
section
variable {P : Program} {w : World} {A : Around} {E : Value → Shared → Prop} {a b r : Addr} {L M : List Str} {s : Shared} {o : Obj} {es : Array (Int × Value)} {ep : Nat} {t : SetTable}
theorem MY {Q : Array (Int × Value) → Shared → Prop} (g : s.heap.get? a = some o) (d : o.data = .set es ep t) (f : t.fits es.size = true) (pz : t.plain = true → es.size = 0) (ld : t.led = E8 w)
    (q : ∀ W dr, List.Perm W.toList es.toList → Q W { s with drawn := dr }) : wpAny (model P w) A (setWalk a) Q E s := by
  unfold setWalk
  refine wpAny_bind (wpAny_setState_of g d f ?_)
  dsimp only
  unfold setsByText
  refine wpAny_bind (wpAny_bind (wpAny_askSetting (wpAny_pure ?_)))
  show wpAny _ _ (if w.params.followText "set-order" = true then _ else _) _ _ _
  cases hb : w.params.followText "set-order" with
  | true =>
    rw [if_pos rfl]
    exact wpAny_bind (wpAny_askSetting (wpAny_pure (q _ s.drawn (DB _ es))))
  | false =>
    rw [if_neg Bool.false_ne_true]
    show wpAny _ _ (if (!t.plain && decide (es.size > 1)) = true then _ else _) _ _ _
    by_cases hz : es.size > 1
    · have hp : t.plain = false := by
        cases e : t.plain with
        | false => rfl
        | true => have := pz e; lia
      rw [if_pos (by rw [hp, decide_eq_true hz]; rfl)]
      refine wpAny_bind (BI (by simp) fun l dr pm => wpAny_pure (q _ dr ?_))
      simpa using pm
    · rw [if_neg (by rw [decide_eq_false hz, Bool.and_false]; exact Bool.false_ne_true)]
      refine wpAny_bind (m := if (!t.led && decide (es.size > 1)) = true then _ else _) ?_
      rw [if_neg (by rw [decide_eq_false hz, Bool.and_false]; exact Bool.false_ne_true)]
      exact wpAny_pure (wpAny_pure (q _ s.drawn (.refl _)))
theorem MS {l : List Addr} {Q : Bool → Shared → Prop} (h : ∀ x ∈ l, ∃ Z, TSet P w s.heap x Z) (q : Q true s) : wpAny (model P w) A (setsQuiet l) Q E s := by
  unfold setsQuiet
  refine wpAny_bind (wpAny_forIn_list _ (fun rest st s' => st = (none, ()) ∧ s' = s ∧ ∀ x ∈ rest, ∃ Z, TSet P w s.heap x Z) _ ?_ ?_ l _ ⟨rfl, rfl, h⟩)
  · rintro x rest st s' ⟨rfl, rfl, hx⟩
    obtain ⟨Z, o, es, ep, t, g, _, d, el, _, _, _, f, _⟩ := hx x List.mem_cons_self
    refine wpAny_bind (wpAny_setEntries_of g d f ?_)
    refine wpAny_bind (wpAny_forIn_array' _ (fun rest st s1 => st = (none, ()) ∧ s1 = s' ∧ ∀ e ∈ rest, e ∈ es.toList) _ ?_ ?_ es _ ⟨rfl, rfl, fun e he => he⟩)
    · rintro ⟨k, v⟩ rest' st s1 ⟨rfl, rfl, he⟩
      obtain ⟨tk, e⟩ := Value.isStrOf_shape (MQ el (he _ List.mem_cons_self)).1
      dsimp only at e ⊢
      rw [e]
      exact wpAny_pure ⟨rfl, rfl, fun y hy => he y (List.mem_cons_of_mem _ hy)⟩
    · rintro st s1 ⟨rfl, rfl, _⟩
      exact wpAny_pure ⟨rfl, rfl, fun y hy => hx y (List.mem_cons_of_mem _ hy)⟩
  · rintro st s' ⟨rfl, rfl, _⟩
    exact wpAny_pure q
theorem UH {Q : Array (Int × Value) → Shared → Prop} {T0 : List Addr} (g : s.heap.get? a = some o) (x : o.ExactSet) (d : o.data = .set es ep t) (el : ElemsOf (strKind P w) es.toList) (nd : (es.toList.map fun e => tx e.2).Nodup) (bd : es.size < scanBound) (f : t.fits es.size = true) (pz : t.plain = true → es.size = 0) (ld : t.led = E8 w)
    (hT : ∀ y ∈ T0, ∃ Z, TSet P w s.heap y Z) (hr : TSet P w s.heap r []) (har : a ≠ r)
    (q : ∀ W (s' : Shared), List.Perm W.toList es.toList → (∀ c, c ≠ r → s'.heap.get? c = s.heap.get? c) → TSet P w s'.heap r [] → s'.gens = s.gens → s'.os = s.os → Q W s') : wpAny (model P w) A (setWalkUnseen a T0 (some r)) Q E s := by
  unfold setWalkUnseen
  refine wpAny_bind (wpAny_setState_of g d f ?_)
  dsimp only
  unfold setsByText
  refine wpAny_bind (wpAny_bind (wpAny_askSetting (wpAny_pure ?_)))
  split
  · exact MY g d f pz ld fun W dr pm => q W _ pm (fun _ _ => rfl) hr rfl rfl
  · refine wpAny_bind (MS (fun y hy => ?_) ?_)
    · rcases List.mem_cons.mp hy with rfl | hy
      · exact ⟨_, o, es, ep, t, g, x, d, el, rfl, nd, bd, f, pz, ld⟩
      · exact hT y hy
    · rw [if_neg (by decide)]
      refine wpAny_bind (wpAny_rule ?_)
      obtain ⟨o2, es2, ep2, t2, g2, x2, d2, el2, e2, nd2, b2, f2, pz2, ld2⟩ := id hr
      have z2 : es2 = #[] := by
        have : es2.toList = [] := List.map_eq_nil_iff.mp e2
        exact Array.toList_eq_nil_iff.mp this
      subst z2
      refine wpAny_bind (wpAny_setState_of g2 d2 f2 ?_)
      dsimp only
      split
      · refine wpAny_bind (wpAny_storeSet_of g2 d2 ?_ (Nat.zero_le _))
        have lw : (t2.led && t.led) = E8 w := by rw [ld2, ld, Bool.and_self]
        obtain ⟨g3, _⟩ := SetOf_store (knd := strKind P w) (S' := fun _ => false) (es' := #[]) (t' := { t2 with led := t2.led && t.led, plain := t2.plain && t.plain }) g2 x2 d2 el2 (fun k => by simp) b2 f2
        exact wpAny_pure (q es _ (.refl _) (fun c hc => Heap.get?_update_other _ _ (Ne.symm hc)) ⟨_, #[], _, _, g3, x2, rfl, el2, rfl, List.nodup_nil, b2, f2, fun _ => rfl, lw⟩ rfl rfl)
      · exact wpAny_pure (q es _ (.refl _) (fun _ _ => rfl) hr rfl rfl)
end
end TSt
namespace TSt
open PySem PySem.Builtin
section
variable {P : Program} {w : World} {A : Around} {E : Value → Shared → Prop} {a b r : Addr} {L M : List Str} {s : Shared} {nm : String}
theorem TSet.ty (T : TSet P w s.heap a L) : s.TypeIs (.ref a) "set" := by
  obtain ⟨o, es, ep, t, g, x, _⟩ := T
  exact ⟨o, g, x.1⟩
theorem CJ {Q : Bool → Shared → Prop} (T : TSet P w s.heap a L) (q : Q true s) : wpAny (model P w) A (Frozenset.isAnySet (.ref a)) Q E s := by
  unfold Frozenset.isAnySet
  exact wpAny_bind (wpAny_isInstance T.ty set_set (wpAny_pure q))
theorem W8 {Q : Nat → Shared → Prop} (T : TSet P w s.heap a L) (q : Q L.length s) : wpAny (model P w) A (Frozenset.sizeOf a) Q E s := by
  obtain ⟨o, es, ep, t, g, x, d, el, rfl, nd, bd, f, pz, ld⟩ := T
  rw [List.length_map, Array.length_toList] at q
  unfold Frozenset.sizeOf
  exact wpAny_bind (wpAny_setEntries_of g d f (wpAny_pure q))
theorem WK {z : Str} {tk : Tok} {Q : Option Nat → Shared → Prop} (T : TSet P w s.heap a L) (q : ∀ r : Option Nat, r.isSome = decide (z ∈ L) → Q r s) : wpAny (model P w) A (setFind a (.str z tk) ((strKind P w).hash z)) Q E s :=
  wpAny_setFind_of (by simp [strKind, Value.isStrOf]) rfl T.setOf q
theorem TF {Q : Value → Shared → Prop} (q : Q (.ref s.heap.objs.size) { s with heap := s.heap.push (K8 (E8 w)) }) : wpAny (model P w) A (newSet (.type "set")) Q E s := by
  unfold newSet setsByText
  refine wpAny_bind (wpAny_bind (wpAny_askSetting (wpAny_pure ?_)))
  dsimp only
  exact wpAny_newObj_type q
theorem AS0 {o : Obj} {es : Array (Int × Value)} {ep : Nat} {t : SetTable} {Q : Unit → Shared → Prop} (g : s.heap.get? a = some o) (d : o.data = .set es ep t) (f : t.fits es.size = true) (q : Q () s) : wpAny (model P w) A (Frozenset.unchanged nm a ep) Q E s := by
  unfold Frozenset.unchanged
  refine wpAny_bind (wpAny_setEpoch_of g d f ?_)
  rw [if_neg (by simp)]
  exact wpAny_pure q
set_option maxHeartbeats 1000000 in
theorem BA7 {Q : Value → Shared → Prop} (Ta : TSet P w s.heap a L) (Tb : TSet P w s.heap b M) (hz : ¬ L.length / 4 > M.length) (h64 : L.length < 64)
    (q : ∀ (s' : Shared) r Z, (∀ c o, s.heap.get? c = some o → s'.heap.get? c = some o) → s'.gens = s.gens → s'.os = s.os → s.heap.get? r = none → TSet P w s'.heap r Z → (∀ z, z ∈ Z ↔ z ∈ L ∧ z ∉ M) → Q (.ref r) s') : wpAny (model P w) A (Frozenset.difference nm a (.ref b)) Q E s := by
  unfold Frozenset.difference
  dsimp only
  refine wpAny_bind (CJ Tb ?_)
  rw [if_neg (by decide)]
  refine wpAny_bind (m := Frozenset.addrOf (.ref b)) (wpAny_pure ?_)
  rw [if_neg (by simp), if_pos rfl]
  refine wpAny_bind (W8 Tb (wpAny_bind (W8 Ta ?_)))
  rw [if_neg hz]
  unfold Frozenset.baseOf
  refine wpAny_bind (wpAny_bind (wpAny_isInstance Ta.ty set_set (wpAny_pure ?_)))
  rw [if_pos rfl]
  refine wpAny_bind (TF ?_)
  refine wpAny_bind (m := Frozenset.addrOf (.ref s.heap.objs.size)) (wpAny_pure ?_)
  have up : ∀ c o, s.heap.get? c = some o → (s.heap.push (K8 (E8 w))).get? c = some o := fun c o e => Heap.get?_push_of_some _ e
  have Ta1 : TSet P w (s.heap.push (K8 (E8 w))) a L := Ta.keep fun o e => up _ _ e
  have Tb1 : TSet P w (s.heap.push (K8 (E8 w))) b M := Tb.keep fun o e => up _ _ e
  have Tr1 : TSet P w (s.heap.push (K8 (E8 w))) s.heap.objs.size [] := CI (Heap.get?_push_size _ rfl)
  have la : a < s.heap.objs.size := by obtain ⟨_, _, _, _, g, _⟩ := Ta; exact Heap.lt_size g
  have lb : b < s.heap.objs.size := by obtain ⟨_, _, _, _, g, _⟩ := Tb; exact Heap.lt_size g
  obtain ⟨o, es, ep, t, g, x, d, el, eL, nd, bd, f, pz, ld⟩ := id Ta1
  refine wpAny_bind (wpAny_setEpoch_of g d f ?_)
  refine wpAny_bind (wpAny_holding ?_)
  rw [if_pos rfl]
  refine wpAny_bind (UH (T0 := [b, s.heap.objs.size]) g x d el (eL ▸ nd) bd f pz ld (fun y hy => ?_) Tr1 (Nat.ne_of_lt la) fun W s1 pm oth Tr2 eg eo => ?_)
  · simp only [List.mem_cons, List.not_mem_nil, or_false] at hy
    rcases hy with rfl | rfl
    · exact ⟨_, Tb1⟩
    · exact ⟨_, Tr1⟩
  refine wpAny_bind (wpAny_forIn_array' _ (fun rest _ s' => ∃ dn Z, W.toList = dn ++ rest ∧ TSet P w s'.heap s.heap.objs.size Z ∧ (∀ z, z ∈ Z ↔ z ∈ dn.map (fun e => tx e.2) ∧ z ∉ M) ∧ (∀ c, c ≠ s.heap.objs.size → s'.heap.get? c = (s.heap.push (K8 (E8 w))).get? c) ∧ s'.gens = s.gens ∧ s'.os = s.os) _ ?_ ?_ W _ ⟨[], [], rfl, Tr2, fun z => by simp, oth, eg, eo⟩)
  · rintro ⟨k, v⟩ rest _ s' ⟨dn, Z, eW, Tr, mem, oth', eg', eo'⟩
    have hin : (k, v) ∈ es.toList := pm.mem_iff.mp (by rw [eW]; simp)
    obtain ⟨i1, i2⟩ := MQ el hin
    obtain ⟨tk, ev⟩ := Value.isStrOf_shape i1
    dsimp only at ev i2 ⊢
    generalize tx v = z at ev i2
    subst ev i2
    have Tb' : TSet P w s'.heap b M := Tb1.keep fun o e => (oth' b (Nat.ne_of_lt lb)).trans e
    have ga : s'.heap.get? a = some o := (oth' a (Nat.ne_of_lt la)).trans g
    have zL : Z.length < 64 := by
      obtain ⟨_, _, _, _, _, _, _, _, _, ndZ, _⟩ := id Tr
      have := RW ndZ fun y hy => by
        have y1 := ((mem y).mp hy).1
        have : y ∈ W.toList.map fun e => tx e.2 := by rw [eW, List.map_append]; exact List.mem_append_left _ y1
        have y2 := (pm.map fun e : Int × Value => tx e.2).mem_iff.mp this
        rw [eL] at y2
        exact y2
      lia
    refine wpAny_bind (wpAny_holding ?_)
    rw [if_pos rfl]
    refine wpAny_bind (WK Tb' fun fr hf => wpAny_bind (wpAny_pure ?_))
    rw [hf]
    have go : ∀ (s2 : Shared) Z2, s2.heap.get? a = some o → TSet P w s2.heap s.heap.objs.size Z2 → (∀ y, y ∈ Z2 ↔ (y ∈ dn.map (fun e => tx e.2) ∨ y = z) ∧ y ∉ M) → (∀ c, c ≠ s.heap.objs.size → s2.heap.get? c = (s.heap.push (K8 (E8 w))).get? c) → s2.gens = s.gens → s2.os = s.os →
        ∃ dn' Z', W.toList = dn' ++ rest ∧ TSet P w s2.heap s.heap.objs.size Z' ∧ (∀ y, y ∈ Z' ↔ y ∈ dn'.map (fun e => tx e.2) ∧ y ∉ M) ∧ (∀ c, c ≠ s.heap.objs.size → s2.heap.get? c = (s.heap.push (K8 (E8 w))).get? c) ∧ s2.gens = s.gens ∧ s2.os = s.os := fun s2 Z2 _ h2 h3 h4 h5 h6 =>
      ⟨dn ++ [((strKind P w).hash z, Value.str z tk)], Z2, by rw [eW, List.append_assoc]; rfl, h2, fun y => by rw [h3 y, List.map_append, List.mem_append]; simp [tx], h4, h5, h6⟩
    by_cases hm : z ∈ M
    · rw [decide_eq_true hm, if_neg (by decide)]
      refine wpAny_pure (wpAny_bind (AS0 ga d f (wpAny_pure (go s' Z ga Tr (fun y => ?_) oth' eg' eo'))))
      rw [mem y]
      exact ⟨fun q => ⟨.inl q.1, q.2⟩, fun q => ⟨q.1.resolve_right fun e => q.2 (e ▸ hm), q.2⟩⟩
    · rw [decide_eq_false hm, if_pos (by decide)]
      refine wpAny_bind (ON Tr (by have : scanBound = 4096 := rfl; lia) fun h2 Z2 sb T2 p2 => wpAny_pure (wpAny_bind ?_))
      have g2 : h2.get? a = some o := (sb.2 a (Nat.ne_of_lt la)).trans ga
      refine AS0 (s := { s' with heap := h2 }) g2 d f (wpAny_pure (go { s' with heap := h2 } Z2 g2 T2 (fun y => ?_) (fun c hc => (sb.2 c hc).trans (oth' c hc)) eg' eo'))
      rw [p2.mem_iff]
      split
      · rename_i hz2
        rw [mem y]
        refine ⟨fun q => ⟨.inl q.1, q.2⟩, fun q => ⟨?_, q.2⟩⟩
        rcases q.1 with q1 | rfl
        · exact q1
        · exact ((mem y).mp hz2).1
      · rw [List.mem_append, List.mem_singleton, mem y]
        constructor
        · rintro (q | rfl)
          · exact ⟨.inl q.1, q.2⟩
          · exact ⟨.inr rfl, hm⟩
        · rintro ⟨q1 | rfl, q2⟩
          · exact .inl ⟨q1, q2⟩
          · exact .inr rfl
  · rintro _ s' ⟨dn, Z, eW, Tr, mem, oth', eg', eo'⟩
    rw [List.append_nil] at eW
    refine wpAny_pure (wpAny_pure (q s' s.heap.objs.size Z (fun c oc e => ?_) eg' eo' (Heap.get?_none_of_le (Nat.le_refl _)) Tr fun z => ?_))
    · rw [oth' c (Nat.ne_of_lt (Heap.lt_size e))]; exact up c oc e
    · rw [mem z, ← eW, (pm.map fun e : Int × Value => tx e.2).mem_iff, eL]
end
end TSt
namespace TSt
open PySem SetTable
def lp (mask : Nat) : Nat → Nat × Nat → Nat × Nat
  | 0, x => x
  | n + 1, x => lp mask n (leap mask x.1 x.2)
theorem AB3 (mask : Nat) : ∀ (m n : Nat) (x : Nat × Nat), lp mask (m + n) x = lp mask n (lp mask m x)
  | 0, n, x => by rw [Nat.zero_add]; rfl
  | m + 1, n, x => by
    rw [show m + 1 + n = (m + n) + 1 by lia]
    exact AB3 mask m n _
theorem ZR (mask : Nat) : ∀ (m : Nat) (x : Nat × Nat), (lp mask m x).2 = x.2 / 32 ^ m
  | 0, x => by simp [lp]
  | m + 1, x => by
    show (lp mask m (leap mask x.1 x.2)).2 = _
    rw [ZR mask m]
    show x.2 / 32 / 32 ^ m = _
    rw [Nat.div_div_eq_div_mul, Nat.pow_succ, Nat.mul_comm]
theorem AO6 (mask : Nat) : ∀ (m : Nat) (x : Nat × Nat), x.1 < mask + 1 → (lp mask m x).1 < mask + 1
  | 0, x, h => h
  | m + 1, x, h => AO6 mask m _ (Nat.mod_lt _ (Nat.succ_pos _))
def orb (mask : Nat) : Nat → Nat → List Nat
  | 0, i => [i]
  | n + 1, i => i :: orb mask n ((i * 5 + 1) % (mask + 1))
theorem YO (mask : Nat) : ∀ (n i j : Nat), j ∈ orb mask n i → ∃ m, m ≤ n ∧ (lp mask m (i, 0)).1 = j
  | 0, i, j, h => ⟨0, Nat.le_refl _, (List.mem_singleton.mp h).symm⟩
  | n + 1, i, j, h => by
    rcases List.mem_cons.mp h with rfl | h
    · exact ⟨0, Nat.zero_le _, rfl⟩
    · obtain ⟨m, hm, e⟩ := YO mask n _ j h
      refine ⟨m + 1, by lia, ?_⟩
      show (lp mask m ((i * 5 + 1 + 0 / 32) % (mask + 1), 0 / 32)).1 = j
      rw [Nat.zero_div, Nat.add_zero]
      exact e
def cov (mask : Nat) : Bool := (List.range (mask + 1)).all fun i => (List.range (mask + 1)).all fun j => (orb mask mask i).contains j
theorem AP6 : cov 7 = true := by decide +kernel
theorem YM : cov 15 = true := by decide +kernel
theorem XJ : cov 31 = true := by decide +kernel
theorem AD4 : cov 63 = true := by decide +kernel
theorem AN1 {mask i j : Nat} (c : cov mask = true) (hi : i < mask + 1) (hj : j < mask + 1) : ∃ m, m ≤ mask ∧ (lp mask m (i, 0)).1 = j := by
  have h := List.all_eq_true.mp (List.all_eq_true.mp c i (List.mem_range.mpr hi)) j (List.mem_range.mpr hj)
  exact YO mask mask i j (by simpa using h)
theorem HY {mask : Nat} {ow : Array (Option Nat)} : ∀ (n i p : Nat), layClean.free mask ow n i p = none → ∀ m, m < n → (ow.getD (lp mask m (i, p)).1 (some 0)).isNone = false
  | 0, i, p, h, m, hm => absurd hm (Nat.not_lt_zero _)
  | n + 1, i, p, h, m, hm => by
    unfold layClean.free at h
    split at h
    · cases h
    · rename_i hf
      cases m with
      | zero =>
        have hr : i ≤ runEnd mask i := by unfold runEnd; split <;> lia
        have := List.find?_eq_none.mp hf 0 (List.mem_range.mpr (by lia))
        rw [Nat.add_zero] at this
        exact Bool.eq_false_iff.mpr this
      | succ m => exact HY n _ _ h m (by lia)
theorem IO {mask : Nat} {ow : Array (Option Nat)} : ∀ (n i p j : Nat), layClean.free mask ow n i p = some j → (ow.getD j (some 0)).isNone = true
  | 0, i, p, j, h => by cases h
  | n + 1, i, p, j, h => by
    unfold layClean.free at h
    split at h
    · rename_i k hf
      cases h
      have y := List.find?_some hf
      exact y
    · exact IO n _ _ j h
theorem QR {mask i p j : Nat} {ow : Array (Option Nat)} (c : cov mask = true) (hi : i < mask + 1) (hp : p < 2 ^ 64) (hj : j < mask + 1) (hn : (ow.getD j (some 0)).isNone = true) : ∃ j', layClean.free mask ow (turns mask) i p = some j' ∧ (ow.getD j' (some 0)).isNone = true := by
  cases e : layClean.free mask ow (turns mask) i p with
  | some j' => exact ⟨j', rfl, IO _ _ _ _ e⟩
  | none =>
    exfalso
    have h13 : (lp mask 13 (i, p)).2 = 0 := by
      rw [ZR]
      exact Nat.div_eq_of_lt (Nat.lt_trans hp (by decide))
    obtain ⟨m, hm, em⟩ := AN1 c (AO6 mask 13 (i, p) hi) hj
    have hx : (lp mask (13 + m) (i, p)).1 = j := by
      rw [AB3]
      have : lp mask 13 (i, p) = ((lp mask 13 (i, p)).1, 0) := Prod.ext rfl h13
      rw [this]
      exact em
    have := HY _ _ _ e (13 + m) (by unfold turns; lia)
    rw [hx, hn] at this
    cases this
theorem NI {n : Nat} : ∀ {l : List (Option Nat)} {j : Nat}, l[j]? = some none → List.Perm ((l.set j (some n)).filterMap fun x => x) (n :: l.filterMap fun x => x)
  | x :: l, 0, h => by
    cases h
    exact .refl _
  | x :: l, j + 1, h => by
    have ih := NI (n := n) (l := l) (j := j) (by simpa using h)
    rw [List.set_cons_succ]
    cases x with
    | none => exact ih
    | some y =>
      show List.Perm (y :: (l.set j (some n)).filterMap fun x => x) (n :: y :: l.filterMap fun x => x)
      exact (ih.cons y).trans (List.Perm.swap n y _)
theorem IJ : ∀ {l : List (Option Nat)}, (l.filterMap fun x => x).length < l.length → ∃ j : Nat, l[j]? = some none
  | [], h => absurd h (Nat.lt_irrefl _)
  | none :: l, _ => ⟨0, rfl⟩
  | some y :: l, h => by
    have h : (y :: l.filterMap fun x => x).length < (some y :: l).length := h
    rw [List.length_cons, List.length_cons] at h
    obtain ⟨j, e⟩ := IJ (l := l) (by lia)
    exact ⟨j + 1, by simpa using e⟩
theorem AJ5 (h : Int) : bits h < 2 ^ 64 := by
  unfold bits
  have h1 := Int.emod_lt_of_pos h (show (0 : Int) < 2 ^ 64 by decide)
  have h2 := Int.emod_nonneg h (show (2 ^ 64 : Int) ≠ 0 by decide)
  have e : ((2 : Int) ^ 64) = ((2 ^ 64 : Nat) : Int) := by decide
  rw [e] at h1 h2 ⊢
  lia
abbrev stp (mask : Nat) (acc : Option (Array (Option Nat) × Nat)) (h : Int) : Option (Array (Option Nat) × Nat) := do
  let (ow, k) ← acc
  let j ← layClean.free mask ow (turns mask) (bits h % (mask + 1)) (bits h)
  pure (ow.setIfInBounds j (some k), k + 1)
theorem AB4 {mask n : Nat} {ow : Array (Option Nat)} (c : cov mask = true) (hs : ow.size = mask + 1) (hp : List.Perm (ow.toList.filterMap fun x => x) (List.range n)) (hn : n < mask + 1) (h : Int) :
    ∃ ow', stp mask (some (ow, n)) h = some (ow', n + 1) ∧ ow'.size = mask + 1 ∧ List.Perm (ow'.toList.filterMap fun x => x) (List.range (n + 1)) := by
  obtain ⟨j, hj⟩ := IJ (l := ow.toList) (by rw [hp.length_eq, List.length_range, Array.length_toList, hs]; exact hn)
  have lj : j < mask + 1 := by
    rw [← hs, ← Array.length_toList]
    exact (List.getElem?_eq_some_iff.mp hj).1
  rw [Array.getElem?_toList] at hj
  obtain ⟨j', ef, fn⟩ := QR (i := bits h % (mask + 1)) (p := bits h) c (Nat.mod_lt _ (Nat.succ_pos _)) (AJ5 h) lj (ow := ow) (by rw [Array.getD_eq_getD_getElem?, hj]; rfl)
  have g' : ow[j']? = some none := by
    rw [Array.getD_eq_getD_getElem?] at fn
    cases e : ow[j']? with
    | none => rw [e] at fn; cases fn
    | some y =>
      rw [e] at fn
      cases y with
      | none => rfl
      | some z => cases fn
  refine ⟨ow.setIfInBounds j' (some n), ?_, by simp [hs], ?_⟩
  · show (layClean.free mask ow (turns mask) (bits h % (mask + 1)) (bits h) >>= _) = _
    rw [ef]; rfl
  · rw [Array.toList_setIfInBounds]
    refine (NI (by rw [Array.getElem?_toList]; exact g')).trans ?_
    rw [List.range_succ]
    exact (hp.cons n).trans (List.perm_append_singleton n _).symm
theorem fold_all {mask : Nat} (c : cov mask = true) : ∀ (hs : List Int) (n : Nat) (ow : Array (Option Nat)), ow.size = mask + 1 → List.Perm (ow.toList.filterMap fun x => x) (List.range n) → n + hs.length ≤ mask + 1 →
    ∃ ow', hs.foldl (stp mask) (some (ow, n)) = some (ow', n + hs.length) ∧ ow'.size = mask + 1 ∧ List.Perm (ow'.toList.filterMap fun x => x) (List.range (n + hs.length))
  | [], n, ow, h1, h2, _ => ⟨ow, rfl, h1, h2⟩
  | h :: hs, n, ow, h1, h2, h3 => by
    rw [List.length_cons] at h3
    obtain ⟨ow1, e1, s1, p1⟩ := AB4 c h1 h2 (by lia) h
    obtain ⟨ow2, e2, s2, p2⟩ := fold_all c hs (n + 1) ow1 s1 p1 (by lia)
    refine ⟨ow2, ?_, s2, ?_⟩
    · rw [List.foldl_cons, e1, e2, List.length_cons, show n + 1 + hs.length = n + (hs.length + 1) by lia]
    · rw [List.length_cons, show n + (hs.length + 1) = n + 1 + hs.length by lia]; exact p2
theorem AG2 (ow : Array (Option Nat)) (n : Nat) (hs : ow.size = n) : ((List.range n).filterMap fun j => (ow.getD j none).map (j, ·)).map (·.2) = ow.toList.filterMap fun x => x := by
  have e : ow.toList = (List.range n).map fun j => ow.getD j none := by
    apply List.ext_getElem
    · simp [hs]
    · intro i h1 h2
      have : i < ow.size := by simpa using h1
      simp [Array.getD, this]
  rw [e, List.map_filterMap, List.filterMap_map]
  congr 1
  funext j
  show ((ow.getD j none).map (j, ·)).map (·.2) = ow.getD j none
  cases ow.getD j none <;> rfl
theorem BJ {mask fg mv : Nat} {led plain : Bool} {hs : Array Int} (c : cov mask = true) (hn : hs.size ≤ mask) :
    ∃ t order, laid mask fg mv led plain hs = some (t, order) ∧ List.Perm order.toList (List.range hs.size) ∧ t.mask = mask ∧ t.place.size = hs.size ∧ t.dummies = #[] ∧ t.led = led ∧ t.plain = plain := by
  obtain ⟨ow, e, sz, pm⟩ := fold_all c hs.toList 0 (Array.replicate (mask + 1) none) (by simp) (by simp) (by simp; lia)
  have e2 : layClean mask hs = some ow := by
    unfold layClean
    have : hs.foldl (stp mask) (some (Array.replicate (mask + 1) none, 0)) = some (ow, 0 + hs.toList.length) := by
      rw [← Array.foldl_toList]; exact e
    exact congrArg (Option.map (·.1)) this
  have lv := AG2 ow (mask + 1) sz
  rw [Nat.zero_add, Array.length_toList] at pm
  unfold laid
  rw [e2]
  refine ⟨_, _, rfl, ?_, rfl, ?_, rfl, rfl, rfl⟩
  · show List.Perm ((((List.range (mask + 1)).filterMap fun j => (ow.getD j none).map (j, ·)).map (·.2)).toArray).toList _
    rw [lv]; exact pm
  · show ((((List.range (mask + 1)).filterMap fun j => (ow.getD j none).map (j, ·)).map (·.1)).toArray).size = _
    have := pm.length_eq
    rw [← lv, List.length_map, List.length_range] at this
    rw [List.size_toArray, List.length_map]; exact this
end TSt
namespace TSt
open PySem PySem.Builtin
section
variable {P : Program} {w : World} {A : Around} {E : Value → Shared → Prop} {a b r : Addr} {L M : List Str} {s : Shared} {nm : String} {es : Array (Int × Value)}
theorem EM {order : Array Nat} (pm : List.Perm order.toList (List.range es.size)) : List.Perm (order.filterMap fun i => es[i]?).toList es.toList ∧ ((order.filterMap fun i => es[i]?).size != es.size) = false := by
  have p2 : List.Perm (order.filterMap fun i => es[i]?).toList es.toList := by
    rw [Array.toList_filterMap]
    have y := pm.filterMap fun i => es[i]?
    rwa [filterMap_getElem?_range es] at y
  refine ⟨p2, ?_⟩
  have sz : (order.filterMap fun i => es[i]?).size = es.size := by rw [← Array.length_toList, p2.length_eq, Array.length_toList]
  rw [sz]; simp
structure Bare (w : World) (t : SetTable) (n : Nat) : Prop where
  pl : t.place = #[]
  dm : t.dummies = #[]
  ld : t.led = E8 w
  cv : cov t.mask = true
  rm : n ≤ t.mask
theorem Bare.fits {t : SetTable} {n : Nat} (B : Bare w t n) : t.fits 0 = true := by
  unfold SetTable.fits SetTable.fill
  rw [B.pl, B.dm]
  simp
theorem AA0 {n : Nat} {o : Obj} {Q : Unit → Shared → Prop} (h16 : n ≤ 16) (g : s.heap.get? r = some (K8 (E8 w)))
    (q : ∀ (h' : Heap) ep t, h'.get? r = some { K8 (E8 w) with data := .set #[] ep t } → Bare w t n → Heap.SameBut r s.heap h' → Q () { s with heap := h' }) : wpAny (model P w) A (setRoomFor r n) Q E s := by
  have f0 : (SetTable.fresh 0 0 (E8 w)).fits (#[] : Array (Int × Value)).size = true := by cases E8 w <;> decide
  unfold setRoomFor
  refine wpAny_bind (wpAny_setState_of g rfl f0 ?_)
  dsimp only
  by_cases h5 : n < 5
  · have e : (SetTable.fresh 0 0 (E8 w)).roomFor n = none := by
      unfold SetTable.roomFor
      rw [if_neg (by simp [SetTable.fresh, SetTable.fill]; lia)]
    rw [e]
    exact wpAny_pure (q s.heap 0 _ g ⟨rfl, rfl, rfl, AP6, by show n ≤ 7; lia⟩ (.refl r _))
  · have e : (SetTable.fresh 0 0 (E8 w)).roomFor n = some (n * 2) := by
      unfold SetTable.roomFor
      rw [if_pos (by simp [SetTable.fresh, SetTable.fill]; lia)]
      simp [SetTable.fresh]
    rw [e]
    dsimp only
    have mk : ∃ m, SetTable.sizeAbove (n * 2) - 1 = m ∧ cov m = true ∧ n ≤ m ∧ SetTable.sizeAbove (n * 2) ≤ 64 := by
      have all : ∀ k, k < 17 → 5 ≤ k → (SetTable.sizeAbove (k * 2) - 1 = 15 ∨ SetTable.sizeAbove (k * 2) - 1 = 31 ∨ SetTable.sizeAbove (k * 2) - 1 = 63) ∧ k ≤ SetTable.sizeAbove (k * 2) - 1 ∧ SetTable.sizeAbove (k * 2) ≤ 64 := by decide +kernel
      obtain ⟨h1, h2, h3⟩ := all n (by lia) (by lia)
      refine ⟨_, rfl, ?_, h2, h3⟩
      rcases h1 with h | h | h
      · rw [h]; exact YM
      · rw [h]; exact XJ
      · rw [h]; exact AD4
    obtain ⟨m, em, cm, nm, sm⟩ := mk
    unfold setRelay
    refine wpAny_bind (wpAny_setState_of g rfl f0 ?_)
    dsimp only
    rw [if_neg (by rw [sizeLine_eq]; lia)]
    obtain ⟨t, order, e2, pm, k1, k2, k3, k4, k5⟩ := BJ (mask := m) (fg := 0) (mv := (SetTable.fresh 0 0 (E8 w)).movedTo m) (led := E8 w) (plain := true) (hs := #[]) cm (Nat.zero_le _)
    have e3 : (SetTable.fresh 0 0 (E8 w)).relaid (Array.map (fun y : Int × Value => y.1) #[]) (n * 2) = some (t, order) := by
      show SetTable.laid (SetTable.sizeAbove (n * 2) - 1) _ _ _ _ _ = _
      rw [em, Array.map_empty]; exact e2
    obtain ⟨p', bz⟩ := EM (es := (#[] : Array (Int × Value))) pm
    refine wpAny_bind (wpAny_of_eq (a := (order.filterMap fun i => (#[] : Array (Int × Value))[i]?, t)) (by rw [e3]; exact if_neg (by rw [bz]; exact Bool.false_ne_true)) ?_)
    generalize (order.filterMap fun i => (#[] : Array (Int × Value))[i]?) = es' at p'
    obtain rfl : es' = #[] := by
      have : es'.toList = [] := p'.eq_nil
      exact Array.toList_eq_nil_iff.mp this
    refine wpAny_storeSet_of g rfl ?_ (Nat.zero_le _)
    have gn := Heap.get?_update_self (Obj.putSet #[] t) g rfl
    refine q _ _ t gn ⟨Array.eq_empty_of_size_eq_zero k2, k3, k4, by rw [k1]; exact cm, by rw [k1]; exact nm⟩ (Heap.SameBut.update ..)
set_option maxHeartbeats 1000000 in
theorem AE0 {Q : Value → Shared → Prop} (Ta : TSet P w s.heap a L) (h16 : L.length ≤ 16)
    (q : ∀ (s' : Shared) r Z, (∀ c o, s.heap.get? c = some o → s'.heap.get? c = some o) → s'.gens = s.gens → s'.os = s.os → s.heap.get? r = none → TSet P w s'.heap r Z → List.Perm Z L → Q (.ref r) s') : wpAny (model P w) A (Frozenset.copyOf a) Q E s := by
  unfold Frozenset.copyOf Frozenset.baseOf
  refine wpAny_bind (wpAny_bind (wpAny_isInstance Ta.ty set_set (wpAny_pure ?_)))
  rw [if_pos rfl]
  refine wpAny_bind (TF ?_)
  refine wpAny_bind (m := Frozenset.addrOf (.ref s.heap.objs.size)) (wpAny_pure ?_)
  have up : ∀ c o, s.heap.get? c = some o → (s.heap.push (K8 (E8 w))).get? c = some o := fun c o e => Heap.get?_push_of_some _ e
  have gr : (s.heap.push (K8 (E8 w))).get? s.heap.objs.size = some (K8 (E8 w)) := Heap.get?_push_size _ rfl
  have nr : s.heap.get? s.heap.objs.size = none := Heap.get?_none_of_le (Nat.le_refl _)
  obtain ⟨o, es, ep, t, g, x, d, el, rfl, nd, bd, f, pz, ld⟩ := Ta
  have la : a < s.heap.objs.size := Heap.lt_size g
  have ne : ∀ c o, s.heap.get? c = some o → c ≠ s.heap.objs.size := fun c o e => Nat.ne_of_lt (Heap.lt_size e)
  unfold setMerge
  rw [if_neg (by simp; lia)]
  refine wpAny_bind (wpAny_bind (wpAny_setState_of (up _ _ g) d f ?_))
  dsimp only
  by_cases h0 : es = #[]
  · subst h0
    rw [if_pos (show (#[] : Array (Int × Value)).isEmpty = true from rfl)]
    exact wpAny_pure (wpAny_pure (q _ s.heap.objs.size [] up rfl rfl nr (CI gr) (.refl _)))
  · rw [if_neg (by simpa using h0)]
    have pl : t.plain = false := by
      cases e : t.plain with
      | false => rfl
      | true => exact absurd (Array.eq_empty_of_size_eq_zero (pz e)) h0
    refine wpAny_bind (AA0 (o := o) (s := { s with heap := s.heap.push (K8 (E8 w)) }) (by rw [List.length_map, Array.length_toList] at h16; exact h16) gr fun h' ep' ts g' B sb => ?_)
    refine wpAny_bind (wpAny_setState_of g' rfl B.fits ?_)
    dsimp only
    have keep : ∀ c oc, s.heap.get? c = some oc → h'.get? c = some oc := fun c oc e => (sb.2 c (ne c oc e)).trans (up c oc e)
    have lw : (ts.led && t.led) = E8 w := by rw [B.ld, ld, Bool.and_self]
    have fin : ∀ (es2 : Array (Int × Value)) (t2 : SetTable), List.Perm es2.toList es.toList → t2.fits es2.size = true → t2.plain = false → t2.led = E8 w → wpAny (model P w) A (storeSet s.heap.objs.size es2 t2) (fun _ s' => wpAny (model P w) A (pure (Value.ref s.heap.objs.size)) Q E s') E { s with heap := h' } := fun es2 t2 p2 f2 l2 k2 => by
      have sz : es2.size = es.size := by rw [← Array.length_toList, p2.length_eq, Array.length_toList]
      have b2 : es2.size < scanBound := by rw [sz]; exact bd
      have el2 := el.perm p2
      have pm2 := p2.map (fun e : Int × Value => tx e.2)
      refine wpAny_storeSet_of g' rfl (wpAny_pure ?_) (fits_of_scanBound b2)
      obtain ⟨g3, _⟩ := SetOf_store (knd := strKind P w) (S' := fun k => decide (k ∈ es2.toList.map fun e => tx e.2)) g' ⟨rfl, rfl, rfl⟩ rfl el2 (fun k => by rw [decide_eq_true_eq, N8 el2]) b2 f2
      exact q _ _ _ (fun c oc e => (Heap.get?_update_other _ _ (Ne.symm (ne c oc e))).trans (keep c oc e)) rfl rfl nr ⟨_, es2, _, t2, g3, ⟨rfl, rfl, rfl⟩, rfl, el2, rfl, Y5 pm2 nd, b2, f2, fun z => (by rw [l2] at z; cases z), k2⟩ pm2
    have fill0 : ts.fill = 0 := by unfold SetTable.fill; rw [B.pl, B.dm]; rfl
    unfold SetTable.road
    rw [if_neg (by simp [fill0])]
    by_cases hc : (ts.mask == t.mask && t.dummies.isEmpty) = true
    · rw [if_pos hc]
      dsimp only
      exact fin es _ (.refl _) f (by show (ts.plain && t.plain) = false; rw [pl, Bool.and_false]) lw
    · rw [if_neg hc]
      dsimp only
      have hl : (es.map (·.1)).size ≤ ts.mask := by
        have := B.rm
        rw [Array.size_map]
        simpa using this
      obtain ⟨t2, order, e2, pm, k1, k2, k3, k4, k5⟩ := BJ (mask := ts.mask) (fg := ts.finger) (mv := ts.moves) (led := ts.led && t.led) (plain := ts.plain && t.plain) (hs := es.map (·.1)) B.cv hl
      rw [Array.size_map] at pm k2
      obtain ⟨p', bz⟩ := EM pm
      refine wpAny_bind (wpAny_of_eq (a := (order.filterMap fun i => es[i]?, t2)) (by rw [e2]; exact if_neg (by rw [bz]; exact Bool.false_ne_true)) ?_)
      generalize (order.filterMap fun i => es[i]?) = es' at p'
      dsimp only
      have sz : es'.size = es.size := by rw [← Array.length_toList, p'.length_eq, Array.length_toList]
      refine fin es' t2 p' ?_ (by rw [k5, pl, Bool.and_false]) (k4.trans lw)
      unfold SetTable.fits SetTable.fill
      rw [k2, k3, sz, k1]
      rw [Array.size_map] at hl
      simpa using hl
end
section
variable {P : Program} {w : World} {A : Around} {E : Value → Shared → Prop} {a b r : Addr} {L M : List Str} {s : Shared} {nm : String} {es : Array (Int × Value)} {o : Obj} {ep : Nat} {t : SetTable} {z : Str} {tk : Tok}
theorem VM {Q : Array (Int × Value) → Shared → Prop} {T0 : List Addr} (g : s.heap.get? a = some o) (x : o.ExactSet) (d : o.data = .set es ep t) (el : ElemsOf (strKind P w) es.toList) (nd : (es.toList.map fun e => tx e.2).Nodup) (bd : es.size < scanBound) (f : t.fits es.size = true) (pz : t.plain = true → es.size = 0) (ld : t.led = E8 w)
    (hT : ∀ y ∈ T0, ∃ Z, TSet P w s.heap y Z) (q : ∀ W dr, List.Perm W.toList es.toList → Q W { s with drawn := dr }) : wpAny (model P w) A (setWalkUnseen a T0 none) Q E s := by
  unfold setWalkUnseen
  refine wpAny_bind (wpAny_setState_of g d f ?_)
  dsimp only
  unfold setsByText
  refine wpAny_bind (wpAny_bind (wpAny_askSetting (wpAny_pure ?_)))
  split
  · exact MY g d f pz ld q
  · refine wpAny_bind (MS (fun y hy => ?_) ?_)
    · rcases List.mem_cons.mp hy with rfl | hy
      · exact ⟨_, o, es, ep, t, g, x, d, el, rfl, nd, bd, f, pz, ld⟩
      · exact hT y hy
    · rw [if_neg (by decide)]
      exact wpAny_bind (wpAny_rule (wpAny_pure (q es s.drawn (.refl _))))
theorem ET {α : Type} (xs : Array α) (i : Nat) : (SetTable.eraseAt xs i).toList = xs.toList.eraseIdx i := by
  unfold SetTable.eraseAt
  rw [Array.toList_append, Array.toList_extract, Array.toList_extract]
  rw [List.eraseIdx_eq_take_drop_succ]
  simp [List.extract]
  exact List.take_of_length_le (by simp)
theorem VD {n i : Nat} (f : t.fits n = true) (hi : i < n) : (t.drop i).fits (n - 1) = true ∧ (t.drop i).plain = t.plain ∧ (t.drop i).led = t.led := by
  unfold SetTable.fits SetTable.fill at f
  simp only [Bool.and_eq_true, beq_iff_eq, decide_eq_true_eq] at f
  have hl : i < t.place.size := by lia
  unfold SetTable.drop
  rw [Array.getElem?_eq_getElem hl]
  refine ⟨?_, rfl, rfl⟩
  unfold SetTable.fits SetTable.fill
  have s1 : (SetTable.eraseAt t.place i).size = t.place.size - 1 := by
    rw [← Array.length_toList, ET, List.length_eraseIdx_of_lt (by simpa using hl), Array.length_toList]
  have s2 : (SetTable.insertAt t.dummies (SetTable.below t.dummies t.place[i]) t.place[i]).size = t.dummies.size + 1 := by
    have := (SetTable.insertAt_perm t.dummies (SetTable.below t.dummies t.place[i]) t.place[i]).length_eq
    rw [Array.length_toList, Array.length_toList, Array.size_push] at this
    exact this
  simp only [Bool.and_eq_true, beq_iff_eq, decide_eq_true_eq]
  rw [s1, s2]
  refine ⟨by lia, by lia⟩
set_option maxHeartbeats 1000000 in
theorem LU {Q : Bool → Shared → Prop} (T : TSet P w s.heap a L)
    (q : ∀ bb h' L', Heap.SameBut a s.heap h' → TSet P w h' a L' → (∀ y, y ∈ L' ↔ y ∈ L ∧ y ≠ z) → Q bb { s with heap := h' }) : wpAny (model P w) A (setDiscardHashed a (.str z tk) ((strKind P w).hash z)) Q E s := by
  obtain ⟨o, es, ep, t, g, x, d, el, rfl, nd, b, f, pl, ld⟩ := T
  have key : (strKind P w).is z (.str z tk) = true := by simp [strKind, Value.isStrOf]
  unfold setDiscardHashed setFind setFindIn
  refine wpAny_bind (wpAny_bind (wpAny_setState_of g d f ?_))
  dsimp only
  rw [if_pos (byScan_of rfl b el)]
  refine wpAny_bind (wpAny_rule (wpAny_bind (wpAny_setScan_of key g d f el ?_)))
  cases fi : es.toList.findIdx? (fun e => (strKind P w).is z e.2) with
  | none =>
    dsimp only
    have m : z ∉ es.toList.map fun e => tx e.2 := fun m => by
      obtain ⟨e, me, i⟩ := (N8 el z).mpr m
      have := List.findIdx?_eq_none_iff.mp fi e me
      rw [i] at this; cases this
    refine wpAny_pure ?_
    exact wpAny_pure (q false s.heap _ (.refl a _) ⟨o, es, ep, t, g, x, d, el, rfl, nd, b, f, pl, ld⟩ fun y => ⟨fun h => ⟨h, fun e => m (e ▸ h)⟩, fun h => h.1⟩)
  | some j =>
    dsimp only
    obtain ⟨hj, hp, _⟩ := List.findIdx?_eq_some_iff_getElem.mp fi
    have hj' : j < es.size := by simpa using hj
    refine wpAny_pure ?_
    dsimp only
    refine wpAny_bind (wpAny_setState_of g d f ?_)
    dsimp only
    rw [Nat.zero_add]
    have er := ET es j
    have el1 : ElemsOf (strKind P w) (SetTable.eraseAt es j).toList := fun e he => el e (by rw [er] at he; exact List.mem_of_mem_eraseIdx he)
    have sz : (SetTable.eraseAt es j).size = es.size - 1 := by rw [← Array.length_toList, er, List.length_eraseIdx_of_lt hj, Array.length_toList]
    have b1 : (SetTable.eraseAt es j).size < scanBound := by rw [sz]; lia
    obtain ⟨f1, p1, l1⟩ := VD f hj'
    have tp : t.plain = false := by
      cases e : t.plain with
      | false => rfl
      | true => have := pl e; lia
    have mp : List.Perm (z :: (SetTable.eraseAt es j).toList.map fun e => tx e.2) (es.toList.map fun e => tx e.2) := by
      rw [er]
      have := (Y4 (l := es.toList) (i := j) (x := es.toList[j]) (List.getElem?_eq_getElem hj)).map fun e : Int × Value => tx e.2
      rw [List.map_cons, ZD hp] at this
      exact this
    have nd1 := mp.nodup_iff.mpr nd
    rw [List.nodup_cons] at nd1
    refine wpAny_bind (wpAny_storeSet_of g d ?_ (fits_of_scanBound b1))
    obtain ⟨g3, _⟩ := SetOf_store (knd := strKind P w) (S' := fun k => decide (k ∈ (SetTable.eraseAt es j).toList.map fun e => tx e.2)) (t' := t.drop j) g x d el1 (fun k => by rw [decide_eq_true_eq, N8 el1]) b1 (by rw [sz]; exact f1)
    refine wpAny_bind (wpAny_point (wpAny_pure (q true _ _ (Heap.SameBut.update ..) ⟨_, _, _, t.drop j, g3, x, rfl, el1, rfl, nd1.2, b1, by rw [sz]; exact f1, fun h => (by rw [p1, tp] at h; cases h), l1.trans ld⟩ fun y => ?_)))
    rw [← mp.mem_iff, List.mem_cons]
    refine ⟨fun h => ⟨.inr h, fun e => nd1.1 (e ▸ h)⟩, fun h => h.1.resolve_left h.2⟩
end
section
variable {P : Program} {w : World} {A : Around} {E : Value → Shared → Prop} {a b r : Addr} {L M : List Str} {s : Shared} {nm : String} {es : Array (Int × Value)} {o : Obj} {ep : Nat} {t : SetTable} {z : Str} {tk : Tok}
theorem YJ {Q : Unit → Shared → Prop} (T : TSet P w s.heap a L) (h15 : L.length ≤ 15)
    (q : ∀ h' L', Heap.SameBut a s.heap h' → TSet P w h' a L' → List.Perm L' L → Q () { s with heap := h' }) : wpAny (model P w) A (setTidy a) Q E s := by
  obtain ⟨o, es, ep, t, g, x, d, el, rfl, nd, b, f, pl, ld⟩ := T
  unfold setTidy
  refine wpAny_bind (wpAny_setState_of g d f ?_)
  dsimp only
  split
  · rw [List.length_map, Array.length_toList] at h15
    have gr : SetTable.grown es.size = es.size * 4 := by unfold SetTable.grown; rw [if_neg (by lia)]
    rw [gr]
    have mk : ∃ m, SetTable.sizeAbove (es.size * 4) - 1 = m ∧ cov m = true ∧ es.size ≤ m ∧ SetTable.sizeAbove (es.size * 4) ≤ 64 := by
      have all : ∀ k, k < 16 → (SetTable.sizeAbove (k * 4) - 1 = 7 ∨ SetTable.sizeAbove (k * 4) - 1 = 15 ∨ SetTable.sizeAbove (k * 4) - 1 = 31 ∨ SetTable.sizeAbove (k * 4) - 1 = 63) ∧ k ≤ SetTable.sizeAbove (k * 4) - 1 ∧ SetTable.sizeAbove (k * 4) ≤ 64 := by decide +kernel
      obtain ⟨h1, h2, h3⟩ := all es.size (by lia)
      refine ⟨_, rfl, ?_, h2, h3⟩
      rcases h1 with h | h | h | h
      · rw [h]; exact AP6
      · rw [h]; exact YM
      · rw [h]; exact XJ
      · rw [h]; exact AD4
    obtain ⟨m, em, cm, nm, sm⟩ := mk
    unfold setRelay
    refine wpAny_bind (wpAny_setState_of g d f ?_)
    dsimp only
    rw [if_neg (by rw [sizeLine_eq]; lia)]
    obtain ⟨t2, order, e2, pm, k1, k2, k3, k4, k5⟩ := BJ (mask := m) (fg := t.finger) (mv := t.movedTo m) (led := t.led) (plain := t.plain) (hs := es.map (·.1)) cm (by rw [Array.size_map]; exact nm)
    rw [Array.size_map] at pm k2
    have e3 : t.relaid (es.map (·.1)) (es.size * 4) = some (t2, order) := by
      show SetTable.laid (SetTable.sizeAbove (es.size * 4) - 1) _ _ _ _ _ = _
      rw [em]; exact e2
    obtain ⟨p', bz⟩ := EM pm
    refine wpAny_bind (wpAny_of_eq (a := (order.filterMap fun i => es[i]?, t2)) (by rw [e3]; exact if_neg (by rw [bz]; exact Bool.false_ne_true)) ?_)
    generalize (order.filterMap fun i => es[i]?) = es' at p'
    dsimp only
    have sz : es'.size = es.size := by rw [← Array.length_toList, p'.length_eq, Array.length_toList]
    have b2 : es'.size < scanBound := by rw [sz]; exact b
    have el2 := el.perm p'
    have pm2 := p'.map (fun e : Int × Value => tx e.2)
    have f2 : t2.fits es'.size = true := by
      unfold SetTable.fits SetTable.fill
      rw [k2, k3, sz, k1]
      simpa using nm
    refine wpAny_storeSet_of g d ?_ (fits_of_scanBound b2)
    obtain ⟨g3, _⟩ := SetOf_store (knd := strKind P w) (S' := fun k => decide (k ∈ es'.toList.map fun e => tx e.2)) (t' := t2) g x d el2 (fun k => by rw [decide_eq_true_eq, N8 el2]) b2 f2
    exact q _ _ (Heap.SameBut.update ..) ⟨_, es', _, t2, g3, x, rfl, el2, rfl, Y5 pm2 nd, b2, f2, fun h => by rw [k5] at h; rw [sz]; exact pl h, k4.trans ld⟩ pm2
  · exact wpAny_pure (q s.heap _ (.refl a _) ⟨o, es, ep, t, g, x, d, el, rfl, nd, b, f, pl, ld⟩ (.refl _))
set_option maxHeartbeats 1000000 in
theorem AD8 {Q : Unit → Shared → Prop} (Tr : TSet P w s.heap r L) (Tb : TSet P w s.heap b M) (hrb : b ≠ r) (h15 : L.length ≤ 15) (hz : ¬ M.length / 8 > L.length)
    (q : ∀ (s' : Shared) Z, (∀ c, c ≠ r → s'.heap.get? c = s.heap.get? c) → s'.gens = s.gens → s'.os = s.os → TSet P w s'.heap r Z → (∀ z, z ∈ Z ↔ z ∈ L ∧ z ∉ M) → Q () s') : wpAny (model P w) A (Frozenset.differenceUpdate nm r (.ref b)) Q E s := by
  unfold Frozenset.differenceUpdate
  rw [if_neg (by simpa using hrb)]
  refine wpAny_bind (CJ Tb ?_)
  rw [if_pos rfl]
  refine wpAny_bind (m := Frozenset.addrOf (.ref b)) (wpAny_pure ?_)
  refine wpAny_bind (W8 Tb (wpAny_bind (W8 Tr ?_)))
  rw [if_neg hz]
  dsimp only
  obtain ⟨o, es, ep, t, g, x, d, el, eM, nd, bd, f, pz, ld⟩ := id Tb
  refine wpAny_bind (wpAny_setEpoch_of g d f (wpAny_bind (wpAny_holding ?_)))
  refine wpAny_bind (VM (T0 := [r]) g x d el (eM ▸ nd) bd f pz ld (fun y hy => ?_) fun W dr pm => ?_)
  · rw [List.mem_singleton] at hy
    subst hy
    exact ⟨_, Tr⟩
  refine wpAny_bind (wpAny_forIn_array' _ (fun rest _ s' => ∃ dn Z, W.toList = dn ++ rest ∧ TSet P w s'.heap r Z ∧ (∀ z, z ∈ Z ↔ z ∈ L ∧ z ∉ dn.map (fun e => tx e.2)) ∧ (∀ c, c ≠ r → s'.heap.get? c = s.heap.get? c) ∧ s'.gens = s.gens ∧ s'.os = s.os) _ ?_ ?_ W _ ⟨[], L, rfl, Tr, fun z => by simp, fun _ _ => rfl, rfl, rfl⟩)
  · rintro ⟨k, v⟩ rest _ s' ⟨dn, Z, eW, T', mem, oth, eg, eo⟩
    have hin : (k, v) ∈ es.toList := pm.mem_iff.mp (by rw [eW]; simp)
    obtain ⟨i1, i2⟩ := MQ el hin
    obtain ⟨tk, ev⟩ := Value.isStrOf_shape i1
    dsimp only at ev i2 ⊢
    generalize tx v = z at ev i2
    subst ev i2
    refine wpAny_bind (wpAny_holding (LU T' fun bb h2 Z2 sb T2 m2 => ?_))
    have g2 : h2.get? b = some o := (sb.2 b hrb).trans ((oth b hrb).trans g)
    refine wpAny_bind (AS0 (s := { s' with heap := h2 }) g2 d f (wpAny_pure ⟨dn ++ [((strKind P w).hash z, Value.str z tk)], Z2, by rw [eW, List.append_assoc]; rfl, T2, fun y => ?_, fun c hc => (sb.2 c hc).trans (oth c hc), eg, eo⟩))
    rw [m2 y, mem y, List.map_append, List.mem_append]
    simp only [List.map_cons, List.map_nil, List.mem_singleton, tx, not_or]
    exact ⟨fun h => ⟨h.1.1, h.1.2, h.2⟩, fun h => ⟨⟨h.1, h.2.1⟩, h.2.2⟩⟩
  · rintro _ s' ⟨dn, Z, eW, T', mem, oth, eg, eo⟩
    rw [List.append_nil] at eW
    refine wpAny_pure ?_
    have zl : Z.length ≤ 15 := by
      obtain ⟨_, _, _, _, _, _, _, _, _, ndZ, _⟩ := id T'
      exact Nat.le_trans (RW ndZ fun y hy => ((mem y).mp hy).1) h15
    refine YJ T' zl fun h2 Z2 sb T2 p2 => q { s' with heap := h2 } Z2 (fun c hc => (sb.2 c hc).trans (oth c hc)) eg eo T2 fun z => ?_
    rw [p2.mem_iff, mem z, ← eW, (pm.map fun e : Int × Value => tx e.2).mem_iff, eM]
theorem entry_sub : entryFor table "set.__sub__" = some Builtin.«frozenset.__sub__» := entryFor_alias (id' := "frozenset.__sub__") (by kernel_rfl) rfl (by decide +kernel) (by kernel_rfl)
theorem AE7 {Q : Value → Shared → Prop} (Ta : TSet P w s.heap a L) (Tb : TSet P w s.heap b M) (h15 : L.length ≤ 15)
    (q : ∀ (s' : Shared) r Z, (∀ c o, s.heap.get? c = some o → s'.heap.get? c = some o) → s'.gens = s.gens → s'.os = s.os → s.heap.get? r = none → TSet P w s'.heap r Z → (∀ z, z ∈ Z ↔ z ∈ L ∧ z ∉ M) → Q (.ref r) s') : wpAny (model P w) A (Frozenset.difference nm a (.ref b)) Q E s := by
  by_cases hz : L.length / 4 > M.length
  · unfold Frozenset.difference
    dsimp only
    refine wpAny_bind (CJ Tb ?_)
    rw [if_neg (by decide)]
    refine wpAny_bind (m := Frozenset.addrOf (.ref b)) (wpAny_pure ?_)
    rw [if_neg (by simp), if_pos rfl]
    refine wpAny_bind (W8 Tb (wpAny_bind (W8 Ta ?_)))
    rw [if_pos hz]
    refine wpAny_bind (wpAny_rule (wpAny_bind (AE0 Ta (by lia) fun s1 r Z old eg eo nr Tr pm => ?_)))
    refine wpAny_bind (m := Frozenset.addrOf (.ref r)) (wpAny_pure ?_)
    have Tb1 : TSet P w s1.heap b M := Tb.keep fun o e => old _ _ e
    have hbr : b ≠ r := by
      rintro rfl
      obtain ⟨_, _, _, _, g, _⟩ := Tb
      rw [nr] at g; cases g
    have zl := pm.length_eq
    refine wpAny_bind (wpAny_holding (AD8 Tr Tb1 hbr (by lia) (by lia) fun s2 Z2 oth eg2 eo2 T2 m2 => wpAny_pure (q s2 r Z2 (fun c o e => ?_) (eg2.trans eg) (eo2.trans eo) nr T2 fun z => by rw [m2 z, pm.mem_iff])))
    have hc : c ≠ r := by rintro rfl; rw [nr] at e; cases e
    rw [oth c hc]; exact old c o e
  · exact BA7 Ta Tb hz (by lia) q
theorem AA4 {Q : Value → Shared → Prop} (Ta : TSet P w s.heap a L) (Tb : TSet P w s.heap b M) (h15 : L.length ≤ 15)
    (q : ∀ (s' : Shared) r Z, (∀ c o, s.heap.get? c = some o → s'.heap.get? c = some o) → s'.gens = s.gens → s'.os = s.os → s.heap.get? r = none → TSet P w s'.heap r Z → (∀ z, z ∈ Z ↔ z ∈ L ∧ z ∉ M) → Q (.ref r) s') : wpAny (model P w) A (binaryOp .Sub (.ref a) (.ref b)) Q E s := by
  refine wpAny_binaryOp_same Ta.ty Tb.ty F.fills_set_sub F.slot_set_sub (wpAny_call_entry F.slot_set_sub Ta.ty entry_sub ?_ (F.args_set_sub_2 _ _))
  show wpAny (model P w) A.in1 (do
    let (self, other) ← Frozenset.slot1 "__sub__" ⟨[.ref a, .ref b], []⟩
    let (l, r) := if false then (other, self) else (self, other)
    if !(← Frozenset.isAnySet l <&&> Frozenset.isAnySet r) then rule s!"frozenset.{"__sub__"}.declined"; return ← ret .notImplemented
    ret (← Frozenset.difference s!"frozenset.{"__sub__"}" (← Frozenset.addrOf l) r)) _ _ _
  refine wpAny_bind (wpAny_of_eq (show Frozenset.slot1 "__sub__" ⟨[.ref a, .ref b], []⟩ = pure (.ref a, .ref b) from rfl) ?_)
  dsimp only
  rw [if_neg (by decide)]
  dsimp only
  refine wpAny_bind (wpAny_bind (CJ Ta ?_))
  show wpAny _ _ (Frozenset.isAnySet (.ref b)) _ _ _
  refine CJ Tb ?_
  rw [if_neg (by decide)]
  refine wpAny_bind (m := Frozenset.addrOf (.ref a)) (wpAny_pure (wpAny_bind (AE7 Ta Tb h15 fun s' r Z h1 h2 h3 h4 h5 h6 => ?_)))
  exact wpAny_pure ⟨_, rfl, (fun z => nomatch z), q s' r Z h1 h2 h3 h4 h5 h6⟩
end
end TSt
namespace L2
open PySem PySem.Spec PyProof.Rows
section
variable {X : Cx} {pins : List (Addr × Obj)} {σ : St} {H : Hp} {s s' : Shared} {l : Addr} {ys : List V} {its : List Value} {n : Nat}
theorem Inv.grow (I : Inv X pins σ H s) (k : ∀ b o, s.heap.get? b = some o → s'.heap.get? b = some o) (hg : s'.gens = s.gens) (ho : s'.os = s.os) : Inv X pins σ H s' :=
  I.call' (ch := []) ho ⟨fun b u q _ _ _ => k b u q, fun b u q _ _ _ => ⟨u.slots, k b u q⟩, fun _ _ _ n _ => n, fun b u q _ => ⟨u, k b u q⟩, fun _ _ q => q, fun _ _ _ q => q, fun b ps q => ⟨#[], by rw [q]; simp⟩⟩ (I.hok.kept k) (by rw [hg]; exact I.bare) fun _ z => nomatch z
theorem Inv.gone (I : Inv X pins σ H s) (hn : s.heap.get? l = none) : H l = none := AI4 I.hok hn
theorem Inv.lfar (I : Inv X pins σ H s) (k : ∀ b o, s.heap.get? b = some o → s'.heap.get? b = some o) (hg : s'.gens = s.gens) (ho : s'.os = s.os) (hn : s.heap.get? l = none) (gl : s'.heap.get? l = some { cls := .type "list", data := .seq its.toArray n }) (hv : Vals ys its) (hz : ys.length ≤ sizeLine) :
    Inv X pins σ (upd H l (.lst ys)) s' := by
  have nH := I.gone hn
  refine I.call' (ch := []) ho ⟨fun b u q _ _ _ => k b u q, fun b u q _ _ _ => ⟨u.slots, k b u q⟩, fun b u q n _ => ?_, fun b u q _ => ⟨u, k b u q⟩, fun b xs q => ?_, fun b o u q => ?_, fun b ps q => ⟨#[], ?_⟩⟩ (fun b u e => ?_) (by rw [hg]; exact I.bare) fun _ z => nomatch z
  · rw [D1 (fun z => by subst z; rw [hn] at q; cases q)]; exact n
  · rw [D1 (E7 q nH)]; exact q
  · rw [D1 (E7 q nH)]; exact q
  · rw [D1 (E7 q nH), q]; simp
  · by_cases hb : b = l
    · subst hb
      rw [D5] at e
      cases e
      exact ⟨hz, its, n, hv, gl⟩
    · rw [D1 hb] at e
      exact (I.hok b u e).stay (fun c v _ q => k c v q) (fun c q => by rw [D1 (E7 q nH)]; exact q) fun c xs q => by rw [D1 (E7 q nH)]; exact q
end
end L2
namespace L3
open PySem PySem.Spec PyProof.Rows L2
theorem IR : ∀ {zs : List Str} {vs : List Value}, StrsAre vs zs → Vals (zs.map V.str) vs
  | _, _, .nil => .nil
  | _, _, .cons y t r => .cons ⟨t, rfl⟩ (IR r)
theorem FS : ∀ {zs : List Str} {vs : List Value}, StrsAre vs zs → vs.length = zs.length ∧ ∀ (i : Nat) (y : Value), vs[i]? = some y → ∃ t, y = .str (zs.getD i ⟨#[]⟩) t
  | _, _, .nil => ⟨rfl, fun i y h => by simp at h⟩
  | _, _, .cons z t r => by
    obtain ⟨h1, h2⟩ := FS r
    refine ⟨by rw [List.length_cons, List.length_cons, h1], fun i y h => ?_⟩
    cases i with
    | zero => exact ⟨t, by simpa [eq_comm] using h⟩
    | succ i =>
      obtain ⟨t', e⟩ := h2 i y (by simpa using h)
      exact ⟨t', by simpa using e⟩
section
variable {X : Cx} {pos : Pos}
theorem AB7 {pins : List (Addr × Obj)} {s : Shared} {σv : L2.St} {H : Hp} {M : Mem} {d : D} {v : V} {u : Value} {zs : List Str} (I : Inv X pins σv H s) (m : MRel X.K M H) (e : GW M d = some (zs.map D.str)) (p : Rep X.K M H d v) (r : RelV v u) :
    ∃ (l : Addr) (its : List Value), u = .ref l ∧ its.length = zs.length ∧ (∀ (i : Nat) (y : Value), its[i]? = some y → ∃ t, y = .str (zs.getD i ⟨#[]⟩) t) ∧ (s.heap.IsList l its.toArray ∨ s.heap.IsTuple l its.toArray) := by
  obtain ⟨l, vs, rfl, sq, rr⟩ := JF m p e
  obtain rfl : u = .ref l := r
  rcases sq with sl | st
  · obtain ⟨its, ri, pl, _⟩ := I.list sl
    obtain ⟨h1, h2⟩ := FS (X6 rr ri)
    exact ⟨l, its, rfl, h1, h2, .inl pl.isList⟩
  · obtain ⟨its, ri, ⟨o, ho, hc, n, hd⟩, _⟩ := I.tuple st
    obtain ⟨h1, h2⟩ := FS (X6 rr ri)
    exact ⟨l, its, rfl, h1, h2, .inr ⟨o, ho, hc, n, hd⟩⟩
theorem AX6 {pins : List (Addr × Obj)} {s : Shared} {σv : L2.St} {H : Hp} {M : Mem} {d : D} {v : V} {u : Value} {zs : List Str} {E : Value → Shared → Prop} {Q : Value → Shared → Prop} {A : Around} (hh : A.handled = none) (I : Inv X pins σv H s) (m : MRel X.K M H) (e : GW M d = some (zs.map D.str)) (p : Rep X.K M H d v) (r : RelV v u) (hb : zs.length + 1 < scanBound)
    (q : ∀ s' a L, Inv X pins σv H s' → (∀ b o, s.heap.get? b = some o → s'.heap.get? b = some o) → s.heap.get? a = none → TSt.TSet X.prog X.w s'.heap a L → (∀ z, z ∈ L ↔ z ∈ zs) → Q (.ref a) s') : wpAny (model X.prog X.w) A (call (.type "set") [u]) Q E s := by
  obtain ⟨l, its, rfl, h1, h2, h3⟩ := AB7 I m e p r
  have fin : ∀ h' tk L, TSt.TSet X.prog X.w h' s.heap.objs.size L → (∀ z, z ∈ L ↔ z ∈ zs) → (∀ b o, s.heap.get? b = some o → h'.get? b = some o) → Q (.ref s.heap.objs.size) { s with heap := h', toks := tk } := fun h' tk L T mem k =>
    q { s with heap := h', toks := tk } _ L (I.grow (s' := { s with heap := h', toks := tk }) k rfl rfl) k (Heap.get?_none_of_le (Nat.le_refl _)) T mem
  rcases h3 with h3 | h3
  · exact TSt.NX hh h3 h1 h2 hb fin
  · exact TSt.LL hh h3 h1 h2 hb fin
end
abbrev TZ3 := Lo → Mem → (List Str → Mem → Prop) → Prop
def PZ3 (X : Cx) (e : Expr) (t : TZ3) : Prop :=
  ∀ (pins : List (Addr × Obj)) (s : Shared) (σv : L2.St) (H : Hp) (σ : Lo) (M : Mem) (Q : List Str → Mem → Prop), Inv X pins σv H s → SRel X.K M H σ σv → MRel X.K M H → t σ M Q → wpAny (model X.prog X.w) X.A (eval e X.env) (fun u s' => ∃ a L zs M' H', u = .ref a ∧ Inv X pins σv H' s' ∧ Step M H M' H' ∧ MRel X.K M' H' ∧ H' a = none ∧ (a ≠ X.env.locals ∧ a ∉ X.fs) ∧ TSt.TSet X.prog X.w s'.heap a L ∧ (∀ z, z ∈ L ↔ z ∈ zs) ∧ Q zs M') X.xe s
theorem WM {X : Cx} {pins : List (Addr × Obj)} {s : Shared} {σv : L2.St} {H : Hp} {a : Addr} (I : Inv X pins σv H s) (hn : s.heap.get? a = none) : a ≠ X.env.locals ∧ a ∉ X.fs := by
  refine ⟨fun e => ?_, fun hb => ?_⟩
  · obtain ⟨m, ⟨o, _, _, g, _⟩, _⟩ := I.loc
    rw [← e, hn] at g; cases g
  · obtain ⟨_, o, g, _⟩ := I.funs.mem hb
    rw [hn] at g; cases g
section
variable {X : Cx} {pos p : Pos} {e : Expr} {ta : TA3}
def MH (ta : TA3) : TZ3 := fun σ M Q => ta σ M fun ds M1 => ∃ d zs, ds = [d] ∧ GW M1 d = some (zs.map D.str) ∧ zs.length + 1 < scanBound ∧ Q zs M1
theorem LC (hcalm : X.calm = true) (hg : Gl X "set") (hm : X.mg "set" = none) (hv : bootBuiltins "set" = some (.type "set")) (ha : PA3 X [e] ta)
    (he : starEach [e] X.env = (false, eval e X.env) :: starEach [] X.env := by rfl) : PZ3 X (.Call (.Name "set" p) [e] [] pos) (MH ta) := by
  intro pins s σv H σ M Q I hS hM h
  refine wpAny_Call_Name_kw (BP I hg hm hv ?_ (by decide) (by decide))
  refine PyProof.Rows.callWith_type1 (thn (ha pos pins s σv H σ M _ I hS hM h) fun us s1 hx => ?_) he rfl
  obtain ⟨ds, vs, M1, H1, I1, st1, m1, rv1, p1, d, zs, rfl, hd, hb, q⟩ := hx
  obtain ⟨v, rfl, pv⟩ := FU p1
  obtain ⟨u, rfl, ru⟩ := vals1 rv1
  refine AX6 (I.ok.hd hcalm) I1 m1 hd pv ru hb fun s' a L I2 k hn T mem => ?_
  exact ⟨a, L, zs, M1, H1, rfl, I2, st1, m1, I1.gone hn, WM I1 hn, T, mem, q⟩
def JX (tz : TZ3) : TE3 := fun σ M Q => tz σ M fun zs M1 => (∀ ys : List Str, ys.Nodup → (∀ z ∈ ys, z ∈ zs) → ys.length < 64) ∧ ∀ ys : List Str, ys.Nodup → sortedS ys = true → (∀ z, z ∈ ys ↔ z ∈ zs) → Q (.lst (ys.map D.str)) M1
theorem XE {P : Program} {w : World} {h : Heap} {a : Addr} {L : List Str} (T : TSt.TSet P w h a L) : L.Nodup := by
  obtain ⟨_, _, _, _, _, _, _, _, _, n, _⟩ := T
  exact n
theorem HZ {tz : TZ3} {e : Expr} (hcalm : X.calm = true) (hg : Gl X "sorted") (hm : X.mg "sorted" = none) (hz : PZ3 X e tz) (he : starEach [e] X.env = (false, eval e X.env) :: starEach [] X.env := by rfl) : PE3 X (.Call (.Name "sorted" p) [e] [] pos) (JX tz) := by
  intro pins s σv H σ M Q I hS hM h
  refine wpAny_Call_Name_kw (BP I hg hm boot_sorted ?_ (by decide) (by decide))
  refine PyProof.Rows.callWith_builtin1 ?_ he rfl
  rw [he]
  show wpAny _ _ (spliced ((false, eval e X.env) :: backTo pos (starEach [] X.env))) _ _ s
  refine Calls.spliced_cons (thn (hz pins s σv H σ M _ I hS hM h) fun u s1 hx => ?_)
  obtain ⟨a, L, zs, M1, H1, rfl, I1, st1, m1, nH, _, T, mem, h64, q⟩ := hx
  refine Calls.spliced_nil ?_
  have lL := h64 L (XE T) fun z hz => (mem z).mp hz
  refine TSt.OV (I.ok.hd hcalm) T lL fun s' l n vs ys old eg eo hn gl sv pm so => ?_
  have nH' := I1.gone hn
  have ly : ys.length < 64 := by rw [pm.length_eq]; exact lL
  refine ⟨.lst (ys.map D.str), .ref l, M1, _, I1.lfar old eg eo hn gl (IR sv) (by rw [List.length_map, sizeLine_eq]; lia), st1.trans (Step.lay nH'), m1.lay nH', rfl, .lst (.inl ⟨.inl D5, m1.free nH'⟩) (AW _), q ys (pm.nodup_iff.mpr (XE T)) so fun z => ?_⟩
  rw [pm.mem_iff, mem z]
theorem Inv.pinP {pins : List (Addr × Obj)} {s : Shared} {σv : L2.St} {H : Hp} {q : Addr × Obj} (I : Inv X pins σv H s) (hq : s.heap.get? q.1 = some q.2 ∧ H q.1 = none ∧ q.1 ≠ X.env.locals ∧ q.1 ∉ X.fs ∧ ∀ v, q.2.data ≠ .cell v) : Inv X (q :: pins) σv H s :=
  ⟨I.ok, I.os, I.bare, I.base, I.loc, I.cell, I.free, I.freeC, fun y hy => by
    rcases List.mem_append.mp hy with hy | hy
    · exact I.pin y (List.mem_append_left _ hy)
    · rcases List.mem_cons.mp hy with rfl | hy
      · exact hq
      · exact I.pin y (List.mem_append_right _ hy), I.hok, I.len⟩
theorem Inv.lessP {pins : List (Addr × Obj)} {s : Shared} {σv : L2.St} {H : Hp} {q : Addr × Obj} (I : Inv X (q :: pins) σv H s) : Inv X pins σv H s :=
  ⟨I.ok, I.os, I.bare, I.base, I.loc, I.cell, I.free, I.freeC, fun y hy => by
    rcases List.mem_append.mp hy with hy | hy
    · exact I.pin y (List.mem_append_left _ hy)
    · exact I.pin y (List.mem_append_right _ (List.mem_cons_of_mem _ hy)), I.hok, I.len⟩
def WJ (ta tb : TZ3) : TZ3 := fun σ M Q => ta σ M fun zs M1 => tb σ M1 fun ws M2 => (∀ ys : List Str, ys.Nodup → (∀ z ∈ ys, z ∈ zs) → ys.length ≤ 15) ∧ Q (zs.filter fun z => !ws.contains z) M2
theorem AJ6 {ea eb : Expr} {ta tb : TZ3} (ha : PZ3 X ea ta) (hb : PZ3 X eb tb) : PZ3 X (.BinOp ea .Sub eb pos) (WJ ta tb) := by
  intro pins s σv H σ M Q I hS hM h
  refine wpAny_BinOp (thn (ha pins s σv H σ M _ I hS hM h) fun u s1 hx => ?_)
  obtain ⟨a, L, zs, M1, H1, rfl, I1, st1, m1, nH, nf, T, mem, h1⟩ := hx
  obtain ⟨o, es, ep, t, g, x, d, r⟩ := id T
  have I1' := Inv.pinP (q := (a, o)) I1 ⟨g, nH, nf.1, nf.2, fun v z => by rw [d] at z; cases z⟩
  refine thn (hb ((a, o) :: pins) s1 σv H1 σ M1 _ I1' (hS.mono st1) m1 h1) fun u2 s2 hx => ?_
  obtain ⟨b, L2, ws, M2, H2, rfl, I2, st2, m2, nH2, nf2, T2, mem2, hlen, q⟩ := hx
  have g2 := (I2.pin (a, o) (List.mem_append_right _ List.mem_cons_self)).1
  have T1 : TSt.TSet X.prog X.w s2.heap a L := T.keep fun o' e => by rw [g] at e; cases e; exact g2
  refine TSt.AA4 T1 T2 (hlen L (XE T) fun z hz => (mem z).mp hz) fun s3 c Z old eg eo hn T3 mem3 => ?_
  have I3 := Inv.lessP I2
  refine ⟨c, Z, _, M2, H2, rfl, I3.grow old eg eo, st1.trans st2, m2, I3.gone hn, WM I3 hn, T3, fun z => ?_, q⟩
  rw [mem3 z, mem z, mem2 z, List.mem_filter]
  simp
end
end L3
namespace TSt
open PySem PySem.Spec PyProof.Rows
def le (x y : Str) : Prop := x.cps.toList ≤ y.cps.toList
theorem BG7 {x y : Str} (h : ltCps y.cps.toList x.cps.toList = false) : le x y := by
  rw [ltCps_eq, decide_eq_false_iff_not] at h
  exact List.not_lt.mp h
theorem BG9 {x y z : Str} (h1 : le x y) (h2 : le y z) : le x z := List.le_trans h1 h2
theorem BB7 {x y : Str} (h1 : le x y) (h2 : le y x) : x = y := by
  have e := List.le_antisymm h1 h2
  obtain ⟨⟨a⟩⟩ := x
  obtain ⟨⟨b⟩⟩ := y
  have e : a = b := e
  rw [e]
theorem QZ : ∀ {p : Str} {l : List Str}, risingS p l = true → (∀ y ∈ l, le p y) ∧ l.Pairwise le
  | p, [], _ => ⟨fun _ h => (nomatch h), .nil⟩
  | p, x :: r, h => by
    have h : (!ltCps x.cps.toList p.cps.toList && risingS x r) = true := h
    rw [Bool.and_eq_true, Bool.not_eq_true'] at h
    have px := BG7 h.1
    obtain ⟨h1, h2⟩ := QZ h.2
    refine ⟨fun y hy => ?_, List.pairwise_cons.mpr ⟨h1, h2⟩⟩
    rcases List.mem_cons.mp hy with rfl | hy
    · exact px
    · exact BG9 px (h1 y hy)
theorem IZ {l : List Str} (h : sortedS l = true) : l.Pairwise le := by
  cases l with
  | nil => exact .nil
  | cons x r =>
    obtain ⟨h1, h2⟩ := QZ (p := x) (l := r) h
    exact List.pairwise_cons.mpr ⟨h1, h2⟩
theorem HU : ∀ {l m : List Str}, l.Pairwise le → m.Pairwise le → l.Nodup → m.Nodup → (∀ z, z ∈ l ↔ z ∈ m) → l = m
  | [], [], _, _, _, _, _ => rfl
  | [], y :: m, _, _, _, _, h => nomatch (h y).mpr List.mem_cons_self
  | x :: l, [], _, _, _, _, h => nomatch (h x).mp List.mem_cons_self
  | x :: l, y :: m, p1, p2, n1, n2, h => by
    rw [List.pairwise_cons] at p1 p2
    rw [List.nodup_cons] at n1 n2
    have e : x = y := by
      rcases List.mem_cons.mp ((h x).mp List.mem_cons_self) with e | hx
      · exact e
      · rcases List.mem_cons.mp ((h y).mpr List.mem_cons_self) with e | hy
        · exact e.symm
        · exact BB7 (p1.1 y hy) (p2.1 x hx)
    subst e
    rw [HU p1.2 p2.2 n1.2 n2.2 fun z => ?_]
    have hz := h z
    rw [List.mem_cons, List.mem_cons] at hz
    constructor
    · intro q
      rcases hz.mp (.inr q) with e | q'
      · exact absurd (e ▸ q) n1.1
      · exact q'
    · intro q
      rcases hz.mpr (.inr q) with e | q'
      · exact absurd (e ▸ q) n2.1
      · exact q'
theorem HQ {l : List Str} (c : Str → Bool) (h : sortedS l = true) : (l.filter c).Pairwise le := (IZ h).filter c
end TSt
namespace L3
open PySem
theorem QV : bootBuiltins "set" = some (.type "set") := by decide +kernel
end L3
namespace L3
open PySem PySem.Spec PyProof.Rows L2
theorem UB {y : Str} {py spos : Pos} {iy : Nat} {X : Cx} {elt tg iter : Expr} {pos : Pos} {ifs : List Expr} {scope : Scope} {tns caps : List Str} {slots : List Nat} {ti : TI3} {g : TG3} {tt : TT3} {te : TE3}
    (hc : X.calm = true) (hi : GO X tg iter ti) (hkind : scope.kind = .function) (hcell : ∀ y ∈ scope.names, y.2 ≠ .cell)
    (hnames : ∀ y ∈ scope.names, y.2 = .local → scope.names.lookup y.1 = some .local)
    (hfree : ∀ y ∈ scope.names, y.2 = .free → X.env.kindOf y.1 = some .cell ∨ X.env.kindOf y.1 = some .free)
    (hcf : ∀ y ∈ caps, scope.names.lookup y = some .free) (hcaps : slots.map (fun j => X.N[j]?) = caps.map some)
    (hgk : ∀ d M Q (cs : Lo), g d (List.replicate tns.length none ++ cs) M Q → g d (List.replicate tns.length none ++ cs) M (fun σ' M' => σ'.drop tns.length = cs ∧ Q σ' M'))
    (hg : ∀ cl s₀ H₀ ex, PG3 (C0 X scope cl s₀ H₀ ex (tns ++ caps)) tg g)
    (ht : ∀ cl s₀ H₀ ex, BH (C0 X scope cl s₀ H₀ ex (tns ++ caps)) ifs tt) (he : ∀ cl s₀ H₀ ex, PE3 (C0 X scope cl s₀ H₀ ex (tns ++ caps)) elt te)
    (hN : X.N.Nodup) (hiy : X.N[iy]? = some y) (hy : Loc X.env.scope y) (hsw : swapsWith (.ListComp elt [⟨tg, iter, ifs, 0⟩] scope pos) (some (.Name y py)) spos.line X.env = pure true) (hf : X.fn y = true ∨ X.env.scope.names.lookup y = some .local)
    (hs : ∀ y, foldedSetIterable iter X.env y = pure y := by intro _; rfl) :
    PS3 X (.Assign [.Name y py] (.ListComp elt [⟨tg, iter, ifs, 0⟩] scope pos) spos) (B7 iy (N7 ti tns.length slots g tt te)) := by
  intro pins s σv H σ M T0 I hS hM h
  rw [exec_Assign_Name_used _ _ _ _ hsw]
  refine wpAny_bind (wpAny_standAt (wpAny_bind ?_))
  rw [arm_evalThenUse_ListComp]
  refine wpAny_bind ?_
  refine AO hc hi hkind hcell hnames hfree hcf hcaps hgk hg ht he hs (use := some (assign (.Name y py) X.env)) (F := fun p acc M => T0.nx (σ.set iy (some (.ref p))) M) I hS hM h fun D C acc H5 M5 s6 m hn I7 c1 c2 c3 c4 c5 c6 st m5 hp hq => ?_
  obtain ⟨oC, es, ep, hoC, hdC, rC⟩ := hn
  have pinC : Inv X (pins ++ [(C, oC)]) σv H5 s6 := I7.pins_of fun p hp => by
    rcases List.mem_append.mp hp with z | z
    · exact I7.pin p (List.mem_append_right _ z)
    · cases List.mem_singleton.mp z
      exact ⟨hoC, c1, c2, c3, fun v z => by rw [hdC] at z; cases z⟩
  show wpAny (model X.prog X.w) X.A (assign (.Name y py) X.env (.ref D)) _ X.xe s6
  refine wpAny_assign_Name (CK pinC hN hiy hy (v := .ref D) rfl (fun s7 I8 => ?_) hf)
  have hp8 := (I8.pin (C, oC) (List.mem_append_right _ (List.mem_append_right _ List.mem_cons_self))).1
  refine ⟨m, ⟨oC, es, ep, hp8, hdC, rC⟩, fun h' sb => wpAny_pure (wpAny_pure ?_)⟩
  have I9 : Inv X pins (σv.set iy (some (.ref D))) H5 { s7 with heap := h', toks := s7.toks } := I8.unpinned.turned (it := C) (fun b o hb e => (sb.2 b hb).trans e) c1 c2 (.inr c4) c5 c6
  exact ⟨_, _, M5, H5, I9, st, m5, (hS.mono st).set .ref iy, hq⟩
theorem QD {X : Cx} {elt tg iter : Expr} {pos py spos : Pos} {y : Str} {ifs : List Expr} {scope : Scope} (iy : Nat) (tns caps : List Str) (slots : List Nat) {ti : TI3} {g : TG3} {tt : TT3} {te : TE3}
    (hc : X.calm = true) (hi : GO X tg iter ti) (hkind : scope.kind = .function) (hok : U5 X.env scope caps = true) (hcaps : slots.map (fun j => X.N[j]?) = caps.map some)
    (hgk : ∀ d M Q (cs : Lo), g d (List.replicate tns.length none ++ cs) M Q → g d (List.replicate tns.length none ++ cs) M (fun σ' M' => σ'.drop tns.length = cs ∧ Q σ' M'))
    (hg : ∀ cl s₀ H₀ ex, PG3 (C0 X scope cl s₀ H₀ ex (tns ++ caps)) tg g)
    (ht : ∀ cl s₀ H₀ ex, BH (C0 X scope cl s₀ H₀ ex (tns ++ caps)) ifs tt) (he : ∀ cl s₀ H₀ ex, PE3 (C0 X scope cl s₀ H₀ ex (tns ++ caps)) elt te)
    (hN : X.N.Nodup) (hiy : X.N[iy]? = some y) (hy : Loc X.env.scope y) (hf : X.fn y = true ∨ X.env.scope.names.lookup y = some .local)
    (hsw : swapsWith (.ListComp elt [⟨tg, iter, ifs, 0⟩] scope pos) (some (.Name y py)) spos.line X.env = pure true := by rfl)
    (hs : ∀ y, foldedSetIterable iter X.env y = pure y := by intro _; rfl) :
    PS3 X (.Assign [.Name y py] (.ListComp elt [⟨tg, iter, ifs, 0⟩] scope pos) spos) (B7 iy (N7 ti tns.length slots g tt te)) := by
  unfold U5 at hok
  rw [Bool.and_eq_true, List.all_eq_true, List.all_eq_true] at hok
  obtain ⟨h1, h2⟩ := hok
  refine UB hc hi hkind (fun y hy e => ?_) (fun y hy e => ?_) (fun y hy e => ?_) (fun y hy => ?_) hcaps hgk hg ht he hN hiy hy hsw hf hs
  · have := h1 y hy; rw [e] at this; cases this
  · have := h1 y hy
    rw [e] at this
    dsimp only at this
    split at this
    · assumption
    · cases this
  · have := h1 y hy
    rw [e] at this
    dsimp only at this
    split at this
    · exact .inl (by assumption)
    · exact .inr (by assumption)
    · cases this
  · have := h2 y hy
    split at this
    · assumption
    · cases this
theorem NE {X : Cx} {elt tg iter : Expr} {pos : Pos} {ifs : List Expr} {scope : Scope} (tns caps : List Str) (slots : List Nat) {ti : TI3} {g : TG3} {tt : TT3} {te : TE3}
    (hc : X.calm = true) (hi : GO X tg iter ti) (hkind : scope.kind = .function) (hok : U5 X.env scope caps = true) (hcaps : slots.map (fun j => X.N[j]?) = caps.map some)
    (hgk : ∀ d M Q (cs : Lo), g d (List.replicate tns.length none ++ cs) M Q → g d (List.replicate tns.length none ++ cs) M (fun σ' M' => σ'.drop tns.length = cs ∧ Q σ' M'))
    (hg : ∀ cl s₀ H₀ ex, PG3 (C0 X scope cl s₀ H₀ ex (tns ++ caps)) tg g)
    (ht : ∀ cl s₀ H₀ ex, BH (C0 X scope cl s₀ H₀ ex (tns ++ caps)) ifs tt) (he : ∀ cl s₀ H₀ ex, PE3 (C0 X scope cl s₀ H₀ ex (tns ++ caps)) elt te)
    (hs : ∀ y, foldedSetIterable iter X.env y = pure y := by intro _; rfl) :
    PE3 X (.ListComp elt [⟨tg, iter, ifs, 0⟩] scope pos) (N7 ti tns.length slots g tt te) := by
  unfold U5 at hok
  rw [Bool.and_eq_true, List.all_eq_true, List.all_eq_true] at hok
  obtain ⟨h1, h2⟩ := hok
  refine FE hc hi hkind (fun y hy e => ?_) (fun y hy e => ?_) (fun y hy e => ?_) (fun y hy => ?_) hcaps hgk hg ht he hs
  · have := h1 y hy; rw [e] at this; cases this
  · have := h1 y hy
    rw [e] at this
    dsimp only at this
    split at this
    · assumption
    · cases this
  · have := h1 y hy
    rw [e] at this
    dsimp only at this
    split at this
    · exact .inl (by assumption)
    · exact .inr (by assumption)
    · cases this
  · have := h2 y hy
    split at this
    · assumption
    · cases this
theorem BJ4 {X : Cx} {tg l : Expr} {tl : TE} (hl : PE X l tl) : PI X tg l (fun σ H R => tl σ H fun v H' => ∃ a, v = .ref a ∧ (((∃ xs, SqL X.K H' a xs) ∧ R (Itl X.K a) H') ∨ ((∃ xs, SqT X.K H' a xs) ∧ R (Itt X.K a) H'))) := by
  intro pins s σ H R I h
  refine thn (hl pins s σ H _ I h) fun v s1 hx => ?_
  obtain ⟨x, H1, I1, r1, a, rfl, q⟩ := hx
  cases r1
  rcases q with ⟨⟨xs, hq⟩, q⟩ | ⟨⟨xs, hq⟩, q⟩
  · obtain ⟨its, rv, p, hz⟩ := I1.list hq
    refine wpAny_pyIter_list p.isList ?_
    refine ⟨s1.heap.objs.size, [s1.heap.objs.size], _, _, H1, rfl, I1.kept (t' := s1.toks) fun b o e => Heap.get?_push_of_some _ e, IE a _, ⟨_, Heap.get?_push_size _ rfl, rfl, rfl⟩, fun b hb => ?_, q⟩
    have e : b = s1.heap.objs.size := by simpa using hb
    subst e
    exact I1.fpOk (Nat.le_refl _) (I1.hok.fresh (Nat.le_refl _))
  · obtain ⟨its, rv, p, hz⟩ := I1.tuple hq
    refine wpAny_pyIter_tuple (show s1.heap.IsTuple a its.toArray from p) ?_
    refine ⟨s1.heap.objs.size, [s1.heap.objs.size], _, _, H1, rfl, I1.kept (t' := s1.toks) fun b o e => Heap.get?_push_of_some _ e, FY a _, ⟨_, Heap.get?_push_size _ rfl, rfl, rfl⟩, fun b hb => ?_, q⟩
    have e : b = s1.heap.objs.size := by simpa using hb
    subst e
    exact I1.fpOk (Nat.le_refl _) (I1.hok.fresh (Nat.le_refl _))
def onQ (R : List D → Mem → Prop) : DK := fun d M1 => match d with
  | .lst ds => R ds M1
  | .tup ds => R ds M1
  | _ => False
def iQ3 (te : TE3) : TI3 := fun σ M R => te σ M (onQ R)
theorem BH0 {te : TE3} {σ : Lo} {M : Mem} {R : List D → Mem → Prop} (h : te σ M (onQ R)) : iQ3 te σ M R := h
theorem SM {ds : List D} {M : Mem} {R : List D → Mem → Prop} (h : R ds M) : onQ R (.tup ds) M := h
theorem SV {ds : List D} {M : Mem} {R : List D → Mem → Prop} (h : R ds M) : onQ R (.lst ds) M := h
theorem BG5 {X : Cx} {tg a : Expr} {te : TE3} (ha : PE3 X a te) : PI3 X tg a (iQ3 te) := by
  refine PI.weak (BJ4 ha.dn) fun σv H R2 hx0 => ?_
  obtain ⟨σ, M, R, hS, hM, h, k⟩ := hx0
  refine ⟨σ, M, _, hS, hM, h, fun d v M' H' st m r q => ?_⟩
  cases r <;> first | exact (q : False).elim | skip
  · rename_i a' ds vs h1 rs
    refine ⟨a', rfl, .inr ⟨⟨vs, SqT.of3 h1⟩, k ds _ M' H' st m (fun M2 H2 s2 => ?_) q⟩⟩
    have h2 : SqT X.K H2 a' vs := SqT.of3 (h1.imp (Fix.mono s2) id)
    have r2 := rs.mono s2
    refine ⟨fun i hi => ?_, fun i d x H3 hd hy => ?_, fun i hi => ?_⟩
    · obtain ⟨v, hv, _⟩ := r2.get (i := i) (d := ds[i]) (by simp [hi])
      exact ⟨vs, v, h2, hv⟩
    · obtain ⟨rfl, hy⟩ := hy
      obtain ⟨v, hv, rv⟩ := r2.get hd
      rw [hy vs h2] at hv
      cases hv
      exact ⟨rfl, rv⟩
    · exact ⟨vs, h2, by rw [← r2.length]; exact hi⟩
  · rename_i a' ds vs h1 rs
    refine ⟨a', rfl, .inl ⟨⟨vs, SqL.of3 h1⟩, k ds _ M' H' st m (fun M2 H2 s2 => ?_) q⟩⟩
    have h2 : SqL X.K H2 a' vs := SqL.of3 (h1.imp (Fix.mono s2) id)
    have r2 := rs.mono s2
    refine ⟨fun i hi => ?_, fun i d x H3 hd hy => ?_, fun i hi => ?_⟩
    · obtain ⟨v, hv, _⟩ := r2.get (i := i) (d := ds[i]) (by simp [hi])
      exact ⟨vs, v, h2, hv⟩
    · obtain ⟨rfl, hy⟩ := hy
      obtain ⟨v, hv, rv⟩ := r2.get hd
      rw [hy vs h2] at hv
      cases hv
      exact ⟨rfl, rv⟩
    · exact ⟨vs, h2, by rw [← r2.length]; exact hi⟩
end L3
namespace L3
open PySem L2
theorem AS6 {te : TE3} {tl th : TO3} {σ : Lo} {M : Mem} {Q : DK} (h : te σ M fun x M1 => tl σ M1 fun l M2 => th σ M2 fun u M3 => AB2 x l u M3 Q) : SS te tl th σ M Q := h
theorem RM {ds : List D} {l u : Option Int} {M : Mem} {Q : DK} (h : Q (.tup (cutD ds l u)) M) : AB2 (.tup ds) l u M Q := h
theorem AJ2 {te : TE3} {σ : Lo} {M : Mem} {Q : DK} (h : te σ M fun d M1 => ∃ p xs, d = .ref p ∧ M1 p = some (.lst xs) ∧ Q (.lst xs) (J0 M1 p)) : CW te σ M Q := h
theorem AC8 {tz : TZ3} {σ : Lo} {M : Mem} {Q : DK} (h : tz σ M fun zs M1 => (∀ ys : List Str, ys.Nodup → (∀ z ∈ ys, z ∈ zs) → ys.length < 64) ∧ ∀ ys : List Str, ys.Nodup → PyProof.Rows.sortedS ys = true → (∀ z, z ∈ ys ↔ z ∈ zs) → Q (.lst (ys.map D.str)) M1) : JX tz σ M Q := h
theorem AL9 {ta tb : TZ3} {σ : Lo} {M : Mem} {Q : List Str → Mem → Prop} (h : ta σ M fun zs M1 => tb σ M1 fun ws M2 => (∀ ys : List Str, ys.Nodup → (∀ z ∈ ys, z ∈ zs) → ys.length ≤ 15) ∧ Q (zs.filter fun z => !ws.contains z) M2) : WJ ta tb σ M Q := h
theorem AH9 {ta : TA3} {σ : Lo} {M : Mem} {Q : List Str → Mem → Prop} (h : ta σ M fun ds M1 => ∃ d zs, ds = [d] ∧ GW M1 d = some (zs.map D.str) ∧ zs.length + 1 < scanBound ∧ Q zs M1) : MH ta σ M Q := h
def XN (g : TG3) (tt : TT3) (te : TE3) (σ0 : Lo) (ds : List D) (M1 : Mem) (Q : DK) : Prop := ∀ p, M1 p = none → ∃ Pv : Nat → List D → Mem → Prop, Pv 0 [] (D4 M1 p (.lst [])) ∧
  (∀ k d acc M, ds[k]? = some d → Pv k acc M → g d σ0 M fun σ' M0 => tt σ' M0 fun b M' =>
    if b = true then te σ' M' fun e M'' => M'' p = some (.lst acc) ∧ acc.length < sizeLine ∧ Pv (k + 1) (acc ++ [e]) (D4 M'' p (.lst (acc ++ [e]))) else Pv (k + 1) acc M') ∧
  ∀ acc M, Pv ds.length acc M → M p = some (.lst acc) ∧ Q (.ref p) M
theorem YW {ti : TI3} {n : Nat} {slots : List Nat} {g : TG3} {tt : TT3} {te : TE3} {σ : Lo} {M : Mem} {Q : DK} (h : ti σ M fun ds M1 => XN g tt te (List.replicate n none ++ slots.map fun j => (σ[j]?).getD none) ds M1 Q) : N7 ti n slots g tt te σ M Q := h
theorem W0 {α : Type} {gt : TG3} {tt : TT3} {te : TE3} {σ0 : Lo} {M1 : Mem} {Q : DK} (l : List α) (f g : α → D) (c : α → Bool) (hl : l.length < sizeLine)
    (turn : ∀ a ∈ l, ∀ M2 (R : D → Mem → Prop) (F : Mem → Prop), (∀ x, M1 x ≠ none → M2 x = M1 x) → (c a = true → R (g a) M2) → (c a = false → F M2) → gt (f a) σ0 M2 fun σ' M3 => tt σ' M3 fun bb M4 => if bb = true then te σ' M4 R else F M4)
    (done : ∀ p M', M1 p = none → M' p = some (.lst ((l.filter c).map g)) → (∀ x, x ≠ p → M' x = M1 x) → Q (.ref p) M') : XN gt tt te σ0 (l.map f) M1 Q := by
  intro p hp
  refine ⟨fun k acc M2 => acc = ((l.take k).filter c).map g ∧ M2 p = some (.lst acc) ∧ ∀ a, a ≠ p → M2 a = M1 a, ⟨rfl, A5, fun a ha => B2 ha⟩, ?_, ?_⟩
  · rintro k d acc M2 hd ⟨rfl, hacc, hsame⟩
    have hk : k < l.length := by simpa using (List.getElem?_eq_some_iff.mp hd).1
    have hdk : d = f l[k] := by
      rw [List.getElem?_map, List.getElem?_eq_getElem hk] at hd
      exact (Option.some.inj hd).symm
    subst hdk
    have hlen : (((l.take k).filter c).map g).length ≤ k := by
      rw [List.length_map]
      exact Nat.le_trans (List.length_filter_le _ _) (by simp; lia)
    have e1 : l.take (k + 1) = l.take k ++ [l[k]] := by rw [List.take_succ, List.getElem?_eq_getElem hk]; rfl
    refine turn l[k] (List.getElem_mem hk) M2 _ _ (fun a ha => hsame a (by rintro rfl; exact ha hp)) (fun hc => ⟨hacc, by lia, ?_, A5, fun a ha => by rw [B2 ha]; exact hsame a ha⟩) (fun hc => ⟨?_, hacc, hsame⟩)
    · rw [e1, List.filter_append, List.filter_cons_of_pos hc, List.map_append]; rfl
    · rw [e1, List.filter_append, List.filter_cons_of_neg (by rw [hc]; simp), List.map_append]; simp
  · rintro acc M2 ⟨rfl, hacc, hsame⟩
    rw [List.length_map, List.take_length] at hacc
    refine ⟨?_, done p M2 hp hacc hsame⟩
    rw [List.length_map, List.take_length]; exact hacc
theorem PM {α : Type} {gt : TG3} {tt : TT3} {te : TE3} {σ0 : Lo} {M1 : Mem} {Q : DK} (l : List α) (f g : α → D) (c : α → Bool) (hl : l.length < sizeLine)
    (turn : ∀ a ∈ l, ∀ M2 (R : D → Mem → Prop) (F : Mem → Prop), (∀ x, M1 x ≠ none → M2 x = M1 x) → (c a = true → R (g a) M2) → (c a = false → F M2) → gt (f a) σ0 M2 fun σ' M3 => tt σ' M3 fun bb M4 => if bb = true then te σ' M4 R else F M4)
    (done : Q (.lst ((l.filter c).map g)) M1) : IL gt tt te σ0 (l.map f) M1 Q := by
  intro p hp
  refine ⟨fun k acc M2 => acc = ((l.take k).filter c).map g ∧ M2 p = some (.lst acc) ∧ ∀ a, a ≠ p → M2 a = M1 a, ⟨rfl, A5, fun a ha => B2 ha⟩, ?_, ?_⟩
  · rintro k d acc M2 hd ⟨rfl, hacc, hsame⟩
    have hk : k < l.length := by simpa using (List.getElem?_eq_some_iff.mp hd).1
    have hdk : d = f l[k] := by
      rw [List.getElem?_map, List.getElem?_eq_getElem hk] at hd
      exact (Option.some.inj hd).symm
    subst hdk
    have hlen : (((l.take k).filter c).map g).length ≤ k := by
      rw [List.length_map]
      exact Nat.le_trans (List.length_filter_le _ _) (by simp; lia)
    have e1 : l.take (k + 1) = l.take k ++ [l[k]] := by rw [List.take_succ, List.getElem?_eq_getElem hk]; rfl
    refine turn l[k] (List.getElem_mem hk) M2 _ _ (fun a ha => hsame a (by rintro rfl; exact ha hp)) (fun hc => ⟨hacc, by lia, ?_, A5, fun a ha => by rw [B2 ha]; exact hsame a ha⟩) (fun hc => ⟨?_, hacc, hsame⟩)
    · rw [e1, List.filter_append, List.filter_cons_of_pos hc, List.map_append]; rfl
    · rw [e1, List.filter_append, List.filter_cons_of_neg (by rw [hc]; simp), List.map_append]; simp
  · rintro acc M2 ⟨rfl, hacc, hsame⟩
    have hlen : (l.map f).length = l.length := by simp
    rw [hlen, List.take_length] at hacc ⊢
    have : J0 M2 p = M1 := funext fun a => by
      by_cases ha : a = p
      · subst ha; rw [K1, hp]
      · rw [K3 ha]; exact hsame a ha
    rw [this]
    exact ⟨hacc, done⟩
theorem J9 {α : Type} (l : List α) (f : α → D) {tb : TS3} {i : Nat} {T : R5} {σ : Lo} {M : Mem} {fnd : Addr} {ini : List D} (S : Lo → Prop) (P : Nat → List D → Prop) (hS : S σ) (hf : M fnd = some (.lst ini)) (h0 : P 0 ini)
    (turn : ∀ k a acc σ' M' (N : Lo → Mem → Prop), l[k]? = some a → S σ' → P k acc → M' fnd = some (.lst acc) → (∀ x, x ≠ fnd → M x ≠ none → M' x = M x) →
      (∀ σ'' acc' M'', S σ'' → P (k + 1) acc' → M'' fnd = some (.lst acc') → (∀ x, x ≠ fnd → M' x ≠ none → M'' x = M' x) → N σ'' M'') →
      tb { T with nx := N, ct := N, bk := T.nx } (σ'.set i (some (f a))) M')
    (done : ∀ σ' acc M', S σ' → P l.length acc → M' fnd = some (.lst acc) → (∀ x, x ≠ fnd → M x ≠ none → M' x = M x) → T.nx σ' M') :
    ∃ Pv : Nat → Lo → Mem → Prop, Pv 0 σ M ∧ (∀ k d σ M, (l.map f)[k]? = some d → Pv k σ M → tb { T with nx := Pv (k + 1), ct := Pv (k + 1), bk := T.nx } (σ.set i (some d)) M) ∧ ∀ σ M, Pv (l.map f).length σ M → T.nx σ M := by
  refine ⟨fun k σ' M' => S σ' ∧ ∃ acc, P k acc ∧ M' fnd = some (.lst acc) ∧ ∀ x, x ≠ fnd → M x ≠ none → M' x = M x, ⟨hS, ini, h0, hf, fun _ _ _ => rfl⟩, ?_, ?_⟩
  · rintro k d σ' M' hd ⟨s', acc, hp, hm, hs⟩
    rw [List.getElem?_map] at hd
    cases e : l[k]? with
    | none => rw [e] at hd; cases hd
    | some a =>
      rw [e] at hd
      cases hd
      refine turn k a acc σ' M' _ e s' hp hm hs fun σ'' acc' M'' s'' p'' m'' h'' => ⟨s'', acc', p'', m'', fun x hx hn => ?_⟩
      rw [h'' x hx (by rw [hs x hx hn]; exact hn), hs x hx hn]
  · rintro σ' M' ⟨s', acc, hp, hm, hs⟩
    rw [List.length_map] at hp
    exact done σ' acc M' s' hp hm hs
def nw (M : Mem) (l : List D) (Q : DK) : Prop := ∀ a M', M a = none → M' a = some (.lst l) → (∀ x, x ≠ a → M' x = M x) → Q (.ref a) M'
theorem W6 {M : Mem} {fnd : Addr} {acc es : List D} {N : Mem → Prop} (hf : M fnd = some (.lst acc)) (hl : acc.length + es.length ≤ sizeLine) (q : ∀ M', M' fnd = some (.lst (acc ++ es)) → (∀ x, x ≠ fnd → M x ≠ none → M' x = M x) → N M') :
    nw M es (fun d M1 => V6 (.ref fnd) [d] M1 fun _ M2 => N M2) := by
  intro a M' ha hM hs
  have hfa : fnd ≠ a := by rintro rfl; rw [ha] at hf; cases hf
  refine ⟨fnd, a, acc, es, rfl, rfl, by rw [hs fnd hfa]; exact hf, hM, hl, q _ A5 fun x hx hn => ?_⟩
  rw [B2 hx]
  exact hs x (by rintro rfl; exact hn ha)
theorem JK {M : Mem} {es : List D} {Q : DK} (q : ∀ M', (∀ x, M x ≠ none → M' x = M x) → (∀ x, M x = none → M' x = none) → Q (.lst es) M') : nw M es (fun d M1 => ∃ p xs, d = .ref p ∧ M1 p = some (.lst xs) ∧ Q (.lst xs) (J0 M1 p)) := by
  intro a M' ha hM hs
  refine ⟨a, es, rfl, hM, q _ (fun x hn => ?_) fun x hn => ?_⟩
  · have hx : x ≠ a := by rintro rfl; exact hn ha
    rw [K3 hx]; exact hs x hx
  · by_cases hx : x = a
    · subst hx; exact K1
    · rw [K3 hx, hs x hx]; exact hn
theorem R1 {M M1 : Mem} {f : Addr} {l : List D} {Q : DK} (q : nw M l Q) (hf0 : M f = none) (hf : M1 f = some (.lst l)) (hs : ∀ x, x ≠ f → M x ≠ none → M1 x = M x) : View Q (.ref f) M1 := by
  refine View.sub (M' := fun a => if a = f then M1 f else M a) (fun a o e => ?_) (q f _ hf0 (by show (if f = f then M1 f else M f) = _; rw [if_pos rfl]; exact hf) fun x hx => by show (if x = f then M1 f else M x) = _; rw [if_neg hx])
  by_cases ha : a = f
  · subst ha; have e : (if a = a then M1 a else M a) = some o := e; rw [if_pos rfl] at e; exact e
  · have e : (if a = f then M1 f else M a) = some o := e
    rw [if_neg ha] at e; rw [hs a ha (by rw [e]; simp)]; exact e
theorem AF1 {M : Mem} {l : List D} {Q : DK} (q : nw M l Q) : nw M l (View Q) := fun a M' h1 h2 h3 => View.of (q a M' h1 h2 h3)
theorem View.keep {Q : DK} {d : D} {M M1 : Mem} (h : ∀ x, M x ≠ none → M1 x = M x) (q : Q d M) : View Q d M1 := View.sub (fun a o e => by rw [h a (by rw [e]; simp)]; exact e) q
end L3
namespace K10
open PySem L2 L3 PK
open PyProof.Rows (sortedS)
def tblS : List (Str × List Str) := [("let", ["name", "expression"]), ("note", ["expression"]), ("give", ["name", "expression"]), ("on", ["name", "expression"]), ("ask", ["name", "name", "expression", "expression"]), ("cast", ["name", "name", "expression", "word", "expression"]), ("close", ["expression"]), ("end", ["expression"]), ("fault", ["word", "expression"]), ("leave", []), ("if", ["expression", "block", "rest"]), ("while", ["expression", "block"]), ("try", ["block", "catches", "rest"])]
mutual
def dsB : Blk → List Deed
  | .nil => []
  | .cons d r => dsD d ++ dsB r
def dsD : Deed → List Deed
  | .mk h bs => .mk h bs :: EQ bs
def EQ : Bls → List Deed
  | .nil => []
  | .cons b r => dsB b ++ EQ r
end
mutual
def trE : Ex → List Ex
  | .none => [.none]
  | .num n => [.num n]
  | .var x => [.var x]
  | .op s a b => .op s a b :: (trE a ++ trE b)
  | .make r as => .make r as :: EN as
def EN : Exs → List Ex
  | .nil => []
  | .cons a r => trE a ++ EN r
end
mutual
def vrE : Ex → List Str
  | .none => []
  | .num _ => []
  | .var x => [x]
  | .op _ a b => vrE a ++ vrE b
  | .make _ as => CF as
def CF : Exs → List Str
  | .nil => []
  | .cons a r => vrE a ++ CF r
end
def exL : Exs → List Ex
  | .nil => []
  | .cons a r => a :: exL r
def brE : Ex → List Ex
  | .op _ a b => [a, b]
  | .make _ as => exL as
  | _ => []
def Ev (y : Str) : Deed → Prop
  | .mk (.leaf _ r) _ => ∃ e, eD e ∈ r ∧ y ∈ vrE e
  | .mk (.ife d) _ => ∃ e, d = eD e ∧ y ∈ vrE e
  | .mk (.whl d) _ => ∃ e, d = eD e ∧ y ∈ vrE e
  | .mk (.tr _) _ => False
def Tg (x : Str) : Deed → Prop
  | .mk (.leaf h r) _ => ((h = "let" ∨ h = "give" ∨ h = "on" ∨ h = "ask" ∨ h = "cast") ∧ r[0]? = some (.str x)) ∨ ((h = "ask" ∨ h = "cast") ∧ r[1]? = some (.str x))
  | .mk (.tr cs) _ => ∃ w, (w, x) ∈ cs
  | _ => False
def Nm (x : Str) (b : Blk) : Prop := ∃ d ∈ dsB b, Ev x d ∨ Tg x d
def pick (kind : Str) (sh : List Str) (r : List D) : List D := ((sh.zip r).filter fun p => p.1 == kind).map Prod.snd
def R7 : Sp3 := fun ds M Q => ∃ h r kind sh, ds = [.tup (.str h :: r), .str kind] ∧ tblS.lookup h = some sh ∧ sh.length ≤ 10 ∧ nw M (pick kind sh r) Q
def I0 (n : Nat) : Sp3 := fun ds M Q => ∃ _ : Pool, ∃ b, ds = [.tup (dB b)] ∧ okB b ∧ dpB b + 1 ≤ n ∧ C6 b ≤ 100 ∧ nw M ((dsB b).map dD) Q
def AV : Sp3 := fun ds M Q => ∃ _ : Pool, ∃ d, ds = [dD d] ∧ okD d ∧ ∀ ns : List Str, (∀ x, x ∈ ns ↔ Tg x d) → ns.length ≤ 3 → nw M (ns.map D.str) Q
def L9 : Sp3 := fun ds M Q => ∃ e, ds = [eD e] ∧ Q (.lst ((brE e).map eD)) M
def O5 (n : Nat) : Sp3 := fun ds M Q => ∃ e, ds = [eD e] ∧ dp e ≤ n ∧ nd e ≤ 9 ∧ nw M ((trE e).map eD) Q
def S6 : Sp3 := fun ds M Q => ∃ _ : Pool, ∃ r, ds = [rD r] ∧ okB r.blk ∧ dpB r.blk ≤ 4 ∧ C6 r.blk ≤ 30 ∧ ∀ ts : List Ex, (∀ y, Ex.var y ∈ ts ↔ ∃ d ∈ dsB r.blk, Ev y d) → ts.length ≤ 540 → nw M (ts.map eD) Q
def N0 : Sp3 := fun ds M Q => ∃ _ : Pool, ∃ r, ds = [rD r] ∧ okB r.blk ∧ dpB r.blk ≤ 4 ∧ C6 r.blk ≤ 30 ∧ Pool.ps.length ≤ 15 ∧ r.pars.length ≤ 3 ∧ ∀ ys : List Str, ys.Nodup → sortedS ys = true → (∀ z, z ∈ ys ↔ Nm z r.blk ∧ z ∉ r.pars) → Q (.tup ((r.pars ++ ys).map D.str)) M
def G0 (n : Nat) : Sp3 := fun ds M Q => ∃ e, ds = [eD e] ∧ dp e ≤ n ∧ nd e ≤ 9 ∧ nw M ((vrE e).map D.str) Q
def FN : Sp3 := fun ds M Q => ∃ _ : Pool, ∃ d, ds = [dD d] ∧ okD d ∧ ∀ ns : List Str, (∀ x, x ∈ ns ↔ Ev x d ∨ Tg x d) → ns.length ≤ 20 → nw M (ns.map D.str) Q
def AG (n : Nat) : Sp3 := fun ds M Q => ∃ _ : Pool, ∃ b, ds = [.tup (dB b)] ∧ okB b ∧ dpB b + 1 ≤ n ∧ C6 b ≤ 100 ∧ ∀ ns : List Str, (∀ x, x ∈ ns ↔ Nm x b) → ns.length ≤ 20 * C6 b → nw M (ns.map D.str) Q
mutual
theorem LD (y : Str) : ∀ e : Ex, Ex.var y ∈ trE e ↔ y ∈ vrE e
  | .none => by simp [trE, vrE]
  | .num n => by simp [trE, vrE]
  | .var x => by simp [trE, vrE]
  | .op s a b => by simp [trE, vrE, LD y a, LD y b]
  | .make r as => by simp [trE, vrE, SO y as]
theorem SO (y : Str) : ∀ e : Exs, Ex.var y ∈ EN e ↔ y ∈ CF e
  | .nil => by simp [EN, CF]
  | .cons a r => by simp [EN, CF, LD y a, SO y r]
end
mutual
theorem AS : ∀ e : Ex, (trE e).length = nd e
  | .none => by simp [trE, nd]
  | .num n => by simp [trE, nd]
  | .var x => by simp [trE, nd]
  | .op s a b => by simp [trE, nd, AS a, AS b]; lia
  | .make r as => by simp [trE, nd, MP as]; lia
theorem MP : ∀ e : Exs, (EN e).length = nds e
  | .nil => by simp [EN, nds]
  | .cons a r => by simp [EN, nds, AS a, MP r]
end
mutual
theorem F0 : ∀ e : Ex, (vrE e).length ≤ nd e
  | .none => by simp [vrE]
  | .num n => by simp [vrE]
  | .var x => by simp [vrE, nd]
  | .op s a b => by have := F0 a; have := F0 b; simp only [vrE, nd, List.length_append]; lia
  | .make r as => by have := OQ as; simp only [vrE, nd]; lia
theorem OQ : ∀ e : Exs, (CF e).length ≤ nds e
  | .nil => by simp [CF]
  | .cons a r => by have := F0 a; have := OQ r; simp only [CF, nds, List.length_append]; lia
end
mutual
theorem RG [Pool] (y : Str) : ∀ e : Ex, wf e → y ∈ vrE e → pn y
  | .none, _, h => by simp [vrE] at h
  | .num n, _, h => by simp [vrE] at h
  | .var x, w, h => by simp [vrE] at h; rw [h]; exact w
  | .op s a b, w, h => by
    simp only [vrE, List.mem_append] at h
    exact h.elim (RG y a w.2.1) (RG y b w.2.2)
  | .make r as, w, h => YK y as w.2.2 (by simpa [vrE] using h)
theorem YK [Pool] (y : Str) : ∀ e : Exs, wfs e → y ∈ CF e → pn y
  | .nil, _, h => by simp [CF] at h
  | .cons a r, w, h => by
    simp only [CF, List.mem_append] at h
    exact h.elim (RG y a w.1) (YK y r w.2)
end
mutual
theorem W3 : ∀ b : Blk, (dsB b).length = C6 b
  | .nil => by simp [dsB, C6]
  | .cons d r => by simp only [dsB, C6, List.length_append, AJ9 d, W3 r]
theorem AJ9 : ∀ d : Deed, (dsD d).length = G8 d
  | .mk h bs => by simp only [dsD, G8, List.length_cons, OB bs]; lia
theorem OB : ∀ b : Bls, (EQ b).length = G3 b
  | .nil => by simp [EQ, G3]
  | .cons b r => by simp only [EQ, G3, List.length_append, W3 b, OB r]
end
mutual
theorem AA [Pool] : ∀ (b : Blk), okB b → ∀ d ∈ dsB b, okD d
  | .nil, _, d, h => by simp [dsB] at h
  | .cons x r, k, d, h => by
    simp only [dsB, List.mem_append] at h
    exact h.elim (AY7 x k.1 d) (AA r k.2 d)
theorem AY7 [Pool] : ∀ (x : Deed), okD x → ∀ d ∈ dsD x, okD d
  | .mk h bs, k, d, m => by
    simp only [dsD, List.mem_cons] at m
    rcases m with rfl | m
    · exact k
    · exact TM bs k.2 d m
theorem TM [Pool] : ∀ (b : Bls), VI b → ∀ d ∈ EQ b, okD d
  | .nil, _, d, h => by simp [EQ] at h
  | .cons x r, k, d, h => by
    simp only [EQ, List.mem_append] at h
    exact h.elim (AA x k.1 d) (TM r k.2 d)
end
mutual
theorem LX : ∀ (a b : Ex), eD a = eD b → a = b
  | .none, .none, _ => rfl
  | .num m, .num n, h => by
    simp only [eD, D.tup.injEq, List.cons.injEq, D.int.injEq, and_true, true_and] at h
    rw [h]
  | .var m, .var n, h => by
    simp only [eD, D.tup.injEq, List.cons.injEq, D.str.injEq, and_true, true_and] at h
    rw [h]
  | .op s a b, .op t c d, h => by
    simp only [eD, D.tup.injEq, List.cons.injEq, D.str.injEq, and_true, true_and] at h
    rw [h.1, LX a c h.2.1, LX b d h.2.2]
  | .make r as, .make t bs, h => by
    simp only [eD, D.tup.injEq, List.cons.injEq, D.str.injEq, and_true, true_and] at h
    rw [h.1, TQ as bs h.2]
  | .none, .num _, h => by simp [eD] at h
  | .none, .var _, h => by simp [eD] at h
  | .none, .op _ _ _, h => by simp [eD] at h
  | .none, .make _ _, h => by simp [eD] at h
  | .num _, .none, h => by simp [eD] at h
  | .num _, .var _, h => by simp [eD] at h
  | .num _, .op _ _ _, h => by simp [eD] at h
  | .num _, .make _ _, h => by simp [eD] at h
  | .var _, .none, h => by simp [eD] at h
  | .var _, .num _, h => by simp [eD] at h
  | .var _, .op _ _ _, h => by simp [eD] at h
  | .var _, .make _ _, h => by simp [eD] at h
  | .op _ _ _, .none, h => by simp [eD] at h
  | .op _ _ _, .num _, h => by simp [eD] at h
  | .op _ _ _, .var _, h => by simp [eD] at h
  | .op _ _ _, .make _ _, h => by simp [eD] at h
  | .make _ _, .none, h => by simp [eD] at h
  | .make _ _, .num _, h => by simp [eD] at h
  | .make _ _, .var _, h => by simp [eD] at h
  | .make _ _, .op _ _ _, h => by simp [eD] at h
theorem TQ : ∀ (a b : Exs), eDs a = eDs b → a = b
  | .nil, .nil, _ => rfl
  | .cons a r, .cons b q, h => by
    simp only [eDs, List.cons.injEq] at h
    rw [LX a b h.1, TQ r q h.2]
  | .nil, .cons _ _, h => by simp [eDs] at h
  | .cons _ _, .nil, h => by simp [eDs] at h
end
theorem G6 (e : Ex) (x : Str) : eD e ≠ .str x := by cases e <;> simp [eD]
theorem JD : ∀ as : Exs, eDs as = (exL as).map eD
  | .nil => by simp [eDs, exL]
  | .cons a r => by simp [eDs, exL, JD r]
end K10
namespace K10
open PySem L2 L3
abbrev X8 : List Str := ["deed", "kind"]
def T5 : TS3 :=
    (B8 (N7 (YB (A0 (AX8 tblS (A4 C9 (A1 0) (tC3 (.int 0)))) (A0 (SS (A1 0) (DJ (tC3 (.int 1))) W7) A2))) 2 [1] (BA [0, 1]) (B6 (A4 G7 (A1 0) (A1 2))) (A1 1)))
theorem MU (d0 d1 : D) : B5 X8 [d0, d1] = [some d0, some d1] := rfl
abbrev V0 : List Str := ["deed"]
def Q4 : TS3 :=
    (A6 (D0 (B6 (A4 G7 (A4 C9 (A1 0) (tC3 (.int 0))) (tC3 (.str "if")))) (B8 (F6 (A0 (A4 C9 (A1 0) (tC3 (.int 2))) (A0 (A4 C9 (A1 0) (tC3 (.int 3))) A2)))) C2)
    (A6 (D0 (B6 (A4 G7 (A4 C9 (A1 0) (tC3 (.int 0))) (tC3 (.str "while")))) (B8 (F6 (A0 (A4 C9 (A1 0) (tC3 (.int 2))) A2))) C2)
    (A6 (D0 (B6 (A4 G7 (A4 C9 (A1 0) (tC3 (.int 0))) (tC3 (.str "try")))) (B8 (A4 C7 (A4 C7 (F6 (A0 (A4 C9 (A1 0) (tC3 (.int 1))) A2)) (K5 (BB (A4 C9 (A1 0) (tC3 (.int 2)))) 3 [] (BA [0, 1, 2]) U7 (A1 2))) (F6 (A0 (A4 C9 (A1 0) (tC3 (.int 3))) A2)))) C2)
    (B8 (F6 A2)))))
theorem LQ (d0 : D) : B5 V0 [d0] = [some d0] := rfl
abbrev X7 : List Str := ["block", "found", "deed", "inner"]
def T8 (q_deeds_of : Sp3) : TS3 :=
    (A6 (B7 1 (N6 A2))
    (A6 (Q8 (BB (A1 0)) 2 (A6 (F1 (R0 "list" J1 (A1 1) (A0 (A1 2) A2)))
    (Q8 (N5 (A7 PK.F4 (A0 (A1 2) A2))) 3 (F1 (R0 "list" V6 (A1 1) (A0 (A7 q_deeds_of (A0 (A1 3) A2)) A2))))))
    (B8 (A1 1))))
theorem OC (d0 : D) : B5 X7 [d0] = [some d0, none, none, none] := rfl
abbrev P4 : List Str := ["deed"]
def L4 : TS3 :=
    (A6 (D0 (B6 (A4 G7 (A4 C9 (A1 0) (tC3 (.int 0))) (tC3 (.str "try")))) (B8 (N7 (BB (A4 C9 (A1 0) (tC3 (.int 2)))) 3 [] (BA [0, 1, 2]) U7 (A1 1))) C2)
    (B8 (A7 R7 (A0 (A1 0) (A0 (tC3 (.str "name")) A2)))))
theorem FJ (d0 : D) : B5 P4 [d0] = [some d0] := rfl
abbrev P7 : List Str := ["expression"]
def L1 : TS3 :=
    (A6 (D0 (B6 (A4 G7 (A4 C9 (A1 0) (tC3 (.int 0))) (tC3 (.str "op")))) (B8 (F6 (A0 (A4 C9 (A1 0) (tC3 (.int 2))) (A0 (A4 C9 (A1 0) (tC3 (.int 3))) A2)))) C2)
    (A6 (D0 (B6 (A4 G7 (A4 C9 (A1 0) (tC3 (.int 0))) (tC3 (.str "make")))) (B8 (E2 DA (A0 (A4 C9 (A1 0) (tC3 (.int 2))) A2))) C2)
    (B8 (F6 A2))))
theorem GD (d0 : D) : B5 P7 [d0] = [some d0] := rfl
abbrev Y9 : List Str := ["expression", "found", "branch"]
def U2 (q_trees_of : Sp3) : TS3 :=
    (A6 (B7 1 (N6 (A0 (A1 0) A2)))
    (A6 (Q8 (N5 (A7 L9 (A0 (A1 0) A2))) 2 (F1 (R0 "list" V6 (A1 1) (A0 (A7 q_trees_of (A0 (A1 2) A2)) A2))))
    (B8 (A1 1))))
theorem NN (d0 : D) : B5 Y9 [d0] = [some d0, none, none] := rfl
abbrev Y7 : List Str := ["rule", "found", "deed", "expression"]
def U4 : TS3 :=
    (A6 (B7 1 (N6 A2))
    (A6 (Q8 (N5 (CW (A7 (I0 8) (A0 (A4 C9 (A1 0) (tC3 (.int 2))) A2)))) 2 (Q8 (N5 (CW (A7 R7 (A0 (A1 2) (A0 (tC3 (.str "expression")) A2))))) 3 (F1 (R0 "list" V6 (A1 1) (A0 (A7 (O5 5) (A0 (A1 3) A2)) A2)))))
    (B8 (A1 1))))
theorem NV (d0 : D) : B5 Y7 [d0] = [some d0, none, none, none] := rfl
abbrev V5 : List Str := ["rule", "names", "deed"]
def Q5 : TS3 :=
    (A6 (B7 1 (N7 (N5 (CW (A7 S6 (A0 (A1 0) A2)))) 1 [] (P1 0) (B6 (A4 G7 (A4 C9 (A1 0) (tC3 (.int 0))) (tC3 (.str "var")))) (A4 C9 (A1 0) (tC3 (.int 1)))))
    (A6 (Q8 (N5 (CW (A7 (I0 8) (A0 (A4 C9 (A1 0) (tC3 (.int 2))) A2)))) 2 (F1 (R0 "list" V6 (A1 1) (A0 (A7 AV (A0 (A1 2) A2)) A2))))
    (B8 (A4 C7 (A4 C9 (A1 0) (tC3 (.int 1))) (E2 J4 (A0 (JX (WJ (MH (A0 (A1 1) A2)) (MH (A0 (A4 C9 (A1 0) (tC3 (.int 1))) A2)))) A2))))))
theorem KW (d0 : D) : B5 V5 [d0] = [some d0, none, none] := rfl
abbrev V8 : List Str := ["_law_expression_here", "_law_found", "_law_parts", "_law_part"]
def Q9 (q__law_vars : Sp3) : TS3 :=
    (A6 (D0 (B6 (A4 G7 (A4 C9 (A1 0) (tC3 (.int 0))) (tC3 (.str "var")))) (B8 (N6 (A0 (A4 C9 (A1 0) (tC3 (.int 1))) A2))) C2)
    (A6 (B7 1 (N6 A2))
    (A6 (B7 2 (F6 A2))
    (A6 (D0 (B6 (A4 G7 (A4 C9 (A1 0) (tC3 (.int 0))) (tC3 (.str "op")))) (B7 2 (SS (A1 0) (DJ (tC3 (.int 2))) W7)) C2)
    (A6 (D0 (B6 (A4 G7 (A4 C9 (A1 0) (tC3 (.int 0))) (tC3 (.str "make")))) (B7 2 (A4 C9 (A1 0) (tC3 (.int 2)))) C2)
    (A6 (Q8 (iQ3 (A1 2)) 3 (F1 (R0 "list" V6 (A1 1) (A0 (A7 q__law_vars (A0 (A1 3) A2)) A2))))
    (B8 (A1 1))))))))
theorem JO (d0 : D) : B5 V8 [d0] = [some d0, none, none, none] := rfl
abbrev B9 : List Str := ["_law_deed_here", "_law_word_here", "_law_found"]
def B4 : TS3 :=
    (A6 (B7 1 (A4 C9 (A1 0) (tC3 (.int 0))))
    (A6 (B7 2 (N6 A2))
    (A6 (D0 (B6 (A4 (ER false) (A1 1) (D8 (A0 (tC3 (.str "let")) (A0 (tC3 (.str "give")) (A0 (tC3 (.str "on")) (A0 (tC3 (.str "ask")) (A0 (tC3 (.str "cast")) A2)))))))) (F1 (R0 "list" J1 (A1 2) (A0 (A4 C9 (A1 0) (tC3 (.int 1))) A2))) C2)
    (A6 (D0 (B6 (A4 (ER false) (A1 1) (D8 (A0 (tC3 (.str "ask")) (A0 (tC3 (.str "cast")) A2))))) (F1 (R0 "list" J1 (A1 2) (A0 (A4 C9 (A1 0) (tC3 (.int 2))) A2))) C2)
    (A6 (D0 (B6 (A4 G7 (A1 1) (tC3 (.str "try")))) (B8 (N7 (BB (A4 C9 (A1 0) (tC3 (.int 2)))) 1 [] (P1 0) U7 (A4 C9 (A1 0) (tC3 (.int 1))))) C2)
    (A6 (D0 (B6 (A4 (ER false) (A1 1) (D8 (A0 (tC3 (.str "note")) (A0 (tC3 (.str "close")) (A0 (tC3 (.str "end")) (A0 (tC3 (.str "if")) (A0 (tC3 (.str "while")) A2)))))))) (F1 (R0 "list" V6 (A1 2) (A0 (A7 (G0 5) (A0 (A4 C9 (A1 0) (tC3 (.int 1))) A2)) A2))) C2)
    (A6 (D0 (B6 (A4 (ER false) (A1 1) (D8 (A0 (tC3 (.str "let")) (A0 (tC3 (.str "give")) (A0 (tC3 (.str "on")) (A0 (tC3 (.str "fault")) A2))))))) (F1 (R0 "list" V6 (A1 2) (A0 (A7 (G0 5) (A0 (A4 C9 (A1 0) (tC3 (.int 2))) A2)) A2))) C2)
    (A6 (D0 (B6 (A4 (ER false) (A1 1) (D8 (A0 (tC3 (.str "ask")) (A0 (tC3 (.str "cast")) A2))))) (F1 (R0 "list" V6 (A1 2) (A0 (A4 OU (A7 (G0 5) (A0 (A4 C9 (A1 0) (tC3 (.int 3))) A2)) (A7 (G0 5) (A0 (A4 C9 (A1 0) (WU AD7 (tC3 (.int 1)))) A2))) A2))) C2)
    (B8 (A1 2))))))))))
theorem E4 (d0 : D) : B5 B9 [d0] = [some d0, none, none] := rfl
abbrev K0 : List Str := ["_law_block_here", "_law_found", "_law_deed_here", "_law_inner_here"]
def G1 (q__law_all_names : Sp3) : TS3 :=
    (A6 (B7 1 (N6 A2))
    (A6 (Q8 (BB (A1 0)) 2 (A6 (F1 (R0 "list" V6 (A1 1) (A0 (A7 FN (A0 (A1 2) A2)) A2)))
    (Q8 (N5 (A7 PK.F4 (A0 (A1 2) A2))) 3 (F1 (R0 "list" V6 (A1 1) (A0 (A7 q__law_all_names (A0 (A1 3) A2)) A2))))))
    (B8 (A1 1))))
theorem CS (d0 : D) : B5 K0 [d0] = [some d0, none, none, none] := rfl
abbrev TK : List Str := ["_law_script", "_law_pen_here", "_law_deeds", "_law_book_here", "_law_shown", "_law_rule", "_law_others"]
def NW : TS3 :=
    (A6 (B7 1 (A7 FR (A0 (A1 0) A2)))
    (A6 (B7 2 (A4 C9 (F6 (A0 (tC3 (.int 8)) (A0 (tC3 (.int 30)) A2))) (E2 NL (A0 (A4 G7 (A7 B3 (A0 (A1 1) (A0 (tC3 (.int 6)) A2))) (tC3 (.int 5))) A2))))
    (A6 (B7 3 (A7 PK.DC (A0 (A1 1) (A0 (tC3 (.int 3)) (A0 (A1 2) A2)))))
    (A6 (B7 4 (E2 AR (A0 (A1 3) A2)))
    (A6 (Q8 (BB (A4 C7 (A1 3) (A1 3))) 5 (A6 (B7 6 (K5 (N5 (JX (MH (A0 (A7 (AG 8) (A0 (A4 C9 (A1 5) (tC3 (.int 2))) A2)) A2)))) 1 [5] (P1 0) (B6 (A4 (ER true) (A1 0) (A4 C9 (A1 1) (tC3 (.int 1))))) (A1 0)))
    (D0 (B6 (A4 ND (E2 AR (A0 (A7 N0 (A0 (A1 5) A2)) A2)) (E2 AR (A0 (A4 C7 (A4 C9 (A1 5) (tC3 (.int 1))) (E2 J4 (A0 (A1 6) A2))) A2)))) (B8 (tC3 (.bl false))) C2)))
    (B8 (A4 G7 (E2 AR (A0 (A1 3) A2)) (A1 4))))))))
theorem AY2 (d0 : D) : B5 TK [d0] = [some d0, none, none, none, none, none, none] := rfl
end K10
open L3
local macro_rules | `(tactic| walk_at "r3") => `(tactic| first | (with_reducible first | refine YW ?_ | refine AG9 ?_ | refine BB6 ?_ | refine AS6 ?_ | refine AJ2 ?_ | refine AC8 ?_ | refine AL9 ?_ | refine AH9 ?_ | refine BH0 ?_ | refine SM ?_ | refine SV ?_ | refine RM ?_) | walk_at "r2")
local macro_rules | `(tactic| walk_at "rd") => `(tactic| repeat walk_at "r3")
namespace K10
open PySem L2 L3 PK
open PyProof.Rows (sortedS)
theorem HE : ∀ ds M Q, F4 ds M Q → ds.length = 1 := by rintro _ _ _ ⟨_, _, _, rfl, _⟩; rfl
theorem JH : ∀ ds M Q, F4 ds M Q → Q4 { nx := fun _ M' => View Q .non M', rt := View Q } (B5 V0 ds) M := by
  rintro _ M Q ⟨P, h, bs, rfl, hh, q⟩
  have hl := BQ bs
  rw [LQ]
  unfold Q4
  show _
  change (A6 _ _) _ [some (headD h (dTs bs))] M
  generalize dTs bs = ts at q hl
  cases h with
  | leaf h r =>
    obtain ⟨h0, hlf⟩ := hh
    obtain ⟨n1, n2, n3⟩ := RU hlf
    have hts : ts = [] := List.length_eq_zero_iff.mp (hl.trans h0)
    subst hts
    walk_at "rd"
    refine A9 (d := .str h) (E9 (j := 0) rfl) ?_
    walk_at "rd"
    refine A8 n1 ?_
    walk_at "rd"
    refine A9 (d := .str h) (E9 (j := 0) rfl) ?_
    walk_at "rd"
    refine A8 n2 ?_
    walk_at "rd"
    refine A9 (d := .str h) (E9 (j := 0) rfl) ?_
    walk_at "rd"
    refine A8 n3 ?_
    walk_at "rd"
    exact View.of q
  | ife e =>
    obtain ⟨h0, _⟩ := hh
    obtain ⟨t0, t1, rfl⟩ : ∃ t0 t1, ts = [t0, t1] := by
      match ts, hl.trans h0 with
      | [a, b], _ => exact ⟨a, b, rfl⟩
    walk_at "rd"
    refine A9 (d := .str "if") rfl ?_
    walk_at "rd"
    refine C4 (by decide +kernel) ?_
    walk_at "rd"
    refine A9 (d := t0) rfl ?_
    walk_at "rd"
    refine A9 (d := t1) rfl ?_
    walk_at "rd"
    exact View.of q
  | whl e =>
    obtain ⟨h0, _⟩ := hh
    obtain ⟨t0, rfl⟩ : ∃ t0, ts = [t0] := by
      match ts, hl.trans h0 with
      | [a], _ => exact ⟨a, rfl⟩
    walk_at "rd"
    refine A9 (d := .str "while") rfl ?_
    walk_at "rd"
    refine A8 (by decide +kernel) ?_
    walk_at "rd"
    refine A9 (d := .str "while") rfl ?_
    walk_at "rd"
    refine C4 (by decide +kernel) ?_
    walk_at "rd"
    refine A9 (d := t0) rfl ?_
    walk_at "rd"
    exact View.of q
  | tr cs =>
    obtain ⟨h0, hcs, _⟩ := hh
    obtain ⟨t0, rest, rfl⟩ : ∃ t0 rest, ts = t0 :: rest := by
      match ts, hl.trans h0 with
      | a :: r, _ => exact ⟨a, r, rfl⟩
    have hr : rest.length = cs.length + 1 := by simpa [h0] using hl
    walk_at "rd"
    refine A9 (d := .str "try") rfl ?_
    walk_at "rd"
    refine A8 (by decide +kernel) ?_
    walk_at "rd"
    refine A9 (d := .str "try") rfl ?_
    walk_at "rd"
    refine A8 (by decide +kernel) ?_
    walk_at "rd"
    refine A9 (d := .str "try") rfl ?_
    walk_at "rd"
    refine C4 (by decide +kernel) ?_
    walk_at "rd"
    refine A9 (d := t0) rfl ?_
    walk_at "rd"
    refine A9 (d := .tup (E6 cs rest)) rfl ?_
    walk_at "rd"
    have e1 : E6 cs rest = (E6 cs rest).map id := by simp
    rw [e1]
    have hcl := BX cs rest
    refine BU (E6 cs rest) id NJ (by rw [sizeLine_eq]; lia) ?_ ?_
    · intro d hd M2 R F _ hR
      obtain ⟨w, x, t, rfl⟩ := CP cs rest d hd
      refine AM rfl ?_
      walk_at "rd"
      exact hR
    rw [CV cs rest (by lia)]
    refine EC (by simp; rw [sizeLine_eq]; lia) ?_
    walk_at "rd"
    have hlast : ∃ l, rest[cs.length]? = some l := ⟨rest[cs.length], by simp⟩
    obtain ⟨l, hl2⟩ := hlast
    have e2 : (t0 :: rest).getD (cs.length + 1) (.tup []) = l := by simp [List.getD, hl2]
    refine A9 (d := l) (by rw [← e2]; rfl) ?_
    walk_at "rd"
    refine EC (by simp; rw [sizeLine_eq]; lia) ?_
    have e3 : [t0] ++ rest.take cs.length ++ [l] = t0 :: rest := by
      have : rest.take cs.length ++ [l] = rest := by
        have h5 := List.take_succ (l := rest) (i := cs.length)
        rw [hl2] at h5
        rw [show rest.take cs.length ++ [l] = rest.take cs.length ++ (some l).toList from rfl, ← h5, List.take_of_length_le (by lia)]
      rw [List.append_assoc, this]; rfl
    rw [e3]
    exact View.of q
theorem LI : ∀ ds M Q, R7 ds M Q → ds.length = 2 := by rintro _ _ _ ⟨_, _, _, _, rfl, _⟩; rfl
theorem BM5 (x : D) (r : List D) : cutD (x :: r) (some 1) none = r := by
  unfold cutD
  have e1 : HT.sIx (x :: r).length 0 (some 1) = 1 := by simp [HT.sIx]
  have e2 : HT.sIx (x :: r).length (x :: r).length none = (x :: r).length := by simp [HT.sIx]
  rw [e1, e2, List.drop_one, List.tail_cons, List.take_of_length_le (by simp)]
theorem NS : ∀ (sh : List Str) (r : List D), Z3 (sh.map D.str) r = (sh.zip r).map fun p => .tup [.str p.1, p.2]
  | [], r => by simp [Z3]
  | s :: sh, [] => by simp [Z3]
  | s :: sh, d :: r => by
    show D.tup [.str s, d] :: Z3 (sh.map D.str) r = _
    rw [NS sh r]; rfl
theorem MJ : ∀ ds M Q, R7 ds M Q → T5 { nx := fun _ M' => View Q .non M', rt := View Q } (B5 X8 ds) M := by
  rintro _ M Q ⟨h, r, kind, sh, rfl, hl, hlen, q⟩
  rw [MU]
  unfold T5
  walk_at "rd"
  refine A9 (d := .str h) (E9 (j := 0) rfl) ?_
  refine ⟨h, sh, rfl, hl, ?_⟩
  walk_at "rd"
  rw [BM5]
  refine ⟨_, _, rfl, ?_⟩
  rw [NS]
  refine W0 (sh.zip r) _ Prod.snd (fun p => p.1 == kind) (by rw [sizeLine_eq, List.length_zip]; lia) ?_ fun p M' h1 h2 h3 => View.of (q p M' h1 h2 h3)
  intro a ha M2 R F _ hR hF
  refine AM rfl ?_
  walk_at "rd"
  cases e : (a.1 == kind) with
  | true => exact J7 (DE rfl (hR e))
  | false => exact V3 (hF e)
def WV : Deed → Bool
  | .mk (.tr _) _ => true
  | _ => false
theorem L6 {h : Str} {r : List D} {es : List Ex} (hr : ∀ e, eD e ∈ r ↔ e ∈ es) (y : Str) : (∃ e ∈ es, y ∈ vrE e) ↔ Ev y (.mk (.leaf h r) .nil) := by
  show _ ↔ ∃ e, eD e ∈ r ∧ y ∈ vrE e
  simp only [hr]
theorem V4 {e e' : Ex} : (eD e = eD e') ↔ e = e' := ⟨LX e e', fun h => by rw [h]⟩
end K10
open L3
namespace K10
open PySem L2 L3 PK
open PyProof.Rows (sortedS)
structure Shp [Pool] (d : Deed) (hd : Str) (rest : List D) (sh : List Str) : Prop where
  eq : dD d = .tup (.str hd :: rest)
  look : tblS.lookup hd = some sh
  few : sh.length ≤ 10
  tr : (hd == ("try" : Str)) = WV d
  ex : ∃ es : List Ex, pick "expression" sh rest = es.map eD ∧ es.length ≤ 2 ∧ (∀ e ∈ es, wf e ∧ nd e ≤ 9 ∧ dp e ≤ 4) ∧ ∀ y, (∃ e ∈ es, y ∈ vrE e) ↔ Ev y d
  nm : WV d = false → ∃ ns : List Str, pick "name" sh rest = ns.map D.str ∧ ns.length ≤ 2 ∧ ∀ x, x ∈ ns ↔ Tg x d
theorem ZJ {h : Str} {x : Str} {r : List D} (h1 : (h = "let" ∨ h = "give" ∨ h = "on" ∨ h = "ask" ∨ h = "cast")) (h2 : ¬ (h = "ask" ∨ h = "cast")) (z : Str) : z ∈ [x] ↔ Tg z (.mk (.leaf h (.str x :: r)) .nil) := by
  show _ ↔ ((h = "let" ∨ h = "give" ∨ h = "on" ∨ h = "ask" ∨ h = "cast") ∧ (D.str x :: r)[0]? = some (D.str z)) ∨ ((h = "ask" ∨ h = "cast") ∧ _)
  rw [eq_true h1, eq_false h2]
  simp [eq_comm]
theorem KZ {h : Str} {x y : Str} {r : List D} (h1 : (h = "let" ∨ h = "give" ∨ h = "on" ∨ h = "ask" ∨ h = "cast")) (h2 : (h = "ask" ∨ h = "cast")) (z : Str) : z ∈ [x, y] ↔ Tg z (.mk (.leaf h (.str x :: .str y :: r)) .nil) := by
  show _ ↔ ((h = "let" ∨ h = "give" ∨ h = "on" ∨ h = "ask" ∨ h = "cast") ∧ (D.str x :: .str y :: r)[0]? = some (D.str z)) ∨ ((h = "ask" ∨ h = "cast") ∧ (D.str x :: .str y :: r)[1]? = some (D.str z))
  rw [eq_true h1, eq_true h2]
  simp [eq_comm]
theorem AQ {h : Str} {r : List D} (h1 : ¬ (h = "let" ∨ h = "give" ∨ h = "on" ∨ h = "ask" ∨ h = "cast")) (h2 : ¬ (h = "ask" ∨ h = "cast")) (z : Str) : z ∈ ([] : List Str) ↔ Tg z (.mk (.leaf h r) .nil) := by
  show _ ↔ ((h = "let" ∨ h = "give" ∨ h = "on" ∨ h = "ask" ∨ h = "cast") ∧ _) ∨ ((h = "ask" ∨ h = "cast") ∧ _)
  rw [eq_false h1, eq_false h2]
  simp
theorem XH [Pool] {h : Str} {r : List D} (hl : FI h r) : ∃ sh, Shp (.mk (.leaf h r) .nil) h r sh := by
  rcases hl with ⟨h1, x, e, rfl, hx, he⟩ | ⟨h1, e, rfl, he⟩ | ⟨h1, x, y, g, e, rfl, hx, hy, hg, he⟩ | ⟨h1, x, y, g, w, e, rfl, hx, hy, hw, hg, he⟩ | ⟨h1, rfl⟩ | ⟨h1, w, e, rfl, hw, he⟩
  · obtain ⟨e, rfl, w1, w2, w3⟩ := he
    rcases h1 with rfl | rfl | rfl
    all_goals exact ⟨["name", "expression"], rfl, by decide +kernel, by decide, by show _ = false; decide +kernel, ⟨[e], by first | rfl | kernel_rfl, by simp, by simpa using ⟨w1, w2, w3⟩, L6 fun e' => by simp [G6, V4]⟩, fun _ => ⟨[x], by first | rfl | kernel_rfl, by simp, ZJ (by decide +kernel) (by decide +kernel)⟩⟩
  · obtain ⟨e, rfl, w1, w2, w3⟩ := he
    rcases h1 with rfl | rfl | rfl
    all_goals exact ⟨["expression"], rfl, by decide +kernel, by decide, by show _ = false; decide +kernel, ⟨[e], by first | rfl | kernel_rfl, by simp, by simpa using ⟨w1, w2, w3⟩, L6 fun e' => by simp [G6, V4]⟩, fun _ => ⟨[], by first | rfl | kernel_rfl, by simp, AQ (by decide +kernel) (by decide +kernel)⟩⟩
  · obtain ⟨e, rfl, w1, w2, w3⟩ := he
    obtain ⟨g, rfl, v1, v2, v3⟩ := hg
    subst h1
    exact ⟨["name", "name", "expression", "expression"], rfl, by decide +kernel, by decide, by show _ = false; decide +kernel, ⟨[g, e], by first | rfl | kernel_rfl, by simp, by simpa using ⟨⟨v1, v2, v3⟩, w1, w2, w3⟩, L6 fun e' => by simp [G6, V4]⟩, fun _ => ⟨[x, y], by first | rfl | kernel_rfl, by simp, KZ (by decide +kernel) (by decide +kernel)⟩⟩
  · obtain ⟨e, rfl, w1, w2, w3⟩ := he
    obtain ⟨g, rfl, v1, v2, v3⟩ := hg
    subst h1
    exact ⟨["name", "name", "expression", "word", "expression"], rfl, by decide +kernel, by decide, by show _ = false; decide +kernel, ⟨[g, e], by first | rfl | kernel_rfl, by simp, by simpa using ⟨⟨v1, v2, v3⟩, w1, w2, w3⟩, L6 fun e' => by simp [G6, V4]⟩, fun _ => ⟨[x, y], by first | rfl | kernel_rfl, by simp, KZ (by decide +kernel) (by decide +kernel)⟩⟩
  · subst h1
    exact ⟨[], rfl, by decide +kernel, by decide, by show _ = false; decide +kernel, ⟨[], by first | rfl | kernel_rfl, by simp, by simp, L6 fun e' => by simp⟩, fun _ => ⟨[], by first | rfl | kernel_rfl, by simp, AQ (by decide +kernel) (by decide +kernel)⟩⟩
  · obtain ⟨e, rfl, w1, w2, w3⟩ := he
    subst h1
    exact ⟨["word", "expression"], rfl, by decide +kernel, by decide, by show _ = false; decide +kernel, ⟨[e], by first | rfl | kernel_rfl, by simp, by simpa using ⟨w1, w2, w3⟩, L6 fun e' => by simp [G6, V4]⟩, fun _ => ⟨[], by first | rfl | kernel_rfl, by simp, AQ (by decide +kernel) (by decide +kernel)⟩⟩
theorem QJ [Pool] (d : Deed) (hk : okD d) : ∃ hd rest sh, Shp d hd rest sh := by
  obtain ⟨h, bs⟩ := d
  have hl := BQ bs
  obtain ⟨hk, hb⟩ := hk
  cases h with
  | leaf h r =>
    obtain ⟨h0, hlf⟩ := hk
    cases bs with
    | nil =>
      obtain ⟨sh, s⟩ := XH hlf
      exact ⟨h, r, sh, s⟩
    | cons b r => exact absurd h0 (Nat.succ_ne_zero _)
  | ife d =>
    obtain ⟨h0, e, rfl, w1, w2, w3⟩ := hk
    obtain ⟨t0, t1, ht⟩ : ∃ t0 t1, dTs bs = [t0, t1] := by
      match h : dTs bs, hl.trans h0 with
      | [a, b], _ => exact ⟨a, b, rfl⟩
    exact ⟨"if", [eD e, t0, t1], ["expression", "block", "rest"], by show headD (.ife (eD e)) (dTs bs) = _; rw [ht]; rfl, by decide +kernel, by decide, by show _ = false; decide +kernel, ⟨[e], by first | rfl | kernel_rfl, by simp, by simpa using ⟨w1, w2, w3⟩, fun y => by
      show _ ↔ ∃ e', eD e = eD e' ∧ y ∈ vrE e'
      simp [V4]⟩, fun _ => ⟨[], by first | rfl | kernel_rfl, by simp, fun x => by show _ ↔ False; simp⟩⟩
  | whl d =>
    obtain ⟨h0, e, rfl, w1, w2, w3⟩ := hk
    obtain ⟨t0, ht⟩ : ∃ t0, dTs bs = [t0] := by
      match h : dTs bs, hl.trans h0 with
      | [a], _ => exact ⟨a, rfl⟩
    exact ⟨"while", [eD e, t0], ["expression", "block"], by show headD (.whl (eD e)) (dTs bs) = _; rw [ht]; rfl, by decide +kernel, by decide, by show _ = false; decide +kernel, ⟨[e], by first | rfl | kernel_rfl, by simp, by simpa using ⟨w1, w2, w3⟩, fun y => by
      show _ ↔ ∃ e', eD e = eD e' ∧ y ∈ vrE e'
      simp [V4]⟩, fun _ => ⟨[], by first | rfl | kernel_rfl, by simp, fun x => by show _ ↔ False; simp⟩⟩
  | tr cs =>
    exact ⟨"try", [(dTs bs).getD 0 (.tup []), .tup (E6 cs (dTs bs).tail), (dTs bs).getD (cs.length + 1) (.tup [])], ["block", "catches", "rest"], rfl, by decide +kernel, by decide, by show _ = true; decide +kernel, ⟨[], by first | rfl | kernel_rfl, by simp, by simp, fun y => by show _ ↔ False; simp⟩, fun h => by cases h⟩
theorem AO9 [Pool] {y : Str} {d : Deed} (hk : okD d) (h : Ev y d) : pn y := by
  obtain ⟨hd, rest, sh, s⟩ := QJ d hk
  obtain ⟨es, _, _, hw, he⟩ := s.ex
  obtain ⟨e, hm, hy⟩ := (he y).mpr h
  exact RG y e (hw e hm).1 hy
theorem AQ7 [Pool] {x : Str} {d : Deed} (hk : okD d) (h : Tg x d) : pn x := by
  obtain ⟨h0, bs⟩ := d
  obtain ⟨hk, _⟩ := hk
  cases h0 with
  | leaf hh r =>
    obtain ⟨_, hl⟩ := hk
    rcases hl with ⟨h1, y, e, rfl, hx, he⟩ | ⟨h1, e, rfl, he⟩ | ⟨h1, y, z, g, e, rfl, hx, hy, hg, he⟩ | ⟨h1, y, z, g, w, e, rfl, hx, hy, hw, hg, he⟩ | ⟨h1, rfl⟩ | ⟨h1, w, e, rfl, hw, he⟩
    · rcases h with ⟨_, h⟩ | ⟨h, _⟩
      · simp at h; rw [← h]; exact hx
      · rcases h1 with rfl | rfl | rfl <;> exact absurd h (by decide +kernel)
    · rcases h with ⟨h, _⟩ | ⟨h, _⟩
      · rcases h1 with rfl | rfl | rfl <;> exact absurd h (by decide +kernel)
      · rcases h1 with rfl | rfl | rfl <;> exact absurd h (by decide +kernel)
    · rcases h with ⟨_, h⟩ | ⟨_, h⟩
      · simp at h; rw [← h]; exact hx
      · simp at h; rw [← h]; exact hy
    · rcases h with ⟨_, h⟩ | ⟨_, h⟩
      · simp at h; rw [← h]; exact hx
      · simp at h; rw [← h]; exact hy
    · subst h1
      rcases h with ⟨h, _⟩ | ⟨h, _⟩ <;> exact absurd h (by decide +kernel)
    · subst h1
      rcases h with ⟨h, _⟩ | ⟨h, _⟩ <;> exact absurd h (by decide +kernel)
  | ife d => exact h.elim
  | whl d => exact h.elim
  | tr cs =>
    obtain ⟨w, hw⟩ := h
    exact (hk.2.2 _ hw).2
theorem RD [Pool] {x : Str} {b : Blk} (hk : okB b) (h : Nm x b) : x ∈ Pool.ps := by
  obtain ⟨d, hd, h⟩ := h
  rcases h with h | h
  · exact (AO9 (AA b hk d hd) h).2
  · exact (AQ7 (AA b hk d hd) h).2
theorem PB : ∀ (ys ps : List Str), ys.Nodup → (∀ y ∈ ys, y ∈ ps) → ys.length ≤ ps.length
  | [], ps, _, _ => Nat.zero_le _
  | y :: ys, ps, hn, h => by
    rw [List.nodup_cons] at hn
    have hy := h y List.mem_cons_self
    have h1 := PB ys (ps.erase y) hn.2 fun z hz => (List.mem_erase_of_ne (by rintro rfl; exact hn.1 hz)).mpr (h z (List.mem_cons_of_mem _ hz))
    rw [List.length_erase_of_mem hy] at h1
    have := List.length_pos_of_mem hy
    show ys.length + 1 ≤ ps.length
    lia
end K10
open L3
namespace K10
open PySem L2 L3 PK
open PyProof.Rows (sortedS)
theorem DY : ∀ ds M Q, AV ds M Q → ds.length = 1 := by rintro _ _ _ ⟨_, _, rfl, _⟩; rfl
def EZ : D → D
  | .tup [_, t, _] => t
  | _ => .non
theorem BG : ∀ (cs : List (Str × Str)) (ts : List D), cs.length ≤ ts.length → (E6 cs ts).map EZ = cs.map fun c => .str c.2
  | [], ts, _ => by cases ts <;> rfl
  | (w, x) :: cs, [], h => by simp at h
  | (w, x) :: cs, t :: ts, h => by
    show EZ (.tup [.str w, .str x, t]) :: (E6 cs ts).map EZ = _
    rw [BG cs ts (by simpa using h)]
    rfl
theorem FF : ∀ ds M Q, AV ds M Q → L4 { nx := fun _ M' => View Q .non M', rt := View Q } (B5 P4 ds) M := by
  rintro _ M Q ⟨P, d, rfl, hk, q⟩
  obtain ⟨hd, rest, sh, s⟩ := QJ d hk
  rw [FJ]
  unfold L4
  rw [s.eq]
  walk_at "rd"
  refine A9 (d := .str hd) (E9 (j := 0) rfl) ?_
  walk_at "rd"
  cases ht : WV d with
  | false =>
    refine A8 (by rw [s.tr, ht]) ?_
    walk_at "rd"
    obtain ⟨ns, h1, h2, h3⟩ := s.nm ht
    refine ⟨hd, rest, "name", sh, rfl, s.look, s.few, ?_⟩
    rw [h1]
    exact AF1 (q ns h3 (by lia))
  | true =>
    obtain ⟨h, bs⟩ := d
    cases h <;> first | (cases ht; done) | skip
    rename_i cs
    obtain ⟨⟨h0, h1, h2⟩, _⟩ := hk
    have hl := BQ bs
    have he := s.eq
    have he2 : D.tup [.str "try", (dTs bs).getD 0 (.tup []), .tup (E6 cs (dTs bs).tail), (dTs bs).getD (cs.length + 1) (.tup [])] = .tup (.str hd :: rest) := he
    simp only [D.tup.injEq, List.cons.injEq, D.str.injEq] at he2
    obtain ⟨rfl, rfl⟩ := he2
    refine C4 (by decide +kernel) ?_
    walk_at "rd"
    refine A9 (d := .tup (E6 cs (dTs bs).tail)) rfl ?_
    walk_at "rd"
    have hcl := BX cs (dTs bs).tail
    have e1 : E6 cs (dTs bs).tail = (E6 cs (dTs bs).tail).map id := by simp
    rw [e1]
    refine W0 (E6 cs (dTs bs).tail) id EZ (fun _ => true) (by rw [sizeLine_eq]; lia) ?_ ?_
    · intro a ha M2 R F _ hR _
      obtain ⟨w, x, t, rfl⟩ := CP cs _ a ha
      refine AM rfl ?_
      walk_at "rd"
      exact hR rfl
    · intro p M' h3 h4 h5
      rw [List.filter_eq_self.mpr (fun _ _ => rfl), BG cs _ (by rw [List.length_tail, hl]; lia)] at h4
      have e2 : (cs.map fun c => D.str c.2) = (cs.map Prod.snd).map D.str := by rw [List.map_map]; rfl
      rw [e2] at h4
      refine View.of (q (cs.map Prod.snd) (fun x => ?_) (by rw [List.length_map]; exact h1) p M' h3 h4 h5)
      show _ ↔ ∃ w, (w, x) ∈ cs
      simp
theorem DW : ∀ ds M Q, L9 ds M Q → ds.length = 1 := by rintro _ _ _ ⟨_, rfl, _⟩; rfl
theorem GH : ∀ ds M Q, L9 ds M Q → L1 { nx := fun _ M' => View Q .non M', rt := View Q } (B5 P7 ds) M := by
  rintro _ M Q ⟨e, rfl, q⟩
  rw [GD]
  unfold L1
  cases e with
  | none =>
    walk_at "rd"
    refine A9 (d := .str "none") rfl ?_
    walk_at "rd"
    refine A8 (by decide +kernel) ?_
    walk_at "rd"
    refine A9 (d := .str "none") rfl ?_
    walk_at "rd"
    refine A8 (by decide +kernel) ?_
    walk_at "rd"
    exact View.of q
  | num n =>
    walk_at "rd"
    refine A9 (d := .str "number") rfl ?_
    walk_at "rd"
    refine A8 (by decide +kernel) ?_
    walk_at "rd"
    refine A9 (d := .str "number") rfl ?_
    walk_at "rd"
    refine A8 (by decide +kernel) ?_
    walk_at "rd"
    exact View.of q
  | var n =>
    walk_at "rd"
    refine A9 (d := .str "var") rfl ?_
    walk_at "rd"
    refine A8 (by decide +kernel) ?_
    walk_at "rd"
    refine A9 (d := .str "var") rfl ?_
    walk_at "rd"
    refine A8 (by decide +kernel) ?_
    walk_at "rd"
    exact View.of q
  | op sg a b =>
    walk_at "rd"
    refine A9 (d := .str "op") rfl ?_
    walk_at "rd"
    refine C4 (by decide +kernel) ?_
    walk_at "rd"
    refine A9 (d := eD a) rfl ?_
    walk_at "rd"
    refine A9 (d := eD b) rfl ?_
    walk_at "rd"
    exact View.of q
  | make r as =>
    walk_at "rd"
    refine A9 (d := .str "make") rfl ?_
    walk_at "rd"
    refine A8 (by decide +kernel) ?_
    walk_at "rd"
    refine A9 (d := .str "make") rfl ?_
    walk_at "rd"
    refine C4 (by decide +kernel) ?_
    walk_at "rd"
    refine A9 (d := .tup (eDs as)) rfl ?_
    walk_at "rd"
    rw [JD]
    exact View.of q
theorem AA2 : ∀ as : Exs, (exL as).flatMap trE = EN as
  | .nil => by simp [exL, EN]
  | .cons a r => by simp [exL, EN, AA2 r]
theorem AQ1 (e : Ex) : trE e = e :: (brE e).flatMap trE := by
  cases e with
  | none => simp [trE, brE]
  | num n => simp [trE, brE]
  | var x => simp [trE, brE]
  | op s a b => simp [trE, brE]
  | make r as => simp [trE, brE, AA2]
theorem QY : ∀ (as : Exs) (b : Ex), b ∈ exL as → dp b ≤ dps as ∧ nd b ≤ nds as
  | .nil, b, h => by simp [exL] at h
  | .cons a r, b, h => by
    simp only [exL, List.mem_cons] at h
    rcases h with rfl | h
    · exact ⟨by show dp b ≤ max (dp b) (dps r); lia, by show nd b ≤ nd b + nds r; lia⟩
    · obtain ⟨h1, h2⟩ := QY r b h
      exact ⟨by show dp b ≤ max (dp a) (dps r); lia, by show nd b ≤ nd a + nds r; lia⟩
theorem ZW (e b : Ex) (h : b ∈ brE e) : dp b + 1 ≤ dp e ∧ nd b + 1 ≤ nd e := by
  cases e with
  | none => simp [brE] at h
  | num n => simp [brE] at h
  | var x => simp [brE] at h
  | op s a c =>
    simp only [brE, List.mem_cons, List.not_mem_nil, or_false] at h
    have e1 : dp (.op s a c) = 1 + max (dp a) (dp c) := rfl
    have e2 : nd (.op s a c) = 1 + nd a + nd c := rfl
    rcases h with rfl | rfl <;> lia
  | make r as =>
    obtain ⟨h1, h2⟩ := QY as b h
    have e1 : dp (.make r as) = 1 + dps as := rfl
    have e2 : nd (.make r as) = 1 + nds as := rfl
    lia
theorem WD (e : Ex) : 1 ≤ dp e := by cases e <;> simp [dp] <;> lia
theorem take_snoc {α β : Type} {l : List α} {k : Nat} {a : α} (g : α → List β) (h : l[k]? = some a) : (l.take (k + 1)).flatMap g = (l.take k).flatMap g ++ g a := by
  rw [List.take_succ, h, List.flatMap_append]; simp
theorem AN {α β : Type} (l : List α) (k : Nat) (g : α → List β) : ((l.take k).flatMap g).length ≤ (l.flatMap g).length := by
  have : l.flatMap g = (l.take k).flatMap g ++ (l.drop k).flatMap g := by rw [← List.flatMap_append, List.take_append_drop]
  rw [this, List.length_append]; lia
theorem CC : ∀ n ds M Q, O5 n ds M Q → ds.length = 1 := by rintro _ _ _ _ ⟨_, rfl, _⟩; rfl
theorem GI : ∀ ds M Q, ¬ O5 0 ds M Q := by
  rintro _ _ _ ⟨e, rfl, h, _⟩
  have := WD e
  lia
theorem OA : ∀ n ds M Q, O5 (n + 1) ds M Q → U2 (O5 n) { nx := fun _ M' => View Q .non M', rt := View Q } (B5 Y9 ds) M := by
  rintro lv _ M Q ⟨e, rfl, hdp, hnd, q⟩
  rw [NN]
  unfold U2
  walk_at "rd"
  intro f hf
  walk_at "rd"
  refine ⟨e, rfl, ?_⟩
  walk_at "rd"
  have hlen := AS e
  rw [AQ1 e, List.length_cons] at hlen
  refine J9 (brE e) eD (fnd := f) (ini := [eD e]) (fun σ => ∃ s2, σ = [some (eD e), some (.ref f), s2]) (fun k acc => acc = (e :: ((brE e).take k).flatMap trE).map eD) ⟨_, rfl⟩ A5 rfl ?_ ?_
  · rintro k b acc σ' M' N hb ⟨s2, rfl⟩ rfl hm hs nx
    obtain ⟨h1, h2⟩ := ZW e b (List.mem_of_getElem? hb)
    have hb2 := AS b
    have e2 := take_snoc trE hb
    have e3 := AN (brE e) (k + 1) trE
    rw [e2, List.length_append] at e3
    walk_at "rd"
    refine ⟨.inl ⟨rfl, _, hm⟩, ?_⟩
    walk_at "rd"
    refine ⟨b, rfl, by lia, by lia, W6 hm (by simp only [List.length_map, List.length_cons, sizeLine_eq]; lia) fun M'' h3 h4 => ?_⟩
    exact nx _ _ M'' ⟨_, rfl⟩ (by rw [e2, ← List.cons_append, List.map_append]) h3 h4
  · rintro σ' acc M' ⟨s2, rfl⟩ rfl hm hs
    rw [List.take_length, ← AQ1] at hm
    walk_at "rd"
    exact R1 q hf hm fun x hx hn => by rw [hs x hx (by rw [B2 hx]; exact hn), B2 hx]
theorem JZ : ∀ b : Blk, dsB b = (toL b).flatMap dsD
  | .nil => by simp [dsB, toL]
  | .cons d r => by simp [dsB, toL, JZ r]
theorem KY : ∀ b : Bls, EQ b = (L0 b).flatMap dsB
  | .nil => by simp [EQ, L0]
  | .cons d r => by simp [EQ, L0, KY r]
theorem CD : ∀ n ds M Q, I0 n ds M Q → ds.length = 1 := by rintro _ _ _ _ ⟨_, _, rfl, _⟩; rfl
theorem GX : ∀ ds M Q, ¬ I0 0 ds M Q := by
  rintro _ _ _ ⟨_, _, rfl, _, h, _⟩
  lia
theorem MX : ∀ n ds M Q, I0 (n + 1) ds M Q → T8 (I0 n) { nx := fun _ M' => View Q .non M', rt := View Q } (B5 X7 ds) M := by
  rintro lv _ M Q ⟨P, b, rfl, hok, hdp, hcnt, q⟩
  rw [OC]
  unfold T8
  walk_at "rd"
  intro f hf
  walk_at "rd"
  have hlen := W3 b
  rw [JZ] at hlen q
  rw [SI]
  refine J9 (toL b) dD (fnd := f) (ini := []) (fun σ => ∃ s2 s3, σ = [some (.tup ((toL b).map dD)), some (.ref f), s2, s3]) (fun k acc => acc = (((toL b).take k).flatMap dsD).map dD) ⟨_, _, rfl⟩ A5 rfl ?_ ?_
  · rintro k d acc σ' M' N hd ⟨s2, s3, rfl⟩ rfl hm hs nx
    obtain ⟨c1, c2, c3⟩ := CN b d (List.mem_of_getElem? hd)
    have e2 := take_snoc dsD hd
    have e3 := AN (toL b) (k + 1) dsD
    rw [e2, List.length_append] at e3
    obtain ⟨h, bs⟩ := d
    have hokd := c3 hok
    have ed : dsD (.mk h bs) = .mk h bs :: (L0 bs).flatMap dsB := by rw [dsD, KY]
    have hcD : G8 (.mk h bs) = 1 + G3 bs := rfl
    have hdD : dpD (.mk h bs) = Z5 bs := rfl
    walk_at "rd"
    refine ⟨.inl ⟨rfl, _, hm⟩, ?_⟩
    walk_at "rd"
    refine G5 hm (by simp only [List.length_map, sizeLine_eq]; lia) ?_
    walk_at "rd"
    refine ⟨P, h, bs, rfl, hokd.1, ?_⟩
    walk_at "rd"
    rw [CY]
    refine J9 (L0 bs) tB (fnd := f) (ini := (((toL b).take k).flatMap dsD).map dD ++ [dD (.mk h bs)]) (fun σ => ∃ s3, σ = [some (.tup ((toL b).map dD)), some (.ref f), some (dD (.mk h bs)), s3]) (fun j acc => acc = (((toL b).take k).flatMap dsD).map dD ++ (.mk h bs :: ((L0 bs).take j).flatMap dsB).map dD) ⟨_, rfl⟩ A5 rfl ?_ ?_
    · rintro j c acc σ2 M2 N2 hc ⟨s3, rfl⟩ rfl hm2 hs2 nx2
      obtain ⟨c4, c5, c6⟩ := W9 bs c (List.mem_of_getElem? hc)
      have f2 := take_snoc dsB hc
      have f3 := AN (L0 bs) (j + 1) dsB
      have f4 := W3 c
      rw [f2, List.length_append] at f3
      rw [ed, List.length_cons] at e3
      walk_at "rd"
      refine ⟨.inl ⟨rfl, _, hm2⟩, ?_⟩
      walk_at "rd"
      refine ⟨P, c, rfl, c6 hokd.2, by lia, by lia, W6 hm2 (by simp only [List.length_map, List.length_append, List.length_cons, sizeLine_eq]; lia) fun M'' h3 h4 => ?_⟩
      exact nx2 _ _ M'' ⟨_, rfl⟩ (by rw [f2]; simp) h3 h4
    · rintro σ2 acc M2 ⟨s3, rfl⟩ rfl hm2 hs2
      rw [List.take_length, ← ed] at hm2
      exact nx _ _ M2 ⟨_, _, rfl⟩ (by rw [e2, List.map_append]) hm2 fun x hx hn => by rw [hs2 x hx (by rw [B2 hx]; exact hn), B2 hx]
  · rintro σ' acc M' ⟨s2, s3, rfl⟩ rfl hm hs
    rw [List.take_length] at hm
    walk_at "rd"
    exact R1 q hf hm fun x hx hn => by rw [hs x hx (by rw [B2 hx]; exact hn), B2 hx]
end K10
open L3
namespace K10
open PySem L2 L3 PK
open PyProof.Rows (sortedS)
theorem KP : ∀ ds M Q, S6 ds M Q → ds.length = 1 := by rintro _ _ _ ⟨_, _, rfl, _⟩; rfl
theorem E1 {α : Type} {l : List α} {k : Nat} {a x : α} (h : l[k]? = some a) : x ∈ l.take (k + 1) ↔ x ∈ l.take k ∨ x = a := by
  rw [List.take_succ, h, List.mem_append]; simp
theorem MR : ∀ ds M Q, S6 ds M Q → U4 { nx := fun _ M' => View Q .non M', rt := View Q } (B5 Y7 ds) M := by
  rintro _ M Q ⟨P, r, rfl, hok, hdp, hcnt, q⟩
  rw [NV]
  unfold U4
  walk_at "rd"
  intro f hf
  walk_at "rd"
  refine A9 (d := .tup (dB r.blk)) rfl ?_
  walk_at "rd"
  refine ⟨P, r.blk, rfl, hok, by lia, by lia, JK fun M2 k1 k2 => ?_⟩
  walk_at "rd"
  have hlen := W3 r.blk
  have hf2 : M2 f = some (.lst []) := by rw [k1 f (by rw [A5]; simp)]; exact A5
  have k3 : ∀ x, x ≠ f → M x ≠ none → M2 x = M x := fun x hx hn => by rw [k1 x (by rw [B2 hx]; exact hn), B2 hx]
  refine J9 (dsB r.blk) dD (fnd := f) (ini := []) (fun σ => ∃ s2 s3, σ = [some (rD r), some (.ref f), s2, s3]) (fun k acc => ∃ ts : List Ex, acc = ts.map eD ∧ (∀ y, Ex.var y ∈ ts ↔ ∃ d ∈ (dsB r.blk).take k, Ev y d) ∧ ts.length ≤ 18 * k) ⟨_, _, rfl⟩ hf2 ⟨[], rfl, by simp, by simp⟩ ?_ ?_
  · rintro k d acc σ' M' N hd ⟨s2, s3, rfl⟩ ⟨ts, rfl, ht1, ht2⟩ hm hs nx
    have hkl : k < (dsB r.blk).length := (List.getElem?_eq_some_iff.mp hd).1
    obtain ⟨hd', rest, sh, s⟩ := QJ d (AA r.blk hok d (List.mem_of_getElem? hd))
    obtain ⟨es, x1, x2, x3, x4⟩ := s.ex
    walk_at "rd"
    refine ⟨hd', rest, "expression", sh, by rw [s.eq], s.look, s.few, ?_⟩
    rw [x1]
    refine JK fun M3 j1 j2 => ?_
    walk_at "rd"
    have hf3 : M3 f = some (.lst (ts.map eD)) := by rw [j1 f (by rw [hm]; simp)]; exact hm
    refine J9 es eD (fnd := f) (ini := ts.map eD) (fun σ => ∃ s3, σ = [some (rD r), some (.ref f), some (dD d), s3]) (fun j acc => ∃ us : List Ex, acc = us.map eD ∧ (∀ y, Ex.var y ∈ us ↔ (∃ d ∈ (dsB r.blk).take k, Ev y d) ∨ ∃ e ∈ es.take j, y ∈ vrE e) ∧ us.length ≤ 18 * k + 9 * j) ⟨_, rfl⟩ hf3 ⟨ts, rfl, by simpa using ht1, by lia⟩ ?_ ?_
    · rintro j e acc σ2 M4 N2 he ⟨s3, rfl⟩ ⟨us, rfl, hu1, hu2⟩ hm4 hs4 nx2
      have hjl : j < es.length := (List.getElem?_eq_some_iff.mp he).1
      obtain ⟨w1, w2, w3⟩ := x3 e (List.mem_of_getElem? he)
      have hl := AS e
      walk_at "rd"
      refine ⟨.inl ⟨rfl, _, hm4⟩, ?_⟩
      walk_at "rd"
      refine ⟨e, rfl, by lia, w2, W6 hm4 (by simp only [List.length_map, sizeLine_eq]; lia) fun M5 h3 h4 => ?_⟩
      refine nx2 _ _ M5 ⟨_, rfl⟩ ⟨us ++ trE e, by rw [List.map_append], fun y => ?_, by rw [List.length_append]; lia⟩ h3 h4
      rw [List.mem_append, hu1, LD]
      constructor
      · rintro ((h | ⟨e', h1, h2⟩) | h)
        · exact .inl h
        · exact .inr ⟨e', (E1 he).mpr (.inl h1), h2⟩
        · exact .inr ⟨e, (E1 he).mpr (.inr rfl), h⟩
      · rintro (h | ⟨e', h1, h2⟩)
        · exact .inl (.inl h)
        · rcases (E1 he).mp h1 with h1 | rfl
          · exact .inl (.inr ⟨e', h1, h2⟩)
          · exact .inr h2
    · rintro σ2 acc M4 ⟨s3, rfl⟩ ⟨us, rfl, hu1, hu2⟩ hm4 hs4
      rw [List.take_length] at hu1
      refine nx _ _ M4 ⟨_, _, rfl⟩ ⟨us, rfl, fun y => ?_, by lia⟩ hm4 fun x hx hn => by rw [hs4 x hx (by rw [j1 x hn]; exact hn), j1 x hn]
      rw [hu1, x4 y]
      constructor
      · rintro (⟨d', h1, h2⟩ | h)
        · exact ⟨d', (E1 hd).mpr (.inl h1), h2⟩
        · exact ⟨d, (E1 hd).mpr (.inr rfl), h⟩
      · rintro ⟨d', h1, h2⟩
        rcases (E1 hd).mp h1 with h1 | rfl
        · exact .inl ⟨d', h1, h2⟩
        · exact .inr h2
  · rintro σ' acc M' ⟨s2, s3, rfl⟩ ⟨ts, rfl, ht1, ht2⟩ hm hs
    rw [List.take_length] at ht1
    walk_at "rd"
    exact R1 (q ts ht1 (by lia)) hf hm fun x hx hn => by rw [hs x hx (by rw [k3 x hx hn]; exact hn), k3 x hx hn]
def OR : Ex → Bool
  | .var _ => true
  | _ => false
def AY4 : Ex → D
  | .var x => .str x
  | _ => .non
def WA : Ex → Option Str
  | .var x => some x
  | _ => none
theorem ML : ∀ ts : List Ex, (ts.filter OR).map AY4 = (ts.filterMap WA).map D.str
  | [] => rfl
  | t :: ts => by
    have ih := ML ts
    cases t with
    | var x => show D.str x :: (ts.filter OR).map AY4 = D.str x :: (ts.filterMap WA).map D.str; rw [ih]
    | none => exact ih
    | num _ => exact ih
    | op _ _ _ => exact ih
    | make _ _ => exact ih
theorem XR (ts : List Ex) (x : Str) : x ∈ ts.filterMap WA ↔ Ex.var x ∈ ts := by
  rw [List.mem_filterMap]
  constructor
  · rintro ⟨t, h1, h2⟩
    cases t <;> simp [WA] at h2
    rw [← h2]; exact h1
  · intro h
    exact ⟨_, h, rfl⟩
theorem GV : ∀ ds M Q, N0 ds M Q → ds.length = 1 := by rintro _ _ _ ⟨_, _, rfl, _⟩; rfl
theorem LN : scanBound = 4096 := by first | rfl | decide
theorem LS : ∀ ds M Q, N0 ds M Q → Q5 { nx := fun _ M' => View Q .non M', rt := View Q } (B5 V5 ds) M := by
  rintro _ M Q ⟨P, r, rfl, hok, hdp, hcnt, hps, hpl, q⟩
  rw [KW]
  unfold Q5
  walk_at "rd"
  refine ⟨P, r, rfl, hok, hdp, hcnt, fun ts ht1 ht2 => JK fun M2 k1 k2 => ?_⟩
  walk_at "rd"
  have hlen := W3 r.blk
  refine W0 ts eD AY4 OR (by rw [sizeLine_eq]; lia) ?_ ?_
  · intro t ht M3 R F _ hR hF
    cases t with
    | none =>
      walk_at "rd"
      refine A9 (d := .str "none") rfl ?_
      walk_at "rd"
      exact A8 (by decide +kernel) (hF rfl)
    | num n =>
      walk_at "rd"
      refine A9 (d := .str "number") rfl ?_
      walk_at "rd"
      exact A8 (by decide +kernel) (hF rfl)
    | var x =>
      walk_at "rd"
      refine A9 (d := .str "var") rfl ?_
      walk_at "rd"
      refine C4 (by decide +kernel) ?_
      walk_at "rd"
      exact A9 (d := .str x) rfl (hR rfl)
    | op sg a b =>
      walk_at "rd"
      refine A9 (d := .str "op") rfl ?_
      walk_at "rd"
      exact A8 (by decide +kernel) (hF rfl)
    | make n as =>
      walk_at "rd"
      refine A9 (d := .str "make") rfl ?_
      walk_at "rd"
      exact A8 (by decide +kernel) (hF rfl)
  intro f M3 hf hm3 hs3
  rw [ML] at hm3
  have hv := XR ts
  have hvl : (ts.filterMap WA).length ≤ 540 := Nat.le_trans (List.length_filterMap_le _ _) ht2
  generalize ts.filterMap WA = ns at hm3 hv hvl
  have hfM : M f = none := by
    cases e : M f with
    | none => rfl
    | some o => rw [k1 f (by rw [e]; simp), e] at hf; cases hf
  have k3 : ∀ x, M x ≠ none → M3 x = M x := fun x hn => by rw [hs3 x (by rintro rfl; exact hn hfM), k1 x hn]
  walk_at "rd"
  refine A9 (d := .tup (dB r.blk)) rfl ?_
  walk_at "rd"
  refine ⟨P, r.blk, rfl, hok, by lia, by lia, JK fun M4 j1 j2 => ?_⟩
  walk_at "rd"
  have hm4 : M4 f = some (.lst (ns.map D.str)) := by rw [j1 f (by rw [hm3]; simp)]; exact hm3
  have k4 : ∀ x, M x ≠ none → M4 x = M x := fun x hn => by rw [j1 x (by rw [k3 x hn]; exact hn), k3 x hn]
  refine J9 (dsB r.blk) dD (fnd := f) (ini := ns.map D.str) (fun σ => ∃ s2, σ = [some (rD r), some (.ref f), s2]) (fun k acc => ∃ ms : List Str, acc = ms.map D.str ∧ (∀ x, x ∈ ms ↔ (∃ d ∈ dsB r.blk, Ev x d) ∨ ∃ d ∈ (dsB r.blk).take k, Tg x d) ∧ ms.length ≤ 540 + 3 * k) ⟨_, rfl⟩ hm4 ⟨ns, rfl, fun x => by rw [hv, ht1]; simp, by lia⟩ ?_ ?_
  · rintro k d acc σ' M' N hd ⟨s2, rfl⟩ ⟨ms, rfl, h1, h2⟩ hm hs nx
    have hkl : k < (dsB r.blk).length := (List.getElem?_eq_some_iff.mp hd).1
    walk_at "rd"
    refine ⟨.inl ⟨rfl, _, hm⟩, ?_⟩
    walk_at "rd"
    refine ⟨P, d, rfl, AA r.blk hok d (List.mem_of_getElem? hd), fun gs g1 g2 => W6 hm (by simp only [List.length_map, sizeLine_eq]; lia) fun M5 h3 h4 => ?_⟩
    refine nx _ _ M5 ⟨_, rfl⟩ ⟨ms ++ gs, by rw [List.map_append], fun y => ?_, by rw [List.length_append]; lia⟩ h3 h4
    rw [List.mem_append, h1, g1]
    constructor
    · rintro ((h | ⟨e', h1, h2⟩) | h)
      · exact .inl h
      · exact .inr ⟨e', (E1 hd).mpr (.inl h1), h2⟩
      · exact .inr ⟨d, (E1 hd).mpr (.inr rfl), h⟩
    · rintro (h | ⟨e', h1, h2⟩)
      · exact .inl (.inl h)
      · rcases (E1 hd).mp h1 with h1 | rfl
        · exact .inl (.inr ⟨e', h1, h2⟩)
        · exact .inr h2
  · rintro σ' acc M' ⟨s2, rfl⟩ ⟨ms, rfl, h1, h2⟩ hm hs
    rw [List.take_length] at h1
    have hN : ∀ z, z ∈ ms ↔ Nm z r.blk := fun z => by
      rw [h1]
      constructor
      · rintro (⟨d, a, b⟩ | ⟨d, a, b⟩)
        · exact ⟨d, a, .inl b⟩
        · exact ⟨d, a, .inr b⟩
      · rintro ⟨d, a, b | b⟩
        · exact .inl ⟨d, a, b⟩
        · exact .inr ⟨d, a, b⟩
    have hfew : ∀ ys : List Str, ys.Nodup → (∀ z ∈ ys, z ∈ ms) → ys.length ≤ 15 := fun ys n h => Nat.le_trans (PB ys Pool.ps n fun y hy => RD hok ((hN y).mp (h y hy))) hps
    walk_at "rd"
    refine A9 (d := .tup (r.pars.map D.str)) rfl ?_
    walk_at "rd"
    refine ⟨_, ms, rfl, EY hm, by rw [LN]; lia, ?_⟩
    walk_at "rd"
    refine A9 (d := .tup (r.pars.map D.str)) rfl ?_
    walk_at "rd"
    refine ⟨_, r.pars, rfl, rfl, by rw [LN]; lia, hfew, fun ys n h => Nat.lt_of_le_of_lt (hfew ys n fun z hz => (List.mem_filter.mp (h z hz)).1) (by decide), fun ys n so mem => ?_⟩
    walk_at "rd"
    have hy : ys.length ≤ 15 := hfew ys n fun z hz => (List.mem_filter.mp ((mem z).mp hz)).1
    refine KO (by rw [List.length_map, List.length_map, sizeLine_eq]; lia) ?_
    rw [← List.map_append]
    refine View.keep (M := M) (fun x hn => ?_) (q ys n so fun z => ?_)
    · rw [hs x (by rintro rfl; exact hn hfM) (by rw [k4 x hn]; exact hn), k4 x hn]
    · rw [mem z, List.mem_filter, hN]; simp
end K10
open L3
namespace K10
open PySem L2 L3 PK
open PyProof.Rows (sortedS)
theorem YA : ∀ as : Exs, (exL as).flatMap vrE = CF as
  | .nil => by simp [exL, CF]
  | .cons a r => by simp [exL, CF, YA r]
theorem BE8 (e : Ex) (h : OR e = false) : vrE e = (brE e).flatMap vrE := by
  cases e with
  | none => simp [vrE, brE]
  | num n => simp [vrE, brE]
  | var x => cases h
  | op s a b => simp [vrE, brE]
  | make r as => simp [vrE, brE, YA]
theorem AZ : ∀ n ds M Q, G0 n ds M Q → ds.length = 1 := by rintro _ _ _ _ ⟨_, rfl, _⟩; rfl
theorem FC : ∀ ds M Q, ¬ G0 0 ds M Q := by
  rintro _ _ _ ⟨e, rfl, h, _⟩
  have := WD e
  lia
theorem AU {lv : Nat} {e : Ex} {pd : D} {f : Addr} {M M1 : Mem} {Q : DK} (hv : OR e = false) (hdp : dp e ≤ lv + 1) (hnd : nd e ≤ 9) (hpd : pd = .lst ((brE e).map eD) ∨ pd = .tup ((brE e).map eD)) (hf : M f = none) (hm0 : M1 f = some (.lst [])) (hs0 : ∀ x, x ≠ f → M x ≠ none → M1 x = M x) (q : nw M ((vrE e).map D.str) Q) :
    A6 (Q8 (iQ3 (A1 2)) 3 (F1 (R0 "list" V6 (A1 1) (A0 (A7 (G0 lv) (A0 (A1 3) A2)) A2)))) (B8 (A1 1)) { nx := fun _ M' => View Q .non M', rt := View Q } [some (eD e), some (.ref f), some pd, none] M1 := by
  have hlen := F0 e
  rw [BE8 e hv] at hlen q
  have main : ∃ Pv : Nat → Lo → Mem → Prop, Pv 0 [some (eD e), some (.ref f), some pd, none] M1 ∧ (∀ k d σ M, ((brE e).map eD)[k]? = some d → Pv k σ M → (F1 (R0 "list" V6 (A1 1) (A0 (A7 (G0 lv) (A0 (A1 3) A2)) A2))) { ({ nx := fun σ' M' => B8 (A1 1) { nx := fun _ M' => View Q .non M', rt := View Q } σ' M', rt := View Q } : R5) with nx := Pv (k + 1), ct := Pv (k + 1), bk := fun σ' M' => B8 (A1 1) { nx := fun _ M' => View Q .non M', rt := View Q } σ' M' } (σ.set 3 (some d)) M) ∧ ∀ σ M, Pv ((brE e).map eD).length σ M → B8 (A1 1) { nx := fun _ M' => View Q .non M', rt := View Q } σ M := by
    refine J9 (T := { nx := fun σ' M' => B8 (A1 1) { nx := fun _ M' => View Q .non M', rt := View Q } σ' M', rt := View Q }) (brE e) eD (fnd := f) (ini := []) (fun σ => ∃ s3, σ = [some (eD e), some (.ref f), some pd, s3]) (fun k acc => acc = (((brE e).take k).flatMap vrE).map D.str) ⟨_, rfl⟩ hm0 rfl ?_ ?_
    · rintro k b acc σ' M' N hb ⟨s3, rfl⟩ rfl hm hs nx
      obtain ⟨h1, h2⟩ := ZW e b (List.mem_of_getElem? hb)
      have hb2 := F0 b
      have e2 := take_snoc vrE hb
      have e3 := AN (brE e) (k + 1) vrE
      rw [e2, List.length_append] at e3
      walk_at "rd"
      refine ⟨.inl ⟨rfl, _, hm⟩, ?_⟩
      walk_at "rd"
      refine ⟨b, rfl, by lia, by lia, W6 hm (by simp only [List.length_map, sizeLine_eq]; lia) fun M'' h3 h4 => ?_⟩
      exact nx _ _ M'' ⟨_, rfl⟩ (by rw [e2, List.map_append]) h3 h4
    · rintro σ' acc M' ⟨s3, rfl⟩ rfl hm hs
      rw [List.take_length] at hm
      walk_at "rd"
      exact R1 q hf hm fun x hx hn => by rw [hs x hx (by rw [hs0 x hx hn]; exact hn), hs0 x hx hn]
  walk_at "rd"
  rcases hpd with rfl | rfl
  · refine SV ?_
    exact main
  · refine SM ?_
    exact main
theorem JP : ∀ n ds M Q, G0 (n + 1) ds M Q → Q9 (G0 n) { nx := fun _ M' => View Q .non M', rt := View Q } (B5 V8 ds) M := by
  rintro lv _ M Q ⟨e, rfl, hdp, hnd, q⟩
  rw [JO]
  unfold Q9
  have put : ∀ {f : Addr}, M f = none → ∀ x, x ≠ f → M x ≠ none → D4 M f (.lst []) x = M x := fun _ x hx _ => B2 hx
  cases e with
  | none =>
    walk_at "rd"
    refine A9 (d := .str "none") rfl ?_
    walk_at "rd"
    refine A8 (by decide +kernel) ?_
    walk_at "rd"
    intro f hf
    walk_at "rd"
    refine A9 (d := .str "none") rfl ?_
    walk_at "rd"
    refine A8 (by decide +kernel) ?_
    walk_at "rd"
    refine A9 (d := .str "none") rfl ?_
    walk_at "rd"
    refine A8 (by decide +kernel) ?_
    refine Y8 ?_
    exact AU (e := .none) rfl hdp hnd (.inl rfl) hf A5 (put hf) q
  | num n =>
    walk_at "rd"
    refine A9 (d := .str "number") rfl ?_
    walk_at "rd"
    refine A8 (by decide +kernel) ?_
    walk_at "rd"
    intro f hf
    walk_at "rd"
    refine A9 (d := .str "number") rfl ?_
    walk_at "rd"
    refine A8 (by decide +kernel) ?_
    walk_at "rd"
    refine A9 (d := .str "number") rfl ?_
    walk_at "rd"
    refine A8 (by decide +kernel) ?_
    refine Y8 ?_
    exact AU (e := .num n) rfl hdp hnd (.inl rfl) hf A5 (put hf) q
  | op sg a b =>
    walk_at "rd"
    refine A9 (d := .str "op") rfl ?_
    walk_at "rd"
    refine A8 (by decide +kernel) ?_
    walk_at "rd"
    intro f hf
    walk_at "rd"
    refine A9 (d := .str "op") rfl ?_
    walk_at "rd"
    refine C4 (by decide +kernel) ?_
    walk_at "rd"
    refine RM (ds := [.str "op", .str sg, eD a, eD b]) ?_
    rw [show cutD [.str "op", .str sg, eD a, eD b] (some 2) none = [eD a, eD b] from rfl]
    walk_at "rd"
    refine A9 (d := .str "op") rfl ?_
    walk_at "rd"
    refine A8 (by decide +kernel) ?_
    refine Y8 ?_
    exact AU (e := .op sg a b) rfl hdp hnd (.inr rfl) hf A5 (put hf) q
  | make r as =>
    walk_at "rd"
    refine A9 (d := .str "make") rfl ?_
    walk_at "rd"
    refine A8 (by decide +kernel) ?_
    walk_at "rd"
    intro f hf
    walk_at "rd"
    refine A9 (d := .str "make") rfl ?_
    walk_at "rd"
    refine A8 (by decide +kernel) ?_
    walk_at "rd"
    refine A9 (d := .str "make") rfl ?_
    walk_at "rd"
    refine C4 (by decide +kernel) ?_
    walk_at "rd"
    refine A9 (d := .tup (eDs as)) rfl ?_
    rw [JD]
    exact AU (e := .make r as) rfl hdp hnd (.inr rfl) hf A5 (put hf) q
  | var x =>
    walk_at "rd"
    refine A9 (d := .str "var") rfl ?_
    walk_at "rd"
    refine C4 (by decide +kernel) ?_
    walk_at "rd"
    refine A9 (d := .str x) rfl ?_
    walk_at "rd"
    intro f hf
    exact R1 q hf A5 fun y hy _ => B2 hy
end K10
open L3
namespace K10
open PySem L2 L3 PK
open PyProof.Rows (sortedS)
theorem BE0 {M : Mem} {Q : DK} {hd : Str} {x : Str} {e : Ex} (w2 : nd e ≤ 9) (w3 : dp e ≤ 4) (h1 : (["let", "give", "on", "ask", "cast"] : List Str).any (· == hd) = true) (h2 : (["ask", "cast"] : List Str).any (· == hd) = false) (ht : (hd == ("try" : Str)) = false) (h3 : (["note", "close", "end", "if", "while"] : List Str).any (· == hd) = false) (h4 : (["let", "give", "on", "fault"] : List Str).any (· == hd) = true) (q : nw M ((x :: vrE e).map D.str) Q) : B4 { nx := fun _ M' => View Q .non M', rt := View Q } (B5 B9 [.tup (.str hd :: [.str x, eD e])]) M := by
  rw [E4]
  unfold B4
  walk_at "rd"
  refine A9 (d := .str hd) (E9 (j := 0) rfl) ?_
  walk_at "rd"
  intro f hf
  walk_at "rd"
  refine D7 (ys := ["let", "give", "on", "ask", "cast"]) rfl ?_
  walk_at "rd"
  refine C4 (by rw [Bool.false_xor]; exact h1) ?_
  walk_at "rd"
  refine ⟨.inl ⟨rfl, _, A5⟩, ?_⟩
  walk_at "rd"
  refine A9 (d := .str x) rfl ?_
  walk_at "rd"
  refine G5 A5 (by simp [sizeLine_eq]) ?_
  rw [S7]
  walk_at "rd"
  refine D7 (ys := ["ask", "cast"]) rfl ?_
  walk_at "rd"
  refine A8 (by rw [Bool.false_xor]; exact h2) ?_
  walk_at "rd"
  refine A8 ht ?_
  walk_at "rd"
  refine D7 (ys := ["note", "close", "end", "if", "while"]) rfl ?_
  walk_at "rd"
  refine A8 (by rw [Bool.false_xor]; exact h3) ?_
  walk_at "rd"
  refine D7 (ys := ["let", "give", "on", "fault"]) rfl ?_
  walk_at "rd"
  refine C4 (by rw [Bool.false_xor]; exact h4) ?_
  walk_at "rd"
  refine ⟨.inl ⟨rfl, _, A5⟩, ?_⟩
  walk_at "rd"
  refine A9 (d := eD e) rfl ?_
  walk_at "rd"
  refine ⟨e, rfl, by lia, by lia, W6 A5 (by have := F0 e; simp only [List.length_map, List.length_cons, List.length_nil, List.length_append, sizeLine_eq]; lia) fun M1 a1 b1 => ?_⟩
  walk_at "rd"
  refine D7 (ys := ["ask", "cast"]) rfl ?_
  walk_at "rd"
  refine A8 (by rw [Bool.false_xor]; exact h2) ?_
  walk_at "rd"
  exact R1 q hf (by rw [a1]; simp) fun y hy hn => by rw [b1 y hy (by rw [B2 hy]; exact hn), B2 hy]
theorem ZA {M : Mem} {Q : DK} {hd : Str} {e : Ex} {r : List D} (w2 : nd e ≤ 9) (w3 : dp e ≤ 4) (h1 : (["let", "give", "on", "ask", "cast"] : List Str).any (· == hd) = false) (h2 : (["ask", "cast"] : List Str).any (· == hd) = false) (ht : (hd == ("try" : Str)) = false) (h3 : (["note", "close", "end", "if", "while"] : List Str).any (· == hd) = true) (h4 : (["let", "give", "on", "fault"] : List Str).any (· == hd) = false) (q : nw M ((vrE e).map D.str) Q) : B4 { nx := fun _ M' => View Q .non M', rt := View Q } (B5 B9 [.tup (.str hd :: (eD e :: r))]) M := by
  rw [E4]
  unfold B4
  walk_at "rd"
  refine A9 (d := .str hd) (E9 (j := 0) rfl) ?_
  walk_at "rd"
  intro f hf
  walk_at "rd"
  refine D7 (ys := ["let", "give", "on", "ask", "cast"]) rfl ?_
  walk_at "rd"
  refine A8 (by rw [Bool.false_xor]; exact h1) ?_
  walk_at "rd"
  refine D7 (ys := ["ask", "cast"]) rfl ?_
  walk_at "rd"
  refine A8 (by rw [Bool.false_xor]; exact h2) ?_
  walk_at "rd"
  refine A8 ht ?_
  walk_at "rd"
  refine D7 (ys := ["note", "close", "end", "if", "while"]) rfl ?_
  walk_at "rd"
  refine C4 (by rw [Bool.false_xor]; exact h3) ?_
  walk_at "rd"
  refine ⟨.inl ⟨rfl, _, A5⟩, ?_⟩
  walk_at "rd"
  refine A9 (d := eD e) (E9 (j := 1) rfl) ?_
  walk_at "rd"
  refine ⟨e, rfl, by lia, by lia, W6 A5 (by have := F0 e; simp only [List.length_map, List.length_cons, List.length_nil, List.length_append, sizeLine_eq]; lia) fun M1 a1 b1 => ?_⟩
  walk_at "rd"
  refine D7 (ys := ["let", "give", "on", "fault"]) rfl ?_
  walk_at "rd"
  refine A8 (by rw [Bool.false_xor]; exact h4) ?_
  walk_at "rd"
  refine D7 (ys := ["ask", "cast"]) rfl ?_
  walk_at "rd"
  refine A8 (by rw [Bool.false_xor]; exact h2) ?_
  walk_at "rd"
  exact R1 q hf (by rw [a1]; simp) fun y hy hn => by rw [b1 y hy (by rw [B2 hy]; exact hn), B2 hy]
theorem AZ2 {M : Mem} {Q : DK} {hd : Str} {r : List D} (h1 : (["let", "give", "on", "ask", "cast"] : List Str).any (· == hd) = false) (h2 : (["ask", "cast"] : List Str).any (· == hd) = false) (ht : (hd == ("try" : Str)) = false) (h3 : (["note", "close", "end", "if", "while"] : List Str).any (· == hd) = false) (h4 : (["let", "give", "on", "fault"] : List Str).any (· == hd) = false) (q : nw M ((([] : List Str)).map D.str) Q) : B4 { nx := fun _ M' => View Q .non M', rt := View Q } (B5 B9 [.tup (.str hd :: r)]) M := by
  rw [E4]
  unfold B4
  walk_at "rd"
  refine A9 (d := .str hd) (E9 (j := 0) rfl) ?_
  walk_at "rd"
  intro f hf
  walk_at "rd"
  refine D7 (ys := ["let", "give", "on", "ask", "cast"]) rfl ?_
  walk_at "rd"
  refine A8 (by rw [Bool.false_xor]; exact h1) ?_
  walk_at "rd"
  refine D7 (ys := ["ask", "cast"]) rfl ?_
  walk_at "rd"
  refine A8 (by rw [Bool.false_xor]; exact h2) ?_
  walk_at "rd"
  refine A8 ht ?_
  walk_at "rd"
  refine D7 (ys := ["note", "close", "end", "if", "while"]) rfl ?_
  walk_at "rd"
  refine A8 (by rw [Bool.false_xor]; exact h3) ?_
  walk_at "rd"
  refine D7 (ys := ["let", "give", "on", "fault"]) rfl ?_
  walk_at "rd"
  refine A8 (by rw [Bool.false_xor]; exact h4) ?_
  walk_at "rd"
  refine D7 (ys := ["ask", "cast"]) rfl ?_
  walk_at "rd"
  refine A8 (by rw [Bool.false_xor]; exact h2) ?_
  walk_at "rd"
  exact R1 q hf A5 fun y hy hn => B2 hy
theorem BB1 {M : Mem} {Q : DK} {hd : Str} {w : Str} {e : Ex} (w2 : nd e ≤ 9) (w3 : dp e ≤ 4) (h1 : (["let", "give", "on", "ask", "cast"] : List Str).any (· == hd) = false) (h2 : (["ask", "cast"] : List Str).any (· == hd) = false) (ht : (hd == ("try" : Str)) = false) (h3 : (["note", "close", "end", "if", "while"] : List Str).any (· == hd) = false) (h4 : (["let", "give", "on", "fault"] : List Str).any (· == hd) = true) (q : nw M ((vrE e).map D.str) Q) : B4 { nx := fun _ M' => View Q .non M', rt := View Q } (B5 B9 [.tup (.str hd :: [.str w, eD e])]) M := by
  rw [E4]
  unfold B4
  walk_at "rd"
  refine A9 (d := .str hd) (E9 (j := 0) rfl) ?_
  walk_at "rd"
  intro f hf
  walk_at "rd"
  refine D7 (ys := ["let", "give", "on", "ask", "cast"]) rfl ?_
  walk_at "rd"
  refine A8 (by rw [Bool.false_xor]; exact h1) ?_
  walk_at "rd"
  refine D7 (ys := ["ask", "cast"]) rfl ?_
  walk_at "rd"
  refine A8 (by rw [Bool.false_xor]; exact h2) ?_
  walk_at "rd"
  refine A8 ht ?_
  walk_at "rd"
  refine D7 (ys := ["note", "close", "end", "if", "while"]) rfl ?_
  walk_at "rd"
  refine A8 (by rw [Bool.false_xor]; exact h3) ?_
  walk_at "rd"
  refine D7 (ys := ["let", "give", "on", "fault"]) rfl ?_
  walk_at "rd"
  refine C4 (by rw [Bool.false_xor]; exact h4) ?_
  walk_at "rd"
  refine ⟨.inl ⟨rfl, _, A5⟩, ?_⟩
  walk_at "rd"
  refine A9 (d := eD e) rfl ?_
  walk_at "rd"
  refine ⟨e, rfl, by lia, by lia, W6 A5 (by have := F0 e; simp only [List.length_map, List.length_cons, List.length_nil, List.length_append, sizeLine_eq]; lia) fun M1 a1 b1 => ?_⟩
  walk_at "rd"
  refine D7 (ys := ["ask", "cast"]) rfl ?_
  walk_at "rd"
  refine A8 (by rw [Bool.false_xor]; exact h2) ?_
  walk_at "rd"
  exact R1 q hf (by rw [a1]; simp) fun y hy hn => by rw [b1 y hy (by rw [B2 hy]; exact hn), B2 hy]
theorem AP9 {M : Mem} {Q : DK} {hd : Str} {x y : Str} {g e : Ex} {r : List D} (w2 : nd e ≤ 9) (w3 : dp e ≤ 4) (v2 : nd g ≤ 9) (v3 : dp g ≤ 4) (hlast : atI (.str hd :: .str x :: .str y :: eD g :: r) (-1) = some (eD e)) (h1 : (["let", "give", "on", "ask", "cast"] : List Str).any (· == hd) = true) (h2 : (["ask", "cast"] : List Str).any (· == hd) = true) (ht : (hd == ("try" : Str)) = false) (h3 : (["note", "close", "end", "if", "while"] : List Str).any (· == hd) = false) (h4 : (["let", "give", "on", "fault"] : List Str).any (· == hd) = false) (q : nw M ((x :: y :: (vrE g ++ vrE e)).map D.str) Q) : B4 { nx := fun _ M' => View Q .non M', rt := View Q } (B5 B9 [.tup (.str hd :: (.str x :: .str y :: eD g :: r))]) M := by
  rw [E4]
  unfold B4
  walk_at "rd"
  refine A9 (d := .str hd) (E9 (j := 0) rfl) ?_
  walk_at "rd"
  intro f hf
  walk_at "rd"
  refine D7 (ys := ["let", "give", "on", "ask", "cast"]) rfl ?_
  walk_at "rd"
  refine C4 (by rw [Bool.false_xor]; exact h1) ?_
  walk_at "rd"
  refine ⟨.inl ⟨rfl, _, A5⟩, ?_⟩
  walk_at "rd"
  refine A9 (d := .str x) (E9 (j := 1) rfl) ?_
  walk_at "rd"
  refine G5 A5 (by simp [sizeLine_eq]) ?_
  rw [S7]
  walk_at "rd"
  refine D7 (ys := ["ask", "cast"]) rfl ?_
  walk_at "rd"
  refine C4 (by rw [Bool.false_xor]; exact h2) ?_
  walk_at "rd"
  refine ⟨.inl ⟨rfl, _, A5⟩, ?_⟩
  walk_at "rd"
  refine A9 (d := .str y) (E9 (j := 2) rfl) ?_
  walk_at "rd"
  refine G5 A5 (by simp [sizeLine_eq]) ?_
  rw [S7]
  walk_at "rd"
  refine A8 ht ?_
  walk_at "rd"
  refine D7 (ys := ["note", "close", "end", "if", "while"]) rfl ?_
  walk_at "rd"
  refine A8 (by rw [Bool.false_xor]; exact h3) ?_
  walk_at "rd"
  refine D7 (ys := ["let", "give", "on", "fault"]) rfl ?_
  walk_at "rd"
  refine A8 (by rw [Bool.false_xor]; exact h4) ?_
  walk_at "rd"
  refine D7 (ys := ["ask", "cast"]) rfl ?_
  walk_at "rd"
  refine C4 (by rw [Bool.false_xor]; exact h2) ?_
  walk_at "rd"
  refine ⟨.inl ⟨rfl, _, A5⟩, ?_⟩
  walk_at "rd"
  refine A9 (d := eD g) (E9 (j := 3) rfl) ?_
  walk_at "rd"
  have hg := F0 g
  have he := F0 e
  refine ⟨g, rfl, by lia, by lia, fun a M1 ha ham has => ?_⟩
  walk_at "rd"
  refine A9 (d := eD e) hlast ?_
  walk_at "rd"
  refine ⟨e, rfl, by lia, by lia, fun b M2 hb hbm hbs => ?_⟩
  have haf : f ≠ a := by rintro rfl; rw [A5] at ha; cases ha
  have hab : a ≠ b := by rintro rfl; rw [hb] at ham; cases ham
  have hfb : f ≠ b := by rintro rfl; rw [has f haf, A5] at hb; cases hb
  walk_at "rd"
  refine AF5 (.inr ⟨a, rfl, by rw [hbs a hab]; exact ham⟩) (.inr ⟨b, rfl, hbm⟩) (by simp only [List.length_map, sizeLine_eq]; lia) fun c hc => ?_
  have hfc : f ≠ c := by rintro rfl; rw [hbs f hfb, has f haf, A5] at hc; cases hc
  walk_at "rd"
  refine ⟨f, c, _, _, rfl, rfl, by rw [B2 hfc, hbs f hfb, has f haf, A5], A5, by simp only [List.length_map, List.length_append, List.length_cons, List.length_nil, sizeLine_eq]; lia, ?_⟩
  walk_at "rd"
  refine R1 q hf (by rw [A5]; simp) fun z hz hn => ?_
  have hM : D4 M f (.lst [.str x, .str y]) z = M z := B2 hz
  have hza : z ≠ a := by rintro rfl; have ha' := ha; rw [B2 hz] at ha'; exact hn ha'
  have hzb : z ≠ b := by rintro rfl; rw [has z hza, B2 hz] at hb; exact hn hb
  have hzc : z ≠ c := by rintro rfl; rw [hbs z hzb, has z hza, B2 hz] at hc; exact hn hc
  rw [B2 hz, B2 hzc, hbs z hzb, has z hza, B2 hz]
theorem BH1 {M : Mem} {Q : DK} {cs : List (Str × Str)} {t0 t2 : D} {ts : List D} (hc : cs.length ≤ 3) (hl : cs.length ≤ ts.length) (q : nw M ((cs.map Prod.snd).map D.str) Q) : B4 { nx := fun _ M' => View Q .non M', rt := View Q } (B5 B9 [.tup [.str "try", t0, .tup (E6 cs ts), t2]]) M := by
  rw [E4]
  unfold B4
  walk_at "rd"
  refine A9 (d := .str "try") rfl ?_
  walk_at "rd"
  intro f hf
  walk_at "rd"
  refine D7 (ys := ["let", "give", "on", "ask", "cast"]) rfl ?_
  walk_at "rd"
  refine A8 (by decide +kernel) ?_
  walk_at "rd"
  refine D7 (ys := ["ask", "cast"]) rfl ?_
  walk_at "rd"
  refine A8 (by decide +kernel) ?_
  walk_at "rd"
  refine C4 (by decide +kernel) ?_
  walk_at "rd"
  refine A9 (d := .tup (E6 cs ts)) rfl ?_
  walk_at "rd"
  have hcl := BX cs ts
  have e1 : E6 cs ts = (E6 cs ts).map id := by simp
  rw [e1]
  refine W0 (E6 cs ts) id EZ (fun _ => true) (by rw [sizeLine_eq]; lia) ?_ ?_
  · intro a ha M2 R F _ hR _
    obtain ⟨w, x, t, rfl⟩ := CP cs _ a ha
    walk_at "rd"
    exact A9 (d := .str x) rfl (hR rfl)
  · intro p M' h3 h4 h5
    rw [List.filter_eq_self.mpr (fun _ _ => rfl), BG cs _ hl] at h4
    have e2 : (cs.map fun c => D.str c.2) = (cs.map Prod.snd).map D.str := by rw [List.map_map]; rfl
    rw [e2] at h4
    have hpf : p ≠ f := by rintro rfl; rw [A5] at h3; cases h3
    refine R1 q (by rw [B2 hpf] at h3; exact h3) h4 fun z hz hn => ?_
    by_cases hzf : z = f
    · subst hzf; exact absurd hf hn
    · rw [h5 z hz, B2 hzf]
theorem BO : ∀ ds M Q, FN ds M Q → ds.length = 1 := by rintro _ _ _ ⟨_, _, rfl, _⟩; rfl
theorem CL : ∀ ds M Q, FN ds M Q → B4 { nx := fun _ M' => View Q .non M', rt := View Q } (B5 B9 ds) M := by
  rintro _ M Q ⟨P, d, rfl, hk, q⟩
  obtain ⟨h, bs⟩ := d
  have hl := BQ bs
  obtain ⟨hk, _⟩ := hk
  cases h with
  | leaf h r =>
    obtain ⟨h0, hlf⟩ := hk
    cases bs with
    | cons b r => exact absurd h0 (Nat.succ_ne_zero _)
    | nil =>
    show B4 _ (B5 B9 [.tup (.str h :: r)]) M
    rcases hlf with ⟨h1, x, e, rfl, hx, he⟩ | ⟨h1, e, rfl, he⟩ | ⟨h1, x, y, g, e, rfl, hx, hy, hg, he⟩ | ⟨h1, x, y, g, w, e, rfl, hx, hy, hw, hg, he⟩ | ⟨h1, rfl⟩ | ⟨h1, w, e, rfl, hw, he⟩
    · obtain ⟨e, rfl, w1, w2, w3⟩ := he
      have hv := F0 e
      rcases h1 with rfl | rfl | rfl
      all_goals
        refine BE0 w2 w3 (by decide +kernel) (by decide +kernel) (by decide +kernel) (by decide +kernel) (by decide +kernel) (q _ (fun z => ?_) (by rw [List.length_cons]; lia))
        rw [← L6 (es := [e]) (fun e' => by simp [G6, V4]), ← ZJ (x := x) (by decide +kernel) (by decide +kernel)]
        simp [or_comm]
    · obtain ⟨e, rfl, w1, w2, w3⟩ := he
      have hv := F0 e
      rcases h1 with rfl | rfl | rfl
      all_goals
        refine ZA w2 w3 (by decide +kernel) (by decide +kernel) (by decide +kernel) (by decide +kernel) (by decide +kernel) (q _ (fun z => ?_) (by lia))
        rw [← L6 (es := [e]) (fun e' => by simp [G6, V4]), ← AQ (by decide +kernel) (by decide +kernel)]
        simp
    · obtain ⟨e, rfl, w1, w2, w3⟩ := he
      obtain ⟨g, rfl, v1, v2, v3⟩ := hg
      have hv := F0 e
      have hu := F0 g
      subst h1
      refine AP9 w2 w3 v2 v3 rfl (by decide +kernel) (by decide +kernel) (by decide +kernel) (by decide +kernel) (by decide +kernel) (q _ (fun z => ?_) (by rw [List.length_cons, List.length_cons, List.length_append]; lia))
      rw [← L6 (es := [g, e]) (fun e' => by simp [G6, V4]), ← KZ (x := x) (y := y) (by decide +kernel) (by decide +kernel)]
      simp only [List.mem_cons, List.not_mem_nil, or_false, List.mem_append]
      constructor
      · rintro (h | h | h | h)
        · exact .inr (.inl h)
        · exact .inr (.inr h)
        · exact .inl ⟨g, .inl rfl, h⟩
        · exact .inl ⟨e, .inr rfl, h⟩
      · rintro (⟨e', rfl | rfl, h⟩ | h | h)
        · exact .inr (.inr (.inl h))
        · exact .inr (.inr (.inr h))
        · exact .inl h
        · exact .inr (.inl h)
    · obtain ⟨e, rfl, w1, w2, w3⟩ := he
      obtain ⟨g, rfl, v1, v2, v3⟩ := hg
      have hv := F0 e
      have hu := F0 g
      subst h1
      refine AP9 w2 w3 v2 v3 rfl (by decide +kernel) (by decide +kernel) (by decide +kernel) (by decide +kernel) (by decide +kernel) (q _ (fun z => ?_) (by rw [List.length_cons, List.length_cons, List.length_append]; lia))
      rw [← L6 (es := [g, e]) (fun e' => by simp [G6, V4]), ← KZ (x := x) (y := y) (by decide +kernel) (by decide +kernel)]
      simp only [List.mem_cons, List.not_mem_nil, or_false, List.mem_append]
      constructor
      · rintro (h | h | h | h)
        · exact .inr (.inl h)
        · exact .inr (.inr h)
        · exact .inl ⟨g, .inl rfl, h⟩
        · exact .inl ⟨e, .inr rfl, h⟩
      · rintro (⟨e', rfl | rfl, h⟩ | h | h)
        · exact .inr (.inr (.inl h))
        · exact .inr (.inr (.inr h))
        · exact .inl h
        · exact .inr (.inl h)
    · subst h1
      refine AZ2 (by decide +kernel) (by decide +kernel) (by decide +kernel) (by decide +kernel) (by decide +kernel) (q _ (fun z => ?_) (by simp))
      rw [← L6 (es := []) (fun e' => by simp), ← AQ (by decide +kernel) (by decide +kernel)]
      simp
    · obtain ⟨e, rfl, w1, w2, w3⟩ := he
      have hv := F0 e
      subst h1
      refine BB1 w2 w3 (by decide +kernel) (by decide +kernel) (by decide +kernel) (by decide +kernel) (by decide +kernel) (q _ (fun z => ?_) (by lia))
      rw [← L6 (es := [e]) (fun e' => by simp [G6, V4]), ← AQ (by decide +kernel) (by decide +kernel)]
      simp
  | ife d =>
    obtain ⟨h0, e, rfl, w1, w2, w3⟩ := hk
    have hv := F0 e
    show B4 _ (B5 B9 [.tup (.str "if" :: eD e :: dTs bs)]) M
    refine ZA w2 w3 (by decide +kernel) (by decide +kernel) (by decide +kernel) (by decide +kernel) (by decide +kernel) (q _ (fun z => ?_) (by lia))
    show _ ↔ (∃ e', eD e = eD e' ∧ z ∈ vrE e') ∨ False
    simp [V4]
  | whl d =>
    obtain ⟨h0, e, rfl, w1, w2, w3⟩ := hk
    have hv := F0 e
    show B4 _ (B5 B9 [.tup (.str "while" :: eD e :: dTs bs)]) M
    refine ZA w2 w3 (by decide +kernel) (by decide +kernel) (by decide +kernel) (by decide +kernel) (by decide +kernel) (q _ (fun z => ?_) (by lia))
    show _ ↔ (∃ e', eD e = eD e' ∧ z ∈ vrE e') ∨ False
    simp [V4]
  | tr cs =>
    obtain ⟨h0, h1, h2⟩ := hk
    show B4 _ (B5 B9 [.tup [.str "try", (dTs bs).getD 0 (.tup []), .tup (E6 cs (dTs bs).tail), (dTs bs).getD (cs.length + 1) (.tup [])]]) M
    refine BH1 h1 (by rw [List.length_tail, hl]; lia) (q _ (fun z => ?_) (by rw [List.length_map]; lia))
    show _ ↔ False ∨ ∃ w, (w, z) ∈ cs
    simp
end K10
open L3
namespace K10
open PySem L2 L3 PK
open PyProof.Rows (sortedS)
theorem U0 : ∀ n ds M Q, AG n ds M Q → ds.length = 1 := by rintro _ _ _ _ ⟨_, _, rfl, _⟩; rfl
theorem AY : ∀ ds M Q, ¬ AG 0 ds M Q := by
  rintro _ _ _ ⟨_, _, rfl, _, h, _⟩
  lia
def Nl (x : Str) (l : List Deed) : Prop := ∃ d ∈ l, Ev x d ∨ Tg x d
theorem nl_app {x : Str} {a b : List Deed} : Nl x (a ++ b) ↔ Nl x a ∨ Nl x b := by
  constructor
  · rintro ⟨d, h1, h2⟩
    rcases List.mem_append.mp h1 with h | h
    · exact .inl ⟨d, h, h2⟩
    · exact .inr ⟨d, h, h2⟩
  · rintro (⟨d, h1, h2⟩ | ⟨d, h1, h2⟩)
    · exact ⟨d, List.mem_append_left _ h1, h2⟩
    · exact ⟨d, List.mem_append_right _ h1, h2⟩
theorem AV8 {x : Str} {d : Deed} : Nl x [d] ↔ Ev x d ∨ Tg x d := by
  unfold Nl
  simp
theorem BZ : ∀ n ds M Q, AG (n + 1) ds M Q → G1 (AG n) { nx := fun _ M' => View Q .non M', rt := View Q } (B5 K0 ds) M := by
  rintro lv _ M Q ⟨P, b, rfl, hok, hdp, hcnt, q⟩
  rw [CS]
  unfold G1
  walk_at "rd"
  intro f hf
  walk_at "rd"
  have hlen := W3 b
  have hNm : ∀ x, Nm x b ↔ Nl x ((toL b).flatMap dsD) := fun x => by rw [← JZ]; exact Iff.rfl
  rw [JZ] at hlen
  rw [SI]
  refine J9 (toL b) dD (fnd := f) (ini := []) (fun σ => ∃ s2 s3, σ = [some (.tup ((toL b).map dD)), some (.ref f), s2, s3]) (fun k acc => ∃ ns : List Str, acc = ns.map D.str ∧ (∀ x, x ∈ ns ↔ Nl x (((toL b).take k).flatMap dsD)) ∧ ns.length ≤ 20 * (((toL b).take k).flatMap dsD).length) ⟨_, _, rfl⟩ A5 ⟨[], rfl, fun x => by simp [Nl], by simp⟩ ?_ ?_
  · rintro k d acc σ' M' N hd ⟨s2, s3, rfl⟩ ⟨ns, rfl, n1, n2⟩ hm hs nx
    obtain ⟨c1, c2, c3⟩ := CN b d (List.mem_of_getElem? hd)
    have e2 := take_snoc dsD hd
    have e3 := AN (toL b) (k + 1) dsD
    rw [e2, List.length_append] at e3
    obtain ⟨h, bs⟩ := d
    have hokd := c3 hok
    have ed : dsD (.mk h bs) = .mk h bs :: (L0 bs).flatMap dsB := by rw [dsD, KY]
    have hcD : G8 (.mk h bs) = 1 + G3 bs := rfl
    have hdD : dpD (.mk h bs) = Z5 bs := rfl
    rw [ed, List.length_cons] at e3
    walk_at "rd"
    refine ⟨.inl ⟨rfl, _, hm⟩, ?_⟩
    walk_at "rd"
    refine ⟨P, .mk h bs, rfl, hokd, fun gs g1 g2 => W6 hm (by simp only [List.length_map, sizeLine_eq]; lia) fun M1 a1 b1 => ?_⟩
    walk_at "rd"
    refine ⟨P, h, bs, rfl, hokd.1, ?_⟩
    walk_at "rd"
    rw [CY]
    refine J9 (L0 bs) tB (fnd := f) (ini := ns.map D.str ++ gs.map D.str) (fun σ => ∃ s3, σ = [some (.tup ((toL b).map dD)), some (.ref f), some (dD (.mk h bs)), s3]) (fun j acc => ∃ ms : List Str, acc = ms.map D.str ∧ (∀ x, x ∈ ms ↔ Nl x (((toL b).take k).flatMap dsD ++ (.mk h bs :: ((L0 bs).take j).flatMap dsB))) ∧ ms.length ≤ 20 * ((((toL b).take k).flatMap dsD).length + 1 + (((L0 bs).take j).flatMap dsB).length)) ⟨_, rfl⟩ a1 ⟨ns ++ gs, by rw [List.map_append], fun x => ?_, ?_⟩ ?_ ?_
    · rw [List.mem_append, n1, g1, nl_app, List.take_zero, List.flatMap_nil, AV8]
    · rw [List.length_append, List.take_zero, List.flatMap_nil, List.length_nil]; lia
    · rintro j c acc σ2 M2 N2 hc ⟨s3, rfl⟩ ⟨ms, rfl, m1, m2⟩ hm2 hs2 nx2
      obtain ⟨c4, c5, c6⟩ := W9 bs c (List.mem_of_getElem? hc)
      have f2 := take_snoc dsB hc
      have f3 := AN (L0 bs) (j + 1) dsB
      have f4 := W3 c
      rw [f2, List.length_append] at f3
      walk_at "rd"
      refine ⟨.inl ⟨rfl, _, hm2⟩, ?_⟩
      walk_at "rd"
      refine ⟨P, c, rfl, c6 hokd.2, by lia, by lia, fun us u1 u2 => W6 hm2 (by simp only [List.length_map, sizeLine_eq]; lia) fun M'' h3 h4 => ?_⟩
      refine nx2 _ _ M'' ⟨_, rfl⟩ ⟨ms ++ us, by rw [List.map_append], fun x => ?_, ?_⟩ h3 h4
      · rw [List.mem_append, m1, u1, f2, ← List.cons_append, ← List.append_assoc]
        exact nl_app.symm
      · rw [f2, List.length_append, List.length_append]; lia
    · rintro σ2 acc M2 ⟨s3, rfl⟩ ⟨ms, rfl, m1, m2⟩ hm2 hs2
      rw [List.take_length, ← ed, ← e2] at m1
      rw [List.take_length] at m2
      refine nx _ _ M2 ⟨_, _, rfl⟩ ⟨ms, rfl, m1, ?_⟩ hm2 fun x hx hn => by rw [hs2 x hx (by rw [b1 x hx hn]; exact hn), b1 x hx hn]
      rw [e2, List.length_append, ed, List.length_cons]; lia
  · rintro σ' acc M' ⟨s2, s3, rfl⟩ ⟨ns, rfl, n1, n2⟩ hm hs
    rw [List.take_length] at n1 n2
    walk_at "rd"
    exact R1 (q ns (fun x => by rw [n1, hNm]) (by lia)) hf hm fun x hx hn => by rw [hs x hx (by rw [B2 hx]; exact hn), B2 hx]
theorem BV {ds : List D} {M : Mem} {Q : DK} (h : PH (.tup ds)) (q : Q (.str (pyD (.tup ds)).shown) M) : AR [.tup ds] M Q := ⟨h, q⟩
theorem BI8 [Pool] {x : Str} {b : Blk} (hk : okB b) (h : Nm x b) : nm x := by
  obtain ⟨d, hd, h⟩ := h
  rcases h with h | h
  · exact (AO9 (AA b hk d hd) h).1
  · exact (AQ7 (AA b hk d hd) h).1
theorem AI5 : ∀ ds M Q, L3.DD ds M Q → ds.length = 1 := by rintro _ _ _ ⟨_, rfl, _⟩; rfl
theorem AU8 : ∀ ds M Q, L3.DD ds M Q → NW { nx := fun _ M' => View Q .non M', rt := View Q } (B5 TK ds) M := by
  rintro _ M Q ⟨ns, rfl, hl, hM, q⟩
  rw [AY2]
  unfold NW
  walk_at "rd"
  refine ⟨ns, rfl, hl, fun p M0 _ hP0 _ => ?_⟩
  walk_at "rd"
  refine draw hP0 (by lia) (by decide) (by decide) fun w M1 w0 w1 hP1 _ => ?_
  walk_at "rd"
  obtain ⟨deeds, hdd, hd1, hd2⟩ : ∃ deeds : Nat, atI [D.int 8, D.int 30] (if (w == 5) = true then 1 else 0) = some (.int (deeds : Nat)) ∧ 1 ≤ deeds ∧ deeds ≤ 30 := by
    cases (w == 5)
    · exact ⟨8, rfl, by decide, by decide⟩
    · exact ⟨30, rfl, by decide, by decide⟩
  refine G2 hdd ?_
  walk_at "rd"
  refine ⟨p, _, 3, deeds, rfl, hP1, by lia, ⟨by lia, by lia⟩, ⟨hd1, hd2⟩, fun bk M2 hbl hbk _ _ => ?_⟩
  have hsm := TN bk hbk
  have hmul : (2600 * deeds + 101) * bk.length ≤ (2600 * 30 + 101) * 3 := Nat.mul_le_mul (by lia) (by lia)
  have hsh : PH (.tup (bk.map rD)) := (Sm.tup (m := 29) hsm).show (hw := by lia)
  walk_at "rd"
  refine BV hsh ?_
  walk_at "rd"
  refine KO (by rw [List.length_map, sizeLine_eq]; lia) ?_
  walk_at "rd"
  refine ⟨fun _ σ _ => ∃ s5 s6, σ = [some (.lst (ns.map D.int)), some (.ref p), some (.int (deeds : Nat)), some (.tup (bk.map rD)), some (.str (pyD (.tup (bk.map rD))).shown), s5, s6], ⟨_, _, rfl⟩, ?_, ?_⟩
  · rintro k d σ M3 hd ⟨s5, s6, rfl⟩
    obtain ⟨r, hr, rfl⟩ : ∃ r, r ∈ bk ∧ rD r = d := by
      rcases List.mem_append.mp (List.mem_of_getElem? hd) with z | z
      · exact List.mem_map.mp z
      · exact List.mem_map.mp z
    obtain ⟨h1, h2, h3, ⟨P, hps, h4⟩, h5, h6, h7⟩ := hbk r hr
    walk_at "rd"
    refine A9 (d := .tup (dB r.blk)) rfl ?_
    walk_at "rd"
    refine ⟨P, r.blk, rfl, h4, by lia, by lia, fun as a1 a2 a M4 ha hM4 hs4 => ?_⟩
    have hfew : ∀ ys : List Str, ys.Nodup → (∀ z ∈ ys, z ∈ as) → ys.length ≤ 15 := fun ys n h => Nat.le_trans (PB ys Pool.ps n fun y hy => RD h4 ((a1 y).mp (h y hy))) hps
    walk_at "rd"
    refine ⟨_, as, rfl, EY hM4, by rw [LN]; lia, fun ys n h => Nat.lt_of_le_of_lt (hfew ys n h) (by decide), fun zs zn zo zm => ?_⟩
    have hz : zs.length ≤ 15 := hfew zs zn fun z hz => (zm z).mp hz
    walk_at "rd"
    refine PM zs D.str D.str (fun z => !r.pars.any (· == z)) (by rw [sizeLine_eq]; lia) ?_ ?_
    · intro z hz M5 R F _ hR hF
      walk_at "rd"
      refine A9 (d := .tup (r.pars.map D.str)) rfl ?_
      walk_at "rd"
      refine D7 (ys := r.pars) rfl ?_
      walk_at "rd"
      rw [Bool.true_xor]
      cases e : (!r.pars.any (· == z)) with
      | true => exact J7 (DE rfl (hR e))
      | false => exact V3 (hF e)
    walk_at "rd"
    refine ⟨P, r, rfl, h4, h7, by lia, hps, h2, fun ys yn yo ym => ?_⟩
    have hyz : ys = zs.filter fun z => !r.pars.any (· == z) := by
      refine TSt.HU (TSt.IZ yo) (TSt.HQ _ zo) yn (zn.filter _) fun z => ?_
      rw [ym, List.mem_filter, zm, a1]
      simp only [Bool.not_eq_true', List.any_eq_false, beq_iff_eq]
      constructor
      · rintro ⟨x1, x2⟩
        exact ⟨x1, fun y hy e => x2 (e ▸ hy)⟩
      · rintro ⟨x1, x2⟩
        exact ⟨x1, fun hz => x2 z hz rfl⟩
    have hyl : ys.length ≤ 15 := by rw [hyz]; exact Nat.le_trans (List.length_filter_le _ _) hz
    have hsh2 : PH (.tup ((r.pars ++ ys).map D.str)) := by
      have hn : ∀ y ∈ r.pars ++ ys, nm y := fun y hy => by
        rcases List.mem_append.mp hy with h | h
        · exact h3 y h
        · exact BI8 h4 ((ym y).mp h).1
      exact (Sm.tup (m := 1) (QK (r.pars ++ ys) hn)).show (hw := by rw [List.length_append]; lia)
    walk_at "rd"
    refine BV hsh2 ?_
    walk_at "rd"
    refine A9 (d := .tup (r.pars.map D.str)) rfl ?_
    walk_at "rd"
    rw [← hyz]
    refine KO (by rw [List.length_map, List.length_map, sizeLine_eq]; lia) ?_
    rw [← List.map_append]
    walk_at "rd"
    refine BV hsh2 ?_
    walk_at "rd"
    rw [beq_self_eq_true]
    walk_at "rd"
    exact ⟨_, _, rfl⟩
  · rintro σ M3 ⟨s5, s6, rfl⟩
    walk_at "rd"
    refine BV hsh ?_
    walk_at "rd"
    rw [beq_self_eq_true]
    exact View.of (q _)
end K10
namespace K10
open PySem PySem.Spec PyProof.Rows L2 L3
open L3 renaming AO2 → zA, AK3 → zB, AJ4 → zC, UV → zD, YU → zE, XF → zF, SF → zG, AW7 → zH, AI0 → zI, AG7 → zJ, AR7 → zK, AK7 → zL, YT → zM, UP → zN, AR9 → zO, AM9 → zP, AW9 → zQ, AI3 → zR, AB6 → zS, VZ → zT, AR0 → zU, PJ → zV, BA4 → zW, AX4 → zX, AB9 → zY, XW → zZ, AM2 → yA, VT → yB, UI → yC, ZL → yD, AE5 → yE, AU9 → yF, PV → yG, BC5 → yH, XQ → yI, UD → yJ, ZU → yK, BD8 → yL, TX → yM, BC4 → yN, AL8 → yO, AX0 → yP, AY3 → yQ, AE1 → yR, BB9 → yS, ZZ → yT, AV1 → yU, AA8 → yV, BI0 → yW, TU → yX, AN5 → yY, AK5 → yZ, XO → wA, AA5 → wB, AA3 → wC, YI → wD, AT0 → wE
def top (i : Nat) : Stmt := PySem.Challenge.pw_handedon_k10_variables_of_rules.main.body.getD i (.Pass ⟨0, 0, 0, 0⟩)
structure Blt (mg : Str → Option Value) : Prop where
  abs_ : mg "abs" = none
  int_ : mg "int" = none
  len_ : mg "len" = none
  list_ : mg "list" = none
  min_ : mg "min" = none
  range_ : mg "range" = none
  repr_ : mg "repr" = none
  set_ : mg "set" = none
  sorted_ : mg "sorted" = none
  sum_ : mg "sum" = none
  tuple_ : mg "tuple" = none
  zip_ : mg "zip" = none
structure Cst (K : PySem.W.Frag) (P : Params) (mg : Str → Option Value) : Prop where
  SHAPES_ : ∃ a, mg "SHAPES" = some (.ref a) ∧ AO0 K P a tblS
section
variable {P : Program} {w : World} {K : PySem.W.Frag} {mg : Str → Option Value} {base : Heap}
section
variable (P : Program) (w : World) (K : PySem.W.Frag) (mg : Str → Option Value) (base : Heap) (r : Nat) (f : Addr) (fd : FuncData) (sp : Sp3)
abbrev s0x : Stmt := top 2
abbrev T0x := FnAt K mg "parts_of" s0x ["deed", "kind"] f fd
abbrev U0x := G4 P w K mg base CX0 r f fd ["deed", "kind"] (J8 K sp)
abbrev s1x : Stmt := top 3
abbrev T1x := FnAt K mg "blocks_of" s1x ["deed"] f fd
abbrev U1x := G4 P w K mg base CX0 r f fd ["deed"] (J8 K sp)
abbrev s2x : Stmt := top 4
abbrev T2x := FnAt K mg "deeds_of" s2x ["block"] f fd
abbrev U2x := G4 P w K mg base CX0 r f fd ["block"] (J8 K sp)
abbrev s3x : Stmt := top 5
abbrev T3x := FnAt K mg "names_given" s3x ["deed"] f fd
abbrev U3x := G4 P w K mg base CX0 r f fd ["deed"] (J8 K sp)
abbrev s4x : Stmt := top 6
abbrev T4x := FnAt K mg "branches_of" s4x ["expression"] f fd
abbrev U4x := G4 P w K mg base CX0 r f fd ["expression"] (J8 K sp)
abbrev s5x : Stmt := top 7
abbrev T5x := FnAt K mg "trees_of" s5x ["expression"] f fd
abbrev U5x := G4 P w K mg base CX0 r f fd ["expression"] (J8 K sp)
abbrev s6x : Stmt := top 8
abbrev T6x := FnAt K mg "trees_in" s6x ["rule"] f fd
abbrev U6x := G4 P w K mg base CX0 r f fd ["rule"] (J8 K sp)
abbrev s7x : Stmt := top 10
abbrev T7x := FnAt K mg "variables" s7x ["rule"] f fd
abbrev U7x := G4 P w K mg base CX0 r f fd ["rule"] (J8 K sp)
abbrev s8x : Stmt := top 12
abbrev T8x := FnAt K mg "_law_pen" s8x ["_law_script"] f fd
abbrev U8x := G4 P w K mg base CX0 r f fd ["_law_script"] (J8 K sp)
abbrev s9x : Stmt := top 13
abbrev T9x := FnAt K mg "_law_draw" s9x ["_law_pen_here", "_law_many"] f fd
abbrev U9x := G4 P w K mg base CX0 r f fd ["_law_pen_here", "_law_many"] (J8 K sp)
abbrev MB : Stmt := top 14
abbrev XU := FnAt K mg "_law_letters" MB ["_law_pen_here", "_law_size"] f fd
abbrev WS := G4 P w K mg base CX0 r f fd ["_law_pen_here", "_law_size"] (J8 K sp)
abbrev MG : Stmt := top 15
abbrev WR := FnAt K mg "_law_fresh" MG ["_law_pen_here", "_law_taken"] f fd
abbrev ZP := G4 P w K mg base CX0 r f fd ["_law_pen_here", "_law_taken"] (J8 K sp)
abbrev LJ : Stmt := top 16
abbrev AX3 := FnAt K mg "_law_names" LJ ["_law_pen_here", "_law_many"] f fd
abbrev AT8 := G4 P w K mg base CX0 r f fd ["_law_pen_here", "_law_many"] (J8 K sp)
abbrev KQ : Stmt := top 17
abbrev UY := FnAt K mg "_law_word" KQ ["_law_pen_here"] f fd
abbrev VL := G4 P w K mg base CX0 r f fd ["_law_pen_here"] (J8 K sp)
abbrev JQ : Stmt := top 18
abbrev AG0 := FnAt K mg "_law_leaf" JQ ["_law_pen_here", "_law_env"] f fd
abbrev AM5 := G4 P w K mg base CX0 r f fd ["_law_pen_here", "_law_env"] (J8 K sp)
abbrev KR : Stmt := top 19
abbrev KC := FnAt K mg "_law_expression" KR ["_law_pen_here", "_law_env", "_law_room", "_law_deep"] f fd
abbrev JN := G4 P w K mg base CX0 r f fd ["_law_pen_here", "_law_env", "_law_room", "_law_deep"] (J8 K sp)
abbrev LK : Stmt := top 20
abbrev AG8 := FnAt K mg "_law_simple" LK ["_law_pen_here", "_law_env", "_law_in_while"] f fd
abbrev AI6 := G4 P w K mg base CX0 r f fd ["_law_pen_here", "_law_env", "_law_in_while"] (J8 K sp)
abbrev MD : Stmt := top 21
abbrev PO := FnAt K mg "_law_inner" MD ["_law_deed_here"] f fd
abbrev OZ := G4 P w K mg base CX0 r f fd ["_law_deed_here"] (J8 K sp)
abbrev LP : Stmt := top 22
abbrev PD := FnAt K mg "_law_count" LP ["_law_block_here"] f fd
abbrev QN := G4 P w K mg base CX0 r f fd ["_law_block_here"] (J8 K sp)
abbrev JE : Stmt := top 23
abbrev MT := FnAt K mg "_law_try" JE ["_law_pen_here", "_law_env", "_law_deep", "_law_in_while", "_law_left"] f fd
abbrev OO := G4 P w K mg base CX0 r f fd ["_law_pen_here", "_law_env", "_law_deep", "_law_in_while", "_law_left"] (J8 K sp)
abbrev KS : Stmt := top 24
abbrev MM := FnAt K mg "_law_deed" KS ["_law_pen_here", "_law_env", "_law_deep", "_law_in_while", "_law_left"] f fd
abbrev OP := G4 P w K mg base CX0 r f fd ["_law_pen_here", "_law_env", "_law_deep", "_law_in_while", "_law_left"] (J8 K sp)
abbrev KN : Stmt := top 25
abbrev GJ := FnAt K mg "_law_block" KN ["_law_pen_here", "_law_env", "_law_deep", "_law_in_while", "_law_left"] f fd
abbrev GQ := G4 P w K mg base CX0 r f fd ["_law_pen_here", "_law_env", "_law_deep", "_law_in_while", "_law_left"] (J8 K sp)
abbrev JI : Stmt := top 26
abbrev AY8 := FnAt K mg "_law_book" JI ["_law_pen_here", "_law_rules", "_law_deeds"] f fd
abbrev AS5 := G4 P w K mg base CX0 r f fd ["_law_pen_here", "_law_rules", "_law_deeds"] (J8 K sp)
abbrev KU : Stmt := top 27
abbrev UO := FnAt K mg "_law_vars" KU ["_law_expression_here"] f fd
abbrev UL := G4 P w K mg base CX0 r f fd ["_law_expression_here"] (J8 K sp)
abbrev LE : Stmt := top 28
abbrev AK4 := FnAt K mg "_law_own_names" LE ["_law_deed_here"] f fd
abbrev AK6 := G4 P w K mg base CX0 r f fd ["_law_deed_here"] (J8 K sp)
abbrev LH : Stmt := top 29
abbrev UM := FnAt K mg "_law_all_names" LH ["_law_block_here"] f fd
abbrev VS := G4 P w K mg base CX0 r f fd ["_law_block_here"] (J8 K sp)
abbrev DU : Stmt := top 30
abbrev BM3 := FnAt K mg "law" DU ["_law_script"] f fd
abbrev BL7 := G4 P w K mg base CX0 r f fd ["_law_script"] (J8 K sp)
end
set_option maxHeartbeats 4000000
variable {f : Addr} {cdv : Value} {A : Around} {outer : List Env} {s : Shared} {H : Hp} {E : XK}
theorem BK0 : C8 X8 ["deed", "kind"] (A3 s0x) := ⟨rfl, rfl, rfl, by decide +kernel, rfl, by decide +kernel, by decide +kernel⟩
theorem BK1 (B : Blt mg) (C : Cst K w.params mg)
    (hr : Room 0 (A.deeper (envOfC "parts_of" (A3 s0x) s.heap.objs.size f cdv))) :
    PSs3 (J6 CX0 P w K mg base X8 "parts_of" (A3 s0x) f cdv A outer s H E).nox (B1 s0x) T5 := by
    unfold T5
    exact zF (zJ (NE ["shape", "part"] ["kind"] [1] rfl (AI8 rfl B.zip_ (zA (AR2 rfl C.SHAPES_ (zK (pv3 0) zC (fun _ _ => rfl)) (fun _ _ => rfl)) (zA (SY (pv3 0) (wA zC) wB) zB))) rfl (by first | rfl | kernel_rfl) rfl (KD (by decide)) (fun cl s₀ H₀ ex => (yO rfl (zT (i := 0) (show List.Nodup (["shape", "part", "kind"] : List Str) by decide +kernel) rfl (Or.inl rfl) (zT (i := 1) (show List.Nodup (["shape", "part", "kind"] : List Str) by decide +kernel) rfl (Or.inl rfl) yI (Or.inr rfl)) (Or.inr rfl)))) (fun cl s₀ H₀ ex => (yR (zL (zW hr) (pv3 0) (pv3 2) (C1 _)))) (fun cl s₀ H₀ ex => (pv3 1))))
theorem BM6 {fd : FuncData} (B : Blt mg) (C : Cst K w.params mg) (F : T0x K mg f fd) : U0x P w K mg base 1 f fd R7 :=
  L3.Fun.ok3 F.fn BK0 LI fun cdv A outer s H E hr => ⟨T5, @BK1 P w K mg base f cdv A outer s H E B C hr, MJ⟩
theorem BJ5 : C8 V0 ["deed"] (A3 s1x) := ⟨rfl, rfl, rfl, by decide +kernel, rfl, by decide +kernel, by decide +kernel⟩
theorem BM9 (B : Blt mg) (C : Cst K w.params mg)
    (hr : Room 0 (A.deeper (envOfC "blocks_of" (A3 s1x) s.heap.objs.size f cdv))) :
    PSs3 (J6 CX0 P w K mg base V0 "blocks_of" (A3 s1x) f cdv A outer s H E).nox (B1 s1x) Q4 := by
    unfold Q4
    refine zD ?_ ?_
    · exact (zO (zL (zW hr) (zK (pv3 0) zC (fun _ _ => rfl)) zG (C1 _)) (zF (zJ (zR (zA (zK (pv3 0) zC (fun _ _ => rfl)) (zA (zK (pv3 0) zC (fun _ _ => rfl)) zB))))) zM)
    refine zD ?_ ?_
    · exact (zO (zL (zW hr) (zK (pv3 0) zC (fun _ _ => rfl)) zG (C1 _)) (zF (zJ (zR (zA (zK (pv3 0) zC (fun _ _ => rfl)) zB)))) zM)
    refine zD ?_ ?_
    · exact (zO (zL (zW hr) (zK (pv3 0) zC (fun _ _ => rfl)) zG (C1 _)) (zF (zJ (zH zQ (zH zQ (zR (zA (zK (pv3 0) zC (fun _ _ => rfl)) zB)) (yJ ["caught", "name", "block"] [] [] rfl (yS (zK (pv3 0) zC (fun _ _ => rfl))) rfl (by first | rfl | kernel_rfl) rfl (KD (by decide)) (fun cl s₀ H₀ ex => (yO rfl (zT (i := 0) (show List.Nodup (["caught", "name", "block"] : List Str) by decide +kernel) rfl (Or.inl rfl) (zT (i := 1) (show List.Nodup (["caught", "name", "block"] : List Str) by decide +kernel) rfl (Or.inl rfl) (zT (i := 2) (show List.Nodup (["caught", "name", "block"] : List Str) by decide +kernel) rfl (Or.inl rfl) yI (Or.inr rfl)) (Or.inr rfl)) (Or.inr rfl)))) (fun cl s₀ H₀ ex => yD) (fun cl s₀ H₀ ex => (pv3 2)))) (zR (zA (zK (pv3 0) zC (fun _ _ => rfl)) zB))))) zM)
    exact zF (zJ (zR zB))
theorem BJ7 {fd : FuncData} (B : Blt mg) (C : Cst K w.params mg) (F : T1x K mg f fd) : U1x P w K mg base 1 f fd PK.F4 :=
  L3.Fun.ok3 F.fn BJ5 HE fun cdv A outer s H E hr => ⟨Q4, @BM9 P w K mg base f cdv A outer s H E B C hr, JH⟩
theorem sc2x : C8 X7 ["block"] (A3 s2x) := ⟨rfl, rfl, rfl, by decide +kernel, rfl, by decide +kernel, by decide +kernel⟩
theorem BK3 (B : Blt mg) (C : Cst K w.params mg) {f1x : Addr} {fd1x : FuncData} (A1x : T1x K mg f1x fd1x) (G1x : U1x P w K mg base 1 f1x fd1x PK.F4) {kr : Nat} {q2x : Sp3} {f2x : Addr} {fd2x : FuncData} (A2x : T2x K mg f2x fd2x) (G2x : U2x P w K mg base kr f2x fd2x q2x) (hkr : 2 ≤ kr)
    (hr : Room kr (A.deeper (envOfC "deeds_of" (A3 s2x) s.heap.objs.size f cdv))) :
    PSs3 (J6 CX0 P w K mg base X7 "deeds_of" (A3 s2x) f cdv A outer s H E).nox (B1 s2x) (T8 q2x) := by
    unfold T8
    refine zD ?_ ?_
    · exact (zI (i := 1) sc2x.nd rfl (Or.inl rfl) (zZ zB))
    refine zD ?_ ?_
    · exact (yA PassesOwn.never rfl (yS (pv3 0)) sc2x.nd rfl (Or.inl rfl) (zD (zS (zX F.plainAttrs_list F.slot_list_append F.type_list_append yC (pv3 1) (zA (pv3 2) zB)))
    (zF (yA PassesOwn.never rfl (yL (zE G1x (hr.mono (by omega)) rfl A1x.gl A1x.fn.kp A1x.bd (zA (pv3 2) zB))) sc2x.nd rfl (Or.inl rfl) (zF (zS (zX F.plainAttrs_list F.slot_list_extend F.type_list_extend yB (pv3 1) (zA (zE G2x hr rfl A2x.gl A2x.fn.kp A2x.bd (zA (pv3 3) zB)) zB))))))))
    exact zF (zJ (pv3 1))
theorem BI9 {fd : FuncData} (B : Blt mg) (C : Cst K w.params mg) {f1x : Addr} {fd1x : FuncData} (A1x : T1x K mg f1x fd1x) (G1x : U1x P w K mg base 1 f1x fd1x PK.F4) {kr lv : Nat} {f2x : Addr} {fd2x : FuncData} (A2x : T2x K mg f2x fd2x) (G2x : U2x P w K mg base kr f2x fd2x (I0 lv)) (hkr : 2 ≤ kr) (F : T2x K mg f fd) : U2x P w K mg base (kr + 1) f fd (I0 (lv + 1)) :=
  L3.Fun.ok3 F.fn sc2x (CD (lv + 1)) fun cdv A outer s H E hr => ⟨T8 (I0 lv), BK3 B C A1x G1x A2x G2x hkr hr, MX lv⟩
theorem AQ6 (B : Blt mg) (C : Cst K w.params mg) {f1x : Addr} {fd1x : FuncData} (A1x : T1x K mg f1x fd1x) (G1x : U1x P w K mg base 1 f1x fd1x PK.F4) {f2x : Addr} {fd2x : FuncData} (A2x : T2x K mg f2x fd2x) : ∀ lv : Nat, U2x P w K mg base (2 + lv) f2x fd2x (I0 lv)
  | 0 => K2 CD GX
  | lv + 1 => by
    obtain G2x := AQ6 B C A1x G1x A2x lv
    exact BI9 B C A1x G1x A2x G2x (Nat.le_add_right _ _) A2x
theorem BL6 : C8 P4 ["deed"] (A3 s3x) := ⟨rfl, rfl, rfl, by decide +kernel, rfl, by decide +kernel, by decide +kernel⟩
theorem BM7 (B : Blt mg) (C : Cst K w.params mg) {f0x : Addr} {fd0x : FuncData} (A0x : T0x K mg f0x fd0x) (G0x : U0x P w K mg base 1 f0x fd0x R7)
    (hr : Room 1 (A.deeper (envOfC "names_given" (A3 s3x) s.heap.objs.size f cdv))) :
    PSs3 (J6 CX0 P w K mg base P4 "names_given" (A3 s3x) f cdv A outer s H E).nox (B1 s3x) L4 := by
    unfold L4
    refine zD ?_ ?_
    · exact (zO (zL (zW hr) (zK (pv3 0) zC (fun _ _ => rfl)) zG (C1 _)) (zF (zJ (FW ["caught", "name", "block"] [] [] rfl (yS (zK (pv3 0) zC (fun _ _ => rfl))) rfl (by first | rfl | kernel_rfl) rfl (KD (by decide)) (fun cl s₀ H₀ ex => (yO rfl (zT (i := 0) (show List.Nodup (["caught", "name", "block"] : List Str) by decide +kernel) rfl (Or.inl rfl) (zT (i := 1) (show List.Nodup (["caught", "name", "block"] : List Str) by decide +kernel) rfl (Or.inl rfl) (zT (i := 2) (show List.Nodup (["caught", "name", "block"] : List Str) by decide +kernel) rfl (Or.inl rfl) yI (Or.inr rfl)) (Or.inr rfl)) (Or.inr rfl)))) (fun cl s₀ H₀ ex => yD) (fun cl s₀ H₀ ex => (pv3 1))))) zM)
    exact zF (zJ (zE G0x (hr.mono (by decide)) rfl A0x.gl A0x.fn.kp A0x.bd (zA (pv3 0) (zA zG zB))))
theorem BJ3 {fd : FuncData} (B : Blt mg) (C : Cst K w.params mg) {f0x : Addr} {fd0x : FuncData} (A0x : T0x K mg f0x fd0x) (G0x : U0x P w K mg base 1 f0x fd0x R7) (F : T3x K mg f fd) : U3x P w K mg base 2 f fd AV :=
  L3.Fun.ok3 F.fn BL6 DY fun cdv A outer s H E hr => ⟨L4, @BM7 P w K mg base f cdv A outer s H E B C f0x fd0x A0x G0x hr, FF⟩
theorem BJ6 : C8 P7 ["expression"] (A3 s4x) := ⟨rfl, rfl, rfl, by decide +kernel, rfl, by decide +kernel, by decide +kernel⟩
theorem BL1 (B : Blt mg) (C : Cst K w.params mg)
    (hr : Room 0 (A.deeper (envOfC "branches_of" (A3 s4x) s.heap.objs.size f cdv))) :
    PSs3 (J6 CX0 P w K mg base P7 "branches_of" (A3 s4x) f cdv A outer s H E).nox (B1 s4x) L1 := by
    unfold L1
    refine zD ?_ ?_
    · exact (zO (zL (zW hr) (zK (pv3 0) zC (fun _ _ => rfl)) zG (C1 _)) (zF (zJ (zR (zA (zK (pv3 0) zC (fun _ _ => rfl)) (zA (zK (pv3 0) zC (fun _ _ => rfl)) zB))))) zM)
    refine zD ?_ ?_
    · exact (zO (zL (zW hr) (zK (pv3 0) zC (fun _ _ => rfl)) zG (C1 _)) (zF (zJ (zV RF rfl B.list_ ME (zA (zK (pv3 0) zC (fun _ _ => rfl)) zB)))) zM)
    exact zF (zJ (zR zB))
theorem BM2 {fd : FuncData} (B : Blt mg) (C : Cst K w.params mg) (F : T4x K mg f fd) : U4x P w K mg base 1 f fd L9 :=
  L3.Fun.ok3 F.fn BJ6 DW fun cdv A outer s H E hr => ⟨L1, @BL1 P w K mg base f cdv A outer s H E B C hr, GH⟩
theorem sc5x : C8 Y9 ["expression"] (A3 s5x) := ⟨rfl, rfl, rfl, by decide +kernel, rfl, by decide +kernel, by decide +kernel⟩
theorem BL5 (B : Blt mg) (C : Cst K w.params mg) {f4x : Addr} {fd4x : FuncData} (A4x : T4x K mg f4x fd4x) (G4x : U4x P w K mg base 1 f4x fd4x L9) {kr : Nat} {q5x : Sp3} {f5x : Addr} {fd5x : FuncData} (A5x : T5x K mg f5x fd5x) (G5x : U5x P w K mg base kr f5x fd5x q5x) (hkr : 2 ≤ kr)
    (hr : Room kr (A.deeper (envOfC "trees_of" (A3 s5x) s.heap.objs.size f cdv))) :
    PSs3 (J6 CX0 P w K mg base Y9 "trees_of" (A3 s5x) f cdv A outer s H E).nox (B1 s5x) (U2 q5x) := by
    unfold U2
    refine zD ?_ ?_
    · exact (zI (i := 1) sc5x.nd rfl (Or.inl rfl) (zZ (zA (pv3 0) zB)))
    refine zD ?_ ?_
    · exact (yA PassesOwn.never rfl (yL (zE G4x (hr.mono (by omega)) rfl A4x.gl A4x.fn.kp A4x.bd (zA (pv3 0) zB))) sc5x.nd rfl (Or.inl rfl) (zF (zS (zX F.plainAttrs_list F.slot_list_extend F.type_list_extend yB (pv3 1) (zA (zE G5x hr rfl A5x.gl A5x.fn.kp A5x.bd (zA (pv3 2) zB)) zB)))))
    exact zF (zJ (pv3 1))
theorem BL9 {fd : FuncData} (B : Blt mg) (C : Cst K w.params mg) {f4x : Addr} {fd4x : FuncData} (A4x : T4x K mg f4x fd4x) (G4x : U4x P w K mg base 1 f4x fd4x L9) {kr lv : Nat} {f5x : Addr} {fd5x : FuncData} (A5x : T5x K mg f5x fd5x) (G5x : U5x P w K mg base kr f5x fd5x (O5 lv)) (hkr : 2 ≤ kr) (F : T5x K mg f fd) : U5x P w K mg base (kr + 1) f fd (O5 (lv + 1)) :=
  L3.Fun.ok3 F.fn sc5x (CC (lv + 1)) fun cdv A outer s H E hr => ⟨U2 (O5 lv), BL5 B C A4x G4x A5x G5x hkr hr, OA lv⟩
theorem AQ2 (B : Blt mg) (C : Cst K w.params mg) {f4x : Addr} {fd4x : FuncData} (A4x : T4x K mg f4x fd4x) (G4x : U4x P w K mg base 1 f4x fd4x L9) {f5x : Addr} {fd5x : FuncData} (A5x : T5x K mg f5x fd5x) : ∀ lv : Nat, U5x P w K mg base (2 + lv) f5x fd5x (O5 lv)
  | 0 => K2 CC GI
  | lv + 1 => by
    obtain G5x := AQ2 B C A4x G4x A5x lv
    exact BL9 B C A4x G4x A5x G5x (Nat.le_add_right _ _) A5x
theorem sc6x : C8 Y7 ["rule"] (A3 s6x) := ⟨rfl, rfl, rfl, by decide +kernel, rfl, by decide +kernel, by decide +kernel⟩
theorem BJ9 (B : Blt mg) (C : Cst K w.params mg) {f2x : Addr} {fd2x : FuncData} (A2x : T2x K mg f2x fd2x) (G2x : U2x P w K mg base 10 f2x fd2x (I0 8)) {f0x : Addr} {fd0x : FuncData} (A0x : T0x K mg f0x fd0x) (G0x : U0x P w K mg base 1 f0x fd0x R7) {f5x : Addr} {fd5x : FuncData} (A5x : T5x K mg f5x fd5x) (G5x : U5x P w K mg base 7 f5x fd5x (O5 5))
    (hr : Room 10 (A.deeper (envOfC "trees_in" (A3 s6x) s.heap.objs.size f cdv))) :
    PSs3 (J6 CX0 P w K mg base Y7 "trees_in" (A3 s6x) f cdv A outer s H E).nox (B1 s6x) U4 := by
    unfold U4
    refine zD ?_ ?_
    · exact (zI (i := 1) sc6x.nd rfl (Or.inl rfl) (zZ zB))
    refine zD ?_ ?_
    · exact (yA PassesOwn.never rfl (yL (yT (zE G2x (hr.mono (by decide)) rfl A2x.gl A2x.fn.kp A2x.bd (zA (zK (pv3 0) zC (fun _ _ => rfl)) zB)))) sc6x.nd rfl (Or.inl rfl) (zF (yA PassesOwn.never rfl (yL (yT (zE G0x (hr.mono (by decide)) rfl A0x.gl A0x.fn.kp A0x.bd (zA (pv3 2) (zA zG zB))))) sc6x.nd rfl (Or.inl rfl) (zF (zS (zX F.plainAttrs_list F.slot_list_extend F.type_list_extend yB (pv3 1) (zA (zE G5x (hr.mono (by decide)) rfl A5x.gl A5x.fn.kp A5x.bd (zA (pv3 3) zB)) zB)))))))
    exact zF (zJ (pv3 1))
theorem BK5 {fd : FuncData} (B : Blt mg) (C : Cst K w.params mg) {f2x : Addr} {fd2x : FuncData} (A2x : T2x K mg f2x fd2x) (G2x : U2x P w K mg base 10 f2x fd2x (I0 8)) {f0x : Addr} {fd0x : FuncData} (A0x : T0x K mg f0x fd0x) (G0x : U0x P w K mg base 1 f0x fd0x R7) {f5x : Addr} {fd5x : FuncData} (A5x : T5x K mg f5x fd5x) (G5x : U5x P w K mg base 7 f5x fd5x (O5 5)) (F : T6x K mg f fd) : U6x P w K mg base 11 f fd S6 :=
  L3.Fun.ok3 F.fn sc6x KP fun cdv A outer s H E hr => ⟨U4, @BJ9 P w K mg base f cdv A outer s H E B C f2x fd2x A2x G2x f0x fd0x A0x G0x f5x fd5x A5x G5x hr, MR⟩
theorem sc7x : C8 V5 ["rule"] (A3 s7x) := ⟨rfl, rfl, rfl, by decide +kernel, rfl, by decide +kernel, by decide +kernel⟩
theorem BM8 (B : Blt mg) (C : Cst K w.params mg) {f6x : Addr} {fd6x : FuncData} (A6x : T6x K mg f6x fd6x) (G6x : U6x P w K mg base 11 f6x fd6x S6) {f2x : Addr} {fd2x : FuncData} (A2x : T2x K mg f2x fd2x) (G2x : U2x P w K mg base 10 f2x fd2x (I0 8)) {f3x : Addr} {fd3x : FuncData} (A3x : T3x K mg f3x fd3x) (G3x : U3x P w K mg base 2 f3x fd3x AV)
    (hr : Room 11 (A.deeper (envOfC "variables" (A3 s7x) s.heap.objs.size f cdv))) :
    PSs3 (J6 CX0 P w K mg base V5 "variables" (A3 s7x) f cdv A outer s H E).nox (B1 s7x) Q5 := by
    unfold Q5
    refine zD ?_ ?_
    · exact (QD 1 ["tree"] [] [] rfl (PI3.toE (yL (yT (zE G6x (hr.mono (by decide)) rfl A6x.gl A6x.fn.kp A6x.bd (zA (pv3 0) zB))))) rfl (by first | rfl | kernel_rfl) rfl (S5 (by decide)) (fun cl s₀ H₀ ex => (yE (i := 0) (show List.Nodup (["tree"] : List Str) by decide +kernel) rfl (Or.inl rfl) (Or.inr rfl))) (fun cl s₀ H₀ ex => (yR (zL (zW hr) (zK (pv3 0) zC (fun _ _ => rfl)) zG (C1 _)))) (fun cl s₀ H₀ ex => (zK (pv3 0) zC (fun _ _ => rfl))) sc7x.nd rfl (Or.inl rfl) (Or.inl rfl))
    refine zD ?_ ?_
    · exact (yA PassesOwn.never rfl (yL (yT (zE G2x (hr.mono (by decide)) rfl A2x.gl A2x.fn.kp A2x.bd (zA (zK (pv3 0) zC (fun _ _ => rfl)) zB)))) sc7x.nd rfl (Or.inl rfl) (zF (zS (zX F.plainAttrs_list F.slot_list_extend F.type_list_extend yB (pv3 1) (zA (zE G3x (hr.mono (by decide)) rfl A3x.gl A3x.fn.kp A3x.bd (zA (pv3 2) zB)) zB)))))
    exact zF (zJ (zH zQ (zK (pv3 0) zC (fun _ _ => rfl)) (zV yK rfl B.tuple_ S9 (zA (HZ rfl rfl B.sorted_ (AJ6 (LC rfl rfl B.set_ QV (zA (pv3 1) zB)) (LC rfl rfl B.set_ QV (zA (zK (pv3 0) zC (fun _ _ => rfl)) zB)))) zB))))
theorem BK8 {fd : FuncData} (B : Blt mg) (C : Cst K w.params mg) {f6x : Addr} {fd6x : FuncData} (A6x : T6x K mg f6x fd6x) (G6x : U6x P w K mg base 11 f6x fd6x S6) {f2x : Addr} {fd2x : FuncData} (A2x : T2x K mg f2x fd2x) (G2x : U2x P w K mg base 10 f2x fd2x (I0 8)) {f3x : Addr} {fd3x : FuncData} (A3x : T3x K mg f3x fd3x) (G3x : U3x P w K mg base 2 f3x fd3x AV) (F : T7x K mg f fd) : U7x P w K mg base 12 f fd N0 :=
  L3.Fun.ok3 F.fn sc7x GV fun cdv A outer s H E hr => ⟨Q5, @BM8 P w K mg base f cdv A outer s H E B C f6x fd6x A6x G6x f2x fd2x A2x G2x f3x fd3x A3x G3x hr, LS⟩
theorem BK6 : C8 PK.BM ["_law_script"] (A3 s8x) := ⟨rfl, rfl, rfl, by decide +kernel, rfl, by decide +kernel, by decide +kernel⟩
theorem BN0 (B : Blt mg) (C : Cst K w.params mg)
    (hr : Room 0 (A.deeper (envOfC "_law_pen" (A3 s8x) s.heap.objs.size f cdv))) :
    PSs3 (J6 CX0 P w K mg base PK.BM "_law_pen" (A3 s8x) f cdv A outer s H E).nox (B1 s8x) PK.X9 := by
    unfold PK.X9
    exact zF (zJ (IQ (yM zG (zV RF rfl B.list_ ME (zA (AV2 (pv3 0) wB (wA zC)) zB)) (yM zG zC (yM zG zC OE))) rfl rfl (by simp) (by decide)))
theorem BJ0 {fd : FuncData} (B : Blt mg) (C : Cst K w.params mg) (F : T8x K mg f fd) : U8x P w K mg base 1 f fd FR :=
  L3.Fun.ok3 F.fn BK6 PK.KE fun cdv A outer s H E hr => ⟨PK.X9, @BN0 P w K mg base f cdv A outer s H E B C hr, PK.MZ⟩
theorem sc9x : C8 PK.AF ["_law_pen_here", "_law_many"] (A3 s9x) := ⟨rfl, rfl, rfl, by decide +kernel, rfl, by decide +kernel, by decide +kernel⟩
theorem BL8 (B : Blt mg) (C : Cst K w.params mg)
    (hr : Room 0 (A.deeper (envOfC "_law_draw" (A3 s9x) s.heap.objs.size f cdv))) :
    PSs3 (J6 CX0 P w K mg base PK.AF "_law_draw" (A3 s9x) f cdv A outer s H E).nox (B1 s9x) PK.V7 := by
    unfold PK.V7
    refine zD ?_ ?_
    · exact (zO (zL AD2 (zY (hu3 hr) (pv3 0) zG (fun _ _ => rfl)) zC (C1 _)) (zD (zI (i := 2) sc9x.nd rfl (Or.inl rfl) (zH yP (zY (hu3 hr) (pv3 0) zG (fun _ _ => rfl)) (pv3 1)))
    (zD (wC (hu3 hr) (pv3 0) zG (zH JG (zY (hu3 hr) (pv3 0) zG (fun _ _ => rfl)) (pv3 1)) rfl)
    (zF (zJ (pv3 2))))) zM)
    refine zD ?_ ?_
    · exact (zI (i := 3) sc9x.nd rfl (Or.inl rfl) (zY (hu3 hr) (pv3 0) zG (fun _ _ => rfl)))
    refine zD ?_ ?_
    · exact (zI (i := 4) sc9x.nd rfl (Or.inl rfl) (zY (hu3 hr) (pv3 0) zG (fun _ _ => rfl)))
    refine zD ?_ ?_
    · exact (wC (hu3 hr) (pv3 0) zG (zH zQ (pv3 4) zC) rfl)
    refine zD ?_ ?_
    · exact (zI (i := 5) sc9x.nd rfl (Or.inl rfl) (zH zQ (zH wE zC (pv3 4)) zC))
    refine zD ?_ ?_
    · exact (zO (zL (XC hr) (pv3 3) (zR zB) (C1 _)) (zF (zI (i := 5) sc9x.nd rfl (Or.inl rfl) (zK (pv3 3) (zH yP (pv3 4) (zN yF rfl B.len_ P2 (zA (pv3 3) zB))) (fun _ _ => rfl)))) zM)
    refine zD ?_ ?_
    · exact (zO (PW3.pt (JS (zL yN (pv3 4) (zN yF rfl B.len_ P2 (zA (pv3 3) zB)) (C1 _)) (wD (zL AO8 (zN PZ rfl B.abs_ QU (zA (pv3 5) zB)) (zH yU zC zC) (C1 _))))) (zD (wC (hu3 hr) (pv3 0) zG (zH JG (zN PZ rfl B.abs_ QU (zA (pv3 5) zB)) (pv3 1)) rfl)
    (zF (zJ (zH yP (zN PZ rfl B.abs_ QU (zA (pv3 5) zB)) (pv3 1))))) zM)
    refine zD ?_ ?_
    · exact (zI (i := 6) sc9x.nd rfl (Or.inl rfl) (zH yP (zH yU (zH zQ (zH zQ (zH yP (pv3 5) zC) (zH wE zC (pv3 4))) zC) zC) zC))
    refine zD ?_ ?_
    · exact (zI (i := 6) sc9x.nd rfl (Or.inl rfl) (zH yP (zH yU (zH zQ (zH wE (pv3 6) (zH zQ (zH wE zC (pv3 4)) zC)) zC) zC) zC))
    exact zF (zJ (zH yP (zH JG (pv3 6) zC) (pv3 1)))
theorem BM1 {fd : FuncData} (B : Blt mg) (C : Cst K w.params mg) (F : T9x K mg f fd) : U9x P w K mg base 1 f fd B3 :=
  L3.Fun.ok3 F.fn sc9x PK.HM fun cdv A outer s H E hr => ⟨PK.V7, @BL8 P w K mg base f cdv A outer s H E B C hr, PK.LW⟩
theorem BB5 : C8 PK.O6 ["_law_pen_here", "_law_size"] (A3 MB) := ⟨rfl, rfl, rfl, by decide +kernel, rfl, by decide +kernel, by decide +kernel⟩
theorem AZ0 (B : Blt mg) (C : Cst K w.params mg) {f9x : Addr} {fd9x : FuncData} (A9x : T9x K mg f9x fd9x) (G9x : U9x P w K mg base 1 f9x fd9x B3)
    (hr : Room 1 (A.deeper (envOfC "_law_letters" (A3 MB) s.heap.objs.size f cdv))) :
    PSs3 (J6 CX0 P w K mg base PK.O6 "_law_letters" (A3 MB) f cdv A outer s H E).nox (B1 MB) PK.J2 := by
    unfold PK.J2
    exact zF (zJ (zX F.plainAttrs_str F.slot_str_join F.type_str_join AG6 zG (zA (yJ ["_law_k"] ["_law_pen_here"] [0] rfl (yG rfl B.range_ (zA (pv3 1) zB)) rfl (by first | rfl | kernel_rfl) rfl (S5 (by decide)) (fun cl s₀ H₀ ex => (yE (i := 0) (show List.Nodup (["_law_k", "_law_pen_here"] : List Str) by decide +kernel) rfl (Or.inl rfl) (Or.inr rfl))) (fun cl s₀ H₀ ex => yD) (fun cl s₀ H₀ ex => (zK zG (zE G9x (hr.mono (by decide)) rfl A9x.gl A9x.fn.kp A9x.bd (zA (pv3 1) (zA zC zB))) (fun _ _ => rfl)))) zB)))
theorem BH6 {fd : FuncData} (B : Blt mg) (C : Cst K w.params mg) {f9x : Addr} {fd9x : FuncData} (A9x : T9x K mg f9x fd9x) (G9x : U9x P w K mg base 1 f9x fd9x B3) (F : XU K mg f fd) : WS P w K mg base 2 f fd PK.J5 :=
  L3.Fun.ok3 F.fn BB5 PK.DF fun cdv A outer s H E hr => ⟨PK.J2, @AZ0 P w K mg base f cdv A outer s H E B C f9x fd9x A9x G9x hr, PK.DR⟩
theorem sc11x : C8 PK.R8 ["_law_pen_here", "_law_taken"] (A3 MG) := ⟨rfl, rfl, rfl, by decide +kernel, rfl, by decide +kernel, by decide +kernel⟩
theorem BF4 (B : Blt mg) (C : Cst K w.params mg) {f9x : Addr} {fd9x : FuncData} (A9x : T9x K mg f9x fd9x) (G9x : U9x P w K mg base 1 f9x fd9x B3) {f10x : Addr} {fd10x : FuncData} (A10x : XU K mg f10x fd10x) (G10x : WS P w K mg base 2 f10x fd10x PK.J5)
    (hr : Room 2 (A.deeper (envOfC "_law_fresh" (A3 MG) s.heap.objs.size f cdv))) :
    PSs3 (J6 CX0 P w K mg base PK.R8 "_law_fresh" (A3 MG) f cdv A outer s H E).nox (B1 MG) PK.N9 := by
    unfold PK.N9
    refine zD ?_ ?_
    · exact (zI (i := 2) sc11x.nd rfl (Or.inl rfl) zG)
    refine zD ?_ ?_
    · refine zI (i := 3) ?a ?b ?c ?d
      case a => exact sc11x.nd
      case b => exact rfl
      case c => exact (Or.inl rfl)
      case d =>
        refine zR ?_
        refine yH ?_
        refine yH ?_
        refine yH ?_
        refine yH ?_
        refine yH ?_
        refine yH ?_
        refine yH ?_
        refine yH ?_
        exact zB
    refine zD ?_ ?_
    · exact (zI (i := 4) sc11x.nd rfl (Or.inl rfl) (zK (zR (zA (zE G10x (hr.mono (by decide)) rfl A10x.gl A10x.fn.kp A10x.bd (zA (pv3 0) (zA (zH zQ zC (zE G9x (hr.mono (by decide)) rfl A9x.gl A9x.fn.kp A9x.bd (zA (pv3 0) (zA zC zB)))) zB))) (zA (zK (pv3 3) (zE G9x (hr.mono (by decide)) rfl A9x.gl A9x.fn.kp A9x.bd (zA (pv3 0) (zA zC zB))) (fun _ _ => rfl)) zB))) (zE G9x (hr.mono (by decide)) rfl A9x.gl A9x.fn.kp A9x.bd (zA (pv3 0) (zA zC zB))) (fun _ _ => rfl)))
    refine zD ?_ ?_
    · exact (zO (PW3.pt (yQ (zL yW (pv3 4) (pv3 1) rfl) (yQ (zL yW (pv3 4) (zX F.plainAttrs_str F.slot_str_split F.type_str_split ZC (pv3 2) (zA zG zB)) rfl) (yY (zL (zW hr) (zE G9x (hr.mono (by decide)) rfl A9x.gl A9x.fn.kp A9x.bd (zA (pv3 0) (zA zC zB))) zC (C1 _)))))) (zF (zJ (zH zQ zG (zK zG (zN yF rfl B.len_ P2 (zA (pv3 1) zB)) (fun _ _ => rfl))))) zM)
    exact zF (zJ (pv3 4))
theorem BH8 {fd : FuncData} (B : Blt mg) (C : Cst K w.params mg) {f9x : Addr} {fd9x : FuncData} (A9x : T9x K mg f9x fd9x) (G9x : U9x P w K mg base 1 f9x fd9x B3) {f10x : Addr} {fd10x : FuncData} (A10x : XU K mg f10x fd10x) (G10x : WS P w K mg base 2 f10x fd10x PK.J5) (F : WR K mg f fd) : ZP P w K mg base 3 f fd PK.S4 :=
  L3.Fun.ok3 F.fn sc11x PK.ES fun cdv A outer s H E hr => ⟨PK.N9, @BF4 P w K mg base f cdv A outer s H E B C f9x fd9x A9x G9x f10x fd10x A10x G10x hr, PK.HB⟩
theorem sc12x : C8 PK.R9 ["_law_pen_here", "_law_many"] (A3 LJ) := ⟨rfl, rfl, rfl, by decide +kernel, rfl, by decide +kernel, by decide +kernel⟩
theorem AZ5 (B : Blt mg) (C : Cst K w.params mg) {f11x : Addr} {fd11x : FuncData} (A11x : WR K mg f11x fd11x) (G11x : ZP P w K mg base 3 f11x fd11x PK.S4)
    (hr : Room 3 (A.deeper (envOfC "_law_names" (A3 LJ) s.heap.objs.size f cdv))) :
    PSs3 (J6 CX0 P w K mg base PK.R9 "_law_names" (A3 LJ) f cdv A outer s H E).nox (B1 LJ) PK.N3 := by
    unfold PK.N3
    refine zD ?_ ?_
    · exact (zI (i := 2) sc12x.nd rfl (Or.inl rfl) (zZ zB))
    refine zD ?_ ?_
    · exact (yA PassesOwn.never rfl (yG rfl B.range_ (zA (pv3 1) zB)) sc12x.nd rfl (Or.inl rfl) (zF (zS (zX F.plainAttrs_list F.slot_list_append F.type_list_append yC (pv3 2) (zA (zE G11x (hr.mono (by decide)) rfl A11x.gl A11x.fn.kp A11x.bd (zA (pv3 0) (zA (pv3 2) zB))) zB)))))
    exact zF (zJ (pv3 2))
theorem BG4 {fd : FuncData} (B : Blt mg) (C : Cst K w.params mg) {f11x : Addr} {fd11x : FuncData} (A11x : WR K mg f11x fd11x) (G11x : ZP P w K mg base 3 f11x fd11x PK.S4) (F : AX3 K mg f fd) : AT8 P w K mg base 4 f fd PK.Y3 :=
  L3.Fun.ok3 F.fn sc12x PK.EK fun cdv A outer s H E hr => ⟨PK.N3, @AZ5 P w K mg base f cdv A outer s H E B C f11x fd11x A11x G11x hr, PK.HN⟩
theorem sc13x : C8 PK.V1 ["_law_pen_here"] (A3 KQ) := ⟨rfl, rfl, rfl, by decide +kernel, rfl, by decide +kernel, by decide +kernel⟩
theorem BC2 (B : Blt mg) (C : Cst K w.params mg) {f9x : Addr} {fd9x : FuncData} (A9x : T9x K mg f9x fd9x) (G9x : U9x P w K mg base 1 f9x fd9x B3) {f10x : Addr} {fd10x : FuncData} (A10x : XU K mg f10x fd10x) (G10x : WS P w K mg base 2 f10x fd10x PK.J5)
    (hr : Room 2 (A.deeper (envOfC "_law_word" (A3 KQ) s.heap.objs.size f cdv))) :
    PSs3 (J6 CX0 P w K mg base PK.V1 "_law_word" (A3 KQ) f cdv A outer s H E).nox (B1 KQ) PK.Q7 := by
    unfold PK.Q7
    refine zD ?_ ?_
    · refine zI (i := 1) ?a ?b ?c ?d
      case a => exact sc13x.nd
      case b => exact rfl
      case c => exact (Or.inl rfl)
      case d =>
        refine zR ?_
        refine yH ?_
        refine yH ?_
        refine yH ?_
        refine yH ?_
        refine yH ?_
        refine yH ?_
        refine yH ?_
        refine yH ?_
        exact zB
    refine zD ?_ ?_
    · exact (zI (i := 2) sc13x.nd rfl (Or.inl rfl) (zK (zR (zA (zK (pv3 1) (zE G9x (hr.mono (by decide)) rfl A9x.gl A9x.fn.kp A9x.bd (zA (pv3 0) (zA zC zB))) (fun _ _ => rfl)) (zA (zE G10x (hr.mono (by decide)) rfl A10x.gl A10x.fn.kp A10x.bd (zA (pv3 0) (zA (zH zQ zC (zE G9x (hr.mono (by decide)) rfl A9x.gl A9x.fn.kp A9x.bd (zA (pv3 0) (zA zC zB)))) zB))) zB))) (zE G9x (hr.mono (by decide)) rfl A9x.gl A9x.fn.kp A9x.bd (zA (pv3 0) (zA zC zB))) (fun _ _ => rfl)))
    exact zF (zJ (zK (zR (zA (pv3 2) (zA zG zB))) (zV QS rfl B.int_ PQ (zA (yZ (zW hr) (pv3 2) zG (C1 _)) zB)) (fun _ _ => rfl)))
theorem BI7 {fd : FuncData} (B : Blt mg) (C : Cst K w.params mg) {f9x : Addr} {fd9x : FuncData} (A9x : T9x K mg f9x fd9x) (G9x : U9x P w K mg base 1 f9x fd9x B3) {f10x : Addr} {fd10x : FuncData} (A10x : XU K mg f10x fd10x) (G10x : WS P w K mg base 2 f10x fd10x PK.J5) (F : UY K mg f fd) : VL P w K mg base 3 f fd PK.T4 :=
  L3.Fun.ok3 F.fn sc13x PK.HH fun cdv A outer s H E hr => ⟨PK.Q7, @BC2 P w K mg base f cdv A outer s H E B C f9x fd9x A9x G9x f10x fd10x A10x G10x hr, PK.MC⟩
theorem sc14x : C8 PK.W2 ["_law_pen_here", "_law_env"] (A3 JQ) := ⟨rfl, rfl, rfl, by decide +kernel, rfl, by decide +kernel, by decide +kernel⟩
theorem BG1 (B : Blt mg) (C : Cst K w.params mg) {f9x : Addr} {fd9x : FuncData} (A9x : T9x K mg f9x fd9x) (G9x : U9x P w K mg base 1 f9x fd9x B3)
    (hr : Room 1 (A.deeper (envOfC "_law_leaf" (A3 JQ) s.heap.objs.size f cdv))) :
    PSs3 (J6 CX0 P w K mg base PK.W2 "_law_leaf" (A3 JQ) f cdv A outer s H E).nox (B1 JQ) PK.P8 := by
    unfold PK.P8
    refine zD ?_ ?_
    · exact (zI (i := 2) sc14x.nd rfl (Or.inl rfl) (zE G9x (hr.mono (by decide)) rfl A9x.gl A9x.fn.kp A9x.bd (zA (pv3 0) (zA zC zB))))
    refine zD ?_ ?_
    · exact (yX 3 ["_law_name", "_law_params"] [] [] rfl (yL (zY (hu3 hr) (pv3 1) zG (fun _ _ => rfl))) rfl (by first | rfl | kernel_rfl) rfl (KD (by decide)) (fun cl s₀ H₀ ex => (yO rfl (zT (i := 0) (show List.Nodup (["_law_name", "_law_params"] : List Str) by decide +kernel) rfl (Or.inl rfl) (zT (i := 1) (show List.Nodup (["_law_name", "_law_params"] : List Str) by decide +kernel) rfl (Or.inl rfl) yI (Or.inr rfl)) (Or.inr rfl)))) (fun cl s₀ H₀ ex => (yR (zL (zW hr) (pv3 1) (zP zB) (C1 _)))) (fun cl s₀ H₀ ex => (pv3 0)) sc14x.nd rfl (Or.inl rfl) (Or.inl rfl))
    refine zD ?_ ?_
    · exact (zO (zL (zW hr) (pv3 2) zC (C1 _)) (zF (zJ (zP (zA zG zB)))) zM)
    refine zD ?_ ?_
    · exact (zO (PW3.pt (JS (zL (zW hr) (pv3 2) zC (C1 _)) (wD (zL (XC hr) (pv3 3) (zR zB) (C1 _))))) (zF (zJ (zP (zA zG (zA (zK (pv3 3) (zE G9x (hr.mono (by decide)) rfl A9x.gl A9x.fn.kp A9x.bd (zA (pv3 0) (zA (zN yF rfl B.len_ P2 (zA (pv3 3) zB)) zB))) (fun _ _ => rfl)) (zA (zP zB) zB)))))) zM)
    refine zD ?_ ?_
    · exact (zO (zL yN (pv3 2) zC (C1 _)) (zD (zI (i := 4) sc14x.nd rfl (Or.inl rfl) (zR (zA (zE G9x (hr.mono (by decide)) rfl A9x.gl A9x.fn.kp A9x.bd (zA (pv3 0) (zA zC zB))) (zA (zH zU (zE G9x (hr.mono (by decide)) rfl A9x.gl A9x.fn.kp A9x.bd (zA (pv3 0) (zA zC zB))) zC) (zA (zH zU (zH yU zC zC) zC) (zA (zH zQ (AB8 WC (zH yU zC zC)) zC) (zA (zE G9x (hr.mono (by decide)) rfl A9x.gl A9x.fn.kp A9x.bd (zA (pv3 0) (zA (zH yU zC zC) zB))) zB)))))))
    (zF (zJ (zP (zA zG (zA (zK (pv3 4) (zE G9x (hr.mono (by decide)) rfl A9x.gl A9x.fn.kp A9x.bd (zA (pv3 0) (zA zC zB))) (fun _ _ => rfl)) zB)))))) zM)
    exact zF (zJ (zP (zA zG (zA (zK (zY (hu3 hr) (pv3 1) zG (fun _ _ => rfl)) (zE G9x (hr.mono (by decide)) rfl A9x.gl A9x.fn.kp A9x.bd (zA (pv3 0) (zA (zN yF rfl B.len_ P2 (zA (zY (hu3 hr) (pv3 1) zG (fun _ _ => rfl)) zB)) zB))) (fun _ _ => rfl)) zB))))
theorem BI4 {fd : FuncData} (B : Blt mg) (C : Cst K w.params mg) {f9x : Addr} {fd9x : FuncData} (A9x : T9x K mg f9x fd9x) (G9x : U9x P w K mg base 1 f9x fd9x B3) (F : AG0 K mg f fd) : AM5 P w K mg base 2 f fd PK.Y2 :=
  L3.Fun.ok3 F.fn sc14x PK.GY fun cdv A outer s H E hr => ⟨PK.P8, @BG1 P w K mg base f cdv A outer s H E B C f9x fd9x A9x G9x hr, PK.LV⟩
theorem sc15x : C8 PK.G9 ["_law_pen_here", "_law_env", "_law_room", "_law_deep"] (A3 KR) := ⟨rfl, rfl, rfl, by decide +kernel, rfl, by decide +kernel, by decide +kernel⟩
theorem BE3 (B : Blt mg) (C : Cst K w.params mg) {f9x : Addr} {fd9x : FuncData} (A9x : T9x K mg f9x fd9x) (G9x : U9x P w K mg base 1 f9x fd9x B3) {f14x : Addr} {fd14x : FuncData} (A14x : AG0 K mg f14x fd14x) (G14x : AM5 P w K mg base 2 f14x fd14x PK.Y2) {kr : Nat} {q15x : Sp3} {f15x : Addr} {fd15x : FuncData} (A15x : KC K mg f15x fd15x) (G15x : JN P w K mg base kr f15x fd15x q15x) (hkr : 3 ≤ kr)
    (hr : Room kr (A.deeper (envOfC "_law_expression" (A3 KR) s.heap.objs.size f cdv))) :
    PSs3 (J6 CX0 P w K mg base PK.G9 "_law_expression" (A3 KR) f cdv A outer s H E).nox (B1 KR) (PK.F7 q15x) := by
    unfold PK.F7
    refine zD ?_ ?_
    · exact (zI (i := 4) sc15x.nd rfl (Or.inl rfl) (zE G9x (hr.mono (by omega)) rfl A9x.gl A9x.fn.kp A9x.bd (zA (pv3 0) (zA zC zB))))
    refine zD ?_ ?_
    · exact (zO (PW3.pt (yQ (zL yN (pv3 2) zC (C1 _)) (yQ (zL yN (pv3 3) zC (C1 _)) (yY (zL yN (pv3 4) zC (C1 _)))))) (zF (zJ (zE G14x (hr.mono (by omega)) rfl A14x.gl A14x.fn.kp A14x.bd (zA (pv3 0) (zA (pv3 1) zB))))) zM)
    refine zD ?_ ?_
    · exact (zO (zL yN (pv3 4) zC (C1 _)) (zD (zI (i := 5) sc15x.nd rfl (Or.inl rfl) (zH zQ zC (zE G9x (hr.mono (by omega)) rfl A9x.gl A9x.fn.kp A9x.bd (zA (pv3 0) (zA (zH zU (pv3 2) zC) zB)))))
    (zD (zI (i := 6) sc15x.nd rfl (Or.inl rfl) (zE G15x hr rfl A15x.gl A15x.fn.kp A15x.bd (zA (pv3 0) (zA (pv3 1) (zA (pv3 5) (zA (zH zU (pv3 3) zC) zB))))))
    (zF (zJ (zP (zA zG (zA (zK zG (zE G9x (hr.mono (by omega)) rfl A9x.gl A9x.fn.kp A9x.bd (zA (pv3 0) (zA zC zB))) (fun _ _ => rfl)) (zA (pv3 6) (zA (zE G15x hr rfl A15x.gl A15x.fn.kp A15x.bd (zA (pv3 0) (zA (pv3 1) (zA (zH zU (zH zU (pv3 2) zC) (pv3 5)) (zA (zH zU (pv3 3) zC) zB))))) zB))))))))) zM)
    refine zD ?_ ?_
    · exact (TC (zK (zY (hu3 hr) (pv3 1) zG (fun _ _ => rfl)) (zE G9x (hr.mono (by omega)) rfl A9x.gl A9x.fn.kp A9x.bd (zA (pv3 0) (zA (zN yF rfl B.len_ P2 (zA (zY (hu3 hr) (pv3 1) zG (fun _ _ => rfl)) zB)) zB))) (fun _ _ => rfl)) (yO rfl (zT (i := 7) sc15x.nd rfl (Or.inl rfl) (zT (i := 8) sc15x.nd rfl (Or.inl rfl) yI (Or.inl rfl)) (Or.inl rfl))))
    refine zD ?_ ?_
    · exact (zI (i := 9) sc15x.nd rfl (Or.inl rfl) (zH zU (pv3 2) zC))
    refine zD ?_ ?_
    · exact (zO (zL AD2 (zN yF rfl B.len_ P2 (zA (pv3 8) zB)) (pv3 9) (C1 _)) (zF (zJ (zE G14x (hr.mono (by omega)) rfl A14x.gl A14x.fn.kp A14x.bd (zA (pv3 0) (zA (pv3 1) zB))))) zM)
    refine zD ?_ ?_
    · exact (zI (i := 10) sc15x.nd rfl (Or.inl rfl) (zZ zB))
    refine zD ?_ ?_
    · exact (yA PassesOwn.never rfl (yG rfl B.range_ (zA (zN yF rfl B.len_ P2 (zA (pv3 8) zB)) zB)) sc15x.nd rfl (Or.inl rfl) (zD (zI (i := 5) sc15x.nd rfl (Or.inl rfl) (zH zQ zC (zE G9x (hr.mono (by omega)) rfl A9x.gl A9x.fn.kp A9x.bd (zA (pv3 0) (zA (zH zQ (zH zU (pv3 9) (zH zU (zN yF rfl B.len_ P2 (zA (pv3 8) zB)) (pv3 11))) zC) zB)))))
    (zD (zS (zX F.plainAttrs_list F.slot_list_append F.type_list_append yC (pv3 10) (zA (zE G15x hr rfl A15x.gl A15x.fn.kp A15x.bd (zA (pv3 0) (zA (pv3 1) (zA (pv3 5) (zA (zH zU (pv3 3) zC) zB))))) zB)))
    (zF (zI (i := 9) sc15x.nd rfl (Or.inl rfl) (zH zU (pv3 9) (pv3 5)))))))
    exact zF (zJ (zP (zA zG (zA (pv3 7) (zA (zV yK rfl B.tuple_ S9 (zA (pv3 10) zB)) zB)))))
theorem BA6 {fd : FuncData} (B : Blt mg) (C : Cst K w.params mg) {f9x : Addr} {fd9x : FuncData} (A9x : T9x K mg f9x fd9x) (G9x : U9x P w K mg base 1 f9x fd9x B3) {f14x : Addr} {fd14x : FuncData} (A14x : AG0 K mg f14x fd14x) (G14x : AM5 P w K mg base 2 f14x fd14x PK.Y2) {kr lv : Nat} {f15x : Addr} {fd15x : FuncData} (A15x : KC K mg f15x fd15x) (G15x : JN P w K mg base kr f15x fd15x (PK.J3 lv)) (hkr : 3 ≤ kr) (F : KC K mg f fd) : JN P w K mg base (kr + 1) f fd (PK.J3 (lv + 1)) :=
  L3.Fun.ok3 F.fn sc15x (PK.R4 (lv + 1)) fun cdv A outer s H E hr => ⟨PK.F7 (PK.J3 lv), BE3 B C A9x G9x A14x G14x A15x G15x hkr hr, PK.BK lv⟩
theorem WL (B : Blt mg) (C : Cst K w.params mg) {f9x : Addr} {fd9x : FuncData} (A9x : T9x K mg f9x fd9x) (G9x : U9x P w K mg base 1 f9x fd9x B3) {f14x : Addr} {fd14x : FuncData} (A14x : AG0 K mg f14x fd14x) (G14x : AM5 P w K mg base 2 f14x fd14x PK.Y2) {f15x : Addr} {fd15x : FuncData} (A15x : KC K mg f15x fd15x) : ∀ lv : Nat, JN P w K mg base (3 + lv) f15x fd15x (PK.J3 lv)
  | 0 => K2 PK.R4 PK.Z7
  | lv + 1 => by
    obtain G15x := WL B C A9x G9x A14x G14x A15x lv
    exact BA6 B C A9x G9x A14x G14x A15x G15x (Nat.le_add_right _ _) A15x
theorem sc16x : C8 PK.P6 ["_law_pen_here", "_law_env", "_law_in_while"] (A3 LK) := ⟨rfl, rfl, rfl, by decide +kernel, rfl, by decide +kernel, by decide +kernel⟩
theorem BH5 (B : Blt mg) (C : Cst K w.params mg) {f9x : Addr} {fd9x : FuncData} (A9x : T9x K mg f9x fd9x) (G9x : U9x P w K mg base 1 f9x fd9x B3) {f15x : Addr} {fd15x : FuncData} (A15x : KC K mg f15x fd15x) (G15x : JN P w K mg base 8 f15x fd15x (PK.J3 5)) {f13x : Addr} {fd13x : FuncData} (A13x : UY K mg f13x fd13x) (G13x : VL P w K mg base 3 f13x fd13x PK.T4)
    (hr : Room 8 (A.deeper (envOfC "_law_simple" (A3 LK) s.heap.objs.size f cdv))) :
    PSs3 (J6 CX0 P w K mg base PK.P6 "_law_simple" (A3 LK) f cdv A outer s H E).nox (B1 LK) PK.K9 := by
    unfold PK.K9
    refine zD ?_ ?_
    · exact (zI (i := 3) sc16x.nd rfl (Or.inl rfl) (zE G9x (hr.mono (by decide)) rfl A9x.gl A9x.fn.kp A9x.bd (zA (pv3 0) (zA (zH zQ zC (zV QS rfl B.int_ PQ (zA (pv3 2) zB))) zB))))
    refine zD ?_ ?_
    · exact (TC (yJ ["_law_k"] ["_law_env", "_law_pen_here"] [1, 0] rfl (yG rfl B.range_ (zA zC zB)) rfl (by first | rfl | kernel_rfl) rfl (S5 (by decide)) (fun cl s₀ H₀ ex => (yE (i := 0) (show List.Nodup (["_law_k", "_law_env", "_law_pen_here"] : List Str) by decide +kernel) rfl (Or.inl rfl) (Or.inr rfl))) (fun cl s₀ H₀ ex => yD) (fun cl s₀ H₀ ex => (zK (zY (hu3 hr) (pv3 1) zG (fun _ _ => rfl)) (zE G9x (hr.mono (by decide)) rfl A9x.gl A9x.fn.kp A9x.bd (zA (pv3 2) (zA (zN yF rfl B.len_ P2 (zA (zY (hu3 hr) (pv3 1) zG (fun _ _ => rfl)) zB)) zB))) (fun _ _ => rfl)))) (AI9 rfl (zT (i := 4) sc16x.nd rfl (Or.inl rfl) (zT (i := 5) sc16x.nd rfl (Or.inl rfl) yI (Or.inl rfl)) (Or.inl rfl))))
    refine zD ?_ ?_
    · exact (zI (i := 6) sc16x.nd rfl (Or.inl rfl) (zE G15x (hr.mono (by decide)) rfl A15x.gl A15x.fn.kp A15x.bd (zA (pv3 0) (zA (pv3 1) (zA zC (zA zC zB))))))
    refine zD ?_ ?_
    · exact (zO (zL yN (pv3 3) zC (C1 _)) (zF (zJ (zP (zA (zK (zR (zA zG (zA zG (zA zG zB)))) (pv3 3) (fun _ _ => rfl)) (zA (pv3 4) (zA (pv3 6) zB)))))) zM)
    refine zD ?_ ?_
    · exact (zO (zL yN (pv3 3) zC (C1 _)) (zF (zJ (zP (zA (zK (zR (zA zG (zA zG (zA zG zB)))) (zH zU (pv3 3) zC) (fun _ _ => rfl)) (zA (pv3 6) zB))))) zM)
    refine zD ?_ ?_
    · exact (zO (zL (zW hr) (pv3 3) zC (C1 _)) (zF (zJ (zP (zA zG (zA (pv3 4) (zA (pv3 5) (zA (zE G15x (hr.mono (by decide)) rfl A15x.gl A15x.fn.kp A15x.bd (zA (pv3 0) (zA (pv3 1) (zA zC (zA zC zB))))) (zA (pv3 6) zB)))))))) zM)
    refine zD ?_ ?_
    · exact (zO (zL (zW hr) (pv3 3) zC (C1 _)) (zF (zJ (zP (zA zG (zA (pv3 4) (zA (pv3 5) (zA (zE G15x (hr.mono (by decide)) rfl A15x.gl A15x.fn.kp A15x.bd (zA (pv3 0) (zA (pv3 1) (zA zC (zA zC zB))))) (zA (zE G13x (hr.mono (by decide)) rfl A13x.gl A13x.fn.kp A13x.bd (zA (pv3 0) zB)) (zA (pv3 6) zB))))))))) zM)
    refine zD ?_ ?_
    · exact (zO (zL (zW hr) (pv3 3) zC (C1 _)) (zF (zJ (zP (zA zG zB)))) zM)
    exact zF (zJ (zK (zR (zA (zP (zA zG (zA (zE G13x (hr.mono (by decide)) rfl A13x.gl A13x.fn.kp A13x.bd (zA (pv3 0) zB)) (zA (pv3 6) zB)))) (zA (zP (zA zG (zA (pv3 4) (zA (pv3 6) zB)))) zB))) (zH zU (pv3 3) zC) (fun _ _ => rfl)))
theorem BH2 {fd : FuncData} (B : Blt mg) (C : Cst K w.params mg) {f9x : Addr} {fd9x : FuncData} (A9x : T9x K mg f9x fd9x) (G9x : U9x P w K mg base 1 f9x fd9x B3) {f15x : Addr} {fd15x : FuncData} (A15x : KC K mg f15x fd15x) (G15x : JN P w K mg base 8 f15x fd15x (PK.J3 5)) {f13x : Addr} {fd13x : FuncData} (A13x : UY K mg f13x fd13x) (G13x : VL P w K mg base 3 f13x fd13x PK.T4) (F : AG8 K mg f fd) : AI6 P w K mg base 9 f fd PK.P9 :=
  L3.Fun.ok3 F.fn sc16x PK.EB fun cdv A outer s H E hr => ⟨PK.K9, @BH5 P w K mg base f cdv A outer s H E B C f9x fd9x A9x G9x f15x fd15x A15x G15x f13x fd13x A13x G13x hr, PK.FT⟩
theorem BE9 : C8 PK.S0 ["_law_deed_here"] (A3 MD) := ⟨rfl, rfl, rfl, by decide +kernel, rfl, by decide +kernel, by decide +kernel⟩
theorem BD0 (B : Blt mg) (C : Cst K w.params mg)
    (hr : Room 0 (A.deeper (envOfC "_law_inner" (A3 MD) s.heap.objs.size f cdv))) :
    PSs3 (J6 CX0 P w K mg base PK.S0 "_law_inner" (A3 MD) f cdv A outer s H E).nox (B1 MD) PK.O2 := by
    unfold PK.O2
    refine zD ?_ ?_
    · exact (zO (zL (zW hr) (zK (pv3 0) zC (fun _ _ => rfl)) zG (C1 _)) (zF (zJ (zR (zA (zK (pv3 0) zC (fun _ _ => rfl)) (zA (zK (pv3 0) zC (fun _ _ => rfl)) zB))))) zM)
    refine zD ?_ ?_
    · exact (zO (zL (zW hr) (zK (pv3 0) zC (fun _ _ => rfl)) zG (C1 _)) (zF (zJ (zR (zA (zK (pv3 0) zC (fun _ _ => rfl)) zB)))) zM)
    refine zD ?_ ?_
    · exact (zO (zL (zW hr) (zK (pv3 0) zC (fun _ _ => rfl)) zG (C1 _)) (zF (zJ (zH zQ (zH zQ (zR (zA (zK (pv3 0) zC (fun _ _ => rfl)) zB)) (yJ ["_law_caught"] [] [] rfl (yS (zK (pv3 0) zC (fun _ _ => rfl))) rfl (by first | rfl | kernel_rfl) rfl (S5 (by decide)) (fun cl s₀ H₀ ex => (yE (i := 0) (show List.Nodup (["_law_caught"] : List Str) by decide +kernel) rfl (Or.inl rfl) (Or.inr rfl))) (fun cl s₀ H₀ ex => yD) (fun cl s₀ H₀ ex => (zK (pv3 0) zC (fun _ _ => rfl))))) (zR (zA (zK (pv3 0) zC (fun _ _ => rfl)) zB))))) zM)
    exact zF (zJ (zR zB))
theorem AZ9 {fd : FuncData} (B : Blt mg) (C : Cst K w.params mg) (F : PO K mg f fd) : OZ P w K mg base 1 f fd PK.F4 :=
  L3.Fun.ok3 F.fn BE9 PK.GF fun cdv A outer s H E hr => ⟨PK.O2, @BD0 P w K mg base f cdv A outer s H E B C hr, PK.HD⟩
theorem BC0 : C8 PK.S1 ["_law_block_here"] (A3 LP) := ⟨rfl, rfl, rfl, by decide +kernel, rfl, by decide +kernel, by decide +kernel⟩
theorem BA5 (B : Blt mg) (C : Cst K w.params mg) {f17x : Addr} {fd17x : FuncData} (A17x : PO K mg f17x fd17x) (G17x : OZ P w K mg base 1 f17x fd17x PK.F4) {kr : Nat} {q18x : Sp3} {f18x : Addr} {fd18x : FuncData} (A18x : PD K mg f18x fd18x) (G18x : QN P w K mg base kr f18x fd18x q18x) (hkr : 2 ≤ kr)
    (hr : Room kr (A.deeper (envOfC "_law_count" (A3 LP) s.heap.objs.size f cdv))) :
    PSs3 (J6 CX0 P w K mg base PK.S1 "_law_count" (A3 LP) f cdv A outer s H E).nox (B1 LP) (PK.O9 q18x) := by
    unfold PK.O9
    exact zF (zJ (zN (AA9 rfl) rfl B.sum_ ZM (zA (yJ ["_law_deed_here"] [] [] rfl (yS (pv3 0)) rfl (by first | rfl | kernel_rfl) rfl (S5 (by decide)) (fun cl s₀ H₀ ex => (yE (i := 0) (show List.Nodup (["_law_deed_here"] : List Str) by decide +kernel) rfl (Or.inl rfl) (Or.inr rfl))) (fun cl s₀ H₀ ex => yD) (fun cl s₀ H₀ ex => (zH zQ zC (zN (AA9 rfl) rfl B.sum_ ZM (zA (yJ ["_law_inner_here"] [] [] rfl (yL (zE G17x (hr.mono (by omega)) rfl A17x.gl A17x.fn.kp A17x.bd (zA (pv3 0) zB))) rfl (by first | rfl | kernel_rfl) rfl (S5 (by decide)) (fun cl s₀ H₀ ex => (yE (i := 0) (show List.Nodup (["_law_inner_here"] : List Str) by decide +kernel) rfl (Or.inl rfl) (Or.inr rfl))) (fun cl s₀ H₀ ex => yD) (fun cl s₀ H₀ ex => (zE G18x hr rfl A18x.gl A18x.fn.kp A18x.bd (zA (pv3 0) zB)))) zB))))) zB)))
theorem BG3 {fd : FuncData} (B : Blt mg) (C : Cst K w.params mg) {f17x : Addr} {fd17x : FuncData} (A17x : PO K mg f17x fd17x) (G17x : OZ P w K mg base 1 f17x fd17x PK.F4) {kr lv : Nat} {f18x : Addr} {fd18x : FuncData} (A18x : PD K mg f18x fd18x) (G18x : QN P w K mg base kr f18x fd18x (PK.L5 lv)) (hkr : 2 ≤ kr) (F : PD K mg f fd) : QN P w K mg base (kr + 1) f fd (PK.L5 (lv + 1)) :=
  L3.Fun.ok3 F.fn BC0 (PK.AK (lv + 1)) fun cdv A outer s H E hr => ⟨PK.O9 (PK.L5 lv), BA5 B C A17x G17x A18x G18x hkr hr, PK.GP lv⟩
theorem WG (B : Blt mg) (C : Cst K w.params mg) {f17x : Addr} {fd17x : FuncData} (A17x : PO K mg f17x fd17x) (G17x : OZ P w K mg base 1 f17x fd17x PK.F4) {f18x : Addr} {fd18x : FuncData} (A18x : PD K mg f18x fd18x) : ∀ lv : Nat, QN P w K mg base (2 + lv) f18x fd18x (PK.L5 lv)
  | 0 => K2 PK.AK PK.DS
  | lv + 1 => by
    obtain G18x := WG B C A17x G17x A18x lv
    exact BG3 B C A17x G17x A18x G18x (Nat.le_add_right _ _) A18x
theorem sc19x : C8 PK.Z0 ["_law_pen_here", "_law_env", "_law_deep", "_law_in_while", "_law_left"] (A3 JE) := ⟨rfl, rfl, rfl, by decide +kernel, rfl, by decide +kernel, by decide +kernel⟩
theorem BE6 (B : Blt mg) (C : Cst K w.params mg) {f9x : Addr} {fd9x : FuncData} (A9x : T9x K mg f9x fd9x) (G9x : U9x P w K mg base 1 f9x fd9x B3) {f13x : Addr} {fd13x : FuncData} (A13x : UY K mg f13x fd13x) (G13x : VL P w K mg base 3 f13x fd13x PK.T4) {kr : Nat} {q19x q20x q21x : Sp3} {f19x : Addr} {fd19x : FuncData} (A19x : MT K mg f19x fd19x) (G19x : OO P w K mg base kr f19x fd19x q19x) {f20x : Addr} {fd20x : FuncData} (A20x : MM K mg f20x fd20x) (G20x : OP P w K mg base kr f20x fd20x q20x) {f21x : Addr} {fd21x : FuncData} (A21x : GJ K mg f21x fd21x) (G21x : GQ P w K mg base kr f21x fd21x q21x) (hkr : 11 ≤ kr)
    (hr : Room kr (A.deeper (envOfC "_law_try" (A3 JE) s.heap.objs.size f cdv))) :
    PSs3 (J6 CX0 P w K mg base PK.Z0 "_law_try" (A3 JE) f cdv A outer s H E).nox (B1 JE) (PK.T6 q19x q20x q21x) := by
    unfold PK.T6
    refine zD ?_ ?_
    · exact (zI (i := 5) sc19x.nd rfl (Or.inl rfl) (zH zQ zC (zE G9x (hr.mono (by omega)) rfl A9x.gl A9x.fn.kp A9x.bd (zA (pv3 0) (zA (zH zU (pv3 4) zC) zB)))))
    refine zD ?_ ?_
    · exact (zI (i := 6) sc19x.nd rfl (Or.inl rfl) (zE G21x hr rfl A21x.gl A21x.fn.kp A21x.bd (zA (pv3 0) (zA (pv3 1) (zA (zH zQ (pv3 2) zC) (zA (pv3 3) (zA (pv3 5) zB)))))))
    refine zD ?_ ?_
    · exact (zI (i := 7) sc19x.nd rfl (Or.inl rfl) (zH zU (zH zU (pv3 4) zC) (pv3 5)))
    refine zD ?_ ?_
    · exact (zI (i := 8) sc19x.nd rfl (Or.inl rfl) (zN (AT3 rfl) rfl B.min_ AW6 (zA (zE G9x (hr.mono (by omega)) rfl A9x.gl A9x.fn.kp A9x.bd (zA (pv3 0) (zA zC zB))) (zA (zH zU (pv3 7) zC) zB))))
    refine zD ?_ ?_
    · exact (zI (i := 9) sc19x.nd rfl (Or.inl rfl) (zZ zB))
    refine zD ?_ ?_
    · exact (yA PassesOwn.never rfl (yG rfl B.range_ (zA (pv3 8) zB)) sc19x.nd rfl (Or.inl rfl) (zD (zI (i := 11) sc19x.nd rfl (Or.inl rfl) (zH zQ zC (zE G9x (hr.mono (by omega)) rfl A9x.gl A9x.fn.kp A9x.bd (zA (pv3 0) (zA (zH zU (pv3 7) (zH zU (pv3 8) (pv3 10))) zB)))))
    (zD (zI (i := 12) sc19x.nd rfl (Or.inl rfl) (zK (zR (zA (zE G13x (hr.mono (by omega)) rfl A13x.gl A13x.fn.kp A13x.bd (zA (pv3 0) zB)) (zA zG zB))) (zE G9x (hr.mono (by omega)) rfl A9x.gl A9x.fn.kp A9x.bd (zA (pv3 0) (zA zC zB))) (fun _ _ => rfl)))
    (zD (zI (i := 13) sc19x.nd rfl (Or.inl rfl) (zK (zY (hu3 hr) (pv3 1) zG (fun _ _ => rfl)) (zE G9x (hr.mono (by omega)) rfl A9x.gl A9x.fn.kp A9x.bd (zA (pv3 0) (zA (zN yF rfl B.len_ P2 (zA (zY (hu3 hr) (pv3 1) zG (fun _ _ => rfl)) zB)) zB))) (fun _ _ => rfl)))
    (zD (zS (zX F.plainAttrs_list F.slot_list_append F.type_list_append yC (pv3 9) (zA (zP (zA (pv3 12) (zA (pv3 13) (zA (zE G21x hr rfl A21x.gl A21x.fn.kp A21x.bd (zA (pv3 0) (zA (pv3 1) (zA (zH zQ (pv3 2) zC) (zA (pv3 3) (zA (pv3 11) zB)))))) zB)))) zB)))
    (zF (zI (i := 7) sc19x.nd rfl (Or.inl rfl) (zH zU (pv3 7) (pv3 11)))))))))
    refine zD ?_ ?_
    · exact (zI (i := 14) sc19x.nd rfl (Or.inl rfl) (zP zB))
    refine zD ?_ ?_
    · exact (zO (PW3.pt (yQ (zL (zW hr) (pv3 8) zC (C1 _)) (yY (zL (zW hr) (zE G9x (hr.mono (by omega)) rfl A9x.gl A9x.fn.kp A9x.bd (zA (pv3 0) (zA zC zB))) zC (C1 _))))) (zF (zI (i := 14) sc19x.nd rfl (Or.inl rfl) (zE G21x hr rfl A21x.gl A21x.fn.kp A21x.bd (zA (pv3 0) (zA (pv3 1) (zA (zH zQ (pv3 2) zC) (zA (pv3 3) (zA (zH zQ zC (zE G9x (hr.mono (by omega)) rfl A9x.gl A9x.fn.kp A9x.bd (zA (pv3 0) (zA (pv3 7) zB)))) zB)))))))) zM)
    exact zF (zJ (zP (zA zG (zA (pv3 6) (zA (zV yK rfl B.tuple_ S9 (zA (pv3 9) zB)) (zA (pv3 14) zB))))))
theorem BG6 {fd : FuncData} (B : Blt mg) (C : Cst K w.params mg) {f9x : Addr} {fd9x : FuncData} (A9x : T9x K mg f9x fd9x) (G9x : U9x P w K mg base 1 f9x fd9x B3) {f13x : Addr} {fd13x : FuncData} (A13x : UY K mg f13x fd13x) (G13x : VL P w K mg base 3 f13x fd13x PK.T4) {kr lv : Nat} {f19x : Addr} {fd19x : FuncData} (A19x : MT K mg f19x fd19x) (G19x : OO P w K mg base kr f19x fd19x (PK.W1 lv)) {f20x : Addr} {fd20x : FuncData} (A20x : MM K mg f20x fd20x) (G20x : OP P w K mg base kr f20x fd20x (PK.N4 lv)) {f21x : Addr} {fd21x : FuncData} (A21x : GJ K mg f21x fd21x) (G21x : GQ P w K mg base kr f21x fd21x (PK.E5 lv)) (hkr : 11 ≤ kr) (F : MT K mg f fd) : OO P w K mg base (kr + 1) f fd (PK.W1 (lv + 1)) :=
  L3.Fun.ok3 F.fn sc19x (PK.BW (lv + 1)) fun cdv A outer s H E hr => ⟨PK.T6 (PK.W1 lv) (PK.N4 lv) (PK.E5 lv), BE6 B C A9x G9x A13x G13x A19x G19x A20x G20x A21x G21x hkr hr, PK.NQ lv⟩
theorem sc20x : C8 PK.V9 ["_law_pen_here", "_law_env", "_law_deep", "_law_in_while", "_law_left"] (A3 KS) := ⟨rfl, rfl, rfl, by decide +kernel, rfl, by decide +kernel, by decide +kernel⟩
theorem BG2 (B : Blt mg) (C : Cst K w.params mg) {f9x : Addr} {fd9x : FuncData} (A9x : T9x K mg f9x fd9x) (G9x : U9x P w K mg base 1 f9x fd9x B3) {f16x : Addr} {fd16x : FuncData} (A16x : AG8 K mg f16x fd16x) (G16x : AI6 P w K mg base 9 f16x fd16x PK.P9) {f15x : Addr} {fd15x : FuncData} (A15x : KC K mg f15x fd15x) (G15x : JN P w K mg base 8 f15x fd15x (PK.J3 5)) {kr : Nat} {q19x q20x q21x : Sp3} {f19x : Addr} {fd19x : FuncData} (A19x : MT K mg f19x fd19x) (G19x : OO P w K mg base kr f19x fd19x q19x) {f20x : Addr} {fd20x : FuncData} (A20x : MM K mg f20x fd20x) (G20x : OP P w K mg base kr f20x fd20x q20x) {f21x : Addr} {fd21x : FuncData} (A21x : GJ K mg f21x fd21x) (G21x : GQ P w K mg base kr f21x fd21x q21x) (hkr : 11 ≤ kr)
    (hr : Room kr (A.deeper (envOfC "_law_deed" (A3 KS) s.heap.objs.size f cdv))) :
    PSs3 (J6 CX0 P w K mg base PK.V9 "_law_deed" (A3 KS) f cdv A outer s H E).nox (B1 KS) (PK.Q6 q19x q20x q21x) := by
    unfold PK.Q6
    refine zD ?_ ?_
    · exact (zI (i := 5) sc20x.nd rfl (Or.inl rfl) (zE G9x (hr.mono (by omega)) rfl A9x.gl A9x.fn.kp A9x.bd (zA (pv3 0) (zA zC zB))))
    refine zD ?_ ?_
    · exact (zO (PW3.pt (yQ (zL AO8 (pv3 2) zC (C1 _)) (yQ (zL yN (pv3 4) zC (C1 _)) (yY (zL yN (pv3 5) zC (C1 _)))))) (zF (zJ (zE G16x (hr.mono (by omega)) rfl A16x.gl A16x.fn.kp A16x.bd (zA (pv3 0) (zA (pv3 1) (zA (pv3 3) zB)))))) zM)
    refine zD ?_ ?_
    · exact (zO (zL (zW hr) (pv3 5) zC (C1 _)) (zF (zJ (zE G19x hr rfl A19x.gl A19x.fn.kp A19x.bd (zA (pv3 0) (zA (pv3 1) (zA (pv3 2) (zA (pv3 3) (zA (pv3 4) zB)))))))) zM)
    refine zD ?_ ?_
    · exact (zI (i := 6) sc20x.nd rfl (Or.inl rfl) (zE G15x (hr.mono (by omega)) rfl A15x.gl A15x.fn.kp A15x.bd (zA (pv3 0) (zA (pv3 1) (zA zC (zA zC zB))))))
    refine zD ?_ ?_
    · exact (zI (i := 7) sc20x.nd rfl (Or.inl rfl) (zH zQ zC (zE G9x (hr.mono (by omega)) rfl A9x.gl A9x.fn.kp A9x.bd (zA (pv3 0) (zA (zH zU (pv3 4) zC) zB)))))
    refine zD ?_ ?_
    · exact (zI (i := 8) sc20x.nd rfl (Or.inl rfl) (zE G21x hr rfl A21x.gl A21x.fn.kp A21x.bd (zA (pv3 0) (zA (pv3 1) (zA (zH zQ (pv3 2) zC) (zA (AR4 (pv3 3) (AH3 (yZ (zW hr) (pv3 5) zC (C1 _)))) (zA (pv3 7) zB)))))))
    refine zD ?_ ?_
    · exact (zO (zL (zW hr) (pv3 5) zC (C1 _)) (zF (zJ (zP (zA zG (zA (pv3 6) (zA (pv3 8) zB)))))) zM)
    refine zD ?_ ?_
    · exact (zI (i := 9) sc20x.nd rfl (Or.inl rfl) (zP zB))
    refine zD ?_ ?_
    · exact (zO (zL (zW hr) (zE G9x (hr.mono (by omega)) rfl A9x.gl A9x.fn.kp A9x.bd (zA (pv3 0) (zA zC zB))) zC (C1 _)) (zF (zI (i := 9) sc20x.nd rfl (Or.inl rfl) (zE G21x hr rfl A21x.gl A21x.fn.kp A21x.bd (zA (pv3 0) (zA (pv3 1) (zA (zH zQ (pv3 2) zC) (zA (pv3 3) (zA (zH zU (zH zU (pv3 4) zC) (pv3 7)) zB)))))))) zM)
    exact zF (zJ (zP (zA zG (zA (pv3 6) (zA (pv3 8) (zA (pv3 9) zB))))))
theorem BF5 {fd : FuncData} (B : Blt mg) (C : Cst K w.params mg) {f9x : Addr} {fd9x : FuncData} (A9x : T9x K mg f9x fd9x) (G9x : U9x P w K mg base 1 f9x fd9x B3) {f16x : Addr} {fd16x : FuncData} (A16x : AG8 K mg f16x fd16x) (G16x : AI6 P w K mg base 9 f16x fd16x PK.P9) {f15x : Addr} {fd15x : FuncData} (A15x : KC K mg f15x fd15x) (G15x : JN P w K mg base 8 f15x fd15x (PK.J3 5)) {kr lv : Nat} {f19x : Addr} {fd19x : FuncData} (A19x : MT K mg f19x fd19x) (G19x : OO P w K mg base kr f19x fd19x (PK.W1 lv)) {f20x : Addr} {fd20x : FuncData} (A20x : MM K mg f20x fd20x) (G20x : OP P w K mg base kr f20x fd20x (PK.N4 lv)) {f21x : Addr} {fd21x : FuncData} (A21x : GJ K mg f21x fd21x) (G21x : GQ P w K mg base kr f21x fd21x (PK.E5 lv)) (hkr : 11 ≤ kr) (F : MM K mg f fd) : OP P w K mg base (kr + 1) f fd (PK.N4 (lv + 1)) :=
  L3.Fun.ok3 F.fn sc20x (PK.BE (lv + 1)) fun cdv A outer s H E hr => ⟨PK.Q6 (PK.W1 lv) (PK.N4 lv) (PK.E5 lv), BG2 B C A9x G9x A16x G16x A15x G15x A19x G19x A20x G20x A21x G21x hkr hr, PK.JV lv⟩
theorem sc21x : C8 PK.S2 ["_law_pen_here", "_law_env", "_law_deep", "_law_in_while", "_law_left"] (A3 KN) := ⟨rfl, rfl, rfl, by decide +kernel, rfl, by decide +kernel, by decide +kernel⟩
theorem BC1 (B : Blt mg) (C : Cst K w.params mg) {f9x : Addr} {fd9x : FuncData} (A9x : T9x K mg f9x fd9x) (G9x : U9x P w K mg base 1 f9x fd9x B3) {f18x : Addr} {fd18x : FuncData} (A18x : PD K mg f18x fd18x) (G18x : QN P w K mg base 10 f18x fd18x (PK.L5 8)) {kr : Nat} {q19x q20x q21x : Sp3} {f19x : Addr} {fd19x : FuncData} (A19x : MT K mg f19x fd19x) (G19x : OO P w K mg base kr f19x fd19x q19x) {f20x : Addr} {fd20x : FuncData} (A20x : MM K mg f20x fd20x) (G20x : OP P w K mg base kr f20x fd20x q20x) {f21x : Addr} {fd21x : FuncData} (A21x : GJ K mg f21x fd21x) (G21x : GQ P w K mg base kr f21x fd21x q21x) (hkr : 11 ≤ kr)
    (hr : Room kr (A.deeper (envOfC "_law_block" (A3 KN) s.heap.objs.size f cdv))) :
    PSs3 (J6 CX0 P w K mg base PK.S2 "_law_block" (A3 KN) f cdv A outer s H E).nox (B1 KN) (PK.O4 q19x q20x q21x) := by
    unfold PK.O4
    refine zD ?_ ?_
    · exact (zI (i := 5) sc21x.nd rfl (Or.inl rfl) (zZ zB))
    refine zD ?_ ?_
    · exact (zI (i := 6) sc21x.nd rfl (Or.inl rfl) (zH zQ zC (zE G9x (hr.mono (by omega)) rfl A9x.gl A9x.fn.kp A9x.bd (zA (pv3 0) (zA zC zB)))))
    refine zD ?_ ?_
    · exact (UA PassesOwn.never (PW3.pt (JS (zL AD2 (pv3 4) zC (C1 _)) (wD (zL yN (zN yF rfl B.len_ P2 (zA (pv3 5) zB)) (pv3 6) (C1 _))))) (zD (zI (i := 7) sc21x.nd rfl (Or.inl rfl) (zE G20x hr rfl A20x.gl A20x.fn.kp A20x.bd (zA (pv3 0) (zA (pv3 1) (zA (pv3 2) (zA (pv3 3) (zA (pv3 4) zB)))))))
    (zD (zS (zX F.plainAttrs_list F.slot_list_append F.type_list_append yC (pv3 5) (zA (pv3 7) zB)))
    (zF (zI (i := 4) sc21x.nd rfl (Or.inl rfl) (zH zU (pv3 4) (zE G18x (hr.mono (by omega)) rfl A18x.gl A18x.fn.kp A18x.bd (zA (zP (zA (pv3 7) zB)) zB))))))))
    exact zF (zJ (zV yK rfl B.tuple_ S9 (zA (pv3 5) zB)))
theorem BG0 {fd : FuncData} (B : Blt mg) (C : Cst K w.params mg) {f9x : Addr} {fd9x : FuncData} (A9x : T9x K mg f9x fd9x) (G9x : U9x P w K mg base 1 f9x fd9x B3) {f18x : Addr} {fd18x : FuncData} (A18x : PD K mg f18x fd18x) (G18x : QN P w K mg base 10 f18x fd18x (PK.L5 8)) {kr lv : Nat} {f19x : Addr} {fd19x : FuncData} (A19x : MT K mg f19x fd19x) (G19x : OO P w K mg base kr f19x fd19x (PK.W1 lv)) {f20x : Addr} {fd20x : FuncData} (A20x : MM K mg f20x fd20x) (G20x : OP P w K mg base kr f20x fd20x (PK.N4 lv)) {f21x : Addr} {fd21x : FuncData} (A21x : GJ K mg f21x fd21x) (G21x : GQ P w K mg base kr f21x fd21x (PK.E5 lv)) (hkr : 11 ≤ kr) (F : GJ K mg f fd) : GQ P w K mg base (kr + 1) f fd (PK.E5 (lv + 1)) :=
  L3.Fun.ok3 F.fn sc21x (PK.AI (lv + 1)) fun cdv A outer s H E hr => ⟨PK.O4 (PK.W1 lv) (PK.N4 lv) (PK.E5 lv), BC1 B C A9x G9x A18x G18x A19x G19x A20x G20x A21x G21x hkr hr, PK.GT lv⟩
theorem XT (B : Blt mg) (C : Cst K w.params mg) {f9x : Addr} {fd9x : FuncData} (A9x : T9x K mg f9x fd9x) (G9x : U9x P w K mg base 1 f9x fd9x B3) {f13x : Addr} {fd13x : FuncData} (A13x : UY K mg f13x fd13x) (G13x : VL P w K mg base 3 f13x fd13x PK.T4) {f16x : Addr} {fd16x : FuncData} (A16x : AG8 K mg f16x fd16x) (G16x : AI6 P w K mg base 9 f16x fd16x PK.P9) {f15x : Addr} {fd15x : FuncData} (A15x : KC K mg f15x fd15x) (G15x : JN P w K mg base 8 f15x fd15x (PK.J3 5)) {f18x : Addr} {fd18x : FuncData} (A18x : PD K mg f18x fd18x) (G18x : QN P w K mg base 10 f18x fd18x (PK.L5 8)) {f19x : Addr} {fd19x : FuncData} (A19x : MT K mg f19x fd19x) {f20x : Addr} {fd20x : FuncData} (A20x : MM K mg f20x fd20x) {f21x : Addr} {fd21x : FuncData} (A21x : GJ K mg f21x fd21x) : ∀ lv : Nat, OO P w K mg base (11 + lv) f19x fd19x (PK.W1 lv) ∧ OP P w K mg base (11 + lv) f20x fd20x (PK.N4 lv) ∧ GQ P w K mg base (11 + lv) f21x fd21x (PK.E5 lv)
  | 0 => ⟨K2 PK.BW PK.GN, K2 PK.BE PK.FQ, K2 PK.AI PK.EA⟩
  | lv + 1 => by
    obtain ⟨G19x, G20x, G21x⟩ := XT B C A9x G9x A13x G13x A16x G16x A15x G15x A18x G18x A19x A20x A21x lv
    exact ⟨BG6 B C A9x G9x A13x G13x A19x G19x A20x G20x A21x G21x (Nat.le_add_right _ _) A19x, BF5 B C A9x G9x A16x G16x A15x G15x A19x G19x A20x G20x A21x G21x (Nat.le_add_right _ _) A20x, BG0 B C A9x G9x A18x G18x A19x G19x A20x G20x A21x G21x (Nat.le_add_right _ _) A21x⟩
theorem sc22x : C8 PK.U9 ["_law_pen_here", "_law_rules", "_law_deeds"] (A3 JI) := ⟨rfl, rfl, rfl, by decide +kernel, rfl, by decide +kernel, by decide +kernel⟩
theorem BE5 (B : Blt mg) (C : Cst K w.params mg) {f9x : Addr} {fd9x : FuncData} (A9x : T9x K mg f9x fd9x) (G9x : U9x P w K mg base 1 f9x fd9x B3) {f12x : Addr} {fd12x : FuncData} (A12x : AX3 K mg f12x fd12x) (G12x : AT8 P w K mg base 4 f12x fd12x PK.Y3) {f11x : Addr} {fd11x : FuncData} (A11x : WR K mg f11x fd11x) (G11x : ZP P w K mg base 3 f11x fd11x PK.S4) {f21x : Addr} {fd21x : FuncData} (A21x : GJ K mg f21x fd21x) (G21x : GQ P w K mg base 31 f21x fd21x (PK.E5 20))
    (hr : Room 32 (A.deeper (envOfC "_law_book" (A3 JI) s.heap.objs.size f cdv))) :
    PSs3 (J6 CX0 P w K mg base PK.U9 "_law_book" (A3 JI) f cdv A outer s H E).nox (B1 JI) PK.Q0 := by
    unfold PK.Q0
    refine zD ?_ ?_
    · exact (zI (i := 3) sc22x.nd rfl (Or.inl rfl) (zE G12x (hr.mono (by decide)) rfl A12x.gl A12x.fn.kp A12x.bd (zA (pv3 0) (zA (zH zQ zC (zE G9x (hr.mono (by decide)) rfl A9x.gl A9x.fn.kp A9x.bd (zA (pv3 0) (zA (pv3 1) zB)))) zB))))
    refine zD ?_ ?_
    · exact (yX 4 ["_law_name"] ["_law_pen_here"] [0] rfl (yL (pv3 3)) rfl (by first | rfl | kernel_rfl) rfl (S5 (by decide)) (fun cl s₀ H₀ ex => (yE (i := 0) (show List.Nodup (["_law_name", "_law_pen_here"] : List Str) by decide +kernel) rfl (Or.inl rfl) (Or.inr rfl))) (fun cl s₀ H₀ ex => yD) (fun cl s₀ H₀ ex => (zP (zA (pv3 0) (zA (zV yK rfl B.tuple_ S9 (zA (zE G12x (hr.mono (by decide)) rfl A12x.gl A12x.fn.kp A12x.bd (zA (pv3 1) (zA (zE G9x (hr.mono (by decide)) rfl A9x.gl A9x.fn.kp A9x.bd (zA (pv3 1) (zA zC zB))) zB))) zB)) zB)))) sc22x.nd rfl (Or.inl rfl) (Or.inl rfl))
    refine zD ?_ ?_
    · exact (zI (i := 5) sc22x.nd rfl (Or.inl rfl) (zZ zB))
    refine zD ?_ ?_
    · exact (YS PassesOwn.never rfl (yL (pv3 4)) (yO rfl (zT (i := 6) sc22x.nd rfl (Or.inl rfl) (zT (i := 7) sc22x.nd rfl (Or.inl rfl) yI (Or.inl rfl)) (Or.inl rfl))) (zD (zI (i := 8) sc22x.nd rfl (Or.inl rfl) (TV rfl B.list_ (zA (pv3 7) zB)))
    (zD (yA PassesOwn.never rfl (yG rfl B.range_ (zA (zH zQ zC (zE G9x (hr.mono (by decide)) rfl A9x.gl A9x.fn.kp A9x.bd (zA (pv3 0) (zA (zH zU zC (zN yF rfl B.len_ P2 (zA (pv3 7) zB))) zB)))) zB)) sc22x.nd rfl (Or.inl rfl) (zF (zS (zX F.plainAttrs_list F.slot_list_append F.type_list_append yC (pv3 8) (zA (zE G11x (hr.mono (by decide)) rfl A11x.gl A11x.fn.kp A11x.bd (zA (pv3 0) (zA (pv3 8) zB))) zB)))))
    (AC3 8 (zD (zI (i := 10) sc22x.nd rfl (Or.inl rfl) (IQ (yM zG (pv3 4) (yM zG (pv3 8) OE)) rfl rfl (by simp) (by decide)))
    (zF (zS (zX F.plainAttrs_list F.slot_list_append F.type_list_append yC (pv3 5) (zA (zP (zA (pv3 6) (zA (pv3 7) (zA (zE G21x (hr.mono (by decide)) rfl A21x.gl A21x.fn.kp A21x.bd (zA (pv3 0) (zA (pv3 10) (zA zC (zA AB5 (zA (zH zQ zC (zE G9x (hr.mono (by decide)) rfl A9x.gl A9x.fn.kp A9x.bd (zA (pv3 0) (zA (pv3 2) zB)))) zB)))))) zB)))) zB)))))))))
    exact zF (zJ (zV yK rfl B.tuple_ S9 (zA (pv3 5) zB)))
theorem BA1 {fd : FuncData} (B : Blt mg) (C : Cst K w.params mg) {f9x : Addr} {fd9x : FuncData} (A9x : T9x K mg f9x fd9x) (G9x : U9x P w K mg base 1 f9x fd9x B3) {f12x : Addr} {fd12x : FuncData} (A12x : AX3 K mg f12x fd12x) (G12x : AT8 P w K mg base 4 f12x fd12x PK.Y3) {f11x : Addr} {fd11x : FuncData} (A11x : WR K mg f11x fd11x) (G11x : ZP P w K mg base 3 f11x fd11x PK.S4) {f21x : Addr} {fd21x : FuncData} (A21x : GJ K mg f21x fd21x) (G21x : GQ P w K mg base 31 f21x fd21x (PK.E5 20)) (F : AY8 K mg f fd) : AS5 P w K mg base 33 f fd PK.DC :=
  L3.Fun.ok3 F.fn sc22x PK.GU fun cdv A outer s H E hr => ⟨PK.Q0, @BE5 P w K mg base f cdv A outer s H E B C f9x fd9x A9x G9x f12x fd12x A12x G12x f11x fd11x A11x G11x f21x fd21x A21x G21x hr, PK.MA⟩
theorem sc23x : C8 V8 ["_law_expression_here"] (A3 KU) := ⟨rfl, rfl, rfl, by decide +kernel, rfl, by decide +kernel, by decide +kernel⟩
theorem BD4 (B : Blt mg) (C : Cst K w.params mg) {kr : Nat} {q23x : Sp3} {f23x : Addr} {fd23x : FuncData} (A23x : UO K mg f23x fd23x) (G23x : UL P w K mg base kr f23x fd23x q23x) (hkr : 1 ≤ kr)
    (hr : Room kr (A.deeper (envOfC "_law_vars" (A3 KU) s.heap.objs.size f cdv))) :
    PSs3 (J6 CX0 P w K mg base V8 "_law_vars" (A3 KU) f cdv A outer s H E).nox (B1 KU) (Q9 q23x) := by
    unfold Q9
    refine zD ?_ ?_
    · exact (zO (zL (zW hr) (zK (pv3 0) zC (fun _ _ => rfl)) zG (C1 _)) (zF (zJ (zZ (zA (zK (pv3 0) zC (fun _ _ => rfl)) zB)))) zM)
    refine zD ?_ ?_
    · exact (zI (i := 1) sc23x.nd rfl (Or.inl rfl) (zZ zB))
    refine zD ?_ ?_
    · exact (zI (i := 2) sc23x.nd rfl (Or.inl rfl) (zR zB))
    refine zD ?_ ?_
    · exact (zO (zL (zW hr) (zK (pv3 0) zC (fun _ _ => rfl)) zG (C1 _)) (zF (zI (i := 2) sc23x.nd rfl (Or.inl rfl) (SY (pv3 0) (wA zC) wB))) zM)
    refine zD ?_ ?_
    · exact (zO (zL (zW hr) (zK (pv3 0) zC (fun _ _ => rfl)) zG (C1 _)) (zF (zI (i := 2) sc23x.nd rfl (Or.inl rfl) (zK (pv3 0) zC (fun _ _ => rfl)))) zM)
    refine zD ?_ ?_
    · exact (yA PassesOwn.never rfl (BG5 (pv3 2)) sc23x.nd rfl (Or.inl rfl) (zF (zS (zX F.plainAttrs_list F.slot_list_extend F.type_list_extend yB (pv3 1) (zA (zE G23x hr rfl A23x.gl A23x.fn.kp A23x.bd (zA (pv3 3) zB)) zB)))))
    exact zF (zJ (pv3 1))
theorem BF6 {fd : FuncData} (B : Blt mg) (C : Cst K w.params mg) {kr lv : Nat} {f23x : Addr} {fd23x : FuncData} (A23x : UO K mg f23x fd23x) (G23x : UL P w K mg base kr f23x fd23x (G0 lv)) (hkr : 1 ≤ kr) (F : UO K mg f fd) : UL P w K mg base (kr + 1) f fd (G0 (lv + 1)) :=
  L3.Fun.ok3 F.fn sc23x (AZ (lv + 1)) fun cdv A outer s H E hr => ⟨Q9 (G0 lv), BD4 B C A23x G23x hkr hr, JP lv⟩
theorem AC6 (B : Blt mg) (C : Cst K w.params mg) {f23x : Addr} {fd23x : FuncData} (A23x : UO K mg f23x fd23x) : ∀ lv : Nat, UL P w K mg base (1 + lv) f23x fd23x (G0 lv)
  | 0 => K2 AZ FC
  | lv + 1 => by
    obtain G23x := AC6 B C A23x lv
    exact BF6 B C A23x G23x (Nat.le_add_right _ _) A23x
theorem sc24x : C8 B9 ["_law_deed_here"] (A3 LE) := ⟨rfl, rfl, rfl, by decide +kernel, rfl, by decide +kernel, by decide +kernel⟩
theorem BB8 (B : Blt mg) (C : Cst K w.params mg) {f23x : Addr} {fd23x : FuncData} (A23x : UO K mg f23x fd23x) (G23x : UL P w K mg base 6 f23x fd23x (G0 5))
    (hr : Room 6 (A.deeper (envOfC "_law_own_names" (A3 LE) s.heap.objs.size f cdv))) :
    PSs3 (J6 CX0 P w K mg base B9 "_law_own_names" (A3 LE) f cdv A outer s H E).nox (B1 LE) B4 := by
    unfold B4
    refine zD ?_ ?_
    · exact (zI (i := 1) sc24x.nd rfl (Or.inl rfl) (zK (pv3 0) zC (fun _ _ => rfl)))
    refine zD ?_ ?_
    · exact (zI (i := 2) sc24x.nd rfl (Or.inl rfl) (zZ zB))
    refine zD ?_ ?_
    · exact (zO (zL yW (pv3 1) (zP (zA zG (zA zG (zA zG (zA zG (zA zG zB)))))) rfl) (zF (zS (zX F.plainAttrs_list F.slot_list_append F.type_list_append yC (pv3 2) (zA (zK (pv3 0) zC (fun _ _ => rfl)) zB)))) zM)
    refine zD ?_ ?_
    · exact (zO (zL yW (pv3 1) (zP (zA zG (zA zG zB))) rfl) (zF (zS (zX F.plainAttrs_list F.slot_list_append F.type_list_append yC (pv3 2) (zA (zK (pv3 0) zC (fun _ _ => rfl)) zB)))) zM)
    refine zD ?_ ?_
    · exact (zO (zL (zW hr) (pv3 1) zG (C1 _)) (zF (zJ (FW ["_law_caught"] [] [] rfl (yS (zK (pv3 0) zC (fun _ _ => rfl))) rfl (by first | rfl | kernel_rfl) rfl (S5 (by decide)) (fun cl s₀ H₀ ex => (yE (i := 0) (show List.Nodup (["_law_caught"] : List Str) by decide +kernel) rfl (Or.inl rfl) (Or.inr rfl))) (fun cl s₀ H₀ ex => yD) (fun cl s₀ H₀ ex => (zK (pv3 0) zC (fun _ _ => rfl)))))) zM)
    refine zD ?_ ?_
    · exact (zO (zL yW (pv3 1) (zP (zA zG (zA zG (zA zG (zA zG (zA zG zB)))))) rfl) (zF (zS (zX F.plainAttrs_list F.slot_list_extend F.type_list_extend yB (pv3 2) (zA (zE G23x (hr.mono (by decide)) rfl A23x.gl A23x.fn.kp A23x.bd (zA (zK (pv3 0) zC (fun _ _ => rfl)) zB)) zB)))) zM)
    refine zD ?_ ?_
    · exact (zO (zL yW (pv3 1) (zP (zA zG (zA zG (zA zG (zA zG zB))))) rfl) (zF (zS (zX F.plainAttrs_list F.slot_list_extend F.type_list_extend yB (pv3 2) (zA (zE G23x (hr.mono (by decide)) rfl A23x.gl A23x.fn.kp A23x.bd (zA (zK (pv3 0) zC (fun _ _ => rfl)) zB)) zB)))) zM)
    refine zD ?_ ?_
    · exact (zO (zL yW (pv3 1) (zP (zA zG (zA zG zB))) rfl) (zF (zS (zX F.plainAttrs_list F.slot_list_extend F.type_list_extend yB (pv3 2) (zA (zH AK9 (zE G23x (hr.mono (by decide)) rfl A23x.gl A23x.fn.kp A23x.bd (zA (zK (pv3 0) zC (fun _ _ => rfl)) zB)) (zE G23x (hr.mono (by decide)) rfl A23x.gl A23x.fn.kp A23x.bd (zA (zK (pv3 0) (AB8 WC zC) (fun _ _ => rfl)) zB))) zB)))) zM)
    exact zF (zJ (pv3 2))
theorem BF0 {fd : FuncData} (B : Blt mg) (C : Cst K w.params mg) {f23x : Addr} {fd23x : FuncData} (A23x : UO K mg f23x fd23x) (G23x : UL P w K mg base 6 f23x fd23x (G0 5)) (F : AK4 K mg f fd) : AK6 P w K mg base 7 f fd FN :=
  L3.Fun.ok3 F.fn sc24x BO fun cdv A outer s H E hr => ⟨B4, @BB8 P w K mg base f cdv A outer s H E B C f23x fd23x A23x G23x hr, CL⟩
theorem sc25x : C8 K0 ["_law_block_here"] (A3 LH) := ⟨rfl, rfl, rfl, by decide +kernel, rfl, by decide +kernel, by decide +kernel⟩
theorem BD2 (B : Blt mg) (C : Cst K w.params mg) {f24x : Addr} {fd24x : FuncData} (A24x : AK4 K mg f24x fd24x) (G24x : AK6 P w K mg base 7 f24x fd24x FN) {f17x : Addr} {fd17x : FuncData} (A17x : PO K mg f17x fd17x) (G17x : OZ P w K mg base 1 f17x fd17x PK.F4) {kr : Nat} {q25x : Sp3} {f25x : Addr} {fd25x : FuncData} (A25x : UM K mg f25x fd25x) (G25x : VS P w K mg base kr f25x fd25x q25x) (hkr : 8 ≤ kr)
    (hr : Room kr (A.deeper (envOfC "_law_all_names" (A3 LH) s.heap.objs.size f cdv))) :
    PSs3 (J6 CX0 P w K mg base K0 "_law_all_names" (A3 LH) f cdv A outer s H E).nox (B1 LH) (G1 q25x) := by
    unfold G1
    refine zD ?_ ?_
    · exact (zI (i := 1) sc25x.nd rfl (Or.inl rfl) (zZ zB))
    refine zD ?_ ?_
    · exact (yA PassesOwn.never rfl (yS (pv3 0)) sc25x.nd rfl (Or.inl rfl) (zD (zS (zX F.plainAttrs_list F.slot_list_extend F.type_list_extend yB (pv3 1) (zA (zE G24x (hr.mono (by omega)) rfl A24x.gl A24x.fn.kp A24x.bd (zA (pv3 2) zB)) zB)))
    (zF (yA PassesOwn.never rfl (yL (zE G17x (hr.mono (by omega)) rfl A17x.gl A17x.fn.kp A17x.bd (zA (pv3 2) zB))) sc25x.nd rfl (Or.inl rfl) (zF (zS (zX F.plainAttrs_list F.slot_list_extend F.type_list_extend yB (pv3 1) (zA (zE G25x hr rfl A25x.gl A25x.fn.kp A25x.bd (zA (pv3 3) zB)) zB))))))))
    exact zF (zJ (pv3 1))
theorem BI2 {fd : FuncData} (B : Blt mg) (C : Cst K w.params mg) {f24x : Addr} {fd24x : FuncData} (A24x : AK4 K mg f24x fd24x) (G24x : AK6 P w K mg base 7 f24x fd24x FN) {f17x : Addr} {fd17x : FuncData} (A17x : PO K mg f17x fd17x) (G17x : OZ P w K mg base 1 f17x fd17x PK.F4) {kr lv : Nat} {f25x : Addr} {fd25x : FuncData} (A25x : UM K mg f25x fd25x) (G25x : VS P w K mg base kr f25x fd25x (AG lv)) (hkr : 8 ≤ kr) (F : UM K mg f fd) : VS P w K mg base (kr + 1) f fd (AG (lv + 1)) :=
  L3.Fun.ok3 F.fn sc25x (U0 (lv + 1)) fun cdv A outer s H E hr => ⟨G1 (AG lv), BD2 B C A24x G24x A17x G17x A25x G25x hkr hr, BZ lv⟩
theorem ZV (B : Blt mg) (C : Cst K w.params mg) {f24x : Addr} {fd24x : FuncData} (A24x : AK4 K mg f24x fd24x) (G24x : AK6 P w K mg base 7 f24x fd24x FN) {f17x : Addr} {fd17x : FuncData} (A17x : PO K mg f17x fd17x) (G17x : OZ P w K mg base 1 f17x fd17x PK.F4) {f25x : Addr} {fd25x : FuncData} (A25x : UM K mg f25x fd25x) : ∀ lv : Nat, VS P w K mg base (8 + lv) f25x fd25x (AG lv)
  | 0 => K2 U0 AY
  | lv + 1 => by
    obtain G25x := ZV B C A24x G24x A17x G17x A25x lv
    exact BI2 B C A24x G24x A17x G17x A25x G25x (Nat.le_add_right _ _) A25x
theorem sc26x : C8 TK ["_law_script"] (A3 DU) := ⟨rfl, rfl, rfl, by decide +kernel, rfl, by decide +kernel, by decide +kernel⟩
theorem BC8 (B : Blt mg) (C : Cst K w.params mg) {f8x : Addr} {fd8x : FuncData} (A8x : T8x K mg f8x fd8x) (G8x : U8x P w K mg base 1 f8x fd8x FR) {f9x : Addr} {fd9x : FuncData} (A9x : T9x K mg f9x fd9x) (G9x : U9x P w K mg base 1 f9x fd9x B3) {f22x : Addr} {fd22x : FuncData} (A22x : AY8 K mg f22x fd22x) (G22x : AS5 P w K mg base 33 f22x fd22x PK.DC) {f25x : Addr} {fd25x : FuncData} (A25x : UM K mg f25x fd25x) (G25x : VS P w K mg base 16 f25x fd25x (AG 8)) {f7x : Addr} {fd7x : FuncData} (A7x : T7x K mg f7x fd7x) (G7x : U7x P w K mg base 12 f7x fd7x N0)
    (hr : Room 34 (A.deeper (envOfC "law" (A3 DU) s.heap.objs.size f cdv))) :
    PSs3 (J6 CX0 P w K mg base TK "law" (A3 DU) f cdv A outer s H E).nox (B1 DU) NW := by
    unfold NW
    refine zD ?_ ?_
    · exact (zI (i := 1) sc26x.nd rfl (Or.inl rfl) (zE G8x (hr.mono (by decide)) rfl A8x.gl A8x.fn.kp A8x.bd (zA (pv3 0) zB)))
    refine zD ?_ ?_
    · exact (zI (i := 2) sc26x.nd rfl (Or.inl rfl) (zK (zR (zA zC (zA zC zB))) (zV QS rfl B.int_ PQ (zA (yZ (zW hr) (zE G9x (hr.mono (by decide)) rfl A9x.gl A9x.fn.kp A9x.bd (zA (pv3 1) (zA zC zB))) zC (C1 _)) zB)) (fun _ _ => rfl)))
    refine zD ?_ ?_
    · exact (zI (i := 3) sc26x.nd rfl (Or.inl rfl) (zE G22x (hr.mono (by decide)) rfl A22x.gl A22x.fn.kp A22x.bd (zA (pv3 1) (zA zC (zA (pv3 2) zB)))))
    refine zD ?_ ?_
    · exact (zI (i := 4) sc26x.nd rfl (Or.inl rfl) (zN (yV hr) rfl B.repr_ ED (zA (pv3 3) zB)))
    refine zD ?_ ?_
    · exact (yA PassesOwn.never rfl (yS (zH zQ (pv3 3) (pv3 3))) sc26x.nd rfl (Or.inr rfl) (zD (yX 6 ["_law_name"] ["_law_rule"] [5] rfl (yL (HZ rfl rfl B.sorted_ (LC rfl rfl B.set_ QV (zA (zE G25x (hr.mono (by decide)) rfl A25x.gl A25x.fn.kp A25x.bd (zA (zK (pv3 5) zC (fun _ _ => rfl)) zB)) zB)))) rfl (by first | rfl | kernel_rfl) rfl (S5 (by decide)) (fun cl s₀ H₀ ex => (yE (i := 0) (show List.Nodup (["_law_name", "_law_rule"] : List Str) by decide +kernel) rfl (Or.inl rfl) (Or.inr rfl))) (fun cl s₀ H₀ ex => (yR (zL YZ (pv3 0) (zK (pv3 1) zC (fun _ _ => rfl)) rfl))) (fun cl s₀ H₀ ex => (pv3 0)) sc26x.nd rfl (Or.inl rfl) (Or.inl rfl))
    (zF (zO (zL (XC hr) (zN (yV hr) rfl B.repr_ ED (zA (zE G7x (hr.mono (by decide)) rfl A7x.gl A7x.fn.kp A7x.bd (zA (pv3 5) zB)) zB)) (zN (yV hr) rfl B.repr_ ED (zA (zH zQ (zK (pv3 5) zC (fun _ _ => rfl)) (zV yK rfl B.tuple_ S9 (zA (pv3 6) zB))) zB)) (C1 _)) (zF (zJ AB5)) zM))))
    exact zF (zJ (yZ (zW hr) (zN (yV hr) rfl B.repr_ ED (zA (pv3 3) zB)) (pv3 4) (C1 _)))
theorem AZ8 {fd : FuncData} (B : Blt mg) (C : Cst K w.params mg) {f8x : Addr} {fd8x : FuncData} (A8x : T8x K mg f8x fd8x) (G8x : U8x P w K mg base 1 f8x fd8x FR) {f9x : Addr} {fd9x : FuncData} (A9x : T9x K mg f9x fd9x) (G9x : U9x P w K mg base 1 f9x fd9x B3) {f22x : Addr} {fd22x : FuncData} (A22x : AY8 K mg f22x fd22x) (G22x : AS5 P w K mg base 33 f22x fd22x PK.DC) {f25x : Addr} {fd25x : FuncData} (A25x : UM K mg f25x fd25x) (G25x : VS P w K mg base 16 f25x fd25x (AG 8)) {f7x : Addr} {fd7x : FuncData} (A7x : T7x K mg f7x fd7x) (G7x : U7x P w K mg base 12 f7x fd7x N0) (F : BM3 K mg f fd) : BL7 P w K mg base 35 f fd L3.DD :=
  L3.Fun.ok3 F.fn sc26x AI5 fun cdv A outer s H E hr => ⟨NW, @BC8 P w K mg base f cdv A outer s H E B C f8x fd8x A8x G8x f9x fd9x A9x G9x f22x fd22x A22x G22x f25x fd25x A25x G25x f7x fd7x A7x G7x hr, AU8⟩
end
theorem AQ9 {l : PySem.W.OpenLaw} {w : World} {K : PySem.W.Frag} {h : Heap} {mg : Str → Option Value} {fa : Addr} (X : K.In h) (G : h.Ns mainGlobals mg) (hfa : mg "law" = some (.ref fa))
    {f0x : Addr} {od0x an0x : Option Addr} {sl0x : Array (Option Value)} {oc0x kV0x dc0x pm0x cd0x ct0x : Value}
    {f1x : Addr} {od1x an1x : Option Addr} {sl1x : Array (Option Value)} {oc1x kV1x dc1x pm1x cd1x ct1x : Value}
    {f2x : Addr} {od2x an2x : Option Addr} {sl2x : Array (Option Value)} {oc2x kV2x dc2x pm2x cd2x ct2x : Value}
    {f3x : Addr} {od3x an3x : Option Addr} {sl3x : Array (Option Value)} {oc3x kV3x dc3x pm3x cd3x ct3x : Value}
    {f4x : Addr} {od4x an4x : Option Addr} {sl4x : Array (Option Value)} {oc4x kV4x dc4x pm4x cd4x ct4x : Value}
    {f5x : Addr} {od5x an5x : Option Addr} {sl5x : Array (Option Value)} {oc5x kV5x dc5x pm5x cd5x ct5x : Value}
    {f6x : Addr} {od6x an6x : Option Addr} {sl6x : Array (Option Value)} {oc6x kV6x dc6x pm6x cd6x ct6x : Value}
    {f7x : Addr} {od7x an7x : Option Addr} {sl7x : Array (Option Value)} {oc7x kV7x dc7x pm7x cd7x ct7x : Value}
    {f8x : Addr} {od8x an8x : Option Addr} {sl8x : Array (Option Value)} {oc8x kV8x dc8x pm8x cd8x ct8x : Value}
    {f9x : Addr} {od9x an9x : Option Addr} {sl9x : Array (Option Value)} {oc9x kV9x dc9x pm9x cd9x ct9x : Value}
    {f10x : Addr} {od10x an10x : Option Addr} {sl10x : Array (Option Value)} {oc10x kV10x dc10x pm10x cd10x ct10x : Value}
    {f11x : Addr} {od11x an11x : Option Addr} {sl11x : Array (Option Value)} {oc11x kV11x dc11x pm11x cd11x ct11x : Value}
    {f12x : Addr} {od12x an12x : Option Addr} {sl12x : Array (Option Value)} {oc12x kV12x dc12x pm12x cd12x ct12x : Value}
    {f13x : Addr} {od13x an13x : Option Addr} {sl13x : Array (Option Value)} {oc13x kV13x dc13x pm13x cd13x ct13x : Value}
    {f14x : Addr} {od14x an14x : Option Addr} {sl14x : Array (Option Value)} {oc14x kV14x dc14x pm14x cd14x ct14x : Value}
    {f15x : Addr} {od15x an15x : Option Addr} {sl15x : Array (Option Value)} {oc15x kV15x dc15x pm15x cd15x ct15x : Value}
    {f16x : Addr} {od16x an16x : Option Addr} {sl16x : Array (Option Value)} {oc16x kV16x dc16x pm16x cd16x ct16x : Value}
    {f17x : Addr} {od17x an17x : Option Addr} {sl17x : Array (Option Value)} {oc17x kV17x dc17x pm17x cd17x ct17x : Value}
    {f18x : Addr} {od18x an18x : Option Addr} {sl18x : Array (Option Value)} {oc18x kV18x dc18x pm18x cd18x ct18x : Value}
    {f19x : Addr} {od19x an19x : Option Addr} {sl19x : Array (Option Value)} {oc19x kV19x dc19x pm19x cd19x ct19x : Value}
    {f20x : Addr} {od20x an20x : Option Addr} {sl20x : Array (Option Value)} {oc20x kV20x dc20x pm20x cd20x ct20x : Value}
    {f21x : Addr} {od21x an21x : Option Addr} {sl21x : Array (Option Value)} {oc21x kV21x dc21x pm21x cd21x ct21x : Value}
    {f22x : Addr} {od22x an22x : Option Addr} {sl22x : Array (Option Value)} {oc22x kV22x dc22x pm22x cd22x ct22x : Value}
    {f23x : Addr} {od23x an23x : Option Addr} {sl23x : Array (Option Value)} {oc23x kV23x dc23x pm23x cd23x ct23x : Value}
    {f24x : Addr} {od24x an24x : Option Addr} {sl24x : Array (Option Value)} {oc24x kV24x dc24x pm24x cd24x ct24x : Value}
    {f25x : Addr} {od25x an25x : Option Addr} {sl25x : Array (Option Value)} {oc25x kV25x dc25x pm25x cd25x ct25x : Value}
    {f26x : Addr} {od26x an26x : Option Addr} {sl26x : Array (Option Value)} {oc26x kV26x dc26x pm26x cd26x ct26x : Value}
    {a_SHAPES : Addr}
    {a_SHAPES_0 a_SHAPES_1 a_SHAPES_2 a_SHAPES_3 a_SHAPES_4 a_SHAPES_5 a_SHAPES_6 a_SHAPES_7 a_SHAPES_8 a_SHAPES_9 a_SHAPES_10 a_SHAPES_11 a_SHAPES_12 : Addr} {kt_SHAPES_0 kt_SHAPES_1 kt_SHAPES_2 kt_SHAPES_3 kt_SHAPES_4 kt_SHAPES_5 kt_SHAPES_6 kt_SHAPES_7 kt_SHAPES_8 kt_SHAPES_9 kt_SHAPES_10 kt_SHAPES_11 kt_SHAPES_12 : Tok} {ep_SHAPES : Nat}
    {tk_SHAPES_0_0 tk_SHAPES_0_1 : Tok} {od_SHAPES_0 : Option Addr} {n_SHAPES_0 : Nat} {sl_SHAPES_0 : Array (Option Value)}
    {tk_SHAPES_1_0 : Tok} {od_SHAPES_1 : Option Addr} {n_SHAPES_1 : Nat} {sl_SHAPES_1 : Array (Option Value)}
    {tk_SHAPES_2_0 tk_SHAPES_2_1 : Tok} {od_SHAPES_2 : Option Addr} {n_SHAPES_2 : Nat} {sl_SHAPES_2 : Array (Option Value)}
    {tk_SHAPES_3_0 tk_SHAPES_3_1 : Tok} {od_SHAPES_3 : Option Addr} {n_SHAPES_3 : Nat} {sl_SHAPES_3 : Array (Option Value)}
    {tk_SHAPES_4_0 tk_SHAPES_4_1 tk_SHAPES_4_2 tk_SHAPES_4_3 : Tok} {od_SHAPES_4 : Option Addr} {n_SHAPES_4 : Nat} {sl_SHAPES_4 : Array (Option Value)}
    {tk_SHAPES_5_0 tk_SHAPES_5_1 tk_SHAPES_5_2 tk_SHAPES_5_3 tk_SHAPES_5_4 : Tok} {od_SHAPES_5 : Option Addr} {n_SHAPES_5 : Nat} {sl_SHAPES_5 : Array (Option Value)}
    {tk_SHAPES_6_0 : Tok} {od_SHAPES_6 : Option Addr} {n_SHAPES_6 : Nat} {sl_SHAPES_6 : Array (Option Value)}
    {tk_SHAPES_7_0 : Tok} {od_SHAPES_7 : Option Addr} {n_SHAPES_7 : Nat} {sl_SHAPES_7 : Array (Option Value)}
    {tk_SHAPES_8_0 tk_SHAPES_8_1 : Tok} {od_SHAPES_8 : Option Addr} {n_SHAPES_8 : Nat} {sl_SHAPES_8 : Array (Option Value)}
    {od_SHAPES_9 : Option Addr} {n_SHAPES_9 : Nat} {sl_SHAPES_9 : Array (Option Value)}
    {tk_SHAPES_10_0 tk_SHAPES_10_1 tk_SHAPES_10_2 : Tok} {od_SHAPES_10 : Option Addr} {n_SHAPES_10 : Nat} {sl_SHAPES_10 : Array (Option Value)}
    {tk_SHAPES_11_0 tk_SHAPES_11_1 : Tok} {od_SHAPES_11 : Option Addr} {n_SHAPES_11 : Nat} {sl_SHAPES_11 : Array (Option Value)}
    {tk_SHAPES_12_0 tk_SHAPES_12_1 tk_SHAPES_12_2 : Tok} {od_SHAPES_12 : Option Addr} {n_SHAPES_12 : Nat} {sl_SHAPES_12 : Array (Option Value)}
    (a0x : PySem.W.nsIn K mainGlobals "parts_of" = some (some (.ref f0x))) (l0x : K.lookup f0x = some ⟨oc0x, od0x, .func (PySem.W.fnOf "parts_of" "parts_of" (C5 s0x) (B1 s0x) (A3 s0x) .none kV0x dc0x pm0x an0x cd0x ct0x), sl0x⟩) (c0x : PySem.W.codeIn K cd0x "parts_of" = true) (k0x : PySem.W.keepIn K (.ref f0x) = true)
    (a1x : PySem.W.nsIn K mainGlobals "blocks_of" = some (some (.ref f1x))) (l1x : K.lookup f1x = some ⟨oc1x, od1x, .func (PySem.W.fnOf "blocks_of" "blocks_of" (C5 s1x) (B1 s1x) (A3 s1x) .none kV1x dc1x pm1x an1x cd1x ct1x), sl1x⟩) (c1x : PySem.W.codeIn K cd1x "blocks_of" = true) (k1x : PySem.W.keepIn K (.ref f1x) = true)
    (a2x : PySem.W.nsIn K mainGlobals "deeds_of" = some (some (.ref f2x))) (l2x : K.lookup f2x = some ⟨oc2x, od2x, .func (PySem.W.fnOf "deeds_of" "deeds_of" (C5 s2x) (B1 s2x) (A3 s2x) .none kV2x dc2x pm2x an2x cd2x ct2x), sl2x⟩) (c2x : PySem.W.codeIn K cd2x "deeds_of" = true) (k2x : PySem.W.keepIn K (.ref f2x) = true)
    (a3x : PySem.W.nsIn K mainGlobals "names_given" = some (some (.ref f3x))) (l3x : K.lookup f3x = some ⟨oc3x, od3x, .func (PySem.W.fnOf "names_given" "names_given" (C5 s3x) (B1 s3x) (A3 s3x) .none kV3x dc3x pm3x an3x cd3x ct3x), sl3x⟩) (c3x : PySem.W.codeIn K cd3x "names_given" = true) (k3x : PySem.W.keepIn K (.ref f3x) = true)
    (a4x : PySem.W.nsIn K mainGlobals "branches_of" = some (some (.ref f4x))) (l4x : K.lookup f4x = some ⟨oc4x, od4x, .func (PySem.W.fnOf "branches_of" "branches_of" (C5 s4x) (B1 s4x) (A3 s4x) .none kV4x dc4x pm4x an4x cd4x ct4x), sl4x⟩) (c4x : PySem.W.codeIn K cd4x "branches_of" = true) (k4x : PySem.W.keepIn K (.ref f4x) = true)
    (a5x : PySem.W.nsIn K mainGlobals "trees_of" = some (some (.ref f5x))) (l5x : K.lookup f5x = some ⟨oc5x, od5x, .func (PySem.W.fnOf "trees_of" "trees_of" (C5 s5x) (B1 s5x) (A3 s5x) .none kV5x dc5x pm5x an5x cd5x ct5x), sl5x⟩) (c5x : PySem.W.codeIn K cd5x "trees_of" = true) (k5x : PySem.W.keepIn K (.ref f5x) = true)
    (a6x : PySem.W.nsIn K mainGlobals "trees_in" = some (some (.ref f6x))) (l6x : K.lookup f6x = some ⟨oc6x, od6x, .func (PySem.W.fnOf "trees_in" "trees_in" (C5 s6x) (B1 s6x) (A3 s6x) .none kV6x dc6x pm6x an6x cd6x ct6x), sl6x⟩) (c6x : PySem.W.codeIn K cd6x "trees_in" = true) (k6x : PySem.W.keepIn K (.ref f6x) = true)
    (a7x : PySem.W.nsIn K mainGlobals "variables" = some (some (.ref f7x))) (l7x : K.lookup f7x = some ⟨oc7x, od7x, .func (PySem.W.fnOf "variables" "variables" (C5 s7x) (B1 s7x) (A3 s7x) .none kV7x dc7x pm7x an7x cd7x ct7x), sl7x⟩) (c7x : PySem.W.codeIn K cd7x "variables" = true) (k7x : PySem.W.keepIn K (.ref f7x) = true)
    (a8x : PySem.W.nsIn K mainGlobals "_law_pen" = some (some (.ref f8x))) (l8x : K.lookup f8x = some ⟨oc8x, od8x, .func (PySem.W.fnOf "_law_pen" "_law_pen" (C5 s8x) (B1 s8x) (A3 s8x) .none kV8x dc8x pm8x an8x cd8x ct8x), sl8x⟩) (c8x : PySem.W.codeIn K cd8x "_law_pen" = true) (k8x : PySem.W.keepIn K (.ref f8x) = true)
    (a9x : PySem.W.nsIn K mainGlobals "_law_draw" = some (some (.ref f9x))) (l9x : K.lookup f9x = some ⟨oc9x, od9x, .func (PySem.W.fnOf "_law_draw" "_law_draw" (C5 s9x) (B1 s9x) (A3 s9x) .none kV9x dc9x pm9x an9x cd9x ct9x), sl9x⟩) (c9x : PySem.W.codeIn K cd9x "_law_draw" = true) (k9x : PySem.W.keepIn K (.ref f9x) = true)
    (a10x : PySem.W.nsIn K mainGlobals "_law_letters" = some (some (.ref f10x))) (l10x : K.lookup f10x = some ⟨oc10x, od10x, .func (PySem.W.fnOf "_law_letters" "_law_letters" (C5 MB) (B1 MB) (A3 MB) .none kV10x dc10x pm10x an10x cd10x ct10x), sl10x⟩) (c10x : PySem.W.codeIn K cd10x "_law_letters" = true) (k10x : PySem.W.keepIn K (.ref f10x) = true)
    (a11x : PySem.W.nsIn K mainGlobals "_law_fresh" = some (some (.ref f11x))) (l11x : K.lookup f11x = some ⟨oc11x, od11x, .func (PySem.W.fnOf "_law_fresh" "_law_fresh" (C5 MG) (B1 MG) (A3 MG) .none kV11x dc11x pm11x an11x cd11x ct11x), sl11x⟩) (c11x : PySem.W.codeIn K cd11x "_law_fresh" = true) (k11x : PySem.W.keepIn K (.ref f11x) = true)
    (a12x : PySem.W.nsIn K mainGlobals "_law_names" = some (some (.ref f12x))) (l12x : K.lookup f12x = some ⟨oc12x, od12x, .func (PySem.W.fnOf "_law_names" "_law_names" (C5 LJ) (B1 LJ) (A3 LJ) .none kV12x dc12x pm12x an12x cd12x ct12x), sl12x⟩) (c12x : PySem.W.codeIn K cd12x "_law_names" = true) (k12x : PySem.W.keepIn K (.ref f12x) = true)
    (a13x : PySem.W.nsIn K mainGlobals "_law_word" = some (some (.ref f13x))) (l13x : K.lookup f13x = some ⟨oc13x, od13x, .func (PySem.W.fnOf "_law_word" "_law_word" (C5 KQ) (B1 KQ) (A3 KQ) .none kV13x dc13x pm13x an13x cd13x ct13x), sl13x⟩) (c13x : PySem.W.codeIn K cd13x "_law_word" = true) (k13x : PySem.W.keepIn K (.ref f13x) = true)
    (a14x : PySem.W.nsIn K mainGlobals "_law_leaf" = some (some (.ref f14x))) (l14x : K.lookup f14x = some ⟨oc14x, od14x, .func (PySem.W.fnOf "_law_leaf" "_law_leaf" (C5 JQ) (B1 JQ) (A3 JQ) .none kV14x dc14x pm14x an14x cd14x ct14x), sl14x⟩) (c14x : PySem.W.codeIn K cd14x "_law_leaf" = true) (k14x : PySem.W.keepIn K (.ref f14x) = true)
    (a15x : PySem.W.nsIn K mainGlobals "_law_expression" = some (some (.ref f15x))) (l15x : K.lookup f15x = some ⟨oc15x, od15x, .func (PySem.W.fnOf "_law_expression" "_law_expression" (C5 KR) (B1 KR) (A3 KR) .none kV15x dc15x pm15x an15x cd15x ct15x), sl15x⟩) (c15x : PySem.W.codeIn K cd15x "_law_expression" = true) (k15x : PySem.W.keepIn K (.ref f15x) = true)
    (a16x : PySem.W.nsIn K mainGlobals "_law_simple" = some (some (.ref f16x))) (l16x : K.lookup f16x = some ⟨oc16x, od16x, .func (PySem.W.fnOf "_law_simple" "_law_simple" (C5 LK) (B1 LK) (A3 LK) .none kV16x dc16x pm16x an16x cd16x ct16x), sl16x⟩) (c16x : PySem.W.codeIn K cd16x "_law_simple" = true) (k16x : PySem.W.keepIn K (.ref f16x) = true)
    (a17x : PySem.W.nsIn K mainGlobals "_law_inner" = some (some (.ref f17x))) (l17x : K.lookup f17x = some ⟨oc17x, od17x, .func (PySem.W.fnOf "_law_inner" "_law_inner" (C5 MD) (B1 MD) (A3 MD) .none kV17x dc17x pm17x an17x cd17x ct17x), sl17x⟩) (c17x : PySem.W.codeIn K cd17x "_law_inner" = true) (k17x : PySem.W.keepIn K (.ref f17x) = true)
    (a18x : PySem.W.nsIn K mainGlobals "_law_count" = some (some (.ref f18x))) (l18x : K.lookup f18x = some ⟨oc18x, od18x, .func (PySem.W.fnOf "_law_count" "_law_count" (C5 LP) (B1 LP) (A3 LP) .none kV18x dc18x pm18x an18x cd18x ct18x), sl18x⟩) (c18x : PySem.W.codeIn K cd18x "_law_count" = true) (k18x : PySem.W.keepIn K (.ref f18x) = true)
    (a19x : PySem.W.nsIn K mainGlobals "_law_try" = some (some (.ref f19x))) (l19x : K.lookup f19x = some ⟨oc19x, od19x, .func (PySem.W.fnOf "_law_try" "_law_try" (C5 JE) (B1 JE) (A3 JE) .none kV19x dc19x pm19x an19x cd19x ct19x), sl19x⟩) (c19x : PySem.W.codeIn K cd19x "_law_try" = true) (k19x : PySem.W.keepIn K (.ref f19x) = true)
    (a20x : PySem.W.nsIn K mainGlobals "_law_deed" = some (some (.ref f20x))) (l20x : K.lookup f20x = some ⟨oc20x, od20x, .func (PySem.W.fnOf "_law_deed" "_law_deed" (C5 KS) (B1 KS) (A3 KS) .none kV20x dc20x pm20x an20x cd20x ct20x), sl20x⟩) (c20x : PySem.W.codeIn K cd20x "_law_deed" = true) (k20x : PySem.W.keepIn K (.ref f20x) = true)
    (a21x : PySem.W.nsIn K mainGlobals "_law_block" = some (some (.ref f21x))) (l21x : K.lookup f21x = some ⟨oc21x, od21x, .func (PySem.W.fnOf "_law_block" "_law_block" (C5 KN) (B1 KN) (A3 KN) .none kV21x dc21x pm21x an21x cd21x ct21x), sl21x⟩) (c21x : PySem.W.codeIn K cd21x "_law_block" = true) (k21x : PySem.W.keepIn K (.ref f21x) = true)
    (a22x : PySem.W.nsIn K mainGlobals "_law_book" = some (some (.ref f22x))) (l22x : K.lookup f22x = some ⟨oc22x, od22x, .func (PySem.W.fnOf "_law_book" "_law_book" (C5 JI) (B1 JI) (A3 JI) .none kV22x dc22x pm22x an22x cd22x ct22x), sl22x⟩) (c22x : PySem.W.codeIn K cd22x "_law_book" = true) (k22x : PySem.W.keepIn K (.ref f22x) = true)
    (a23x : PySem.W.nsIn K mainGlobals "_law_vars" = some (some (.ref f23x))) (l23x : K.lookup f23x = some ⟨oc23x, od23x, .func (PySem.W.fnOf "_law_vars" "_law_vars" (C5 KU) (B1 KU) (A3 KU) .none kV23x dc23x pm23x an23x cd23x ct23x), sl23x⟩) (c23x : PySem.W.codeIn K cd23x "_law_vars" = true) (k23x : PySem.W.keepIn K (.ref f23x) = true)
    (a24x : PySem.W.nsIn K mainGlobals "_law_own_names" = some (some (.ref f24x))) (l24x : K.lookup f24x = some ⟨oc24x, od24x, .func (PySem.W.fnOf "_law_own_names" "_law_own_names" (C5 LE) (B1 LE) (A3 LE) .none kV24x dc24x pm24x an24x cd24x ct24x), sl24x⟩) (c24x : PySem.W.codeIn K cd24x "_law_own_names" = true) (k24x : PySem.W.keepIn K (.ref f24x) = true)
    (a25x : PySem.W.nsIn K mainGlobals "_law_all_names" = some (some (.ref f25x))) (l25x : K.lookup f25x = some ⟨oc25x, od25x, .func (PySem.W.fnOf "_law_all_names" "_law_all_names" (C5 LH) (B1 LH) (A3 LH) .none kV25x dc25x pm25x an25x cd25x ct25x), sl25x⟩) (c25x : PySem.W.codeIn K cd25x "_law_all_names" = true) (k25x : PySem.W.keepIn K (.ref f25x) = true)
    (a26x : PySem.W.nsIn K mainGlobals "law" = some (some (.ref f26x))) (l26x : K.lookup f26x = some ⟨oc26x, od26x, .func (PySem.W.fnOf "law" "law" (C5 DU) (B1 DU) (A3 DU) .none kV26x dc26x pm26x an26x cd26x ct26x), sl26x⟩) (c26x : PySem.W.codeIn K cd26x "law" = true) (k26x : PySem.W.keepIn K (.ref f26x) = true)
    (z_abs : PySem.W.nsIn K mainGlobals "abs" = some none)
    (z_int : PySem.W.nsIn K mainGlobals "int" = some none)
    (z_len : PySem.W.nsIn K mainGlobals "len" = some none)
    (z_list : PySem.W.nsIn K mainGlobals "list" = some none)
    (z_min : PySem.W.nsIn K mainGlobals "min" = some none)
    (z_range : PySem.W.nsIn K mainGlobals "range" = some none)
    (z_repr : PySem.W.nsIn K mainGlobals "repr" = some none)
    (z_set : PySem.W.nsIn K mainGlobals "set" = some none)
    (z_sorted : PySem.W.nsIn K mainGlobals "sorted" = some none)
    (z_sum : PySem.W.nsIn K mainGlobals "sum" = some none)
    (z_tuple : PySem.W.nsIn K mainGlobals "tuple" = some none)
    (z_zip : PySem.W.nsIn K mainGlobals "zip" = some none)
    (u_SHAPES : PySem.W.nsIn K mainGlobals "SHAPES" = some (some (.ref a_SHAPES)))
    (l_SHAPES : K.lookup a_SHAPES = some ⟨.type "dict", none, .dict #[⟨PyData.keyHash w.params "let", .str "let" kt_SHAPES_0, .ref a_SHAPES_0⟩, ⟨PyData.keyHash w.params "note", .str "note" kt_SHAPES_1, .ref a_SHAPES_1⟩, ⟨PyData.keyHash w.params "give", .str "give" kt_SHAPES_2, .ref a_SHAPES_2⟩, ⟨PyData.keyHash w.params "on", .str "on" kt_SHAPES_3, .ref a_SHAPES_3⟩, ⟨PyData.keyHash w.params "ask", .str "ask" kt_SHAPES_4, .ref a_SHAPES_4⟩, ⟨PyData.keyHash w.params "cast", .str "cast" kt_SHAPES_5, .ref a_SHAPES_5⟩, ⟨PyData.keyHash w.params "close", .str "close" kt_SHAPES_6, .ref a_SHAPES_6⟩, ⟨PyData.keyHash w.params "end", .str "end" kt_SHAPES_7, .ref a_SHAPES_7⟩, ⟨PyData.keyHash w.params "fault", .str "fault" kt_SHAPES_8, .ref a_SHAPES_8⟩, ⟨PyData.keyHash w.params "leave", .str "leave" kt_SHAPES_9, .ref a_SHAPES_9⟩, ⟨PyData.keyHash w.params "if", .str "if" kt_SHAPES_10, .ref a_SHAPES_10⟩, ⟨PyData.keyHash w.params "while", .str "while" kt_SHAPES_11, .ref a_SHAPES_11⟩, ⟨PyData.keyHash w.params "try", .str "try" kt_SHAPES_12, .ref a_SHAPES_12⟩] ep_SHAPES, #[]⟩)
    (l_SHAPES_0 : K.lookup a_SHAPES_0 = some ⟨.type "tuple", od_SHAPES_0, .seq #[.str "name" tk_SHAPES_0_0, .str "expression" tk_SHAPES_0_1] n_SHAPES_0, sl_SHAPES_0⟩)
    (l_SHAPES_1 : K.lookup a_SHAPES_1 = some ⟨.type "tuple", od_SHAPES_1, .seq #[.str "expression" tk_SHAPES_1_0] n_SHAPES_1, sl_SHAPES_1⟩)
    (l_SHAPES_2 : K.lookup a_SHAPES_2 = some ⟨.type "tuple", od_SHAPES_2, .seq #[.str "name" tk_SHAPES_2_0, .str "expression" tk_SHAPES_2_1] n_SHAPES_2, sl_SHAPES_2⟩)
    (l_SHAPES_3 : K.lookup a_SHAPES_3 = some ⟨.type "tuple", od_SHAPES_3, .seq #[.str "name" tk_SHAPES_3_0, .str "expression" tk_SHAPES_3_1] n_SHAPES_3, sl_SHAPES_3⟩)
    (l_SHAPES_4 : K.lookup a_SHAPES_4 = some ⟨.type "tuple", od_SHAPES_4, .seq #[.str "name" tk_SHAPES_4_0, .str "name" tk_SHAPES_4_1, .str "expression" tk_SHAPES_4_2, .str "expression" tk_SHAPES_4_3] n_SHAPES_4, sl_SHAPES_4⟩)
    (l_SHAPES_5 : K.lookup a_SHAPES_5 = some ⟨.type "tuple", od_SHAPES_5, .seq #[.str "name" tk_SHAPES_5_0, .str "name" tk_SHAPES_5_1, .str "expression" tk_SHAPES_5_2, .str "word" tk_SHAPES_5_3, .str "expression" tk_SHAPES_5_4] n_SHAPES_5, sl_SHAPES_5⟩)
    (l_SHAPES_6 : K.lookup a_SHAPES_6 = some ⟨.type "tuple", od_SHAPES_6, .seq #[.str "expression" tk_SHAPES_6_0] n_SHAPES_6, sl_SHAPES_6⟩)
    (l_SHAPES_7 : K.lookup a_SHAPES_7 = some ⟨.type "tuple", od_SHAPES_7, .seq #[.str "expression" tk_SHAPES_7_0] n_SHAPES_7, sl_SHAPES_7⟩)
    (l_SHAPES_8 : K.lookup a_SHAPES_8 = some ⟨.type "tuple", od_SHAPES_8, .seq #[.str "word" tk_SHAPES_8_0, .str "expression" tk_SHAPES_8_1] n_SHAPES_8, sl_SHAPES_8⟩)
    (l_SHAPES_9 : K.lookup a_SHAPES_9 = some ⟨.type "tuple", od_SHAPES_9, .seq #[] n_SHAPES_9, sl_SHAPES_9⟩)
    (l_SHAPES_10 : K.lookup a_SHAPES_10 = some ⟨.type "tuple", od_SHAPES_10, .seq #[.str "expression" tk_SHAPES_10_0, .str "block" tk_SHAPES_10_1, .str "rest" tk_SHAPES_10_2] n_SHAPES_10, sl_SHAPES_10⟩)
    (l_SHAPES_11 : K.lookup a_SHAPES_11 = some ⟨.type "tuple", od_SHAPES_11, .seq #[.str "expression" tk_SHAPES_11_0, .str "block" tk_SHAPES_11_1] n_SHAPES_11, sl_SHAPES_11⟩)
    (l_SHAPES_12 : K.lookup a_SHAPES_12 = some ⟨.type "tuple", od_SHAPES_12, .seq #[.str "block" tk_SHAPES_12_0, .str "catches" tk_SHAPES_12_1, .str "rest" tk_SHAPES_12_2] n_SHAPES_12, sl_SHAPES_12⟩) :
    ∃ fd : FuncData, (∀ (s : Shared) (v : Value), BindsTo s fd ⟨[v], []⟩ [("_law_script", v)]) ∧ ∀ base : Heap, K.In base → base.Ns mainGlobals mg → G4 l.prog w K mg base CX0 35 fa fd ["_law_script"] (J8 K L3.DD) := by
  have e := hfa.symm.trans (PySem.W.mg_of X G a26x)
  cases e
  have B : Blt mg := ⟨PySem.W.mg_none_of X G z_abs, PySem.W.mg_none_of X G z_int, PySem.W.mg_none_of X G z_len, PySem.W.mg_none_of X G z_list, PySem.W.mg_none_of X G z_min, PySem.W.mg_none_of X G z_range, PySem.W.mg_none_of X G z_repr, PySem.W.mg_none_of X G z_set, PySem.W.mg_none_of X G z_sorted, PySem.W.mg_none_of X G z_sum, PySem.W.mg_none_of X G z_tuple, PySem.W.mg_none_of X G z_zip⟩
  have C : Cst K w.params mg := ⟨⟨_, PySem.W.mg_of X G u_SHAPES, [("let", kt_SHAPES_0, a_SHAPES_0), ("note", kt_SHAPES_1, a_SHAPES_1), ("give", kt_SHAPES_2, a_SHAPES_2), ("on", kt_SHAPES_3, a_SHAPES_3), ("ask", kt_SHAPES_4, a_SHAPES_4), ("cast", kt_SHAPES_5, a_SHAPES_5), ("close", kt_SHAPES_6, a_SHAPES_6), ("end", kt_SHAPES_7, a_SHAPES_7), ("fault", kt_SHAPES_8, a_SHAPES_8), ("leave", kt_SHAPES_9, a_SHAPES_9), ("if", kt_SHAPES_10, a_SHAPES_10), ("while", kt_SHAPES_11, a_SHAPES_11), ("try", kt_SHAPES_12, a_SHAPES_12)], ep_SHAPES, l_SHAPES, (show (["let", "note", "give", "on", "ask", "cast", "close", "end", "fault", "leave", "if", "while", "try"] : List Str).Nodup by decide +kernel), (.cons ⟨_, _, _, l_SHAPES_0, rfl, rfl, (show (2 : Nat) ≤ sizeLine by decide), (.cons ⟨_, rfl⟩ (.cons ⟨_, rfl⟩ .nil))⟩ (.cons ⟨_, _, _, l_SHAPES_1, rfl, rfl, (show (1 : Nat) ≤ sizeLine by decide), (.cons ⟨_, rfl⟩ .nil)⟩ (.cons ⟨_, _, _, l_SHAPES_2, rfl, rfl, (show (2 : Nat) ≤ sizeLine by decide), (.cons ⟨_, rfl⟩ (.cons ⟨_, rfl⟩ .nil))⟩ (.cons ⟨_, _, _, l_SHAPES_3, rfl, rfl, (show (2 : Nat) ≤ sizeLine by decide), (.cons ⟨_, rfl⟩ (.cons ⟨_, rfl⟩ .nil))⟩ (.cons ⟨_, _, _, l_SHAPES_4, rfl, rfl, (show (4 : Nat) ≤ sizeLine by decide), (.cons ⟨_, rfl⟩ (.cons ⟨_, rfl⟩ (.cons ⟨_, rfl⟩ (.cons ⟨_, rfl⟩ .nil))))⟩ (.cons ⟨_, _, _, l_SHAPES_5, rfl, rfl, (show (5 : Nat) ≤ sizeLine by decide), (.cons ⟨_, rfl⟩ (.cons ⟨_, rfl⟩ (.cons ⟨_, rfl⟩ (.cons ⟨_, rfl⟩ (.cons ⟨_, rfl⟩ .nil)))))⟩ (.cons ⟨_, _, _, l_SHAPES_6, rfl, rfl, (show (1 : Nat) ≤ sizeLine by decide), (.cons ⟨_, rfl⟩ .nil)⟩ (.cons ⟨_, _, _, l_SHAPES_7, rfl, rfl, (show (1 : Nat) ≤ sizeLine by decide), (.cons ⟨_, rfl⟩ .nil)⟩ (.cons ⟨_, _, _, l_SHAPES_8, rfl, rfl, (show (2 : Nat) ≤ sizeLine by decide), (.cons ⟨_, rfl⟩ (.cons ⟨_, rfl⟩ .nil))⟩ (.cons ⟨_, _, _, l_SHAPES_9, rfl, rfl, (show (0 : Nat) ≤ sizeLine by decide), .nil⟩ (.cons ⟨_, _, _, l_SHAPES_10, rfl, rfl, (show (3 : Nat) ≤ sizeLine by decide), (.cons ⟨_, rfl⟩ (.cons ⟨_, rfl⟩ (.cons ⟨_, rfl⟩ .nil)))⟩ (.cons ⟨_, _, _, l_SHAPES_11, rfl, rfl, (show (2 : Nat) ≤ sizeLine by decide), (.cons ⟨_, rfl⟩ (.cons ⟨_, rfl⟩ .nil))⟩ (.cons ⟨_, _, _, l_SHAPES_12, rfl, rfl, (show (3 : Nat) ≤ sizeLine by decide), (.cons ⟨_, rfl⟩ (.cons ⟨_, rfl⟩ (.cons ⟨_, rfl⟩ .nil)))⟩ .nil)))))))))))))⟩⟩
  have A0x := D3 (st := s0x) (ps := ["deed", "kind"]) X G a0x l0x c0x k0x fun _ _ _ _ _ _ us hl => by obtain ⟨_, _, rfl⟩ := us2 hl; rfl
  have A1x := D3 (st := s1x) (ps := ["deed"]) X G a1x l1x c1x k1x fun _ _ _ _ _ _ us hl => by obtain ⟨_, rfl⟩ := us1 hl; rfl
  have A2x := D3 (st := s2x) (ps := ["block"]) X G a2x l2x c2x k2x fun _ _ _ _ _ _ us hl => by obtain ⟨_, rfl⟩ := us1 hl; rfl
  have A3x := D3 (st := s3x) (ps := ["deed"]) X G a3x l3x c3x k3x fun _ _ _ _ _ _ us hl => by obtain ⟨_, rfl⟩ := us1 hl; rfl
  have A4x := D3 (st := s4x) (ps := ["expression"]) X G a4x l4x c4x k4x fun _ _ _ _ _ _ us hl => by obtain ⟨_, rfl⟩ := us1 hl; rfl
  have A5x := D3 (st := s5x) (ps := ["expression"]) X G a5x l5x c5x k5x fun _ _ _ _ _ _ us hl => by obtain ⟨_, rfl⟩ := us1 hl; rfl
  have A6x := D3 (st := s6x) (ps := ["rule"]) X G a6x l6x c6x k6x fun _ _ _ _ _ _ us hl => by obtain ⟨_, rfl⟩ := us1 hl; rfl
  have A7x := D3 (st := s7x) (ps := ["rule"]) X G a7x l7x c7x k7x fun _ _ _ _ _ _ us hl => by obtain ⟨_, rfl⟩ := us1 hl; rfl
  have A8x := D3 (st := s8x) (ps := ["_law_script"]) X G a8x l8x c8x k8x fun _ _ _ _ _ _ us hl => by obtain ⟨_, rfl⟩ := us1 hl; rfl
  have A9x := D3 (st := s9x) (ps := ["_law_pen_here", "_law_many"]) X G a9x l9x c9x k9x fun _ _ _ _ _ _ us hl => by obtain ⟨_, _, rfl⟩ := us2 hl; rfl
  have A10x := D3 (st := MB) (ps := ["_law_pen_here", "_law_size"]) X G a10x l10x c10x k10x fun _ _ _ _ _ _ us hl => by obtain ⟨_, _, rfl⟩ := us2 hl; rfl
  have A11x := D3 (st := MG) (ps := ["_law_pen_here", "_law_taken"]) X G a11x l11x c11x k11x fun _ _ _ _ _ _ us hl => by obtain ⟨_, _, rfl⟩ := us2 hl; rfl
  have A12x := D3 (st := LJ) (ps := ["_law_pen_here", "_law_many"]) X G a12x l12x c12x k12x fun _ _ _ _ _ _ us hl => by obtain ⟨_, _, rfl⟩ := us2 hl; rfl
  have A13x := D3 (st := KQ) (ps := ["_law_pen_here"]) X G a13x l13x c13x k13x fun _ _ _ _ _ _ us hl => by obtain ⟨_, rfl⟩ := us1 hl; rfl
  have A14x := D3 (st := JQ) (ps := ["_law_pen_here", "_law_env"]) X G a14x l14x c14x k14x fun _ _ _ _ _ _ us hl => by obtain ⟨_, _, rfl⟩ := us2 hl; rfl
  have A15x := D3 (st := KR) (ps := ["_law_pen_here", "_law_env", "_law_room", "_law_deep"]) X G a15x l15x c15x k15x fun _ _ _ _ _ _ us hl => by obtain ⟨_, _, _, _, rfl⟩ := us4 hl; rfl
  have A16x := D3 (st := LK) (ps := ["_law_pen_here", "_law_env", "_law_in_while"]) X G a16x l16x c16x k16x fun _ _ _ _ _ _ us hl => by obtain ⟨_, _, _, rfl⟩ := us3 hl; rfl
  have A17x := D3 (st := MD) (ps := ["_law_deed_here"]) X G a17x l17x c17x k17x fun _ _ _ _ _ _ us hl => by obtain ⟨_, rfl⟩ := us1 hl; rfl
  have A18x := D3 (st := LP) (ps := ["_law_block_here"]) X G a18x l18x c18x k18x fun _ _ _ _ _ _ us hl => by obtain ⟨_, rfl⟩ := us1 hl; rfl
  have A19x := D3 (st := JE) (ps := ["_law_pen_here", "_law_env", "_law_deep", "_law_in_while", "_law_left"]) X G a19x l19x c19x k19x fun _ _ _ _ _ _ us hl => by obtain ⟨_, _, _, _, _, rfl⟩ := us5 hl; rfl
  have A20x := D3 (st := KS) (ps := ["_law_pen_here", "_law_env", "_law_deep", "_law_in_while", "_law_left"]) X G a20x l20x c20x k20x fun _ _ _ _ _ _ us hl => by obtain ⟨_, _, _, _, _, rfl⟩ := us5 hl; rfl
  have A21x := D3 (st := KN) (ps := ["_law_pen_here", "_law_env", "_law_deep", "_law_in_while", "_law_left"]) X G a21x l21x c21x k21x fun _ _ _ _ _ _ us hl => by obtain ⟨_, _, _, _, _, rfl⟩ := us5 hl; rfl
  have A22x := D3 (st := JI) (ps := ["_law_pen_here", "_law_rules", "_law_deeds"]) X G a22x l22x c22x k22x fun _ _ _ _ _ _ us hl => by obtain ⟨_, _, _, rfl⟩ := us3 hl; rfl
  have A23x := D3 (st := KU) (ps := ["_law_expression_here"]) X G a23x l23x c23x k23x fun _ _ _ _ _ _ us hl => by obtain ⟨_, rfl⟩ := us1 hl; rfl
  have A24x := D3 (st := LE) (ps := ["_law_deed_here"]) X G a24x l24x c24x k24x fun _ _ _ _ _ _ us hl => by obtain ⟨_, rfl⟩ := us1 hl; rfl
  have A25x := D3 (st := LH) (ps := ["_law_block_here"]) X G a25x l25x c25x k25x fun _ _ _ _ _ _ us hl => by obtain ⟨_, rfl⟩ := us1 hl; rfl
  have A26x := D3 (st := DU) (ps := ["_law_script"]) X G a26x l26x c26x k26x fun _ _ _ _ _ _ us hl => by obtain ⟨_, rfl⟩ := us1 hl; rfl
  refine ⟨PySem.W.fnOf "law" "law" (C5 DU) (B1 DU) (A3 DU) .none kV26x dc26x pm26x an26x cd26x ct26x, fun s v => .of_eq rfl, fun base _ _ => ?_⟩
  have G0x := BM6 (P := l.prog) (w := w) (base := base) B C A0x
  have G1x := BJ7 (P := l.prog) (w := w) (base := base) B C A1x
  have GG2x := AQ6 (P := l.prog) (w := w) (base := base) B C A1x G1x A2x
  have G2x := (GG2x 8)
  have G3x := BJ3 (P := l.prog) (w := w) (base := base) B C A0x G0x A3x
  have G4x := BM2 (P := l.prog) (w := w) (base := base) B C A4x
  have GG5x := AQ2 (P := l.prog) (w := w) (base := base) B C A4x G4x A5x
  have G5x := (GG5x 5)
  have G6x := BK5 (P := l.prog) (w := w) (base := base) B C A2x G2x A0x G0x A5x G5x A6x
  have G7x := BK8 (P := l.prog) (w := w) (base := base) B C A6x G6x A2x G2x A3x G3x A7x
  have G8x := BJ0 (P := l.prog) (w := w) (base := base) B C A8x
  have G9x := BM1 (P := l.prog) (w := w) (base := base) B C A9x
  have G10x := BH6 (P := l.prog) (w := w) (base := base) B C A9x G9x A10x
  have G11x := BH8 (P := l.prog) (w := w) (base := base) B C A9x G9x A10x G10x A11x
  have G12x := BG4 (P := l.prog) (w := w) (base := base) B C A11x G11x A12x
  have G13x := BI7 (P := l.prog) (w := w) (base := base) B C A9x G9x A10x G10x A13x
  have G14x := BI4 (P := l.prog) (w := w) (base := base) B C A9x G9x A14x
  have GG15x := WL (P := l.prog) (w := w) (base := base) B C A9x G9x A14x G14x A15x
  have G15x := (GG15x 5)
  have G16x := BH2 (P := l.prog) (w := w) (base := base) B C A9x G9x A15x G15x A13x G13x A16x
  have G17x := AZ9 (P := l.prog) (w := w) (base := base) B C A17x
  have GG18x := WG (P := l.prog) (w := w) (base := base) B C A17x G17x A18x
  have G18x := (GG18x 8)
  have GG21x := XT (P := l.prog) (w := w) (base := base) B C A9x G9x A13x G13x A16x G16x A15x G15x A18x G18x A19x A20x A21x
  have G19x := (GG21x 20).1
  have G20x := (GG21x 20).2.1
  have G21x := (GG21x 20).2.2
  have G22x := BA1 (P := l.prog) (w := w) (base := base) B C A9x G9x A12x G12x A11x G11x A21x G21x A22x
  have GG23x := AC6 (P := l.prog) (w := w) (base := base) B C A23x
  have G23x := (GG23x 5)
  have G24x := BF0 (P := l.prog) (w := w) (base := base) B C A23x G23x A24x
  have GG25x := ZV (P := l.prog) (w := w) (base := base) B C A24x G24x A17x G17x A25x
  have G25x := (GG25x 8)
  have G26x := AZ8 (P := l.prog) (w := w) (base := base) B C A8x G8x A9x G9x A22x G22x A25x G25x A7x G7x A26x
  exact G26x
end K10
open PySem PySem.W PyProof.Rows
set_option maxRecDepth 100000 in
set_option maxHeartbeats 0 in
theorem PySem.Challenge.cw_handedon_k10_variables_of_rules_holds : PySem.Challenge.rw_handedon_k10_variables_of_rules.Holds := by
  w_on; o_law; k_head; (case hw => w_witness2)
  k_fill
  refine L3.BD9 (l := PySem.Challenge.rw_handedon_k10_variables_of_rules) (k := 35) (x := "_law_script") rfl rfl ⟨rfl, by decide, by decide, rfl⟩ (fun w h Y => PySem.W.kIn_of Y) ?F
  case F =>
    intro w mg fa h KX G hmg
    refine' K10.AQ9 KX G hmg ?a0x ?l0x ?c0x ?k0x ?a1x ?l1x ?c1x ?k1x ?a2x ?l2x ?c2x ?k2x ?a3x ?l3x ?c3x ?k3x ?a4x ?l4x ?c4x ?k4x ?a5x ?l5x ?c5x ?k5x ?a6x ?l6x ?c6x ?k6x ?a7x ?l7x ?c7x ?k7x ?a8x ?l8x ?c8x ?k8x ?a9x ?l9x ?c9x ?k9x ?a10x ?l10x ?c10x ?k10x ?a11x ?l11x ?c11x ?k11x ?a12x ?l12x ?c12x ?k12x ?a13x ?l13x ?c13x ?k13x ?a14x ?l14x ?c14x ?k14x ?a15x ?l15x ?c15x ?k15x ?a16x ?l16x ?c16x ?k16x ?a17x ?l17x ?c17x ?k17x ?a18x ?l18x ?c18x ?k18x ?a19x ?l19x ?c19x ?k19x ?a20x ?l20x ?c20x ?k20x ?a21x ?l21x ?c21x ?k21x ?a22x ?l22x ?c22x ?k22x ?a23x ?l23x ?c23x ?k23x ?a24x ?l24x ?c24x ?k24x ?a25x ?l25x ?c25x ?k25x ?a26x ?l26x ?c26x ?k26x ?z_abs ?z_int ?z_len ?z_list ?z_min ?z_range ?z_repr ?z_set ?z_sorted ?z_sum ?z_tuple ?z_zip ?u_SHAPES ?l_SHAPES ?l_SHAPES_0 ?l_SHAPES_1 ?l_SHAPES_2 ?l_SHAPES_3 ?l_SHAPES_4 ?l_SHAPES_5 ?l_SHAPES_6 ?l_SHAPES_7 ?l_SHAPES_8 ?l_SHAPES_9 ?l_SHAPES_10 ?l_SHAPES_11 ?l_SHAPES_12
    (case a0x => k_is)
    (case l0x => k_is)
    (case c0x => k_is)
    (case k0x => k_is)
    (case a1x => k_is)
    (case l1x => k_is)
    (case c1x => k_is)
    (case k1x => k_is)
    (case a2x => k_is)
    (case l2x => k_is)
    (case c2x => k_is)
    (case k2x => k_is)
    (case a3x => k_is)
    (case l3x => k_is)
    (case c3x => k_is)
    (case k3x => k_is)
    (case a4x => k_is)
    (case l4x => k_is)
    (case c4x => k_is)
    (case k4x => k_is)
    (case a5x => k_is)
    (case l5x => k_is)
    (case c5x => k_is)
    (case k5x => k_is)
    (case a6x => k_is)
    (case l6x => k_is)
    (case c6x => k_is)
    (case k6x => k_is)
    (case a7x => k_is)
    (case l7x => k_is)
    (case c7x => k_is)
    (case k7x => k_is)
    (case a8x => k_is)
    (case l8x => k_is)
    (case c8x => k_is)
    (case k8x => k_is)
    (case a9x => k_is)
    (case l9x => k_is)
    (case c9x => k_is)
    (case k9x => k_is)
    (case a10x => k_is)
    (case l10x => k_is)
    (case c10x => k_is)
    (case k10x => k_is)
    (case a11x => k_is)
    (case l11x => k_is)
    (case c11x => k_is)
    (case k11x => k_is)
    (case a12x => k_is)
    (case l12x => k_is)
    (case c12x => k_is)
    (case k12x => k_is)
    (case a13x => k_is)
    (case l13x => k_is)
    (case c13x => k_is)
    (case k13x => k_is)
    (case a14x => k_is)
    (case l14x => k_is)
    (case c14x => k_is)
    (case k14x => k_is)
    (case a15x => k_is)
    (case l15x => k_is)
    (case c15x => k_is)
    (case k15x => k_is)
    (case a16x => k_is)
    (case l16x => k_is)
    (case c16x => k_is)
    (case k16x => k_is)
    (case a17x => k_is)
    (case l17x => k_is)
    (case c17x => k_is)
    (case k17x => k_is)
    (case a18x => k_is)
    (case l18x => k_is)
    (case c18x => k_is)
    (case k18x => k_is)
    (case a19x => k_is)
    (case l19x => k_is)
    (case c19x => k_is)
    (case k19x => k_is)
    (case a20x => k_is)
    (case l20x => k_is)
    (case c20x => k_is)
    (case k20x => k_is)
    (case a21x => k_is)
    (case l21x => k_is)
    (case c21x => k_is)
    (case k21x => k_is)
    (case a22x => k_is)
    (case l22x => k_is)
    (case c22x => k_is)
    (case k22x => k_is)
    (case a23x => k_is)
    (case l23x => k_is)
    (case c23x => k_is)
    (case k23x => k_is)
    (case a24x => k_is)
    (case l24x => k_is)
    (case c24x => k_is)
    (case k24x => k_is)
    (case a25x => k_is)
    (case l25x => k_is)
    (case c25x => k_is)
    (case k25x => k_is)
    (case a26x => k_is)
    (case l26x => k_is)
    (case c26x => k_is)
    (case k26x => k_is)
    (case z_abs => k_is)
    (case z_int => k_is)
    (case z_len => k_is)
    (case z_list => k_is)
    (case z_min => k_is)
    (case z_range => k_is)
    (case z_repr => k_is)
    (case z_set => k_is)
    (case z_sorted => k_is)
    (case z_sum => k_is)
    (case z_tuple => k_is)
    (case z_zip => k_is)
    (case u_SHAPES => k_is)
    (case l_SHAPES => k_is)
    (case l_SHAPES_0 => k_is)
    (case l_SHAPES_1 => k_is)
    (case l_SHAPES_2 => k_is)
    (case l_SHAPES_3 => k_is)
    (case l_SHAPES_4 => k_is)
    (case l_SHAPES_5 => k_is)
    (case l_SHAPES_6 => k_is)
    (case l_SHAPES_7 => k_is)
    (case l_SHAPES_8 => k_is)
    (case l_SHAPES_9 => k_is)
    (case l_SHAPES_10 => k_is)
    (case l_SHAPES_11 => k_is)
    (case l_SHAPES_12 => k_is)
