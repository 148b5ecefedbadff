import PyProof.Rows.All
import Wide.All
import OpenK.AllK
import Wide.FinOn
import PyProof.EqAt
import PyProof.EqKinds
import PyProof.TupleCall
import PyProof.NeData
import PyProof.ReprRoads
import PyProof.ExcArgsOwn
import PyProof.ExcAttrAll.ValueError
import PyProof.Rows.StrCase
import PySem.Challenge.RW_handedon_k06_what_is_a_name
set_option Elab.async false
set_option linter.all false
set_option maxRecDepth 100000
namespace L2
open PySem PySem.Spec PyProof.Rows
abbrev Key := Sum Int Str
def keyIs : Key → Value → Bool
  | .inl k, v => Value.isInt k v
  | .inr x, v => Value.isStrOf x v
def keyH (w : World) : Key → Int
  | .inl k => hashInt k
  | .inr x => hashStr w x
theorem keyIs_shape : ∀ {k : Key} {v : Value}, keyIs k v = true → (∃ i t, k = Sum.inl i ∧ v = Value.int i t) ∨ (∃ x t, k = Sum.inr x ∧ v = Value.str x t)
  | .inl i, v, h => by
    obtain ⟨t, e⟩ := Value.isInt_shape (k := i) (v := v) h
    exact .inl ⟨i, t, rfl, e⟩
  | .inr x, v, h => by
    obtain ⟨t, e⟩ := Value.isStrOf_shape (x := x) (v := v) h
    exact .inr ⟨x, t, rfl, e⟩
theorem keyIs_int (i : Int) (t : Tok) : keyIs (.inl i) (.int i t) = true := by simp [keyIs, Value.isInt]
theorem keyIs_str (x : Str) (t : Tok) : keyIs (.inr x) (.str x t) = true := by simp [keyIs, Value.isStrOf]
theorem key_ll (a b : Int) : decide ((Sum.inl a : Key) = Sum.inl b) = (a == b) := by
  by_cases e : a = b
  · subst e; simp
  · have h : ¬ (Sum.inl a : Key) = Sum.inl b := fun q => e (Sum.inl.inj q)
    rw [decide_eq_false h]
    exact (beq_eq_false_iff_ne.mpr e).symm
theorem key_rr (a b : Str) : decide ((Sum.inr a : Key) = Sum.inr b) = decide (a = b) := by
  by_cases e : a = b
  · subst e; simp
  · have h : ¬ (Sum.inr a : Key) = Sum.inr b := fun q => e (Sum.inr.inj q)
    rw [decide_eq_false h, decide_eq_false e]
theorem key_lr (a : Int) (b : Str) : decide ((Sum.inl a : Key) = Sum.inr b) = false := decide_eq_false (fun q => nomatch q)
theorem key_rl (a : Str) (b : Int) : decide ((Sum.inr a : Key) = Sum.inl b) = false := decide_eq_false (fun q => nomatch q)
def mixKind (prog : Program) (w : World) : PySem.KeyKind prog w Key where
  is := keyIs
  hash := keyH w
  inj := fun v a b ha hb => by
    rcases keyIs_shape ha with ⟨i, t, rfl, rfl⟩ | ⟨x, t, rfl, rfl⟩
    · rcases keyIs_shape hb with ⟨j, u, rfl, e⟩ | ⟨y, u, rfl, e⟩
      · injection e with e1 _; rw [e1]
      · exact nomatch e
    · rcases keyIs_shape hb with ⟨j, u, rfl, e⟩ | ⟨y, u, rfl, e⟩
      · exact nomatch e
      · injection e with e1 _; rw [e1]
  byValue := fun k v h => by
    rcases keyIs_shape h with ⟨i, t, rfl, rfl⟩ | ⟨x, t, rfl, rfl⟩ <;> rfl
  pyHash := fun hv h => by
    rcases keyIs_shape hv with ⟨i, t, rfl, rfl⟩ | ⟨x, t, rfl, rfl⟩
    · exact wpAny_pyHash_int h
    · exact wpAny_pyHash_str h
  eqBool := fun hu hv h => by
    rcases keyIs_shape hu with ⟨i, t, rfl, rfl⟩ | ⟨x, t, rfl, rfl⟩
    · rcases keyIs_shape hv with ⟨j, u, rfl, rfl⟩ | ⟨y, u, rfl, rfl⟩
      · rw [key_ll] at h; exact wpAny_eqBool_int h
      · rw [key_lr] at h; exact SeqAt.EqAt.int_str i t y u _ _ _ _ h
    · rcases keyIs_shape hv with ⟨j, u, rfl, rfl⟩ | ⟨y, u, rfl, rfl⟩
      · rw [key_rl] at h; exact SeqAt.EqAt.str_int x t j u _ _ _ _ h
      · rw [key_rr] at h; exact wpAny_eqBool_str h
  «strs» := fun k x t v h => by
    rcases keyIs_shape h with ⟨i, u, rfl, e⟩ | ⟨y, u, rfl, e⟩
    · exact nomatch e
    · injection e with e1 _
      subst e1
      cases v <;> rfl
theorem mixKind_int (prog : Program) (w : World) (i : Int) (t : Tok) : (mixKind prog w).is (.inl i) (.int i t) = true := keyIs_int i t
theorem mixKind_str (prog : Program) (w : World) (x : Str) (t : Tok) : (mixKind prog w).is (.inr x) (.str x t) = true := keyIs_str x t
end L2
namespace L2
open PySem PySem.Spec PyProof.Rows
inductive V where
  | non | bl (b : Bool) | int (i : Int) | str (x : Str) | byt (b : Array UInt8) | flt (b : UInt64) | ref (a : Addr) | ty (n : String)
  deriving DecidableEq
def RelV : V → Value → Prop
  | .non, u => u = Value.none
  | .bl b, u => u = Value.bool b
  | .int i, u => ∃ t, u = Value.int i t
  | .str x, u => ∃ t, u = Value.str x t
  | .byt b, u => ∃ t, u = Value.bytes b t
  | .flt b, u => ∃ t, u = Value.float b t
  | .ref a, u => u = Value.ref a
  | .ty n, u => u = Value.type n
abbrev Vals : List V → List Value → Prop := Paired RelV
theorem Vals.length {xs : List V} {us : List Value} (r : Vals xs us) : xs.length = us.length := Paired.length r
theorem Vals.get : ∀ {xs : List V} {us : List Value} {i : Nat} {x : V}, Vals xs us → xs[i]? = some x → ∃ u, us[i]? = some u ∧ RelV x u
  | _, _, _, _, .nil, e => by simp at e
  | _, _, 0, _, .cons r _, e => by simp at e; subst e; exact ⟨_, rfl, r⟩
  | _, _, i + 1, x, .cons _ t, e => by
    obtain ⟨u, h1, h2⟩ := Vals.get (i := i) (x := x) t (by simpa using e)
    exact ⟨u, by simpa using h1, h2⟩
theorem Vals.append : ∀ {xs ys : List V} {us ws : List Value}, Vals xs us → Vals ys ws → Vals (xs ++ ys) (us ++ ws)
  | _, _, _, _, .nil, s => s
  | _, _, _, _, .cons r t, s => .cons r (Vals.append t s)
theorem Vals.take : ∀ {xs : List V} {us : List Value} (n : Nat), Vals xs us → Vals (xs.take n) (us.take n)
  | _, _, 0, _ => .nil
  | _, _, _ + 1, .nil => .nil
  | _, _, n + 1, .cons r t => .cons r (Vals.take n t)
theorem Vals.drop : ∀ {xs : List V} {us : List Value} (n : Nat), Vals xs us → Vals (xs.drop n) (us.drop n)
  | _, _, 0, r => r
  | _, _, _ + 1, .nil => .nil
  | _, _, n + 1, .cons _ t => Vals.drop n t
def RelO : Option V → Option Value → Prop
  | some v, some u => RelV v u
  | none, none => True
  | _, _ => False
def KV {κ : Type} : List (κ × V) → List (κ × Value) → Prop := Paired fun (p : κ × V) (q : κ × Value) => p.1 = q.1 ∧ RelV p.2 q.2
def kV : Key → V
  | .inl i => .int i
  | .inr x => .str x
inductive HO where
  | lst (xs : List V)
  | tup (xs : List V)
  | dK (kvs : List (Key × V)) | dT (kvs : List (List Key × V))
  | set (S : Int → Bool) (n : Nat)
  | ins (C dx : Addr) (fs : List (Str × V))
  | own (x : Addr)
  | xd (fs : List (Str × V))
  | met (f x : Addr)
  | rng (lo hi : Int)
  | frz (o : Obj) (u : HO)
  | tbl (ps : Array Value)
  | ext (φ : Heap → Prop)
abbrev Hp := Addr → Option HO
def upd (H : Hp) (a : Addr) (o : HO) : Hp := fun b => if b = a then some o else H b
theorem upd_same {H : Hp} {a : Addr} {o : HO} : upd H a o a = some o := by unfold upd; rw [if_pos rfl]
theorem upd_ne {H : Hp} {a b : Addr} {o : HO} (h : b ≠ a) : upd H a o b = H b := by unfold upd; rw [if_neg h]
theorem ne_of {H : Hp} {a b : Addr} {o u : HO} (h : H a = some o) (h' : H b = some u) (d : o ≠ u) : a ≠ b := by
  intro e; subst e; rw [h] at h'; exact d (Option.some.inj h')
theorem ne_of_none {H : Hp} {a b : Addr} {o : HO} (h : H a = some o) (h' : H b = none) : a ≠ b := by
  intro e; subst e; rw [h] at h'; cases h'
section
variable (P : Program) (w : World)
def ObjOk (H : Hp) (h : Heap) (a : Addr) : HO → Prop
  | .lst xs => xs.length ≤ sizeLine ∧ ∃ (its : List Value) (n : Nat), Vals xs its ∧ h.get? a = some { cls := .type "list", data := .seq its.toArray n }
  | .tup xs => xs.length ≤ sizeLine ∧ ∃ its : List Value, Vals xs its ∧ IsTup h a its.toArray
  | .dK kvs => kvs.length ≤ sizeLine ∧ (a == sysModules) = false ∧ ∃ vs, KV kvs vs ∧ h.DictOf (mixKind P w) a vs
  | .dT kvs => kvs.length ≤ sizeLine ∧ (a == sysModules) = false ∧ ∃ xs : List (List Key × Addr × Value),
      Paired (fun (p : List Key × V) (q : List Key × Addr × Value) => p.1 = q.1 ∧ H q.2.1 = some (.tup (p.1.map kV)) ∧ RelV p.2 q.2.2) kvs xs ∧
      ∃ o es ep, h.get? a = some o ∧ o.ExactDict ∧ o.data = .dict es ep ∧ es.toList = xs.map (entryOfKey (tupleKind (mixKind P w))) ∧ (xs.map (·.1)).Nodup
  | .set S n => h.SetOf (intKind P w) a S n
  | .ins C dx fs => H dx = some (.own a) ∧ fs.length ≤ 1000 ∧ dx ≠ a ∧ h.get? a = some (PySem.W.instObj C dx) ∧
      ∃ mA, h.Ns1 dx mA ∧ (∀ f, RelO (fs.lookup f) (mA f)) ∧ PySem.Within mA (fs.map (·.1))
  | .own _ => ∃ o, h.get? a = some o
  | .xd fs => ∃ mA, h.Ns1 a mA ∧ ∀ f, RelO (fs.lookup f) (mA f)
  | .rng lo hi => ∃ t u v, h.get? a = some { cls := .type "range", data := .fields #[.int lo t, .int hi u, .int 1 v] }
  | .frz o u => h.get? a = some o ∧ ObjOk H h a u
  | .tbl ps => h.get? a = some { cls := .none, data := .fields ps }
  | .met f x => h.get? a = some (PySem.W.methodObj (.ref f) (.ref x))
  | .ext φ => φ h ∧ (∃ o, h.get? a = some o) ∧ ∀ h1 h2 : Heap, φ h1 → (∀ o, h1.get? a = some o → h2.get? a = some o) → φ h2
def HOk (H : Hp) (h : Heap) : Prop := ∀ a o, H a = some o → ObjOk P w H h a o
end
section
variable {P : Program} {w : World} {H H' : Hp} {h h' : Heap} {a : Addr} {o : HO}
theorem ObjOk.lt (x : ObjOk P w H h a o) : a < h.objs.size := by
  cases o with
  | lst xs => obtain ⟨_, _, _, _, e⟩ := x; exact Heap.lt_size e
  | tup xs => obtain ⟨_, _, _, p⟩ := x; exact p.lt
  | dK kvs => obtain ⟨_, _, _, _, o, _, _, e, _⟩ := x; exact Heap.lt_size e
  | dT kvs => obtain ⟨_, _, _, _, o, _, _, e, _⟩ := x; exact Heap.lt_size e
  | set S n => obtain ⟨o, _, _, _, e, _⟩ := x; exact Heap.lt_size e
  | ins C dx fs => obtain ⟨_, _, _, e, _⟩ := x; exact Heap.lt_size e
  | own y => obtain ⟨_, e⟩ := x; exact Heap.lt_size e
  | xd fs => obtain ⟨_, ⟨_, _, _, e, _⟩, _⟩ := x; exact Heap.lt_size e
  | rng lo hi => obtain ⟨_, _, _, e⟩ := x; exact Heap.lt_size e
  | frz ob u => obtain ⟨e, _⟩ := x; exact Heap.lt_size e
  | tbl ps => exact Heap.lt_size (show h.get? a = some _ from x)
  | met f y => exact Heap.lt_size (show h.get? a = some _ from x)
  | ext φ => obtain ⟨_, ⟨_, e⟩, _⟩ := x; exact Heap.lt_size e
theorem Paired.mapP {α β : Type} {F G : α → β → Prop} : ∀ {l₁ : List α} {l₂ : List β}, Paired F l₁ l₂ → (∀ a b, F a b → G a b) → Paired G l₁ l₂
  | _, _, .nil, _ => .nil
  | _, _, .cons r t, f => .cons (f _ _ r) (Paired.mapP t f)
theorem ObjOk.stay (x : ObjOk P w H h a o) (k : ∀ b u, (b = a ∨ H b = some (.own a)) → h.get? b = some u → h'.get? b = some u)
    (ho : ∀ b, H b = some (.own a) → H' b = some (.own a)) (ht : ∀ b xs, H b = some (.tup xs) → H' b = some (.tup xs)) : ObjOk P w H' h' a o := by
  induction o with
  | lst xs => obtain ⟨z, its, n, r, e⟩ := x; exact ⟨z, its, n, r, k _ _ (.inl rfl) e⟩
  | tup xs => obtain ⟨z, its, r, ob, e, c⟩ := x; exact ⟨z, its, r, ob, k _ _ (.inl rfl) e, c⟩
  | dK kvs => obtain ⟨z, y, vs, r, ob, es, ep, e, c⟩ := x; exact ⟨z, y, vs, r, ob, es, ep, k _ _ (.inl rfl) e, c⟩
  | dT kvs =>
    obtain ⟨z, y, xs, r, ob, es, ep, e, c⟩ := x
    exact ⟨z, y, xs, Paired.mapP r fun p q z => ⟨z.1, ht _ _ z.2.1, z.2.2⟩, ob, es, ep, k _ _ (.inl rfl) e, c⟩
  | set S n => obtain ⟨ob, es, ep, t, e, c⟩ := x; exact ⟨ob, es, ep, t, k _ _ (.inl rfl) e, c⟩
  | ins C dx fs =>
    obtain ⟨d, z, ne, e, mA, ⟨od, es, ep, e2, c⟩, r⟩ := x
    exact ⟨ho _ d, z, ne, k _ _ (.inl rfl) e, mA, ⟨od, es, ep, k _ _ (.inr d) e2, c⟩, r⟩
  | own y => obtain ⟨ob, e⟩ := x; exact ⟨ob, k _ _ (.inl rfl) e⟩
  | xd fs => obtain ⟨mA, ⟨od, es, ep, e, c⟩, r⟩ := x; exact ⟨mA, ⟨od, es, ep, k _ _ (.inl rfl) e, c⟩, r⟩
  | rng lo hi => obtain ⟨t, u, v, e⟩ := x; exact ⟨t, u, v, k _ _ (.inl rfl) e⟩
  | frz ob u ih => obtain ⟨e, q⟩ := x; exact ⟨k _ _ (.inl rfl) e, ih q⟩
  | tbl ps =>
    have e : h.get? a = some { cls := .none, data := .fields ps } := x
    show h'.get? a = some { cls := .none, data := .fields ps }
    exact k a _ (.inl rfl) e
  | met f y =>
    have e : h.get? a = some (PySem.W.methodObj (.ref f) (.ref y)) := x
    show h'.get? a = some (PySem.W.methodObj (.ref f) (.ref y))
    exact k a _ (.inl rfl) e
  | ext φ => obtain ⟨p, ⟨o, e⟩, st⟩ := x; exact ⟨st _ _ p fun o q => k _ _ (.inl rfl) q, ⟨o, k _ _ (.inl rfl) e⟩, st⟩
theorem HOk.lt (x : HOk P w H h) (e : H a = some o) : a < h.objs.size := (x a o e).lt
theorem HOk.fresh (x : HOk P w H h) (e : h.objs.size ≤ a) : H a = none := by
  cases q : H a with
  | none => rfl
  | some u => exact absurd (Nat.lt_of_lt_of_le (x.lt q) e) (Nat.lt_irrefl _)
theorem HOk.kept (x : HOk P w H h) (k : ∀ b u, h.get? b = some u → h'.get? b = some u) : HOk P w H h' := fun a o e =>
  (x a o e).stay (fun b u _ q => k b u q) (fun _ q => q) fun _ _ q => q
theorem HOk.laid (x : HOk P w H h) (k : ∀ b u, h.get? b = some u → h'.get? b = some u) (hp : h.objs.size ≤ a) (new : ObjOk P w (upd H a o) h' a o) : HOk P w (upd H a o) h' := fun b u e => by
  have hn := x.fresh hp
  by_cases hb : b = a
  · subst hb; rw [upd_same] at e; cases e; exact new
  · rw [upd_ne hb] at e
    exact (x b u e).stay (fun c v _ q => k c v q) (fun c q => by rw [upd_ne (ne_of_none q hn)]; exact q) fun c xs q => by rw [upd_ne (ne_of_none q hn)]; exact q
end
def Rd (H : Hp) (a : Addr) (u : HO) : Prop := H a = some u ∨ ∃ o, H a = some (.frz o u)
theorem Rd.ok {P : Program} {w : World} {H : Hp} {h : Heap} {a : Addr} {u : HO} (r : Rd H a u) (x : HOk P w H h) : ObjOk P w H h a u := by
  rcases r with r | ⟨o, r⟩
  · exact x a u r
  · obtain ⟨_, q⟩ := x a _ r
    exact q
def Mut : Option HO → Prop
  | some (.lst _) => True
  | some (.dK _) => True
  | some (.dT _) => True
  | some (.set _ _) => True
  | some (.ins _ _ _) => True
  | some (.ext _) => True
  | _ => False
section
variable {P : Program} {w : World} {H : Hp} {h h' : Heap} {x e : Addr} {o' : HO}
theorem HOk.write (ok : HOk P w H h) (mu : Mut (H x)) (he : e = x ∨ H e = some (.own x)) (k : ∀ b u, b ≠ e → h.get? b = some u → h'.get? b = some u) (heo : ∃ u, h'.get? e = some u)
    (new : ObjOk P w (upd H x o') h' x o') : HOk P w (upd H x o') h' := fun b u q => by
  have nown : ∀ c y, H c = some (.own y) → c ≠ x := fun c y r z => by subst z; rw [r] at mu; exact mu
  have ntup : ∀ c xs, H c = some (.tup xs) → c ≠ x := fun c xs r z => by subst z; rw [r] at mu; exact mu
  by_cases hb : b = x
  · subst hb; rw [upd_same] at q; cases q; exact new
  · rw [upd_ne hb] at q
    by_cases hbe : b = e
    · have q' : H b = some (.own x) := by
        rcases he with z | z
        · exact absurd (hbe.trans z) hb
        · rw [hbe]; exact z
      rw [q] at q'; cases q'
      obtain ⟨v, hv⟩ := heo
      exact ⟨v, by rw [hbe]; exact hv⟩
    · refine (ok b u q).stay (fun c v hc r => k c v ?_ r) (fun c r => by rw [upd_ne (nown c b r)]; exact r) fun c xs r => by rw [upd_ne (ntup c xs r)]; exact r
      rcases hc with rfl | hc
      · exact hbe
      · rintro rfl
        rcases he with z | z
        · exact nown c b hc z
        · rw [hc] at z; cases z; exact hb rfl
end
structure Un (fs ex : List Addr) (H H' : Hp) (h h' : Heap) : Prop where
  keep : ∀ b o, h.get? b = some o → H b = none → b ∉ fs → b ∉ ex → h'.get? b = some o
  slot : ∀ b o, h.get? b = some o → H b = none → b ∈ fs → b ∉ ex → ∃ sl, h'.get? b = some { o with slots := sl }
  free : ∀ b o, h.get? b = some o → H b = none → b ∉ ex → H' b = none
  there : ∀ b o, h.get? b = some o → b ∉ ex → ∃ o', h'.get? b = some o'
  tups : ∀ b xs, H b = some (.tup xs) → H' b = some (.tup xs)
  frzs : ∀ b o u, H b = some (.frz o u) → H' b = some (.frz o u)
  tbls : ∀ b ps, H b = some (.tbl ps) → ∃ more, H' b = some (.tbl (ps ++ more))
section
variable {fs fs' ex ex' : List Addr} {H H1 H2 : Hp} {h h1 h2 h' : Heap} {a x e : Addr} {o : HO}
theorem Un.any (u : Un fs ex H H1 h h1) {b : Addr} {ob : Obj} (q : h.get? b = some ob) (n : H b = none) (hx : b ∉ ex) : ∃ sl, h1.get? b = some { ob with slots := sl } := by
  by_cases hb : b ∈ fs
  · exact u.slot b ob q n hb hx
  · exact ⟨ob.slots, u.keep b ob q n hb hx⟩
theorem Un.kept (k : ∀ b u, h.get? b = some u → h'.get? b = some u) : Un fs ex H H h h' :=
  ⟨fun b ob q _ _ _ => k b ob q, fun b ob q _ _ _ => ⟨ob.slots, k b ob q⟩, fun _ _ _ n _ => n, fun b ob q _ => ⟨ob, k b ob q⟩, fun _ _ q => q, fun _ _ _ q => q, fun _ ps q => ⟨#[], by rw [q]; simp⟩⟩
theorem Un.refl : Un fs ex H H h h := Un.kept fun _ _ q => q
theorem Un.laid (k : ∀ b u, h.get? b = some u → h'.get? b = some u) (hp : h.objs.size ≤ a) (hn : H a = none) : Un fs ex H (upd H a o) h h' where
  keep := fun b u q _ _ _ => k b u q
  slot := fun b u q _ _ _ => ⟨u.slots, k b u q⟩
  free := fun b u q n _ => by rw [upd_ne (Nat.ne_of_lt (Nat.lt_of_lt_of_le (Heap.lt_size q) hp))]; exact n
  there := fun b u q _ => ⟨u, k b u q⟩
  tups := fun b xs q => by rw [upd_ne (ne_of_none q hn)]; exact q
  frzs := fun b u xs q => by rw [upd_ne (ne_of_none q hn)]; exact q
  tbls := fun b ps q => ⟨#[], by rw [upd_ne (ne_of_none q hn), q]; simp⟩
theorem Un.write (mu : Mut (H x)) (he : e = x ∨ H e = some (.own x)) (k : ∀ b u, b ≠ e → h.get? b = some u → h'.get? b = some u) (heo : ∃ u, h'.get? e = some u) : Un fs ex H (upd H x o) h h' := by
  have hx : ∀ b, H b = none → b ≠ x := fun b n z => by subst z; rw [n] at mu; exact mu
  have hb : ∀ b, H b = none → b ≠ e := fun b n z => by
    subst z
    rcases he with r | r
    · exact hx b n r
    · rw [n] at r; cases r
  have hm : ∀ b u, H b = some u → ¬ Mut (some u) → b ≠ x := fun b u q nm z => by subst z; rw [q] at mu; exact nm mu
  refine ⟨fun b u q n _ _ => k b u (hb b n) q, fun b u q n _ _ => ⟨u.slots, k b u (hb b n) q⟩, fun b u q n _ => by rw [upd_ne (hx b n)]; exact n, fun b u q _ => ?_,
    fun b xs q => by rw [upd_ne (hm b _ q fun z => z)]; exact q, fun b u xs q => by rw [upd_ne (hm b _ q fun z => z)]; exact q, fun b ps q => ⟨#[], by rw [upd_ne (hm b _ q fun z => z), q]; simp⟩⟩
  by_cases hbe : b = e
  · subst hbe; exact heo
  · exact ⟨u, k b u hbe q⟩
end
def trk (h : Heap) (H : Hp) : List Addr := (List.range h.objs.size).filter fun a => (H a).isSome
def hidT (h : Heap) (H : Hp) : Heap := PySem.W.hideAll h (trk h H)
theorem hidT_size (h : Heap) (H : Hp) : (hidT h H).objs.size = h.objs.size := PySem.W.hideAll_size _ _
theorem hidT_get {h : Heap} {H : Hp} {b : Addr} {o : Obj} (e : h.get? b = some o) (n : H b = none) : (hidT h H).get? b = some o :=
  PySem.W.hideAll_get _ e fun hm => by
    have q : (H b).isSome = true := (List.mem_filter.mp hm).2
    rw [n] at q; simp at q
theorem of_hidT {h : Heap} {H : Hp} {b : Addr} {o : Obj} (e : (hidT h H).get? b = some o) : h.get? b = some o ∧ H b = none := by
  have e' : h.get? b = some o := PySem.W.of_hideAll (trk h H) e
  refine ⟨e', ?_⟩
  cases q : H b with
  | none => rfl
  | some x =>
    have hm : b ∈ trk h H := List.mem_filter.mpr ⟨List.mem_range.mpr (Heap.lt_size e'), by simp [q]⟩
    have z : (hidT h H).get? b = none := PySem.W.hideAll_none (trk h H) hm
    rw [z] at e; cases e
end L2
namespace L2
open PySem PySem.Spec PyProof.Rows
structure Mod (K : PySem.W.Frag) (mg : Str → Option Value) (base : Heap) : Prop where
  kin : K.In base
  glob : base.Ns mainGlobals mg
  blt : ∃ mb, base.Ns builtinsNs mb ∧ ∀ x : Str, x ≠ "__name__" → mb x = bootBuiltins x
  nolimit : base.NoLimit
structure Cx where
  prog : Program
  w : World
  K : PySem.W.Frag
  mg : Str → Option Value
  base : Heap
  A : Around
  N : List Str
  s₀ : Shared
  H₀ : Hp
  env : Env
  outer : List Env
  stack : List Env
  ex : List Addr
  fn : Str → Bool
  calm : Bool
  pn : List (Addr × Obj)
  xe : Value → Shared → Prop
def frs (l : List Env) : List Addr := l.filterMap (·.frame)
abbrev Cx.fs (X : Cx) : List Addr := frs X.outer
def Vis (sc : Scope) (x : Str) : Prop := sc.names.lookup x = some .local ∨ sc.names.lookup x = some .cell ∨ sc.names.lookup x = some .free
def Loc (sc : Scope) (x : Str) : Prop := sc.names.lookup x = some .local ∨ sc.names.lookup x = some .cell
def Look (env : Env) (h : Heap) (m : Str → Option Value) (x : Str) (u : Value) : Prop :=
  (env.kindOf x = some .local ∧ m x = some u) ∨ ((env.kindOf x = some .cell ∨ env.kindOf x = some .free) ∧ ∃ c, env.cells.lookup x = some c ∧ h.IsCell c (some u))
structure Cx.Ok (X : Cx) : Prop where
  mod : Mod X.K X.mg X.base
  kind : X.env.scope.kind = .function
  glob : X.env.globals = mainGlobals
  blt : X.env.builtins = builtinsNs
  above : X.s₀.heap.objs.size ≤ X.env.locals
  inj : ∀ x y c, X.env.cells.lookup x = some c → X.env.cells.lookup y = some c → x = y
  has : ∀ x, (X.env.kindOf x = some .cell ∨ X.env.kindOf x = some .free) → ∃ c, X.env.cells.lookup x = some c
  cab : ∀ x c, X.fn x = true → X.env.cells.lookup x = some c → X.s₀.heap.objs.size ≤ c
  hd : X.calm = true → X.A.handled = none
  frames : X.A.frames = some X.stack
  stk : X.stack = X.outer ∨ (X.stack = X.env :: X.outer ∧ X.env.frame = some X.env.locals)
  exf : ∀ b ∈ X.ex, b ≠ X.env.locals ∧ ∀ x c, X.env.cells.lookup x = some c → c ≠ b
  bs : ∀ b o, X.base.get? b = some o → X.s₀.heap.get? b = some o ∧ X.H₀ b = none
  bsz : X.base.objs.size ≤ X.s₀.heap.objs.size
  noex : ∀ b o, X.base.get? b = some o → b ∉ X.ex
  exfs : ∀ b ∈ X.ex, b ∉ X.fs
  funs : X.s₀.heap.FunFrames X.base X.outer
  frf : ∀ b ∈ X.fs, X.H₀ b = none
structure Inv (X : Cx) (pins : List (Addr × Obj)) (σ : List (Option V)) (H : Hp) (s : Shared) : Prop where
  ok : X.Ok
  os : s.os = X.s₀.os
  bare : AllBare s.gens
  base : Un X.fs X.ex X.H₀ H X.s₀.heap s.heap
  loc : ∃ m, s.heap.Ns X.env.locals m ∧ ∀ (i : Nat) (x : Str) (v : V), X.N[i]? = some x → σ[i]? = some (some v) → Vis X.env.scope x → ∃ u, RelV v u ∧ Look X.env s.heap m x u
  cell : ∀ x c, X.env.cells.lookup x = some c → ∃ v, s.heap.IsCell c v
  free : H X.env.locals = none
  freeC : ∀ x c, X.env.cells.lookup x = some c → H c = none
  pin : ∀ p ∈ X.pn ++ pins, s.heap.get? p.1 = some p.2 ∧ H p.1 = none ∧ p.1 ≠ X.env.locals ∧ p.1 ∉ X.fs ∧ ∀ v, p.2.data ≠ .cell v
  hok : HOk X.prog X.w H s.heap
  len : σ.length = X.N.length
section
variable {X : Cx} {pins : List (Addr × Obj)} {σ : List (Option V)} {H H' : Hp} {s : Shared} {h' : Heap}
theorem Cx.Ok.nofr (ok : X.Ok) {b : Addr} {o : Obj} (e : X.base.get? b = some o) : b ∉ X.fs := fun hb => by
  have := (ok.funs.mem hb).1
  rw [e] at this; cases this
theorem Inv.bs (I : Inv X pins σ H s) : ∀ b o, X.base.get? b = some o → s.heap.get? b = some o ∧ H b = none := fun b o e =>
  ⟨I.base.keep b o (I.ok.bs b o e).1 (I.ok.bs b o e).2 (I.ok.nofr e) (I.ok.noex b o e), I.base.free b o (I.ok.bs b o e).1 (I.ok.bs b o e).2 (I.ok.noex b o e)⟩
theorem Inv.bk (I : Inv X pins σ H s) : ∀ b o, X.base.get? b = some o → s.heap.get? b = some o := fun b o e => (I.bs b o e).1
theorem Inv.mod (I : Inv X pins σ H s) : Mod X.K X.mg X.base := I.ok.mod
theorem Inv.kIn (I : Inv X pins σ H s) : X.K.In s.heap := I.ok.mod.kin.keeps I.bk
theorem Inv.lt (I : Inv X pins σ H s) : X.env.locals < s.heap.objs.size := let ⟨_, hn, _⟩ := I.loc; hn.lt
theorem Inv.sz (I : Inv X pins σ H s) : X.s₀.heap.objs.size ≤ s.heap.objs.size := Nat.le_trans I.ok.above (Nat.le_of_lt I.lt)
theorem Inv.nofs (I : Inv X pins σ H s) {a : Addr} (h : s.heap.objs.size ≤ a) : a ∉ X.fs := fun hb => by
  obtain ⟨_, o, ho, _⟩ := I.ok.funs.mem hb
  exact absurd (Nat.lt_of_lt_of_le (Heap.lt_size ho) (Nat.le_trans I.sz h)) (Nat.lt_irrefl _)
theorem Inv.cne (I : Inv X pins σ H s) : ∀ x c, X.env.cells.lookup x = some c → c ≠ X.env.locals := fun x c e z => by
  obtain ⟨v, o, ho, hd⟩ := I.cell x c e
  obtain ⟨m, ⟨o', es, ep, ho', hd', _⟩, _⟩ := I.loc
  rw [z, ho'] at ho; cases ho; rw [hd'] at hd; cases hd
theorem Inv.funs (I : Inv X pins σ H s) : s.heap.FunFrames X.base X.outer := by
  have all : ∀ (l : List Env), (∀ b ∈ frs l, b ∈ X.fs) → X.s₀.heap.FunFrames X.base l → s.heap.FunFrames X.base l := by
    intro l
    induction l with
    | nil => intro _ _; trivial
    | cons env r ih =>
      intro hs hl
      obtain ⟨hk, ⟨L, o, hf, hn, ho, hd⟩, hr⟩ := hl
      have hL : L ∈ X.fs := hs L (by unfold frs; rw [List.filterMap_cons, hf]; exact List.mem_cons_self)
      obtain ⟨sl, e⟩ := I.base.slot L o ho (I.ok.frf L hL) hL fun z => I.ok.exfs L z hL
      exact ⟨hk, ⟨L, _, hf, hn, e, hd⟩, ih (fun b hb => hs b (by unfold frs; rw [List.filterMap_cons, hf]; exact List.mem_cons_of_mem _ hb)) hr⟩
  exact all X.outer (fun _ hb => hb) I.ok.funs
theorem Inv.stack (I : Inv X pins σ H s) : s.heap.FunFrames X.base X.stack := by
  rcases I.ok.stk with e | ⟨e, hf⟩
  · rw [e]; exact I.funs
  · rw [e]
    obtain ⟨m, hn, _⟩ := I.loc
    refine .cons (by rw [I.ok.kind]; decide) hf hn ?_ I.funs
    exact Heap.get?_none_of_le (Nat.le_trans I.ok.bsz I.ok.above)
theorem Inv.stkSub (I : Inv X pins σ H s) : ∀ b ∈ frs X.stack, b ∈ X.env.locals :: X.fs := fun b hb => by
  rcases I.ok.stk with e | ⟨e, hf⟩
  · rw [e] at hb; exact List.mem_cons_of_mem _ hb
  · rw [e] at hb
    unfold frs at hb
    rw [List.filterMap_cons, hf] at hb
    exact hb
theorem Inv.stkFree (I : Inv X pins σ H s) : ∀ b ∈ frs X.stack, H b = none := fun b hb => by
  rcases List.mem_cons.mp (I.stkSub b hb) with e | hb
  · rw [e]; exact I.free
  · obtain ⟨_, o, ho, _⟩ := I.ok.funs.mem hb
    exact I.base.free b o ho (I.ok.frf b hb) fun z => I.ok.exfs b z hb
theorem Inv.step {g' : Array GenState} {t' : Nat} {d' : Drawn} {ch : List Addr} (I : Inv X pins σ H s)
    (hch : ∀ b ∈ ch, (b ∈ X.ex ∨ X.s₀.heap.objs.size ≤ b) ∧ b ≠ X.env.locals ∧ (∀ x c, X.env.cells.lookup x = some c → c ≠ b) ∧ ∀ p ∈ X.pn ++ pins, p.1 ≠ b)
    (keep : ∀ b o, b ≠ X.env.locals → b ∉ X.fs → b ∉ ch → s.heap.get? b = some o → H b = none → h'.get? b = some o)
    (slot : ∀ b o, b ≠ X.env.locals → b ∈ X.fs → b ∉ ch → s.heap.get? b = some o → H b = none → ∃ sl, h'.get? b = some { o with slots := sl }) (free : ∀ b o, b ∉ ch → s.heap.get? b = some o → H b = none → H' b = none)
    (there : ∀ b o, b ∉ ch → s.heap.get? b = some o → ∃ o', h'.get? b = some o')
    (tups : ∀ b xs, H b = some (.tup xs) → H' b = some (.tup xs)) (frzs : ∀ b o u, H b = some (.frz o u) → H' b = some (.frz o u)) (tbls : ∀ b ps, H b = some (.tbl ps) → ∃ more, H' b = some (.tbl (ps ++ more)))
    (ns : ∀ m, s.heap.Ns X.env.locals m → h'.Ns X.env.locals m) (hok : HOk X.prog X.w H' h') (hg : AllBare g') :
    Inv X pins σ H' { s with heap := h', gens := g', drawn := d', toks := t' } := by
  have neL : ∀ b o, X.s₀.heap.get? b = some o → b ≠ X.env.locals := fun b o e => Nat.ne_of_lt (Nat.lt_of_lt_of_le (Heap.lt_size e) I.ok.above)
  have neC : ∀ b o, X.s₀.heap.get? b = some o → b ∉ X.ex → b ∉ ch := fun b o e hx hb => by
    rcases (hch b hb).1 with z | z
    · exact hx z
    · exact absurd (Nat.lt_of_lt_of_le (Heap.lt_size e) z) (Nat.lt_irrefl _)
  have cellK : ∀ x c, X.env.cells.lookup x = some c → ∀ v, s.heap.IsCell c v → h'.IsCell c v := fun x c e v ⟨o, ho, hd⟩ => by
    have nch : c ∉ ch := fun z => (hch c z).2.2.1 x c e rfl
    by_cases hc : c ∈ X.fs
    · obtain ⟨sl, q⟩ := slot c o (I.cne x c e) hc nch ho (I.freeC x c e)
      exact ⟨_, q, hd⟩
    · exact ⟨o, keep c o (I.cne x c e) hc nch ho (I.freeC x c e), hd⟩
  refine ⟨I.ok, I.os, hg, ⟨fun b o e n hb hx => ?_, fun b o e n hb hx => ?_, fun b o e n hx => ?_, fun b o e hx => ?_, fun b xs e => tups b xs (I.base.tups b xs e), fun b o xs e => frzs b o xs (I.base.frzs b o xs e), fun b ps e => ?_⟩, ?_, fun x c e => ?_, ?_, fun x c e => ?_, fun p hp => ?_, hok, I.len⟩
  · exact keep b o (neL b o e) hb (neC b o e hx) (I.base.keep b o e n hb hx) (I.base.free b o e n hx)
  · obtain ⟨sl, e1⟩ := I.base.slot b o e n hb hx
    obtain ⟨sl', e2⟩ := slot b _ (neL b o e) hb (neC b o e hx) e1 (I.base.free b o e n hx)
    exact ⟨sl', e2⟩
  · obtain ⟨o', e1⟩ := I.base.there b o e hx
    exact free b o' (neC b o e hx) e1 (I.base.free b o e n hx)
  · obtain ⟨o', e1⟩ := I.base.there b o e hx
    exact there b o' (neC b o e hx) e1
  · obtain ⟨m1, e1⟩ := I.base.tbls b ps e
    obtain ⟨m2, e2⟩ := tbls b _ e1
    exact ⟨m1 ++ m2, by rw [e2, Array.append_assoc]⟩
  · obtain ⟨m, hn, hl⟩ := I.loc
    refine ⟨m, ns m hn, fun i x v e1 e2 e3 => ?_⟩
    obtain ⟨u, r, l⟩ := hl i x v e1 e2 e3
    refine ⟨u, r, ?_⟩
    rcases l with l | ⟨k, c, e, z⟩
    · exact .inl l
    · exact .inr ⟨k, c, e, cellK x c e _ z⟩
  · obtain ⟨v, z⟩ := I.cell x c e
    exact ⟨v, cellK x c e v z⟩
  · obtain ⟨m, ⟨o, _, _, ho, _⟩, _⟩ := I.loc
    exact free _ o (fun z => (hch _ z).2.1 rfl) ho I.free
  · obtain ⟨v, o, ho, hd⟩ := I.cell x c e
    exact free c o (fun z => (hch c z).2.2.1 x c e rfl) ho (I.freeC x c e)
  · obtain ⟨e, n, ne, nf, d⟩ := I.pin p hp
    have nch : p.1 ∉ ch := fun z => (hch p.1 z).2.2.2 p hp rfl
    exact ⟨keep p.1 p.2 ne nf nch e n, free p.1 p.2 nch e n, ne, nf, d⟩
theorem Inv.un {t' : Nat} (I : Inv X pins σ H s) (u : Un X.fs [] H H' s.heap h') (hok : HOk X.prog X.w H' h') : Inv X pins σ H' { s with heap := h', toks := t' } := by
  obtain ⟨m, ⟨o, es, ep, ho, r⟩, _⟩ := id I.loc
  obtain ⟨sl, hL⟩ := u.any ho I.free (by simp)
  exact I.step (g' := s.gens) (d' := s.drawn) (ch := []) (fun _ z => nomatch z) (fun b o _ hb _ e n => u.keep b o e n hb (by simp)) (fun b o _ hb _ e n => u.slot b o e n hb (by simp)) (fun b o _ e n => u.free b o e n (by simp)) (fun b o _ e => u.there b o e (by simp)) u.tups u.frzs u.tbls (fun m' hm => by
    obtain ⟨o', es', ep', ho', r'⟩ := hm
    rw [ho] at ho'; cases ho'
    exact ⟨_, es', ep', hL, r'⟩) hok I.bare
theorem Inv.call {g' : Array GenState} {t' : Nat} {d' : Drawn} {ch : List Addr} (I : Inv X pins σ H s) (u : Un (frs X.stack) ch H H' s.heap h') (hok : HOk X.prog X.w H' h') (hg : AllBare g')
    (hch : ∀ b ∈ ch, (b ∈ X.ex ∨ X.s₀.heap.objs.size ≤ b) ∧ b ≠ X.env.locals ∧ (∀ x c, X.env.cells.lookup x = some c → c ≠ b) ∧ ∀ p ∈ X.pn ++ pins, p.1 ≠ b) :
    Inv X pins σ H' { s with heap := h', gens := g', drawn := d', toks := t' } := by
  obtain ⟨m, ⟨o, es, ep, ho, r⟩, _⟩ := id I.loc
  obtain ⟨sl, hL⟩ := u.any ho I.free fun z => (hch _ z).2.1 rfl
  exact I.step (ch := ch) hch (fun b o hL hb hc e n => u.keep b o e n (fun z => (List.mem_cons.mp (I.stkSub b z)).elim hL hb) hc) (fun b o _ _ hc e n => u.any e n hc) (fun b o hc e n => u.free b o e n hc) (fun b o hc e => u.there b o e hc) u.tups u.frzs u.tbls (fun m' hm => by
    obtain ⟨o', es', ep', ho', r'⟩ := hm
    rw [ho] at ho'; cases ho'
    exact ⟨_, es', ep', hL, r'⟩) hok hg
theorem Inv.turned {t' : Nat} {it : Addr} (I : Inv X pins σ H s) (k : ∀ b o, b ≠ it → s.heap.get? b = some o → h'.get? b = some o) (hn : H it = none) (hL : it ≠ X.env.locals)
    (h1 : it ∈ X.ex ∨ X.s₀.heap.objs.size ≤ it) (h2 : ∀ x c, X.env.cells.lookup x = some c → c ≠ it) (h3 : ∀ p ∈ X.pn ++ pins, p.1 ≠ it) : Inv X pins σ H { s with heap := h', toks := t' } := by
  have nit : ∀ b u, H b = some u → b ≠ it := fun b u e z => by rw [z, hn] at e; cases e
  refine I.step (g' := s.gens) (d' := s.drawn) (ch := [it]) (fun b hb => ?_) (fun b o _ _ hc e _ => k b o (fun z => hc (by simp [z])) e) (fun b o _ _ hc e _ => ⟨o.slots, k b o (fun z => hc (by simp [z])) e⟩) (fun _ _ _ _ n => n)
    (fun b o hc e => ⟨o, k b o (fun z => hc (by simp [z])) e⟩) (fun _ _ e => e) (fun _ _ _ e => e) (fun b ps e => ⟨#[], by rw [e]; simp⟩) (fun m hm => ?_) (fun b u e => ?_) I.bare
  · have e : b = it := by simpa using hb
    subst e
    exact ⟨h1, hL, h2, h3⟩
  · obtain ⟨o, es, ep, ho, r⟩ := hm
    exact ⟨o, es, ep, k _ o (Ne.symm hL) ho, r⟩
  · refine (I.hok b u e).stay (fun c v hc q => k c v ?_ q) (fun _ q => q) fun _ _ q => q
    rcases hc with z | z
    · rw [z]; exact nit b u e
    · exact nit c _ z
theorem Inv.tok (I : Inv X pins σ H s) (t : Nat) : Inv X pins σ H { s with toks := t } := I.un (h' := s.heap) (t' := t) Un.refl I.hok
theorem Inv.kept {t' : Nat} (I : Inv X pins σ H s) (k : ∀ b u, s.heap.get? b = some u → h'.get? b = some u) : Inv X pins σ H { s with heap := h', toks := t' } := I.un (Un.kept k) (I.hok.kept k)
theorem Inv.laid {a : Addr} {o : HO} {t' : Nat} (I : Inv X pins σ H s) (k : ∀ b u, s.heap.get? b = some u → h'.get? b = some u) (hp : s.heap.objs.size ≤ a) (new : ObjOk X.prog X.w (upd H a o) h' a o) :
    Inv X pins σ (upd H a o) { s with heap := h', toks := t' } := I.un (Un.laid k hp (I.hok.fresh hp)) (I.hok.laid k hp new)
theorem Inv.write {x e : Addr} {o : HO} {t' : Nat} (I : Inv X pins σ H s) (mu : Mut (H x)) (he : e = x ∨ H e = some (.own x)) (k : ∀ b u, b ≠ e → s.heap.get? b = some u → h'.get? b = some u) (heo : ∃ u, h'.get? e = some u)
    (new : ObjOk X.prog X.w (upd H x o) h' x o) : Inv X pins σ (upd H x o) { s with heap := h', toks := t' } := I.un (Un.write mu he k heo) (I.hok.write mu he k heo new)
theorem Inv.pins_of {pins' : List (Addr × Obj)} (I : Inv X pins σ H s) (h : ∀ p ∈ pins', s.heap.get? p.1 = some p.2 ∧ H p.1 = none ∧ p.1 ≠ X.env.locals ∧ p.1 ∉ X.fs ∧ ∀ v, p.2.data ≠ .cell v) : Inv X pins' σ H s :=
  ⟨I.ok, I.os, I.bare, I.base, I.loc, I.cell, I.free, I.freeC, fun p hp => (List.mem_append.mp hp).elim (fun z => I.pin p (List.mem_append_left _ z)) (h p), I.hok, I.len⟩
theorem nodup_ix {N : List Str} (hN : N.Nodup) {i j : Nat} {x : Str} (a : N[i]? = some x) (b : N[j]? = some x) : i = j := by
  obtain ⟨h1, e1⟩ := List.getElem?_eq_some_iff.mp a
  obtain ⟨h2, e2⟩ := List.getElem?_eq_some_iff.mp b
  exact (List.getElem_inj hN).mp (e1.trans e2.symm)
theorem store_ok2 {M : Model} {A : Around} {E : Value → Shared → Prop} {i : Nat} {x : Str} {v : V} {u : Value} {Q : Unit → Shared → Prop} (I : Inv X pins σ H s) (hN : X.N.Nodup) (hi : X.N[i]? = some x) (hx : Loc X.env.scope x) (r : RelV v u)
    (h : ∀ s', Inv X pins (σ.set i (some v)) H s' → (∃ a, Heap.SameBut a s.heap s'.heap ∧ (a = X.env.locals ∨ X.env.cells.lookup x = some a)) → Q () s') (hf : X.fn x = true ∨ X.env.scope.names.lookup x = some .local := by first | exact .inl rfl | exact .inr rfl | assumption) : wpAny M A (storeName X.env x u) Q E s := by
  obtain ⟨m, hn, hl⟩ := id I.loc
  have hcls : (X.env.scope.kind == .class || (X.env.scope.kind == .module && X.env.locals != X.env.globals)) = false := by rw [I.ok.kind]; rfl
  have hiσ : i < σ.length := by rw [I.len]; exact (List.getElem?_eq_some_iff.mp hi).1
  have cne := I.cne
  have tracked : ∀ {a : Addr} {h' : Heap}, (∃ o, s.heap.get? a = some o ∧ H a = none) → Heap.SameBut a s.heap h' → HOk X.prog X.w H h' := fun {a h'} ha hs b ob e => by
    obtain ⟨_, _, hfree⟩ := ha
    refine (I.hok b ob e).stay (fun c w' hc q => (hs.2 c ?_).trans q) (fun _ q => q) fun _ _ q => q
    rintro rfl
    rcases hc with rfl | hc
    · rw [hfree] at e; cases e
    · rw [hfree] at hc; cases hc
  rcases hx with hk | hk
  · refine wpAny_storeName_local hk hn (fun h' hn' hs => ?_) hcls
    obtain ⟨oL, _, _, hoL, _⟩ := id hn
    refine h _ ⟨I.ok, I.os, I.bare, ⟨fun b o e n hb hx => ?_, fun b o e n hb hx => ?_, I.base.free, fun b o e hx => ?_, I.base.tups, I.base.frzs, I.base.tbls⟩, ⟨_, hn', fun j y v' e1 e2 e3 => ?_⟩, fun y c e => ?_, I.free, I.freeC, fun p hp => ?_, tracked ⟨oL, hoL, I.free⟩ hs, by simpa using I.len⟩ ⟨_, hs, .inl rfl⟩
    · exact (hs.2 b (Nat.ne_of_lt (Nat.lt_of_lt_of_le (Heap.lt_size e) I.ok.above))).trans (I.base.keep b o e n hb hx)
    · obtain ⟨sl, e1⟩ := I.base.slot b o e n hb hx
      exact ⟨sl, (hs.2 b (Nat.ne_of_lt (Nat.lt_of_lt_of_le (Heap.lt_size e) I.ok.above))).trans e1⟩
    · obtain ⟨o', e1⟩ := I.base.there b o e hx
      exact ⟨o', (hs.2 b (Nat.ne_of_lt (Nat.lt_of_lt_of_le (Heap.lt_size e) I.ok.above))).trans e1⟩
    · by_cases hj : j = i
      · subst hj
        rw [hi] at e1; cases e1
        rw [List.getElem?_set_self hiσ] at e2
        cases e2
        exact ⟨u, r, .inl ⟨hk, by simp⟩⟩
      · rw [List.getElem?_set_ne (Ne.symm hj)] at e2
        obtain ⟨u', r', q⟩ := hl j y v' e1 e2 e3
        refine ⟨u', r', ?_⟩
        rcases q with ⟨k, e⟩ | ⟨k, c, e, z⟩
        · refine .inl ⟨k, ?_⟩
          have : y ≠ x := fun e => hj (nodup_ix hN e1 (e ▸ hi))
          simp [this, e]
        · exact .inr ⟨k, c, e, z.sameBut hs (cne y c e)⟩
    · obtain ⟨w', z⟩ := I.cell y c e
      exact ⟨w', z.sameBut hs (cne y c e)⟩
    · obtain ⟨e, n, ne, nf, d⟩ := I.pin p hp
      exact ⟨(hs.2 p.1 ne).trans e, n, ne, nf, d⟩
  · have hfn : X.fn x = true := by
      rcases hf with z | z
      · exact z
      · rw [z] at hk; cases hk
    obtain ⟨c, hc⟩ := I.ok.has x (.inl hk)
    obtain ⟨w', z⟩ := I.cell x c hc
    refine wpAny_storeName_cell I.ok.kind hk hc z (fun h' hc' hs => ?_)
    obtain ⟨oc, hoc, hocd⟩ := id z
    refine h { s with heap := h' } ⟨I.ok, I.os, I.bare, ⟨fun b o e n hb hx => ?_, fun b o e n hb hx => ?_, I.base.free, fun b o e hx => ?_, I.base.tups, I.base.frzs, I.base.tbls⟩, ⟨m, hn.sameBut hs (Ne.symm (cne x c hc)), fun j y v' e1 e2 e3 => ?_⟩, fun y c' e => ?_, I.free, I.freeC, fun p hp => ?_, tracked ⟨oc, hoc, I.freeC x c hc⟩ hs, by simpa using I.len⟩ ⟨c, hs, .inr hc⟩
    · exact (hs.2 b (Nat.ne_of_lt (Nat.lt_of_lt_of_le (Heap.lt_size e) (I.ok.cab x c hfn hc)))).trans (I.base.keep b o e n hb hx)
    · obtain ⟨sl, e1⟩ := I.base.slot b o e n hb hx
      exact ⟨sl, (hs.2 b (Nat.ne_of_lt (Nat.lt_of_lt_of_le (Heap.lt_size e) (I.ok.cab x c hfn hc)))).trans e1⟩
    · obtain ⟨o', e1⟩ := I.base.there b o e hx
      exact ⟨o', (hs.2 b (Nat.ne_of_lt (Nat.lt_of_lt_of_le (Heap.lt_size e) (I.ok.cab x c hfn hc)))).trans e1⟩
    · by_cases hj : j = i
      · subst hj
        rw [hi] at e1; cases e1
        rw [List.getElem?_set_self hiσ] at e2
        cases e2
        exact ⟨u, r, .inr ⟨.inl hk, c, hc, hc'⟩⟩
      · rw [List.getElem?_set_ne (Ne.symm hj)] at e2
        obtain ⟨u', r', q⟩ := hl j y v' e1 e2 e3
        refine ⟨u', r', ?_⟩
        rcases q with q | ⟨k, c', e, z'⟩
        · exact .inl q
        · refine .inr ⟨k, c', e, z'.sameBut hs ?_⟩
          rintro rfl
          exact hj (nodup_ix hN e1 (I.ok.inj _ _ _ e hc ▸ hi))
    · by_cases hcc : c' = c
      · subst hcc; exact ⟨_, hc'⟩
      · obtain ⟨w2, z2⟩ := I.cell y c' e
        exact ⟨w2, z2.sameBut hs hcc⟩
    · obtain ⟨e, n, ne, nf, d⟩ := I.pin p hp
      refine ⟨(hs.2 p.1 ?_).trans e, n, ne, nf, d⟩
      intro q
      rw [q, hoc] at e
      have q' : oc = p.2 := Option.some.inj e
      exact d w' (by rw [← q']; exact hocd)
theorem store_ok {M : Model} {A : Around} {E : Value → Shared → Prop} {i : Nat} {x : Str} {v : V} {u : Value} {Q : Unit → Shared → Prop} (I : Inv X pins σ H s) (hN : X.N.Nodup) (hi : X.N[i]? = some x) (hx : Loc X.env.scope x) (r : RelV v u)
    (h : ∀ s', Inv X pins (σ.set i (some v)) H s' → Q () s') (hf : X.fn x = true ∨ X.env.scope.names.lookup x = some .local := by first | exact .inl rfl | exact .inr rfl | assumption) : wpAny M A (storeName X.env x u) Q E s :=
  store_ok2 I hN hi hx r (fun s' I' _ => h s' I') hf
theorem Inv.call' {s' : Shared} {ch : List Addr} (I : Inv X pins σ H s) (ho : s'.os = s.os) (u : Un (frs X.stack) ch H H' s.heap s'.heap) (hok : HOk X.prog X.w H' s'.heap) (hg : AllBare s'.gens)
    (hch : ∀ b ∈ ch, (b ∈ X.ex ∨ X.s₀.heap.objs.size ≤ b) ∧ b ≠ X.env.locals ∧ (∀ x c, X.env.cells.lookup x = some c → c ≠ b) ∧ ∀ p ∈ X.pn ++ pins, p.1 ≠ b) : Inv X pins σ H' s' := by
  obtain ⟨h', g', d', t', o'⟩ := s'
  have e : o' = s.os := ho
  subst e
  exact I.call (g' := g') (t' := t') (d' := d') u hok hg hch
end
abbrev XK := Value → Option Addr → Hp → Prop
abbrev St := List (Option V)
abbrev VK := V → Hp → Prop
abbrev TE := St → Hp → VK → Prop
abbrev TA := St → Hp → (List V → Hp → Prop) → Prop
structure Ends where
  nx : St → Hp → Prop
  rt : VK
  bk : St → Hp → Prop := fun _ _ => False
  ct : St → Hp → Prop := fun _ _ => False
abbrev TS := Ends → St → Hp → Prop
def EP (X : Cx) (pins : List (Addr × Obj)) (σ : St) (Q : VK) (u : Value) (s' : Shared) : Prop := ∃ v H', Inv X pins σ H' s' ∧ RelV v u ∧ Q v H'
def AP (X : Cx) (pins : List (Addr × Obj)) (σ : St) (Q : List V → Hp → Prop) (us : List Value) (s' : Shared) : Prop := ∃ vs H', Inv X pins σ H' s' ∧ Vals vs us ∧ Q vs H'
def SP (X : Cx) (pins : List (Addr × Obj)) (D : Ends) (f : Flow) (s' : Shared) : Prop :=
  match f with
  | .next => ∃ σ' H', Inv X pins σ' H' s' ∧ D.nx σ' H'
  | .brk => ∃ σ' H', Inv X pins σ' H' s' ∧ D.bk σ' H'
  | .cont => ∃ σ' H', Inv X pins σ' H' s' ∧ D.ct σ' H'
  | .ret u => ∃ v σ' H', Inv X pins σ' H' s' ∧ RelV v u ∧ D.rt v H'
def PE (X : Cx) (e : Expr) (t : TE) : Prop :=
  ∀ (pins : List (Addr × Obj)) (s : Shared) (σ : St) (H : Hp) (Q : VK), Inv X pins σ H s → t σ H Q → wpAny (model X.prog X.w) X.A (eval e X.env) (EP X pins σ Q) X.xe s
def PA (X : Cx) (es : List Expr) (t : TA) : Prop :=
  ∀ (pos : Pos) (pins : List (Addr × Obj)) (s : Shared) (σ : St) (H : Hp) (Q : List V → Hp → Prop), Inv X pins σ H s → t σ H Q → wpAny (model X.prog X.w) X.A (spliced (backTo pos (starEach es X.env))) (AP X pins σ Q) X.xe s
def PS (X : Cx) (st : Stmt) (t : TS) : Prop :=
  ∀ (pins : List (Addr × Obj)) (s : Shared) (σ : St) (H : Hp) (D : Ends), Inv X pins σ H s → t D σ H → wpAny (model X.prog X.w) X.A (exec st X.env) (SP X pins D) X.xe s
def PSs (X : Cx) (st : List Stmt) (t : TS) : Prop :=
  ∀ (pins : List (Addr × Obj)) (s : Shared) (σ : St) (H : Hp) (D : Ends), Inv X pins σ H s → t D σ H → wpAny (model X.prog X.w) X.A (execs st X.env) (SP X pins D) X.xe s
theorem thn {α : Type} {t : Sem α} {Q Q' : α → Shared → Prop} {M : Model} {A : Around} {E : Value → Shared → Prop} {s : Shared} (h : wpAny M A t Q E s) (hQ : ∀ a s, Q a s → Q' a s) : wpAny M A t Q' E s := wpAny_mono h hQ fun _ _ x => x
end L2
namespace L2
open PySem PySem.Spec PyProof.Rows
section
variable {X : Cx}
def tVar (i : Nat) : TE := fun σ H Q => ∃ v, σ[i]? = some (some v) ∧ Q v H
def tC (v : V) : TE := fun _ H Q => Q v H
theorem pe_var {i : Nat} {x : Str} {pos : Pos} (hN : X.N[i]? = some x) (hv : Vis X.env.scope x) (hd : (x == ("__debug__" : Str)) = false := by decide) (hcd : (x == ("__classdict__" : Str)) = false := by decide) : PE X (.Name x pos) (tVar i) := by
  intro pins s σ H Q I h
  obtain ⟨v, e, h⟩ := h
  obtain ⟨m, hn, hl⟩ := I.loc
  obtain ⟨u, r, l⟩ := hl i x v hN e hv
  have fin : EP X pins σ Q u s := ⟨v, H, I, r, h⟩
  rcases l with ⟨hk, hm⟩ | ⟨hk, c, hc, hcell⟩
  · exact wpAny_Name (wpAny_loadName_local I.ok.kind hk hn hm fin) hd
  · rcases hk with hk | hk
    · exact wpAny_Name (wpAny_loadName_cell I.ok.kind hk hc hcell fin) hd
    · exact wpAny_Name (wpAny_loadName_free I.ok.kind hk hc hcell fin hcd) hd
theorem pe_int {i j pos} : PE X (.Constant (.int i) j pos) (tC (.int i)) := fun _ _ _ H _ I h => wpAny_Constant_int ⟨.int i, H, I.tok _, ⟨_, rfl⟩, h⟩
theorem pe_bl {b j pos} : PE X (.Constant (.bool b) j pos) (tC (.bl b)) := fun _ _ _ H _ I h => Constant_bool ⟨.bl b, H, I, rfl, h⟩
theorem pe_non {j pos} : PE X (.Constant .none j pos) (tC .non) := fun _ _ _ H _ I h => Constant_none ⟨.non, H, I, rfl, h⟩
theorem pe_str {x j pos} : PE X (.Constant (.str x) j pos) (tC (.str x)) := fun _ _ _ H _ I h => Calls.Constant_str ⟨.str x, H, I.tok _, ⟨_, rfl⟩, h⟩
def Gl (X : Cx) (x : Str) : Prop := X.env.kindOf x = some .globalImplicit
theorem ld_glob {E : Value → Shared → Prop} {pins : List (Addr × Obj)} {s : Shared} {σ : St} {H : Hp} {x : Str} {u : Value} {pos : Pos} {Q : Value → Shared → Prop} (I : Inv X pins σ H s) (hg : Gl X x) (hm : X.mg x = some u) (h : Q u s)
    (hd : (x == ("__debug__" : Str)) = false := by decide) : wpAny (model X.prog X.w) X.A (eval (.Name x pos) X.env) Q E s :=
  Calls.Name_function_global I.ok.kind hg (Calls.loadGlobal_global (by rw [I.ok.glob]; exact I.mod.glob.keeps I.bk) hm h) hd
theorem ld_blt {E : Value → Shared → Prop} {pins : List (Addr × Obj)} {s : Shared} {σ : St} {H : Hp} {x : Str} {u : Value} {pos : Pos} {Q : Value → Shared → Prop} (I : Inv X pins σ H s) (hg : Gl X x) (hm : X.mg x = none) (hv : bootBuiltins x = some u) (h : Q u s)
    (hn : x ≠ "__name__" := by decide) (hd : (x == ("__debug__" : Str)) = false := by decide) : wpAny (model X.prog X.w) X.A (eval (.Name x pos) X.env) Q E s := by
  obtain ⟨mb, h1, h2⟩ := I.mod.blt
  exact Calls.Name_function_global I.ok.kind hg (Calls.loadGlobal_builtin (by rw [I.ok.glob]; exact I.mod.glob.keeps I.bk) hm (by rw [I.ok.blt]; exact h1.keeps I.bk) ((h2 x hn).trans hv) h) hd
theorem pe_glob {x : Str} {v : V} {u : Value} {pos : Pos} (hg : Gl X x) (hm : X.mg x = some u) (r : RelV v u) (hd : (x == ("__debug__" : Str)) = false := by decide) : PE X (.Name x pos) (tC v) :=
  fun _ _ _ H _ I h => ld_glob I hg hm ⟨v, H, I, r, h⟩ hd
theorem pe_bltn {x : Str} {v : V} {u : Value} {pos : Pos} (hg : Gl X x) (hm : X.mg x = none) (hv : bootBuiltins x = some u) (r : RelV v u) (hn : x ≠ "__name__" := by decide) (hd : (x == ("__debug__" : Str)) = false := by decide) : PE X (.Name x pos) (tC v) :=
  fun _ _ _ H _ I h => ld_blt I hg hm hv ⟨v, H, I, r, h⟩ hn hd
variable {a b : Expr} {ta tb : TE} {pos : Pos}
variable {tA tB' : TT} {rest : List Expr}
end
end L2
namespace L2
open PySem PySem.Spec PyProof.Rows
def SqL (K : PySem.W.Frag) (H : Hp) (a : Addr) (xs : List V) : Prop :=
  Rd H a (.lst xs) ∨
    ∃ (o : Obj) (its : Array Value) (n : Nat), K.lookup a = some o ∧ o.cls = .type "list" ∧ o.dict = none ∧ o.data = .seq its n ∧ its.size ≤ sizeLine ∧ Vals xs its.toList
def SqT (K : PySem.W.Frag) (H : Hp) (a : Addr) (xs : List V) : Prop :=
  Rd H a (.tup xs) ∨
    ∃ (o : Obj) (its : Array Value) (n : Nat), K.lookup a = some o ∧ o.cls = .type "tuple" ∧ o.data = .seq its n ∧ its.size ≤ sizeLine ∧ Vals xs its.toList
def absV : Value → Option V
  | .none => some .non
  | .bool b => some (.bl b)
  | .int i _ => some (.int i)
  | .str x _ => some (.str x)
  | .bytes b _ => some (.byt b)
  | .float b _ => some (.flt b)
  | .ref a => some (.ref a)
  | .type n => some (.ty n)
  | _ => none
theorem RelV.abs {x : V} {u : Value} (r : RelV x u) : absV u = some x := by
  cases x with
  | non => cases r; rfl
  | bl _ => cases r; rfl
  | int _ => obtain ⟨t, rfl⟩ := r; rfl
  | str _ => obtain ⟨t, rfl⟩ := r; rfl
  | byt _ => obtain ⟨t, rfl⟩ := r; rfl
  | flt _ => obtain ⟨t, rfl⟩ := r; rfl
  | ref _ => cases r; rfl
  | ty _ => cases r; rfl
theorem RelV.inj {x y : V} {u : Value} (r : RelV x u) (q : RelV y u) : x = y := Option.some.inj (r.abs.symm.trans q.abs)
theorem Vals.inj : ∀ {xs ys : List V} {us : List Value}, Vals xs us → Vals ys us → xs = ys
  | _, _, _, .nil, .nil => rfl
  | _, _, _, .cons r t, .cons r' t' => by rw [r.inj r', Vals.inj t t']
section
variable {X : Cx} {pins : List (Addr × Obj)} {σ : St} {H : Hp} {s : Shared} {a : Addr} {xs ys : List V}
theorem Inv.list (I : Inv X pins σ H s) (h : SqL X.K H a xs) : ∃ its : List Value, Vals xs its ∧ PlainL s.heap a its.toArray ∧ xs.length ≤ sizeLine := by
  rcases h with h | ⟨o, its, n, hk, hc, hd, hs, hz, r⟩
  · obtain ⟨z, its, n, r, e⟩ := h.ok I.hok
    exact ⟨its, r, ⟨_, n, e, rfl, rfl, rfl⟩, z⟩
  · refine ⟨its.toList, r, ⟨o, n, I.kIn a o hk, hc, hd, by simpa using hs⟩, ?_⟩
    have e := r.length
    simp only [Array.length_toList] at e
    lia
theorem Inv.tuple (I : Inv X pins σ H s) (h : SqT X.K H a xs) : ∃ its : List Value, Vals xs its ∧ IsTup s.heap a its.toArray ∧ xs.length ≤ sizeLine := by
  rcases h with h | ⟨o, its, n, hk, hc, hs, hz, r⟩
  · obtain ⟨z, its, r, p⟩ := h.ok I.hok
    exact ⟨its, r, p, z⟩
  · refine ⟨its.toList, r, ⟨o, I.kIn a o hk, hc, n, by simpa using hs⟩, ?_⟩
    have e := r.length
    simp only [Array.length_toList] at e
    lia
theorem Inv.list_inj (I : Inv X pins σ H s) (h : SqL X.K H a xs) (h' : SqL X.K H a ys) : xs = ys := by
  obtain ⟨its, r, ⟨o, n, e, _, _, d⟩, _⟩ := I.list h
  obtain ⟨its', r', ⟨o', n', e', _, _, d'⟩, _⟩ := I.list h'
  rw [e] at e'; cases e'
  rw [d] at d'
  injection d' with d1 _
  have : its = its' := by simpa using congrArg Array.toList d1
  subst this
  exact r.inj r'
theorem Inv.tuple_inj (I : Inv X pins σ H s) (h : SqT X.K H a xs) (h' : SqT X.K H a ys) : xs = ys := by
  obtain ⟨its, r, ⟨o, e, _, n, d⟩, _⟩ := I.tuple h
  obtain ⟨its', r', ⟨o', e', _, n', d'⟩, _⟩ := I.tuple h'
  rw [e] at e'; cases e'
  rw [d] at d'
  injection d' with d1 _
  have : its = its' := by simpa using congrArg Array.toList d1
  subst this
  exact r.inj r'
end
abbrev Cx.wish (X : Cx) (E : Value → Shared → Prop) : Cx := { X with xe := E }
abbrev Cx.nox (X : Cx) : Cx := X.wish fun _ _ => False
theorem Cx.Ok.wish {X : Cx} (ok : X.Ok) (E : Value → Shared → Prop) : (X.wish E).Ok :=
  ⟨ok.mod, ok.kind, ok.glob, ok.blt, ok.above, ok.inj, ok.has, ok.cab, ok.hd, ok.frames, ok.stk, ok.exf, ok.bs, ok.bsz, ok.noex, ok.exfs, ok.funs, ok.frf⟩
theorem Cx.Ok.unwish {X : Cx} {E : Value → Shared → Prop} (ok : (X.wish E).Ok) : X.Ok :=
  ⟨ok.mod, ok.kind, ok.glob, ok.blt, ok.above, ok.inj, ok.has, ok.cab, ok.hd, ok.frames, ok.stk, ok.exf, ok.bs, ok.bsz, ok.noex, ok.exfs, ok.funs, ok.frf⟩
section
variable {X : Cx} {pins : List (Addr × Obj)} {σ : St} {H : Hp} {s : Shared} {E : Value → Shared → Prop}
theorem Inv.wish (I : Inv X pins σ H s) (E : Value → Shared → Prop) : Inv (X.wish E) pins σ H s := ⟨I.ok.wish E, I.os, I.bare, I.base, I.loc, I.cell, I.free, I.freeC, I.pin, I.hok, I.len⟩
theorem Inv.unwish (I : Inv (X.wish E) pins σ H s) : Inv X pins σ H s := ⟨I.ok.unwish, I.os, I.bare, I.base, I.loc, I.cell, I.free, I.freeC, I.pin, I.hok, I.len⟩
theorem SP.unwish {D : Ends} {f : Flow} {s' : Shared} (h : SP (X.wish E) pins D f s') : SP X pins D f s' := by
  cases f with
  | next => obtain ⟨σ', H', I, q⟩ := h; exact ⟨σ', H', I.unwish, q⟩
  | brk => obtain ⟨σ', H', I, q⟩ := h; exact ⟨σ', H', I.unwish, q⟩
  | cont => obtain ⟨σ', H', I, q⟩ := h; exact ⟨σ', H', I.unwish, q⟩
  | ret u => obtain ⟨v, σ', H', I, r, q⟩ := h; exact ⟨v, σ', H', I.unwish, r, q⟩
theorem PSs.nox {st : List Stmt} {t : TS} (h : PSs X.nox st t) : PSs X st t := fun pins s σ H D I hw =>
  wpAny_mono (h pins s σ H D (I.wish _) hw) (fun _ _ q => q.unwish) fun _ _ z => False.elim z
end
section
variable {X : Cx} {st : Stmt} {rest : List Stmt} {t u : TS} {e : Expr} {te : TE} {pos : Pos}
theorem Inv.quiet {pins : List (Addr × Obj)} {σ : St} {H : Hp} {s : Shared} (I : Inv X pins σ H s) : interactive X.env = false := by simp [interactive, I.ok.kind]
end
abbrev TG := V → St → Hp → (St → Hp → Prop) → Prop
abbrev TGs := List V → St → Hp → (St → Hp → Prop) → Prop
def PG (X : Cx) (target : Expr) (t : TG) : Prop :=
  ∀ (pins : List (Addr × Obj)) (s : Shared) (σ : St) (H : Hp) (v : V) (u : Value) (Q : St → Hp → Prop), Inv X pins σ H s → RelV v u → t v σ H Q →
    wpAny (model X.prog X.w) X.A (assign target X.env u) (fun _ s' => ∃ σ' H', Inv X pins σ' H' s' ∧ Q σ' H') X.xe s
def PGs (X : Cx) (ts : List Expr) (t : TGs) : Prop :=
  ∀ (pins : List (Addr × Obj)) (s : Shared) (σ : St) (H : Hp) (vs : List V) (us : List Value) (Q : St → Hp → Prop), Inv X pins σ H s → Vals vs us → t vs σ H Q →
    wpAny (model X.prog X.w) X.A (assignInOrder ((assignEach ts X.env).map (·.2)) us) (fun _ s' => ∃ σ' H', Inv X pins σ' H' s' ∧ Q σ' H') X.xe s
section
variable {X : Cx} {pos : Pos}
def gName (i : Nat) : TG := fun v σ H Q => Q (σ.set i (some v)) H
theorem pg_name {i : Nat} {x : Str} (hN : X.N.Nodup) (hi : X.N[i]? = some x) (hx : Loc X.env.scope x) (hf : X.fn x = true ∨ X.env.scope.names.lookup x = some .local := by first | exact .inl rfl | exact .inr rfl | assumption) : PG X (.Name x pos) (gName i) := by
  intro pins s σ H v u Q I r h
  exact wpAny_assign_Name (store_ok I hN hi hx r (fun s' I' => ⟨_, H, I', h⟩) hf)
def gNil : TGs := fun vs σ H Q => vs = [] ∧ Q σ H
def gCons (t : TG) (u : TGs) : TGs := fun vs σ H Q => ∃ v r, vs = v :: r ∧ t v σ H fun σ' H' => u r σ' H' Q
theorem pgs_nil : PGs X [] gNil := by
  intro pins s σ H vs us Q I r h
  obtain ⟨e, h⟩ := h
  subst e
  cases r
  exact assignInOrder_nil ⟨σ, H, I, h⟩
theorem pgs_cons {e : Expr} {es : List Expr} {t : TG} {u : TGs} (h1 : PG X e t) (h2 : PGs X es u)
    (hs : (assignEach (e :: es) X.env).map (·.2) = assign e X.env :: (assignEach es X.env).map (·.2) := by rfl) : PGs X (e :: es) (gCons t u) := by
  intro pins s σ H vs us Q I r h
  obtain ⟨v, vr, e1, h⟩ := h
  subst e1
  cases r with
  | cons r rr =>
    rw [hs]
    refine assignInOrder_cons (thn (h1 pins s σ H _ _ _ I r h) fun _ s1 ⟨σ1, H1, I1, q1⟩ => ?_)
    exact h2 pins s1 σ1 H1 _ _ Q I1 rr q1
def gTup (K : PySem.W.Frag) (n : Nat) (t : TGs) : TG := fun v σ H Q => ∃ a xs, v = .ref a ∧ SqT K H a xs ∧ xs.length = n ∧ t xs σ H Q
theorem pg_tup {es : List Expr} {k : Nat} {t : TGs} {n : Nat} (hc : X.calm = true) (h : PGs X es t)
    (hn : (assignEach es X.env).length = n := by rfl) (hst : (assignEach es X.env).findIdx? (·.1) = none := by rfl) : PG X (.Tuple es k pos) (gTup X.K n t) := by
  intro pins s σ H v u Q I r hw
  obtain ⟨a, xs, e1, hq, hl, hw⟩ := hw
  subst e1
  cases r
  obtain ⟨its, rv, ht, hz⟩ := I.tuple hq
  refine assign_Tuple_tuple (I.ok.hd hc) ht (by simp [hn, ← hl, rv.length]) hst fun h' hx => ?_
  have I1 : Inv X pins σ H { s with heap := h' } := I.kept (t' := s.toks) fun b o e => hx b o (Nat.ne_of_lt (Heap.lt_size e)) e
  exact h pins _ σ H xs _ Q I1 (by simpa using rv) hw
def tAsg (te : TE) (g : TG) : TS := fun D σ H => te σ H fun x H1 => g x σ H1 D.nx
theorem ps_set {i : Nat} {x : Str} {e : Expr} {te : TE} {pos' : Pos} (hN : X.N.Nodup) (hi : X.N[i]? = some x) (hx : Loc X.env.scope x) (he : PE X e te) (hs : swapsWith e (some (.Name x pos')) pos.line X.env = pure false := by rfl) (hf : X.fn x = true ∨ X.env.scope.names.lookup x = some .local := by first | exact .inl rfl | exact .inr rfl | assumption) :
    PS X (.Assign [.Name x pos'] e pos) (tAsg te (gName i)) := by
  intro pins s σ H D I h
  refine wpAny_Assign_Name (thn (he pins s σ H _ I h) fun v s1 ⟨y, H1, I1, r1, q1⟩ => ?_) hs
  exact store_ok I1 hN hi hx r1 (fun s2 I2 => ⟨_, H1, I2, q1⟩) hf
end
section
variable {X : Cx} {pos : Pos}
end
structure It where
  go : Nat → Hp → Prop
  yld : Nat → Hp → V → Hp → Prop
  stop : Nat → Hp → Prop
def FpOk (X : Cx) (pins : List (Addr × Obj)) (H : Hp) (b : Addr) : Prop :=
  H b = none ∧ b ≠ X.env.locals ∧ b ∉ X.fs ∧ (b ∈ X.ex ∨ X.s₀.heap.objs.size ≤ b) ∧ (∀ x c, X.env.cells.lookup x = some c → c ≠ b) ∧ ∀ p ∈ X.pn ++ pins, p.1 ≠ b
theorem Inv.fpOk {X : Cx} {pins : List (Addr × Obj)} {σ : St} {H H' : Hp} {s : Shared} {b : Addr} (I : Inv X pins σ H s) (hb : s.heap.objs.size ≤ b) (hn : H' b = none) : FpOk X pins H' b := by
  refine ⟨hn, Nat.ne_of_gt (Nat.lt_of_lt_of_le I.lt hb), I.nofs hb, .inr (Nat.le_trans I.sz hb), fun x c e z => ?_, fun p hp z => ?_⟩
  · obtain ⟨v, q⟩ := I.cell x c e
    exact absurd (Nat.lt_of_lt_of_le q.lt (by rw [z]; exact hb)) (Nat.lt_irrefl _)
  · exact absurd (Nat.lt_of_lt_of_le (Heap.lt_size (I.pin p hp).1) (by rw [z]; exact hb)) (Nat.lt_irrefl _)
structure Turn (P : Program) (w : World) (K : PySem.W.Frag) (tg : Expr) (J : It) (fp : List Addr) (it : Addr) (tn : Nat → Heap → Prop) : Prop where
  mem : it ∈ fp
  obj : ∀ i h, tn i h → ∀ b ∈ fp, ∃ o, h.get? b = some o ∧ ∀ v, o.data ≠ .cell v
  keep : ∀ i h h', tn i h → (∀ b ∈ fp, ∀ o, h.get? b = some o → h'.get? b = some o) → tn i h'
  item : ∀ (X : Cx), X.prog = P → X.w = w → X.K = K → X.calm = true → ∀ (i : Nat) (pins : List (Addr × Obj)) (s : Shared) (σ : St) (H : Hp) (E : Value → Shared → Prop), Inv X pins σ H s → (∀ b ∈ fp, FpOk X pins H b) → tn i s.heap → J.go i H →
    wpAny (model P w) X.A (pyNext (.ref it)) (fun r s1 => ∃ u, r = some u ∧
      wpAny (model P w) X.A (letOwnedTupleGo tg (.ref it) u) (fun _ s2 => ∃ x H', Inv X pins σ H' s2 ∧ RelV x u ∧ J.yld i H x H' ∧ tn (i + 1) s2.heap ∧ ∀ b ∈ fp, H' b = none) E s1) E s
  done : ∀ (X : Cx), X.prog = P → X.w = w → X.K = K → X.calm = true → ∀ (i : Nat) (pins : List (Addr × Obj)) (s : Shared) (σ : St) (H : Hp) (E : Value → Shared → Prop), Inv X pins σ H s → (∀ b ∈ fp, FpOk X pins H b) → tn i s.heap → J.stop i H →
    wpAny (model P w) X.A (pyNext (.ref it)) (fun r s1 => r = none ∧ Inv X pins σ H s1) E s
  self : ∀ (A : Around) (i : Nat) (s : Shared) (Q : Value → Shared → Prop) (E : Value → Shared → Prop), tn i s.heap → Q (.ref it) s → wpAny (model P w) A (pyIter (.ref it)) Q E s
abbrev TI := St → Hp → (It → Hp → Prop) → Prop
def PIE (X : Cx) (pins : List (Addr × Obj)) (σ : St) (tg : Expr) (R : It → Hp → Prop) (itv : Value) (s2 : Shared) : Prop :=
  ∃ (it : Addr) (fp : List Addr) (tn : Nat → Heap → Prop) (J : It) (H' : Hp), itv = .ref it ∧ Inv X pins σ H' s2 ∧ Turn X.prog X.w X.K tg J fp it tn ∧ tn 0 s2.heap ∧ (∀ b ∈ fp, FpOk X pins H' b) ∧ R J H'
def PI (X : Cx) (tg iter : Expr) (wi : TI) : Prop :=
  ∀ (pins : List (Addr × Obj)) (s : Shared) (σ : St) (H : Hp) (R : It → Hp → Prop), Inv X pins σ H s → wi σ H R →
    wpAny (model X.prog X.w) X.A (eval iter X.env) (fun v s1 => wpAny (model X.prog X.w) X.A (pyIter v) (PIE X pins σ tg R) X.xe s1) X.xe s
theorem go_of {M : Model} {A : Around} {E : Value → Shared → Prop} {s : Shared} {tg : Expr} {it : Addr} {u : Value} {o : Obj} {n : String} {vs : Array Value} {Q : Unit → Shared → Prop} (ho : s.heap.get? it = some o) (hc : o.cls = .type n) (hd : o.data = .fields vs)
    (hn : ["enumerate", "zip", "dict_itemiterator", "dict_reverseitemiterator", "odict_iterator", "itertools.zip_longest", "itertools.pairwise"].contains n = false) (hQ : Q () s) : wpAny M A (letOwnedTupleGo tg (.ref it) u) Q E s := by
  unfold letOwnedTupleGo
  cases tg <;> first
    | exact wpAny_pure hQ
    | (cases u <;> first
        | exact wpAny_pure hQ
        | (refine wpAny_bind (wpAny_load ho ?_)
           rw [hc, hd]
           show wpAny M A (if (["enumerate", "zip", "dict_itemiterator", "dict_reverseitemiterator", "odict_iterator", "itertools.zip_longest", "itertools.pairwise"].contains n && vs[0]? == some (rawInt _)) = true then _ else _) Q E s
           rw [if_neg (by intro h; rw [hn, Bool.false_and] at h; cases h)]
           exact wpAny_pure hQ))
def Itl (K : PySem.W.Frag) (a : Addr) : It :=
  ⟨fun i H => ∃ xs x, SqL K H a xs ∧ xs[i]? = some x, fun i H x H' => H' = H ∧ ∀ xs, SqL K H a xs → xs[i]? = some x, fun i H => ∃ xs, SqL K H a xs ∧ xs.length ≤ i⟩
def Itt (K : PySem.W.Frag) (a : Addr) : It :=
  ⟨fun i H => ∃ xs x, SqT K H a xs ∧ xs[i]? = some x, fun i H x H' => H' = H ∧ ∀ xs, SqT K H a xs → xs[i]? = some x, fun i H => ∃ xs, SqT K H a xs ∧ xs.length ≤ i⟩
def Itr (lo : Int) (n : Nat) : It := ⟨fun i _ => i < n, fun i H x H' => H' = H ∧ x = .int (lo + i), fun i _ => n ≤ i⟩
theorem turn_list {P : Program} {w : World} {K : PySem.W.Frag} {tg : Expr} (a it : Addr) : Turn P w K tg (Itl K a) [it] it (fun i h => h.IsListIter it a i) where
  mem := by simp
  obj := fun i h st b hb => by
    have e : b = it := by simpa using hb
    subst e
    obtain ⟨o, e, c, d⟩ := st
    exact ⟨o, e, fun v z => by rw [d] at z; cases z⟩
  keep := fun i h h' st k => st.at fun o e => k it (by simp) o e
  item := by
    intro X hP hw hK hc i pins s σ H E I hf st hg
    subst hP hw hK
    obtain ⟨xs, x, hq, hx⟩ := hg
    obtain ⟨its, rv, p, hz⟩ := I.list hq
    obtain ⟨u, hu, ru⟩ := rv.get hx
    obtain ⟨f0, f1, f2, f3, f4, f5⟩ := hf it (by simp)
    refine wpAny_pyNext_list_item st p.isList (x := u) (by simpa using hu) fun h' st' sb => ?_
    have I1 : Inv X pins σ H { s with heap := h' } := I.turned (t' := s.toks) (fun b o hb e => (sb.2 b hb).trans e) f0 f1 f3 f4 f5
    obtain ⟨o, e, c, d⟩ := id st'
    exact ⟨u, rfl, go_of (s := { s with heap := h' }) e c d (by decide) ⟨x, H, I1, ru, ⟨rfl, fun ys hy => by rw [I.list_inj hy hq]; exact hx⟩, st', fun b hb => (hf b hb).1⟩⟩
  done := by
    intro X hP hw hK hc i pins s σ H E I hf st hg
    subst hP hw hK
    obtain ⟨xs, hq, hx⟩ := hg
    obtain ⟨its, rv, p, hz⟩ := I.list hq
    obtain ⟨f0, f1, f2, f3, f4, f5⟩ := hf it (by simp)
    have hl := rv.length
    exact wpAny_pyNext_list_end (I.ok.hd hc) st p.isList (by simp; lia) fun h' eb => ⟨rfl, I.turned (t' := s.toks) (fun b o hb e => eb b o hb e) f0 f1 f3 f4 f5⟩
  self := fun _ _ _ _ _ st h => wpAny_pyIter_listiter st h
theorem turn_tuple {P : Program} {w : World} {K : PySem.W.Frag} {tg : Expr} (a it : Addr) : Turn P w K tg (Itt K a) [it] it (fun i h => h.IsTupleIter it a i) where
  mem := by simp
  obj := fun i h st b hb => by
    have e : b = it := by simpa using hb
    subst e
    obtain ⟨o, e, c, d⟩ := st
    exact ⟨o, e, fun v z => by rw [d] at z; cases z⟩
  keep := fun i h h' st k => st.at fun o e => k it (by simp) o e
  item := by
    intro X hP hw hK hc i pins s σ H E I hf st hg
    subst hP hw hK
    obtain ⟨xs, x, hq, hx⟩ := hg
    obtain ⟨its, rv, p, hz⟩ := I.tuple hq
    obtain ⟨u, hu, ru⟩ := rv.get hx
    obtain ⟨f0, f1, f2, f3, f4, f5⟩ := hf it (by simp)
    refine wpAny_pyNext_tuple_item st (show s.heap.IsTuple a its.toArray from p) (x := u) (by simpa using hu) fun h' st' sb => ?_
    have I1 : Inv X pins σ H { s with heap := h' } := I.turned (t' := s.toks) (fun b o hb e => (sb.2 b hb).trans e) f0 f1 f3 f4 f5
    obtain ⟨o, e, c, d⟩ := id st'
    exact ⟨u, rfl, go_of (s := { s with heap := h' }) e c d (by decide) ⟨x, H, I1, ru, ⟨rfl, fun ys hy => by rw [I.tuple_inj hy hq]; exact hx⟩, st', fun b hb => (hf b hb).1⟩⟩
  done := by
    intro X hP hw hK hc i pins s σ H E I hf st hg
    subst hP hw hK
    obtain ⟨xs, hq, hx⟩ := hg
    obtain ⟨its, rv, p, hz⟩ := I.tuple hq
    obtain ⟨f0, f1, f2, f3, f4, f5⟩ := hf it (by simp)
    have hl := rv.length
    exact wpAny_pyNext_tuple_end (I.ok.hd hc) st (show s.heap.IsTuple a its.toArray from p) (by simp; lia) fun h' eb => ⟨rfl, I.turned (t' := s.toks) (fun b o hb e => eb b o hb e) f0 f1 f3 f4 f5⟩
  self := fun _ _ _ _ _ st h => wpAny_pyIter_tupleiter st h
theorem turn_range {P : Program} {w : World} {K : PySem.W.Frag} {tg : Expr} (it : Addr) (lo : Int) (n : Nat) : Turn P w K tg (Itr lo n) [it] it (fun i h => IsRangeIter h it (lo + (i : Nat) * 1) ((n : Int) - (i : Nat)) 1) where
  mem := by simp
  obj := fun i h st b hb => by
    have e : b = it := by simpa using hb
    subst e
    exact ⟨_, st, fun v z => by
      have z' : Data.fields _ = Data.cell v := z
      cases z'⟩
  keep := fun i h h' st k => k it (by simp) _ st
  item := by
    intro X hP hw hK hc i pins s σ H E I hf st hg
    subst hP hw hK
    obtain ⟨f0, f1, f2, f3, f4, f5⟩ := hf it (by simp)
    have W := Walks.range (prog := X.prog) (w := X.w) (I.ok.hd hc) it lo 1 n
    refine W.item i s _ _ hg st fun v h' tk hv st' kk => ?_
    obtain ⟨t, rfl⟩ := hv
    have I1 : Inv X pins σ H { s with heap := h', toks := tk } := I.turned (fun b o hb e => kk b o (by simpa using hb) e) f0 f1 f3 f4 f5
    refine ⟨_, rfl, go_of (s := { s with heap := h', toks := tk }) (n := "range_iterator") st' rfl rfl (by decide) ⟨.int (lo + i), H, I1, ⟨t, ?_⟩, ⟨rfl, rfl⟩, st', fun b hb => (hf b hb).1⟩⟩
    rw [Int.mul_one]
  done := by
    intro X hP hw hK hc i pins s σ H E I hf st hg
    subst hP hw hK
    obtain ⟨f0, f1, f2, f3, f4, f5⟩ := hf it (by simp)
    exact wpAny_pyNext_range_end (I.ok.hd hc) st (by have : n ≤ i := hg; lia) fun h' eb => ⟨rfl, I.turned (t' := s.toks) (fun b o hb e => eb b o hb e) f0 f1 f3 f4 f5⟩
  self := fun _ _ _ _ _ st h => wpAny_pyIter_rangeiter st h
end L2
namespace L2
open PySem PySem.Spec PyProof.Rows
section
variable {X : Cx} {tg : Expr}
def iList (K : PySem.W.Frag) (tl : TE) : TI := fun σ H R => tl σ H fun x H1 => ∃ a, x = .ref a ∧ (∃ xs, SqL K H1 a xs) ∧ R (Itl K a) H1
def iTup (K : PySem.W.Frag) (tl : TE) : TI := fun σ H R => tl σ H fun x H1 => ∃ a, x = .ref a ∧ (∃ xs, SqT K H1 a xs) ∧ R (Itt K a) H1
theorem pi_list {l : Expr} {tl : TE} (hl : PE X l tl) : PI X tg l (iList X.K tl) := by
  intro pins s σ H R I h
  refine thn (hl pins s σ H _ I h) fun v s1 ⟨x, H1, I1, r1, q1⟩ => ?_
  obtain ⟨a, e, ⟨xs, hq⟩, q⟩ := q1
  subst e
  cases r1
  obtain ⟨its, rv, p, hz⟩ := I1.list hq
  refine wpAny_pyIter_list p.isList ?_
  refine ⟨s1.heap.objs.size, [s1.heap.objs.size], _, _, H1, rfl, I1.kept (t' := s1.toks) fun b o e => Heap.get?_push_of_some _ e, turn_list a _, ⟨_, Heap.get?_push_size _ rfl, rfl, rfl⟩, fun b hb => ?_, q⟩
  have e : b = s1.heap.objs.size := by simpa using hb
  subst e
  exact I1.fpOk (Nat.le_refl _) (I1.hok.fresh (Nat.le_refl _))
theorem pi_tup {l : Expr} {tl : TE} (hl : PE X l tl) : PI X tg l (iTup X.K tl) := by
  intro pins s σ H R I h
  refine thn (hl pins s σ H _ I h) fun v s1 ⟨x, H1, I1, r1, q1⟩ => ?_
  obtain ⟨a, e, ⟨xs, hq⟩, q⟩ := q1
  subst e
  cases r1
  obtain ⟨its, rv, p, hz⟩ := I1.tuple hq
  refine wpAny_pyIter_tuple (show s1.heap.IsTuple a its.toArray from p) ?_
  refine ⟨s1.heap.objs.size, [s1.heap.objs.size], _, _, H1, rfl, I1.kept (t' := s1.toks) fun b o e => Heap.get?_push_of_some _ e, turn_tuple a _, ⟨_, Heap.get?_push_size _ rfl, rfl, rfl⟩, fun b hb => ?_, q⟩
  have e : b = s1.heap.objs.size := by simpa using hb
  subst e
  exact I1.fpOk (Nat.le_refl _) (I1.hok.fresh (Nat.le_refl _))
theorem range_it {pins : List (Addr × Obj)} {σ : St} {H : Hp} {s : Shared} {R : It → Hp → Prop} {E : Value → Shared → Prop} {lo hi : Int} {t u v : Tok} {tk : Nat} (I : Inv X pins σ H s) (h1 : -(2 ^ 62) ≤ lo) (h2 : lo < 2 ^ 62) (h3 : -(2 ^ 62) ≤ hi) (h4 : hi < 2 ^ 62)
    (q : R (Itr lo (hi - lo).toNat) H) : wpAny (model X.prog X.w) X.A (pyIter (.ref s.heap.objs.size)) (PIE X pins σ tg R) E { s with heap := s.heap.push { cls := .type "range", data := .fields #[.int lo t, .int hi u, .int 1 v] }, toks := tk } := by
  refine wpAny_pyIter_range (IsRange.new ..) (small_one h1 h2 h3 h4) ?_
  have I1 : Inv X pins σ H { s with heap := s.heap.push { cls := .type "range", data := .fields #[.int lo t, .int hi u, .int 1 v] }, toks := tk } := I.kept fun b o e => Heap.get?_push_of_some _ e
  refine ⟨(s.heap.push { cls := .type "range", data := .fields #[.int lo t, .int hi u, .int 1 v] }).objs.size, [(s.heap.push { cls := .type "range", data := .fields #[.int lo t, .int hi u, .int 1 v] }).objs.size], _, _, H, rfl,
    I1.kept (t' := tk) fun b o e => Heap.get?_push_of_some _ e, turn_range _ lo (hi - lo).toNat, ?_, fun b hb => ?_, q⟩
  · have e1 : lo + ((0 : Nat) : Int) * 1 = lo := by simp
    have e2 : (((hi - lo).toNat : Nat) : Int) - ((0 : Nat) : Int) = Builtin.Range.rangeSize lo hi 1 := by rw [rangeSize_one]; split <;> lia
    show IsRangeIter _ _ (lo + ((0 : Nat) : Int) * 1) ((((hi - lo).toNat : Nat) : Int) - ((0 : Nat) : Int)) 1
    rw [e1, e2]
    exact Heap.get?_push_size _ rfl
  · have e : b = (s.heap.push { cls := .type "range", data := .fields #[.int lo t, .int hi u, .int 1 v] }).objs.size := by simpa using hb
    subst e
    exact I1.fpOk (Nat.le_refl _) (I1.hok.fresh (Nat.le_refl _))
def iRng1 (ta : TA) : TI := fun σ H R => ta σ H fun vs H1 => ∃ j : Int, vs = [.int j] ∧ -(2 ^ 62) ≤ j ∧ j < 2 ^ 62 ∧ R (Itr 0 j.toNat) H1
theorem pi_range1 {a : Expr} {ta : TA} {p pos : Pos} (hg : Gl X "range") (hm : X.mg "range" = none) (ha : PA X [a] ta) (hs : starEach [a] X.env = [(false, eval a X.env)] := by rfl) : PI X tg (.Call (.Name "range" p) [a] [] pos) (iRng1 ta) := by
  intro pins s σ H R I h
  refine Call_ (ld_blt I hg hm boot_range (PyProof.Rows.callWith_type1 (thn (ha pos pins s σ H _ I h) fun us s1 ⟨vs, H1, I1, r1, q1⟩ => ?_) hs rfl))
  obtain ⟨j, e, q1, q2, q⟩ := q1
  subst e
  cases r1 with
  | cons r rr =>
    cases rr
    obtain ⟨t, rfl⟩ := r
    exact call_range_1 (range_it I1 (by lia) (by lia) q1 q2 (by simpa using q))
def tFor (wi : TI) (g : TG) (tb : TS) : TS := fun D σ H => wi σ H fun J H1 => ∃ W : Nat → Nat → St → Hp → Prop, (∃ m, W 0 m σ H1) ∧ ∀ i m σ H, W i m σ H →
  (J.stop i H ∧ D.nx σ H) ∨ (J.go i H ∧ ∃ N : St → Hp → Prop, (∀ σ' H', N σ' H' → ∃ m', m' < m ∧ W (i + 1) m' σ' H') ∧ ∀ x H', J.yld i H x H' → g x σ H' fun σ2 H2 => tb { D with nx := N, ct := N, bk := D.nx } σ2 H2)
def pinsAt (fp : List Addr) (h : Heap) : List (Addr × Obj) := fp.filterMap fun b => (h.get? b).map fun o => (b, o)
theorem mem_pinsAt {fp : List Addr} {h : Heap} {b : Addr} {o : Obj} (hb : b ∈ fp) (e : h.get? b = some o) : (b, o) ∈ pinsAt fp h := List.mem_filterMap.mpr ⟨b, hb, by rw [e]; rfl⟩
theorem of_pinsAt {fp : List Addr} {h : Heap} {p : Addr × Obj} (hp : p ∈ pinsAt fp h) : p.1 ∈ fp ∧ h.get? p.1 = some p.2 := by
  obtain ⟨b, hb, e⟩ := List.mem_filterMap.mp hp
  cases q : h.get? b with
  | none => rw [q] at e; cases e
  | some o =>
    rw [q] at e
    have e' : (b, o) = p := Option.some.inj e
    subst e'
    exact ⟨hb, q⟩
theorem Inv.pinned {pins : List (Addr × Obj)} {σ : St} {H : Hp} {s : Shared} {fp : List Addr} (I : Inv X pins σ H s) (hf : ∀ b ∈ fp, FpOk X pins H b) (ho : ∀ b ∈ fp, ∃ o, s.heap.get? b = some o ∧ ∀ v, o.data ≠ .cell v) : Inv X (pins ++ pinsAt fp s.heap) σ H s :=
  I.pins_of fun p hp => (List.mem_append.mp hp).elim (fun z => I.pin p (List.mem_append_right _ z)) fun z => by
    obtain ⟨hb, e⟩ := of_pinsAt z
    obtain ⟨f0, f1, f2, _⟩ := hf p.1 hb
    obtain ⟨o, e', d⟩ := ho p.1 hb
    rw [e] at e'; cases e'
    exact ⟨e, f0, f1, f2, d⟩
theorem Inv.unpinned {pins pl : List (Addr × Obj)} {σ : St} {H : Hp} {s : Shared} (I : Inv X (pins ++ pl) σ H s) : Inv X pins σ H s := I.pins_of fun p hp => I.pin p (List.mem_append_right _ (List.mem_append_left _ hp))
theorem ps_for {iter : Expr} {body : List Stmt} {wi : TI} {g : TG} {tb : TS} {pos : Pos} (hp : PassesOwn (model X.prog X.w) X.A X.env X.xe) (hc : X.calm = true) (hi : PI X tg iter wi) (hg : PG X tg g) (hb : PSs X body tb)
    (hs : ∀ x, foldedSetIterable iter X.env x = pure x := by intro _; rfl) : PS X (.For tg iter body [] pos) (tFor wi g tb) := by
  intro pins s σ H D I h
  refine wpAny_For (thn (hi pins s σ H _ I h) fun v s1 h1 => thn h1 fun itv s2 h2 => ?_) hs
  obtain ⟨it, fp, tn, J, H2, e, I2, T, st2, f2, W, ⟨m0, w0⟩, turn⟩ := h2
  subst e
  have stat : ∀ {H' : Hp}, (∀ b ∈ fp, H' b = none) → ∀ b ∈ fp, FpOk X pins H' b := fun hn b hb => ⟨hn b hb, (f2 b hb).2⟩
  refine codeAny_forLoop_any (fun n s' => ∃ i σ' H', Inv X pins σ' H' s' ∧ tn i s'.heap ∧ (∀ b ∈ fp, H' b = none) ∧ W i n σ' H') ?_ m0 ⟨0, σ, H2, I2, st2, fun b hb => (f2 b hb).1, w0⟩
  rintro n s3 ⟨i, σ3, H3, I3, st3, fr3, w3⟩
  rcases turn i n σ3 H3 w3 with ⟨stop, qn⟩ | ⟨go, N, hN, step⟩
  · refine wpAny_passesOwn hp (thn (T.done X rfl rfl rfl hc i pins s3 σ3 H3 X.xe I3 (stat fr3) st3 stop) fun r s4 ⟨hr, I4⟩ => ?_)
    subst hr
    exact wpAny_execs_nil ⟨σ3, H3, I4, qn⟩
  · refine wpAny_passesOwn hp (thn (T.item X rfl rfl rfl hc i pins s3 σ3 H3 X.xe I3 (stat fr3) st3 go) fun r s4 ⟨u, hr, h4⟩ => ?_)
    subst hr
    refine wpAny_passesOwn hp (thn h4 fun _ s5 ⟨x, H5, I5, r5, y5, st5, fr5⟩ => ?_)
    have I5' := I5.pinned (stat fr5) (T.obj _ _ st5)
    refine wpAny_passesOwn hp (thn (hg _ s5 σ3 H5 x u _ I5' r5 (step x H5 y5)) fun _ s6 ⟨σ6, H6, I6, q6⟩ => ?_)
    refine wpAny_passesOwn hp (thn (hb _ s6 σ6 H6 _ I6 q6) fun f s7 q7 => ?_)
    have again : ∀ {σ7 : St} {H7 : Hp}, Inv X (pins ++ pinsAt fp s5.heap) σ7 H7 s7 → N σ7 H7 → ∃ m, m < n ∧ ∃ i σ' H', Inv X pins σ' H' s7 ∧ tn i s7.heap ∧ (∀ b ∈ fp, H' b = none) ∧ W i m σ' H' := fun {σ7 H7} I7 n7 => by
      obtain ⟨m', hm, w7⟩ := hN σ7 H7 n7
      refine ⟨m', hm, i + 1, σ7, H7, I7.unpinned, T.keep _ _ _ st5 fun b hb o e => (I7.pin (b, o) (List.mem_append_right _ (List.mem_append_right _ (mem_pinsAt hb e)))).1, fun b hb => ?_, w7⟩
      obtain ⟨o, e, d⟩ := T.obj _ _ st5 b hb
      exact (I7.pin (b, o) (List.mem_append_right _ (List.mem_append_right _ (mem_pinsAt hb e)))).2.1
    cases f with
    | next => obtain ⟨σ7, H7, I7, n7⟩ := q7; exact again I7 n7
    | cont => obtain ⟨σ7, H7, I7, n7⟩ := q7; exact again I7 n7
    | brk => obtain ⟨σ7, H7, I7, q7⟩ := q7; exact ⟨σ7, H7, I7.unpinned, q7⟩
    | ret v => obtain ⟨x7, σ7, H7, I7, r7, q7⟩ := q7; exact ⟨x7, σ7, H7, I7.unpinned, r7, q7⟩
end
end L2
namespace L2
open PySem PySem.Spec PyProof.Rows
abbrev R2 := V → V → Hp → VK → Prop
def OpR (X : Cx) (f : Value → Value → Sem Value) (r : R2) : Prop :=
  ∀ (pins : List (Addr × Obj)) (s : Shared) (σ : St) (H : Hp) (x y : V) (v u : Value) (Q : VK), Inv X pins σ H s → RelV x v → RelV y u → r x y H Q →
    wpAny (model X.prog X.w) X.A (f v u) (EP X pins σ Q) X.xe s
def CallR (X : Cx) (f : Value) (r : List V → Hp → VK → Prop) : Prop :=
  ∀ (pins : List (Addr × Obj)) (s : Shared) (σ : St) (H : Hp) (xs : List V) (us : List Value) (Q : VK), Inv X pins σ H s → Vals xs us → r xs H Q →
    wpAny (model X.prog X.w) X.A (call f us) (EP X pins σ Q) X.xe s
def rI (C : Int → Int → Prop) (g : Int → Int → V) : R2 := fun x y H Q => ∃ i j, x = .int i ∧ y = .int j ∧ C i j ∧ Q (g i j) H
def rI0 (g : Int → Int → V) : R2 := fun x y H Q => ∃ i j, x = .int i ∧ y = .int j ∧ Q (g i j) H
section
variable {X : Cx} {a b c : Expr} {ta tb tc : TE} {pos : Pos}
theorem opI {f : Value → Value → Sem Value} {C : Int → Int → Prop} {g : Int → Int → Int}
    (rule : ∀ (i j : Int) (t u : Tok) (s : Shared) (Q : Value → Shared → Prop) (E : Value → Shared → Prop), C i j → Q (.int (g i j) s.toks) { s with toks := s.toks + 1 } → wpAny (model X.prog X.w) X.A (f (.int i t) (.int j u)) Q E s) :
    OpR X f (rI C fun i j => .int (g i j)) := by
  intro pins s σ H x y v u Q I rx ry h
  obtain ⟨i, j, rfl, rfl, hc, q⟩ := h
  obtain ⟨t, rfl⟩ := rx
  obtain ⟨t', rfl⟩ := ry
  exact rule i j t t' s _ _ hc ⟨.int (g i j), H, I.tok _, ⟨_, rfl⟩, q⟩
theorem opI0 {f : Value → Value → Sem Value} {g : Int → Int → Int}
    (rule : ∀ (i j : Int) (t u : Tok) (s : Shared) (Q : Value → Shared → Prop) (E : Value → Shared → Prop), Q (.int (g i j) s.toks) { s with toks := s.toks + 1 } → wpAny (model X.prog X.w) X.A (f (.int i t) (.int j u)) Q E s) :
    OpR X f (rI0 fun i j => .int (g i j)) := by
  intro pins s σ H x y v u Q I rx ry h
  obtain ⟨i, j, rfl, rfl, q⟩ := h
  obtain ⟨t, rfl⟩ := rx
  obtain ⟨t', rfl⟩ := ry
  exact rule i j t t' s _ _ ⟨.int (g i j), H, I.tok _, ⟨_, rfl⟩, q⟩
theorem opB0 {f : Value → Value → Sem Value} {g : Int → Int → Bool}
    (rule : ∀ (i j : Int) (t u : Tok) (s : Shared) (Q : Value → Shared → Prop) (E : Value → Shared → Prop), Q (.bool (g i j)) s → wpAny (model X.prog X.w) X.A (f (.int i t) (.int j u)) Q E s) :
    OpR X f (rI0 fun i j => .bl (g i j)) := by
  intro pins s σ H x y v u Q I rx ry h
  obtain ⟨i, j, rfl, rfl, q⟩ := h
  obtain ⟨t, rfl⟩ := rx
  obtain ⟨t', rfl⟩ := ry
  exact rule i j t t' s _ _ ⟨.bl (g i j), H, I, rfl, q⟩
def CPow (i j : Int) : Prop := 0 ≤ j ∧ j ≤ 1000000 ∧ i.natAbs < 2 ^ 64
def CMul (i j : Int) : Prop := (-(2 ^ 64) < i ∧ i < 2 ^ 64) ∨ (-(2 ^ 64) < j ∧ j < 2 ^ 64)
theorem CMul.ok {i j : Int} (h : CMul i j) : IntMulOk i j := by
  rcases h with ⟨h1, h2⟩ | ⟨h1, h2⟩
  · exact .of_left (intBits_le_64 h1 h2)
  · exact .of_right (intBits_le_64 h1 h2)
theorem op_add : OpR X (binaryOp .Add) (rI0 fun i j => .int (i + j)) := opI0 fun _ _ _ _ _ _ _ q => add_int q
theorem op_mod : OpR X (binaryOp .Mod) (rI (fun _ j => 0 < j) fun i j => .int (i % j)) := opI fun i j _ _ _ _ _ hc q => by
  have h1 : (0 : Int) < j := hc
  exact mod_int' (by lia) (by rw [Int.fmod_eq_emod_of_nonneg i (by lia)]; exact q)
theorem op_pow : OpR X (binaryOp .Pow) (rI CPow fun i j => .int (i ^ j.toNat)) := opI fun _ _ _ _ _ _ _ hc q => pow_int_small hc.1 hc.2.1 hc.2.2 q
end
def scal : V → V → Bool
  | .non, .non => true | .non, .int _ => true | .int _, .non => true | .non, .bl _ => true | .bl _, .non => true | .non, .str _ => true | .str _, .non => true
  | .int _, .int _ => true | .bl _, .bl _ => true | .str _, .str _ => true | .byt _, .byt _ => true
  | .int _, .str _ => true | .str _, .int _ => true | .bl _, .str _ => true | .str _, .bl _ => true
  | _, _ => false
def rEq : R2 := fun x y H Q => scal x y = true ∧ Q (.bl (decide (x = y))) H
def rNe : R2 := fun x y H Q => scal x y = true ∧ Q (.bl (!decide (x = y))) H
theorem dec_int {i j : Int} : decide (V.int i = V.int j) = (i == j) := by
  rw [Bool.eq_iff_iff]
  simp
theorem dec_bl {i j : Bool} : decide (V.bl i = V.bl j) = (i == j) := by
  rw [Bool.eq_iff_iff]
  simp
theorem dec_str {i j : Str} : decide (V.str i = V.str j) = (i == j) := by
  rw [Bool.eq_iff_iff]
  simp
theorem dec_byt {i j : Array UInt8} : decide (V.byt i = V.byt j) = (i.toList == j.toList) := by
  rw [Bool.eq_iff_iff]
  cases i
  cases j
  simp
section
variable {X : Cx} {a b c : Expr} {ta tb tc : TE} {pos : Pos}
theorem fin_bl {pins : List (Addr × Obj)} {σ : St} {H : Hp} {s : Shared} {Q : VK} {k k' : Bool} (I : Inv X pins σ H s) (q : Q (.bl k) H) (e : k = k') : EP X pins σ Q (.bool k') s := by
  subst e
  exact ⟨.bl k, H, I, rfl, q⟩
theorem op_eq : OpR X (compareOp .Eq) rEq := by
  intro pins s σ H x y v u Q I rx ry h
  obtain ⟨hs, q⟩ := h
  cases x with
  | non =>
    cases rx
    cases y with
    | non => cases ry; exact PySem.EqNone.eq_none_none (fin_bl I q (by simp))
    | bl j => cases ry; exact PySem.EqNone.eq_none_bool (fin_bl I q (by simp))
    | int j => obtain ⟨t', rfl⟩ := ry; exact PySem.EqNone.eq_none_int (fin_bl I q (by simp))
    | str j => obtain ⟨t', rfl⟩ := ry; exact PySem.EqNone.eq_none_str (fin_bl I q (by simp))
    | _ => exact absurd (show false = true from hs) Bool.false_ne_true
  | bl i =>
    cases rx
    cases y with
    | non => cases ry; exact PySem.EqNone.eq_bool_none (fin_bl I q (by simp))
    | bl j => cases ry; exact eq_bool (fin_bl I q dec_bl)
    | str j => obtain ⟨t', rfl⟩ := ry; exact PySem.EqMixed.eq_bool_str (fin_bl I q (by simp))
    | _ => exact absurd (show false = true from hs) Bool.false_ne_true
  | int i =>
    obtain ⟨t, rfl⟩ := rx
    cases y with
    | non => cases ry; exact PySem.EqNone.eq_int_none (fin_bl I q (by simp))
    | int j => obtain ⟨t', rfl⟩ := ry; exact eq_int (fin_bl I q dec_int)
    | str j => obtain ⟨t', rfl⟩ := ry; exact PySem.EqMixed.eq_int_str (fin_bl I q (by simp))
    | _ => exact absurd (show false = true from hs) Bool.false_ne_true
  | str i =>
    obtain ⟨t, rfl⟩ := rx
    cases y with
    | non => cases ry; exact PySem.EqNone.eq_str_none (fin_bl I q (by simp))
    | bl j => cases ry; exact PySem.EqMixed.eq_str_bool (fin_bl I q (by simp))
    | int j => obtain ⟨t', rfl⟩ := ry; exact PySem.EqMixed.eq_str_int (fin_bl I q (by simp))
    | str j => obtain ⟨t', rfl⟩ := ry; exact eq_str (fin_bl I q dec_str)
    | _ => exact absurd (show false = true from hs) Bool.false_ne_true
  | byt i =>
    obtain ⟨t, rfl⟩ := rx
    cases y with
    | byt j => obtain ⟨t', rfl⟩ := ry; exact PySem.W.eq_bytes (fin_bl I q dec_byt)
    | _ => exact absurd (show false = true from hs) Bool.false_ne_true
  | _ => cases y <;> exact absurd (show false = true from hs) Bool.false_ne_true
theorem op_ne : OpR X (compareOp .NotEq) rNe := by
  intro pins s σ H x y v u Q I rx ry h
  obtain ⟨hs, q⟩ := h
  cases x with
  | non =>
    cases rx
    cases y with
    | non => cases ry; exact PySem.EqNone.ne_none_none (fin_bl I q (by simp))
    | bl j => cases ry; exact PySem.EqNone.ne_none_bool (fin_bl I q (by simp))
    | int j => obtain ⟨t', rfl⟩ := ry; exact PySem.EqNone.ne_none_int (fin_bl I q (by simp))
    | str j => obtain ⟨t', rfl⟩ := ry; exact PySem.EqNone.ne_none_str (fin_bl I q (by simp))
    | _ => exact absurd (show false = true from hs) Bool.false_ne_true
  | bl i =>
    cases rx
    cases y with
    | non => cases ry; exact PySem.EqNone.ne_bool_none (fin_bl I q (by simp))
    | bl j => cases ry; exact ne_bool (fin_bl I q (congrArg not dec_bl))
    | str j => obtain ⟨t', rfl⟩ := ry; exact PySem.EqMixed.ne_bool_str (fin_bl I q (by simp))
    | _ => exact absurd (show false = true from hs) Bool.false_ne_true
  | int i =>
    obtain ⟨t, rfl⟩ := rx
    cases y with
    | non => cases ry; exact PySem.EqNone.ne_int_none (fin_bl I q (by simp))
    | int j => obtain ⟨t', rfl⟩ := ry; exact ne_int (fin_bl I q (congrArg not dec_int))
    | str j => obtain ⟨t', rfl⟩ := ry; exact PySem.EqMixed.ne_int_str (fin_bl I q (by simp))
    | _ => exact absurd (show false = true from hs) Bool.false_ne_true
  | str i =>
    obtain ⟨t, rfl⟩ := rx
    cases y with
    | non => cases ry; exact PySem.EqNone.ne_str_none (fin_bl I q (by simp))
    | bl j => cases ry; exact PySem.EqMixed.ne_str_bool (fin_bl I q (by simp))
    | int j => obtain ⟨t', rfl⟩ := ry; exact PySem.EqMixed.ne_str_int (fin_bl I q (by simp))
    | str j => obtain ⟨t', rfl⟩ := ry; exact ne_str (fin_bl I q (congrArg not dec_str))
    | _ => exact absurd (show false = true from hs) Bool.false_ne_true
  | byt i =>
    obtain ⟨t, rfl⟩ := rx
    cases y with
    | byt j => obtain ⟨t', rfl⟩ := ry; exact PySem.W.ne_bytes (fin_bl I q (congrArg not dec_byt))
    | _ => exact absurd (show false = true from hs) Bool.false_ne_true
  | _ => cases y <;> exact absurd (show false = true from hs) Bool.false_ne_true
theorem op_lt : OpR X (compareOp .Lt) (rI0 fun i j => .bl (decide (i < j))) := opB0 fun _ _ _ _ _ _ _ q => lt_int q
theorem op_le : OpR X (compareOp .LtE) (rI0 fun i j => .bl (decide (i ≤ j))) := opB0 fun _ _ _ _ _ _ _ q => le_int q
theorem op_gt : OpR X (compareOp .Gt) (rI0 fun i j => .bl (decide (j < i))) := opB0 fun _ _ _ _ _ _ _ q => gt_int q
theorem op_ge : OpR X (compareOp .GtE) (rI0 fun i j => .bl (decide (j ≤ i))) := opB0 fun _ _ _ _ _ _ _ q => ge_int q
theorem op_in_str : OpR X (compareOp .In) (fun x y H Q => ∃ i j, x = .str i ∧ y = .str j ∧ Q (.bl (!(Builtin.Str.occurrences j i 0 j.length 1).isEmpty)) H) := by
  intro pins s σ H x y v u Q I rx ry h
  obtain ⟨i, j, rfl, rfl, q⟩ := h
  obtain ⟨t, rfl⟩ := rx
  obtain ⟨t', rfl⟩ := ry
  exact in_str (fin_bl I q rfl)
theorem op_isN : OpR X (compareOp .Is) (fun x y H Q => y = .non ∧ Q (.bl (decide (x = .non))) H) := by
  intro pins s σ H x y v u Q I rx ry h
  obtain ⟨rfl, q⟩ := h
  cases ry
  refine is_none_gen (fin_bl I q ?_)
  cases x <;> first
    | (cases rx; rfl)
    | (obtain ⟨t, rfl⟩ := rx; rfl)
theorem op_notin_str : OpR X (compareOp .NotIn) (fun x y H Q => ∃ i j, x = .str i ∧ y = .str j ∧ Q (.bl (!(!(Builtin.Str.occurrences j i 0 j.length 1).isEmpty))) H) := by
  intro pins s σ H x y v u Q I rx ry h
  obtain ⟨i, j, rfl, rfl, q⟩ := h
  obtain ⟨t, rfl⟩ := rx
  obtain ⟨t', rfl⟩ := ry
  exact notIn_str (fin_bl I q rfl)
theorem nomark (b : Expr) {op : CmpOp} (h : op ≠ .In := by decide) (h2 : op ≠ .NotIn := by decide) : behindInMarks op b = false := by
  have e1 : (op == CmpOp.In) = false := by cases op <;> first | rfl | exact absurd rfl h
  have e2 : (op == CmpOp.NotIn) = false := by cases op <;> first | rfl | exact absurd rfl h2
  cases b <;> simp [behindInMarks, e1, e2]
theorem line63 : (sizeLine : Nat) < 2 ^ 63 := by rw [sizeLine_eq]; decide
theorem op_add_str : OpR X (binaryOp .Add) (fun x y H Q => ∃ i j, x = .str i ∧ y = .str j ∧ i.length + j.length ≤ sizeLine ∧ Q (.str (i ++ j)) H) := by
  intro pins s σ H x y v u Q I rx ry h
  obtain ⟨i, j, rfl, rfl, hz, q⟩ := h
  obtain ⟨t, rfl⟩ := rx
  obtain ⟨t', rfl⟩ := ry
  exact add_str (fun t' tk => ⟨.str (i ++ j), H, I.tok _, ⟨_, rfl⟩, q⟩) hz
theorem vals1 {x : V} {us : List Value} (r : Vals [x] us) : ∃ u, us = [u] ∧ RelV x u := by
  cases r with
  | cons r1 r2 => cases r2; exact ⟨_, rfl, r1⟩
theorem vals2 {x y : V} {us : List Value} (r : Vals [x, y] us) : ∃ u w', us = [u, w'] ∧ RelV x u ∧ RelV y w' := by
  cases r with
  | cons r1 r2 =>
    cases r2 with
    | cons r3 r4 => cases r4; exact ⟨_, _, rfl, r1, r3⟩
theorem call_abs : CallR X (.builtin "abs") (fun xs H Q => ∃ i, xs = [.int i] ∧ Q (.int (if i < 0 then -i else i)) H) := by
  intro pins s σ H xs us Q I r h
  obtain ⟨i, rfl, q⟩ := h
  obtain ⟨u, rfl, t, rfl⟩ := vals1 r
  exact call_abs_int fun u tk => ⟨.int (if i < 0 then -i else i), H, I.tok _, ⟨_, rfl⟩, q⟩
end
end L2
namespace L2
open PySem PySem.Spec PyProof.Rows
section
variable {prog : Program} {w : World} {A : Around} {E : Value → Shared → Prop} {s : Shared} {K : PySem.W.Frag} {x dx C f : Addr} {mA : Str → Option Value} {name : Str} {v : Value}
end
theorem RelO.some_of {v : V} {o : Option Value} (r : RelO (some v) o) : ∃ u, o = some u ∧ RelV v u := by
  cases o with
  | none => exact (show False from r).elim
  | some u => exact ⟨u, rfl, r⟩
section
variable {P : Program} {w : World} {H H' : Hp} {h h' : Heap} {a C dx : Addr} {fs fs' : List (Str × V)}
end
section
variable {X : Cx} {pins : List (Addr × Obj)} {σ : St} {H : Hp} {s : Shared} {a C dx : Addr} {fs : List (Str × V)} {f : Str} {v : V} {A : Around} {E : Value → Shared → Prop}
end
section
variable {X : Cx} {o e value : Expr} {f : Str} {pos pos' tpos : Pos} {ta tv : TE}
end
section
variable {X : Cx} {pins : List (Addr × Obj)} {σ : St} {H : Hp} {s : Shared} {A : Around} {E : Value → Shared → Prop} {Q : Value → Shared → Prop} {c : Value} {b : Bool}
end
end L2
namespace L2
open PySem PySem.Spec PyProof.Rows
structure Room (k : Nat) (A : Around) : Prop where
  hd : A.handled = none
  dp : A.depth + 3 * k + 5 < recursionLimit
  un : A.units + 16 * k + 200 < cLine
  gd : A.guards = some []
theorem Room.mono {j k : Nat} {A : Around} (r : Room k A) (h : j ≤ k) : Room j A := ⟨r.hd, by have := r.dp; lia, by have := r.un; lia, r.gd⟩
theorem Room.deeper {k : Nat} {A : Around} (r : Room (k + 1) A) (env : Env) : Room k (A.deeper env) :=
  ⟨r.hd, by have := r.dp; show A.depth + 1 + 3 * k + 5 < _; lia, by have := r.un; show A.units + 3 + 16 * k + 200 < _; lia, r.gd⟩
theorem Room.depth {k : Nat} {A : Around} (r : Room k A) : A.depth < recursionLimit := by have := r.dp; lia
theorem Room.units {k : Nat} {A : Around} (r : Room k A) : A.units + 64 < cLine := by have := r.un; lia
def tNil : TA := fun _ H Q => Q [] H
section
variable {X : Cx} {e : Expr} {es : List Expr} {te : TE} {t : TA} {pos : Pos}
def tTup (t : TA) : TE := fun σ H Q => t σ H fun xs H1 => xs.length ≤ sizeLine ∧ ∀ p, H1 p = none → Q (.ref p) (upd H1 p (.tup xs))
def tLst (t : TA) : TE := fun σ H Q => t σ H fun xs H1 => xs.length ≤ sizeLine ∧ ∀ p, H1 p = none → Q (.ref p) (upd H1 p (.lst xs))
theorem pe_tup {x1} (h : PA X es t) : PE X (.Tuple es x1 pos) (tTup t) := by
  intro pins s σ H Q I hq
  refine wpAny_Tuple_spliced (thn (h pos pins s σ H _ I hq) fun us s1 ⟨xs, H1, I1, r, z, q⟩ => ⟨by rw [← r.length]; exact z, ?_⟩)
  have hf : H1 s1.heap.objs.size = none := I1.hok.fresh (Nat.le_refl _)
  refine ⟨.ref s1.heap.objs.size, upd H1 s1.heap.objs.size (.tup xs), I1.laid (t' := s1.toks) (fun b u e => Heap.get?_push_of_some _ e) (Nat.le_refl _) ?_, rfl, q _ hf⟩
  exact ⟨z, us, r, ⟨_, Heap.get?_push_size _ rfl, rfl, _, rfl⟩⟩
theorem pe_lst (h : PA X es t) : PE X (.List es pos) (tLst t) := by
  intro pins s σ H Q I hq
  refine wpAny_List_spliced (thn (h pos pins s σ H _ I hq) fun us s1 ⟨xs, H1, I1, r, z, q⟩ => ⟨by rw [← r.length]; exact z, ?_⟩)
  have hf : H1 s1.heap.objs.size = none := I1.hok.fresh (Nat.le_refl _)
  refine ⟨.ref s1.heap.objs.size, upd H1 s1.heap.objs.size (.lst xs), I1.laid (t' := s1.toks) (fun b u e => Heap.get?_push_of_some _ e) (Nat.le_refl _) ?_, rfl, q _ hf⟩
  exact ⟨z, us, 0, r, Heap.get?_push_size _ rfl⟩
end
abbrev Sp := List V → Hp → VK → XK → Prop
abbrev CXT := List Env → Hp → Shared → XK → Value → Shared → Prop
structure Env0 (P : Program) (w : World) (K : PySem.W.Frag) (mg : Str → Option Value) (base : Heap) (A : Around) (outer : List Env) (s : Shared) (H : Hp) : Prop where
  frames : A.frames = some outer
  mod : Mod K mg base
  bs : ∀ b o, base.get? b = some o → s.heap.get? b = some o ∧ H b = none
  bsz : base.objs.size ≤ s.heap.objs.size
  funs : s.heap.FunFrames base outer
  frf : ∀ b ∈ frs outer, H b = none
  hok : HOk P w H s.heap
  bare : AllBare s.gens
def CE (outer : List Env) (P : Program) (w : World) (H : Hp) (s : Shared) (Q : VK) (u : Value) (s' : Shared) : Prop :=
  ∃ v H', s'.os = s.os ∧ AllBare s'.gens ∧ Un (frs outer) [] H H' s.heap s'.heap ∧ HOk P w H' s'.heap ∧ RelV v u ∧ Q v H'
def CR (CX : CXT) (outer : List Env) (P : Program) (w : World) (H : Hp) (s : Shared) (Q : VK) (E : XK) (r : Result) (s' : Shared) : Prop :=
  match r with
  | .ok (.ret u) => CE outer P w H s Q u s'
  | .ok _ => False
  | .error e => CX outer H s E e s'
structure FnOk (P : Program) (w : World) (K : PySem.W.Frag) (mg : Str → Option Value) (base : Heap) (CX : CXT) (k : Nat) (f : Addr) (fd : FuncData) (ps : List Str) (sp : Sp) : Prop where
  len : ∀ vs H Q E, sp vs H Q E → vs.length = ps.length
  run : ∀ (A : Around) (outer : List Env) (s : Shared) (H : Hp) (args : Args) (us : List Value) (vs : List V) (Q : VK) (E : XK), Room k A → Env0 P w K mg base A outer s H → BindsTo s fd args (ps.zip us) → Vals vs us → sp vs H Q E →
    codeAny (model P w) A (.call (.ref f) args) (CR CX outer P w H s Q E) s
section
variable {X : Cx} {pins : List (Addr × Obj)} {σ : St} {H : Hp} {s s' : Shared}
theorem Inv.env0 (I : Inv X pins σ H s) : Env0 X.prog X.w X.K X.mg X.base X.A X.stack s H :=
  ⟨I.ok.frames, I.ok.mod, I.bs, Nat.le_trans I.ok.bsz I.sz, I.stack, I.stkFree, I.hok, I.bare⟩
theorem Inv.after {Q : VK} {u : Value} (I : Inv X pins σ H s) (h : CE X.stack X.prog X.w H s Q u s') : EP X pins σ Q u s' := by
  obtain ⟨v, H', os, bare, un, hok, r, q⟩ := h
  obtain ⟨hh, g, d, t, os'⟩ := s'
  obtain rfl : os' = s.os := os
  exact ⟨v, H', I.call (h' := hh) (g' := g) (d' := d) (t' := t) (ch := []) un hok bare (fun b z => absurd z (by simp)), r, q⟩
end
def tCall (sp : Sp) (dvs : List V) (E : XK) (t : TA) : TE := fun σ H Q => t σ H fun vs H1 => sp (vs ++ dvs) H1 Q E
def Binds (K : PySem.W.Frag) (fd : FuncData) (ps : List Str) (ds : List Value) : Prop :=
  ∀ (s : Shared) (us : List Value), K.In s.heap → (us ++ ds).length = ps.length → BindsTo s fd ⟨us, []⟩ (ps.zip (us ++ ds))
theorem Binds.all {K : PySem.W.Frag} {fd : FuncData} {ps : List Str} (h : ∀ us : List Value, us.length = ps.length → bindArgs fd ⟨us, []⟩ = pure (ps.zip us)) : Binds K fd ps [] := fun s us _ hl => by
  rw [List.append_nil] at hl ⊢
  exact .of_eq (h us hl)
def Passes (CX : CXT) (X : Cx) (E : XK) : Prop := ∀ (pins : List (Addr × Obj)) (σ : St) (H : Hp) (s : Shared) (e : Value) (s' : Shared), Inv X pins σ H s → CX X.stack H s E e s' → X.xe e s'
section
variable {X : Cx} {CX : CXT} {k : Nat} {f C : Addr} {fd : FuncData} {ps : List Str} {sp : Sp} {dvs : List V} {ds : List Value} {E : XK} {x m : Str} {p pos apos : Pos} {e o : Expr} {es : List Expr} {ta : TE} {t : TA}
theorem run_fn {pins : List (Addr × Obj)} {σ : St} {H : Hp} {s : Shared} {Q : VK} {us : List Value} {vs : List V} (F : FnOk X.prog X.w X.K X.mg X.base CX k f fd ps sp) (hr : Room k X.A) (hb : Binds X.K fd ps ds) (hd : Vals dvs ds) (hx : Passes CX X E)
    (I : Inv X pins σ H s) (r : Vals vs us) (h : sp (vs ++ dvs) H Q E) : wpAny (model X.prog X.w) X.A (call (.ref f) us) (EP X pins σ Q) X.xe s := by
  have r2 : Vals (vs ++ dvs) (us ++ ds) := r.append hd
  have hl : (us ++ ds).length = ps.length := by rw [← r2.length]; exact F.len _ _ _ _ h
  refine wpAny_call (codeAny_mono (F.run X.A X.stack s H ⟨us, []⟩ (us ++ ds) (vs ++ dvs) Q E hr I.env0 (hb s us I.kIn hl) r2 h) fun r s' hq => ?_)
  cases r with
  | error e => exact hx pins σ H s e s' I hq
  | ok fl =>
    cases fl with
    | ret u => exact I.after hq
    | next => exact False.elim hq
    | brk => exact False.elim hq
    | cont => exact False.elim hq
theorem pe_call (F : FnOk X.prog X.w X.K X.mg X.base CX k f fd ps sp) (hr : Room k X.A) (hg : Gl X x) (hm : X.mg x = some (.ref f)) (hk : PySem.W.keepIn X.K (.ref f) = true) (hb : Binds X.K fd ps ds) (hd : Vals dvs ds) (hx : Passes CX X E)
    (ha : PA X (e :: es) t) (hdb : (x == ("__debug__" : Str)) = false := by decide) (he : starEach (e :: es) X.env = (false, eval e X.env) :: starEach es X.env := by rfl) (hpl : (backTo pos (starEach es X.env)).any (·.1) = false := by rfl) :
    PE X (.Call (.Name x p) (e :: es) [] pos) (tCall sp dvs E t) := by
  intro pins s σ H Q I h
  refine wpAny_Call_Name_kw (ld_glob I hg hm ?_ hdb)
  refine PySem.W.callWith_K (h₀ := X.base) I.ok.mod.kin hk (thn (ha pos pins s σ H _ I h) fun us s1 ⟨vs, H1, I1, r, q⟩ => ⟨I1.kIn, ?_⟩) he hpl
  exact run_fn F hr hb hd hx I1 r q
theorem pe_call0 (F : FnOk X.prog X.w X.K X.mg X.base CX k f fd ps sp) (hr : Room k X.A) (hg : Gl X x) (hm : X.mg x = some (.ref f)) (hk : PySem.W.keepIn X.K (.ref f) = true) (hb : Binds X.K fd ps ds) (hd : Vals dvs ds) (hx : Passes CX X E)
    (hdb : (x == ("__debug__" : Str)) = false := by decide) : PE X (.Call (.Name x p) [] [] pos) (tCall sp dvs E tNil) := by
  intro pins s σ H Q I h
  refine wpAny_Call_Name_kw (ld_glob I hg hm ?_ hdb)
  exact PySem.W.callWith_K0 I.kIn hk (run_fn (us := []) F hr hb hd hx I .nil h)
end
section
variable {X : Cx} {CX : CXT} {k : Nat} {f C : Addr} {fd : FuncData} {ps ks : List Str} {sp : Sp} {E : XK} {x m : Str} {p pos apos kpos : Pos} {e o : Expr} {es : List Expr} {kws : List Keyword} {te ta : TE} {t tk : TA} {nm : Option Str}
variable {g : List Value → List Value → List Value} {gV : List V → List V → List V}
end
structure FnScope (N P : List Str) (sc : Scope) : Prop where
  kind : sc.kind = .function
  co : sc.isCoroutine = false
  gen : sc.isGenerator = false
  nd : N.Nodup
  pre : N.take P.length = P
  par : ∀ x ∈ P, sc.names.lookup x = some .local ∨ sc.names.lookup x = some .cell
  nofree : ∀ y ∈ sc.names, y.2 ≠ .free
theorem bindL_out {kindOf : Str → Option NameKind} {x : Str} : ∀ {binds : List (Str × Value)} {m : Str → Option Value}, (∀ v, (x, v) ∉ binds) → bindL kindOf binds m x = m x
  | [], _, _ => rfl
  | (n, v) :: r, m, h => by
    unfold bindL
    rw [bindL_out fun w hw => h w (List.mem_cons_of_mem _ hw)]
    split
    · have : x ≠ n := by rintro rfl; exact h v List.mem_cons_self
      simp [this]
    · rfl
theorem bindC_out {kindOf : Str → Option NameKind} {x : Str} : ∀ {binds : List (Str × Value)} {m : Str → Option Value}, (∀ v, (x, v) ∉ binds) → bindC kindOf binds m x = m x
  | [], _, _ => rfl
  | (n, v) :: r, m, h => by
    unfold bindC
    rw [bindC_out fun w hw => h w (List.mem_cons_of_mem _ hw)]
    split
    · rfl
    · have : x ≠ n := by rintro rfl; exact h v List.mem_cons_self
      simp [this]
theorem bindL_get {kindOf : Str → Option NameKind} {x : Str} {v : Value} : ∀ {P : List Str} {vs : List Value} {i : Nat} {m : Str → Option Value}, P.Nodup → P[i]? = some x → vs[i]? = some v → kindOf x = some .local →
    bindL kindOf (P.zip vs) m x = some v
  | [], _, _, _, _, h, _, _ => by simp at h
  | _ :: _, [], _, _, _, _, h, _ => by simp at h
  | p :: P, w :: vs, 0, m, nd, h1, h2, hk => by
    simp at h1 h2; subst h1; subst h2
    show bindL kindOf ((p, w) :: P.zip vs) m p = _
    unfold bindL
    rw [bindL_out fun v hv => (List.nodup_cons.mp nd).1 (List.of_mem_zip hv).1, if_pos hk]
    simp
  | p :: P, w :: vs, i + 1, m, nd, h1, h2, hk => by
    show bindL kindOf ((p, w) :: P.zip vs) m x = _
    unfold bindL
    exact bindL_get (i := i) (List.nodup_cons.mp nd).2 (by simpa using h1) (by simpa using h2) hk
theorem bindC_get {kindOf : Str → Option NameKind} {x : Str} {v : Value} : ∀ {P : List Str} {vs : List Value} {i : Nat} {m : Str → Option Value}, P.Nodup → P[i]? = some x → vs[i]? = some v → kindOf x ≠ some .local →
    bindC kindOf (P.zip vs) m x = some v
  | [], _, _, _, _, h, _, _ => by simp at h
  | _ :: _, [], _, _, _, _, h, _ => by simp at h
  | p :: P, w :: vs, 0, m, nd, h1, h2, hk => by
    simp at h1 h2; subst h1; subst h2
    show bindC kindOf ((p, w) :: P.zip vs) m p = _
    unfold bindC
    rw [bindC_out fun v hv => (List.nodup_cons.mp nd).1 (List.of_mem_zip hv).1, if_neg hk]
    simp
  | p :: P, w :: vs, i + 1, m, nd, h1, h2, hk => by
    show bindC kindOf ((p, w) :: P.zip vs) m x = _
    unfold bindC
    exact bindC_get (i := i) (List.nodup_cons.mp nd).2 (by simpa using h1) (by simpa using h2) hk
def start (N : List Str) (vs : List V) : St := vs.map some ++ List.replicate (N.length - vs.length) none
def cxOf (CX : CXT) (P : Program) (w : World) (K : PySem.W.Frag) (mg : Str → Option Value) (base : Heap) (N : List Str) (qual : Str) (scope : Scope) (f : Addr) (cd : Value) (A : Around) (outer : List Env) (s : Shared) (H : Hp) (E : XK) : Cx where
  prog := P
  w := w
  K := K
  mg := mg
  base := base
  A := A.deeper (envOfC qual scope s.heap.objs.size f cd)
  N := N
  s₀ := s
  H₀ := H
  env := envOfC qual scope s.heap.objs.size f cd
  outer := outer
  stack := envOfC qual scope s.heap.objs.size f cd :: outer
  ex := []
  calm := true
  fn := fun _ => true
  pn := []
  xe := fun e s' => wpAny (model P w) (A.deeper (envOfC qual scope s.heap.objs.size f cd)) (leaving (envOfC qual scope s.heap.objs.size f cd) e) (fun _ s'' => CX outer H s E e s'') (fun e' s'' => CX outer H s E e' s'') s'
theorem cell_has {sc : Scope} {n : Nat} {x : Str} (h : sc.names.lookup x = some .cell) : ∃ c, (cellsFrom n sc.names []).lookup x = some c := by
  have q := PySem.W.cellsFrom_some sc.names n [] (.inl h)
  exact Option.isSome_iff_exists.mp q
theorem inv_start {CX : CXT} {P : Program} {w : World} {K : PySem.W.Frag} {mg : Str → Option Value} {base : Heap} {N ps : List Str} {qual : Str} {scope : Scope} {f : Addr} {cd : Value} {A : Around} {outer : List Env} {s s1 : Shared} {H : Hp} {E : XK} {us : List Value} {vs : List V}
    (S : FnScope N ps scope) (hd : A.handled = none) (e0 : Env0 P w K mg base A outer s H) (hl : vs.length = ps.length) (r : Vals vs us)
    (x : InCallC s s.heap.objs.size (bindL (envOfC qual scope s.heap.objs.size f cd).kindOf (ps.zip us) fun _ => none) (cellsFrom (s.heap.objs.size + 1) scope.names []) (bindC (envOfC qual scope s.heap.objs.size f cd).kindOf (ps.zip us) fun _ => none) s1) :
    Inv (cxOf CX P w K mg base N qual scope f cd A outer s H E) [] (start N vs) H s1 := by
  have hpl : ps.length ≤ N.length := by have := congrArg List.length S.pre; rw [List.length_take] at this; lia
  obtain ⟨h1, tk, rfl, hk⟩ := x.done
  have noA : ∀ b : Addr, b ∉ (cxOf CX P w K mg base N qual scope f cd A outer s H E).ex := fun b z => absurd (show b ∈ ([] : List Addr) from z) (by simp)
  refine ⟨⟨e0.mod, S.kind, rfl, rfl, Nat.le_refl _, fun y z c h1 h2 => ?_, fun y hy => ?_, fun y c _ h => ?_, fun _ => hd, Around.frames_deeper e0.frames, .inr ⟨rfl, rfl⟩, fun b z => absurd z (noA b), e0.bs, e0.bsz, fun b _ _ => noA b, fun b z => absurd z (noA b), e0.funs, e0.frf⟩,
    rfl, e0.bare, Un.kept hk, ⟨_, x.toInCall.ns, fun i y v h1 h2 h3 => ?_⟩, fun y c h => ⟨_, x.cell y c h⟩, e0.hok.fresh (Nat.le_refl _), fun y c h => ?_, fun p hp => absurd (show p ∈ ([] : List (Addr × Obj)) from hp) (by simp), e0.hok.kept hk, ?_⟩
  · exact name_of_addr x.apart (PySem.mem_of_lookup h1) (PySem.mem_of_lookup h2)
  · have hy : scope.names.lookup y = some .cell ∨ scope.names.lookup y = some .free := hy
    rcases hy with hy | hy
    · exact cell_has hy
    · exact absurd rfl (S.nofree _ (PySem.mem_of_lookup hy))
  · exact Nat.le_of_lt (x.above y c (PySem.mem_of_lookup h))
  · have hi : i < vs.length := by
      unfold start at h2
      by_cases hi : i < vs.length
      · exact hi
      · rw [List.getElem?_append_right (by simpa using hi)] at h2
        rw [List.getElem?_replicate] at h2
        split at h2 <;> cases h2
    have ha : vs[i]? = some v := by
      unfold start at h2
      rw [List.getElem?_append_left (by simpa using hi), List.getElem?_map] at h2
      cases e : vs[i]? with
      | none => rw [e] at h2; cases h2
      | some a => rw [e] at h2; cases h2; rfl
    obtain ⟨u, hu, rv⟩ := r.get ha
    have hp : ps[i]? = some y := by
      rw [← S.pre, List.getElem?_take_of_lt (by lia)]; exact h1
    have ndP : ps.Nodup := by rw [← S.pre]; exact S.nd.sublist (List.take_sublist _ _)
    refine ⟨u, rv, ?_⟩
    rcases S.par y (List.mem_of_getElem? hp) with k | k
    · exact .inl ⟨k, bindL_get ndP hp hu k⟩
    · obtain ⟨c, e⟩ := cell_has (n := s.heap.objs.size + 1) k
      refine .inr ⟨.inl k, c, e, ?_⟩
      have q := x.cell y c e
      rw [bindC_get ndP hp hu (by show scope.names.lookup y ≠ _; rw [k]; decide)] at q
      exact q
  · exact e0.hok.fresh (Nat.le_of_lt (x.above y c (PySem.mem_of_lookup h)))
  · unfold start
    show _ = N.length
    rw [List.length_append, List.length_map, List.length_replicate]
    lia
theorem fn_of {CX : CXT} {P : Program} {w : World} {K : PySem.W.Frag} {mg : Str → Option Value} {base : Heap} {k : Nat} {f : Addr} {name qual : Str} {params : Arguments} {body : List Stmt} {scope : Scope} {dV kV doc pm cdv ct oc : Value} {an od : Option Addr}
    {osl : Array (Option Value)} {N ps : List Str} {sp : Sp} (lk : K.lookup f = some ⟨oc, od, .func (PySem.W.fnOf name qual params body scope dV kV doc pm an cdv ct), osl⟩) (hcd : PySem.W.codeIn K cdv qual = true) (S : FnScope N ps scope)
    (len : ∀ vs H Q E, sp vs H Q E → vs.length = ps.length)
    (hbody : ∀ (A : Around) (outer : List Env) (s : Shared) (H : Hp) (vs : List V) (Q : VK) (E : XK), Room k (A.deeper (envOfC qual scope s.heap.objs.size f cdv)) → sp vs H Q E →
      ∃ t, PSs (cxOf CX P w K mg base N qual scope f cdv A outer s H E) body t ∧ t { nx := fun _ H' => Q .non H', rt := Q } (start N vs) H) :
    FnOk P w K mg base CX (k + 1) f (PySem.W.fnOf name qual params body scope dV kV doc pm an cdv ct) ps sp := by
  refine ⟨len, fun A outer s H args us vs Q E hr e0 hb r hsp => ?_⟩
  have hl := len _ _ _ _ hsp
  have KX : K.In s.heap := e0.mod.kin.keeps fun b o e => (e0.bs b o e).1
  have lim : s.heap.NoLimit := e0.mod.nolimit.keeps fun b o e => (e0.bs b o e).1
  have hkind : ∀ y ∈ ps.zip us, scope.names.lookup y.1 = some .local ∨ (scope.names.lookup y.1 = some .cell ∧ ((cellsFrom (s.heap.objs.size + 1) scope.names []).lookup y.1).isSome = true) := fun ⟨n, v⟩ hy => by
    rcases S.par n (List.of_mem_zip hy).1 with q | q
    · exact .inl q
    · exact .inr ⟨q, PySem.W.cellsFrom_some _ _ _ (.inl q)⟩
  refine codeAny_call_function hr.depth (KX _ _ lk) rfl S.co S.gen rfl (PySem.W.codeRec_of KX hcd) (hb _ _ _ _ ?_)
  refine wpAny_newFunctionEnv_cells S.kind hkind fun env he s1 x => ?_
  subst he
  refine ⟨lim.keeps x.toInCall.keep, codeAny_func ?_⟩
  obtain ⟨t, ht, hq⟩ := hbody A outer s H vs Q E (hr.deeper _) hsp
  have I : Inv (cxOf CX P w K mg base N qual scope f cdv A outer s H E) [] (start N vs) H s1 := inv_start S hr.hd e0 hl r x
  refine wpAny_mono (ht [] s1 (start N vs) H _ I hq) (fun fl s' hs => ?_) fun e s' hs => hs
  have fin : ∀ {σ' : St} {H' : Hp} {v : V} {u : Value}, Inv (cxOf CX P w K mg base N qual scope f cdv A outer s H E) [] σ' H' s' → RelV v u → Q v H' → CE outer P w H s Q u s' :=
    fun {σ' H' v u} J rv q => ⟨v, H', J.os, J.bare, J.base, J.hok, rv, q⟩
  cases fl with
  | ret u =>
    obtain ⟨v, σ', H', J, rv, q⟩ := hs
    exact fin J rv q
  | next =>
    obtain ⟨σ', H', J, q⟩ := hs
    exact fin (v := V.non) (u := Value.none) J rfl q
  | brk =>
    obtain ⟨_, _, _, q⟩ := hs
    exact False.elim q
  | cont =>
    obtain ⟨_, _, _, q⟩ := hs
    exact False.elim q
end L2
namespace L2
open PySem PySem.Spec PyProof.Rows
section
variable {X : Cx} {x : Str} {p pos : Pos} {e : Expr} {es : List Expr} {t : TA} {id T : String} {r : List V → Hp → VK → Prop}
end
end L2
namespace HT
open PySem PyProof.Rows
section
open PySem.SeqAt
open PySem.AutoSeq1 (wpAny_loadPart')
open PySem.MeetsSeq PySem.MeetsSeq2 PySem.MeetsSeq3
end
section
variable {prog : Program} {w : World} {A : Around} {E : Value → Shared → Prop} {s : Shared}
def sIx (n d : Nat) : Option Int → Nat
  | none => d
  | some v => if v < 0 then (v + (n : Int)).toNat else min v.toNat n
theorem sIx_le (n d : Nat) (hd : d ≤ n) (o : Option Int) : sIx n d o ≤ n := by
  cases o with
  | none => exact hd
  | some v =>
    show (if v < 0 then (v + (n : Int)).toNat else min v.toNat n) ≤ n
    by_cases hv : v < 0
    · rw [if_pos hv]; lia
    · rw [if_neg hv]; exact Nat.min_le_right _ _
theorem clip_eq (v : Int) (n d : Nat) : (if v < 0 then max (v + (n : Int)) 0 else min v (n : Int)) = ((sIx n d (some v) : Nat) : Int) := by
  show (if v < 0 then max (v + (n : Int)) 0 else min v (n : Int)) = (((if v < 0 then (v + (n : Int)).toNat else min v.toNat n) : Nat) : Int)
  by_cases hv : v < 0
  · simp only [if_pos hv]; lia
  · simp only [if_neg hv]; lia
theorem adjust_gen (lo hi : Option Int) (n : Nat) : Builtin.Slice.sliceAdjust lo hi 1 (n : Int) = (((sIx n 0 lo : Nat) : Int), ((sIx n n hi : Nat) : Int)) := by
  have h1 : ¬ ((1 : Int) < 0) := by lia
  unfold Builtin.Slice.sliceAdjust
  simp only [h1, if_false]
  refine Prod.ext ?_ ?_
  · cases lo with
    | none => rfl
    | some v => exact clip_eq v n 0
  · cases hi with
    | none => rfl
    | some v => exact clip_eq v n n
theorem places_gen (i j : Nat) : Builtin.Slice.slicePlaces (i : Int) (j : Int) 1 = j - i := by
  unfold Builtin.Slice.slicePlaces
  have h1 : (1 : Int) > 0 := by lia
  simp only [h1, if_true, Int.ediv_one]
  split <;> lia
theorem slicePart_ {v : Value} {o : Option Int} {Q : Option Int → Shared → Prop} (p : IsPart v o) (h : Q o s) : wpAny (model prog w) A (Builtin.Slice.slicePartIndex v) Q E s := by
  cases p with
  | none => exact slicePart_none h
  | int i t => exact slicePart_int h
theorem sliceApplied_gen {sl : Addr} {vl vu : Value} {lo hi : Option Int} {n : Nat} {Q : Int × Int × Nat → Shared → Prop} (hs : s.heap.IsSliceOf sl vl vu .none) (pl : IsPart vl lo) (pu : IsPart vu hi)
    (h : Q (((sIx n 0 lo : Nat) : Int), 1, sIx n n hi - sIx n 0 lo) s) : wpAny (model prog w) A (Builtin.Slice.sliceApplied (.ref sl) (pure (n : Int))) Q E s := by
  obtain ⟨os, hos, hcs, hds⟩ := id hs
  unfold Builtin.Slice.sliceApplied Builtin.Slice.sliceFields
  refine wpAny_bind (wpAny_bind (wpAny_field hos hds (x := vl) rfl (wpAny_bind (wpAny_field hos hds (x := vu) rfl (wpAny_bind (wpAny_field hos hds (x := .none) rfl (wpAny_pure ?_)))))))
  refine wpAny_bind (slicePart_none ?_)
  show wpAny _ _ (if ((1 : Int) == 0) = true then _ else _) _ _ s
  rw [if_neg (by decide)]
  refine wpAny_bind (slicePart_ pl (wpAny_bind (slicePart_ pu (wpAny_bind (wpAny_pure ?_)))))
  show wpAny _ _ (match Builtin.Slice.sliceAdjust lo hi 1 (n : Int) with | (lo, hi) => pure (lo, (1 : Int), Builtin.Slice.slicePlaces lo hi 1)) _ _ s
  rw [adjust_gen lo hi n]
  show wpAny _ _ (pure (((sIx n 0 lo : Nat) : Int), (1 : Int), Builtin.Slice.slicePlaces ((sIx n 0 lo : Nat) : Int) ((sIx n n hi : Nat) : Int) 1)) _ _ s
  rw [places_gen]
  exact wpAny_pure h
theorem pick_gen (xs : Array Value) (i k : Nat) : ((List.range k).filterMap fun (m : Nat) => xs[((i : Int) + (m : Int) * 1).toNat]?).toArray = ((xs.toList.drop i).take k).toArray := by
  have e : (fun (m : Nat) => xs[((i : Int) + (m : Int) * 1).toNat]?) = fun m => xs[i + m]? := by
    funext m
    have : ((i : Int) + (m : Int) * 1).toNat = i + m := by lia
    rw [this]
  rw [e]
  have := pick_run xs i k
  rw [List.filterMap_map] at this
  have e2 : ((fun x => xs[x]?) ∘ fun x => i + x) = fun m => xs[i + m]? := rfl
  rw [e2] at this
  rw [this]
theorem getItem_tuple_cut {t sl : Addr} {items : Array Value} {vl vu : Value} {lo hi : Option Int} {Q : Value → Shared → Prop} (ht : IsTup s.heap t items) (hs : s.heap.IsSliceOf sl vl vu .none) (pl : IsPart vl lo) (pu : IsPart vu hi)
    (hw : ¬ (sIx items.size 0 lo = 0 ∧ sIx items.size items.size hi = items.size))
    (h : Q (.ref s.heap.objs.size) { s with heap := s.heap.push { cls := .type "tuple", data := .seq ((items.toList.drop (sIx items.size 0 lo)).take (sIx items.size items.size hi - sIx items.size 0 lo)).toArray } })
    (hsz : items.size ≤ sizeLine) : wpAny (model prog w) A (getItem (.ref t) (.ref sl)) Q E s := by
  have htake : sizeOk (.seq ((items.toList.drop (sIx items.size 0 lo)).take (sIx items.size items.size hi - sIx items.size 0 lo)).toArray) := by
    show ((items.toList.drop (sIx items.size 0 lo)).take (sIx items.size items.size hi - sIx items.size 0 lo)).toArray.size ≤ sizeLine
    rw [List.size_toArray, List.length_take, List.length_drop, Array.length_toList]
    lia
  have hj : sIx items.size items.size hi ≤ items.size := sIx_le _ _ (Nat.le_refl _) hi
  obtain ⟨os, hos, hcs, hds⟩ := id hs
  have hTs : s.TypeIs (.ref sl) "slice" := ⟨os, hos, hcs⟩
  unfold getItem
  try with_reducible refine wpAny_holding ?_
  first | refine wpAny_bind (wpAny_pure ?_) | skip
  refine wpAny_bind (wpAny_sequenceKey ht.typeIs (by decide) ?_)
  refine wpAny_bind (wpAny_callSpecial?_slot (name := Str.ofString "__getitem__") ht.typeIs PyProof.Rows.slot_tuple_getitem
    (wpAny_call_entry PyProof.Rows.slot_tuple_getitem ht.typeIs entry_tuple_getitem ?_ (args_tuple_getitem _ _)))
  show wpAny _ _ (Builtin.Tuple.tupleItemsOf (.ref t) >>= _) _ _ s
  refine wpAny_bind (tupleItemsOf_ ht ?_)
  refine wpAny_bind (wpAny_typeOf hTs ?_)
  rw [if_pos (by decide)]
  refine wpAny_bind (sliceApplied_gen hs pl pu ?_)
  have hno : ¬ ((((sIx items.size 0 lo : Nat) : Int) == 0 && (1 : Int) == 1 && (sIx items.size items.size hi - sIx items.size 0 lo) == items.size) = true) := by
    intro q
    rw [Bool.and_eq_true, Bool.and_eq_true] at q
    have q1 : ((sIx items.size 0 lo : Nat) : Int) = 0 := eq_of_beq q.1.1
    have q2 : sIx items.size items.size hi - sIx items.size 0 lo = items.size := eq_of_beq q.2
    exact hw ⟨by lia, by lia⟩
  show wpAny _ _ (if (((sIx items.size 0 lo : Nat) : Int) == 0 && (1 : Int) == 1 && (sIx items.size items.size hi - sIx items.size 0 lo) == items.size) = true then _ else _) _ _ s
  rw [if_neg hno, pick_gen]
  first
    | exact wpAny_bind (m := Builtin.Tuple.tupleExact _) (wpAny_newObj_type (wpAny_pure ⟨_, rfl, wpAny_pure h⟩) htake)
    | exact wpAny_bind (m := Builtin.Tuple.tupleExact _) (wpAny_newObj_type (wpAny_bind (wpAny_pure (wpAny_pure ⟨_, rfl, wpAny_pure h⟩))) htake)
    | exact wpAny_bind (wpAny_bind (m := Builtin.Tuple.tupleExact _) (wpAny_newObj_type (wpAny_pure (wpAny_pure ⟨_, rfl, wpAny_pure h⟩)) htake))
    | exact wpAny_bind (wpAny_bind (m := Builtin.Tuple.tupleExact _) (wpAny_newObj_type (wpAny_pure ⟨_, rfl, wpAny_pure h⟩) htake))
end
end HT
namespace L2
open PySem PySem.Spec PyProof.Rows
section
variable {X : Cx} {e : Expr} {te : TE} {lo hi : Option Expr} {tl th : TO} {pos p2 : Pos}
def SlR (X : Cx) (r : V → Option Int → Option Int → Hp → VK → Prop) : Prop :=
  ∀ (pins : List (Addr × Obj)) (s : Shared) (σ : St) (H : Hp) (x : V) (v vl vu : Value) (lo hi : Option Int) (sl : Addr) (Q : VK), Inv X pins σ H s → RelV x v → s.heap.IsSliceOf sl vl vu .none → IsPart vl lo → IsPart vu hi → r x lo hi H Q →
    ∃ T id, typeLookup (.type T) "__getitem__" = pure (some (.builtin id)) ∧ s.TypeIs v T ∧ wpAny (model X.prog X.w) X.A (getItem v (.ref sl)) (EP X pins σ Q) X.xe s
theorem SlR.or {r r' : V → Option Int → Option Int → Hp → VK → Prop} (h : SlR X r) (h' : SlR X r') : SlR X (fun x lo hi H Q => r x lo hi H Q ∨ r' x lo hi H Q) := by
  intro pins s σ H x v vl vu lo hi sl Q I rx hs pl pu q
  rcases q with q | q
  · exact h pins s σ H x v vl vu lo hi sl Q I rx hs pl pu q
  · exact h' pins s σ H x v vl vu lo hi sl Q I rx hs pl pu q
def cutV (xs : List V) (lo hi : Option Int) : List V := (xs.drop (HT.sIx xs.length 0 lo)).take (HT.sIx xs.length xs.length hi - HT.sIx xs.length 0 lo)
theorem cutV_length (xs : List V) (lo hi : Option Int) : (cutV xs lo hi).length ≤ xs.length := by
  unfold cutV
  rw [List.length_take, List.length_drop]
  lia
def rSlT (K : PySem.W.Frag) : V → Option Int → Option Int → Hp → VK → Prop := fun x lo hi H Q => ∃ a xs, x = .ref a ∧ SqT K H a xs ∧
  ¬ (HT.sIx xs.length 0 lo = 0 ∧ HT.sIx xs.length xs.length hi = xs.length) ∧ ∀ p, H p = none → Q (.ref p) (upd H p (.tup (cutV xs lo hi)))
theorem sl_tup : SlR X (rSlT X.K) := by
  intro pins s σ H x v vl vu lo hi sl Q I rx hs pl pu h
  obtain ⟨a, xs, rfl, hx, hw, q⟩ := h
  cases rx
  obtain ⟨its, r, ht, hz⟩ := I.tuple hx
  have hlen : its.toArray.size = xs.length := by rw [List.size_toArray]; exact r.length.symm
  refine ⟨"tuple", _, PyProof.Rows.slot_tuple_getitem.lookup, ht.typeIs, ?_⟩
  refine HT.getItem_tuple_cut ht hs pl pu (by rw [hlen]; exact hw) ?_ (by rw [hlen]; exact hz)
  rw [hlen]
  refine ⟨.ref s.heap.objs.size, _, I.laid (t' := s.toks) (o := .tup (cutV xs lo hi)) (fun b ob q => Heap.get?_push_of_some _ q) (Nat.le_refl _) ?_, rfl, q _ (I.hok.fresh (Nat.le_refl _))⟩
  exact ⟨Nat.le_trans (cutV_length xs lo hi) hz, _, (r.drop (HT.sIx xs.length 0 lo)).take (HT.sIx xs.length xs.length hi - HT.sIx xs.length 0 lo), IsTup.new _ _⟩
end
end L2
namespace L2
open PySem PySem.Spec PyProof.Rows
def ixN (n : Nat) (i : Int) : Option Nat := if 0 ≤ i then (if i < n then some i.toNat else none) else if -(n : Int) ≤ i then some (i + n).toNat else none
def atI {α : Type} (xs : List α) (i : Int) : Option α := (ixN xs.length i).bind fun j => xs[j]?
theorem ixN_seq {n : Nat} {i : Int} {j : Nat} (h : ixN n i = some j) : seqIndex? i n = some j ∧ j < n ∧ -(n : Int) ≤ i ∧ i < n := by
  unfold ixN at h
  by_cases h0 : 0 ≤ i
  · rw [if_pos h0] at h
    by_cases h1 : i < n
    · rw [if_pos h1] at h
      have e : i.toNat = j := Option.some.inj h
      exact ⟨by rw [seqIndex_of h0 h1, e], by lia, by lia, h1⟩
    · rw [if_neg h1] at h; cases h
  · rw [if_neg h0] at h
    by_cases h1 : -(n : Int) ≤ i
    · rw [if_pos h1] at h
      have e : (i + n).toNat = j := Option.some.inj h
      exact ⟨by rw [seqIndex_neg (by lia) h1, e], by lia, h1, by lia⟩
    · rw [if_neg h1] at h; cases h
theorem atI_get {α : Type} {xs : List α} {i : Int} {v : α} (h : atI xs i = some v) : ∃ j, seqIndex? i xs.length = some j ∧ xs[j]? = some v ∧ j < xs.length ∧ -(xs.length : Int) ≤ i ∧ i < xs.length := by
  unfold atI at h
  cases e : ixN xs.length i with
  | none => rw [e] at h; cases h
  | some j =>
    rw [e] at h
    obtain ⟨h1, h2, h3, h4⟩ := ixN_seq e
    exact ⟨j, h1, h, h2, h3, h4⟩
theorem atI_nat {α : Type} {xs : List α} {j : Nat} {v : α} (h : xs[j]? = some v) : atI xs (j : Int) = some v := by
  have hj : j < xs.length := (List.getElem?_eq_some_iff.mp h).1
  have e : ixN xs.length (j : Int) = some j := by
    unfold ixN
    rw [if_pos (by lia), if_pos (by lia)]; simp
  unfold atI; rw [e]; exact h
def PlainIx (b : Expr) : Prop := ∀ o i, subscripted b false o i = operate [o, i] (getItem o i)
def IxR (X : Cx) (r : R2) : Prop :=
  ∀ (value slice : Expr) (pins : List (Addr × Obj)) (s : Shared) (σ : St) (H : Hp) (x y : V) (v u : Value) (Q : VK), Inv X pins σ H s → RelV x v → RelV y u → r x y H Q →
    subscripted slice false v u = operate [v, u] (getItem v u) → wpAny (model X.prog X.w) X.A (subscriptTail value slice v u) (EP X pins σ Q) X.xe s
section
variable {X : Cx} {a b : Expr} {ta tb : TE} {pos : Pos}
theorem IxR.or {r r' : R2} (h : IxR X r) (h' : IxR X r') : IxR X (fun x y H Q => r x y H Q ∨ r' x y H Q) := by
  intro value slice pins s σ H x y v u Q I rx ry q hs
  rcases q with q | q
  · exact h value slice pins s σ H x y v u Q I rx ry q hs
  · exact h' value slice pins s σ H x y v u Q I rx ry q hs
def rIxL (K : PySem.W.Frag) : R2 := fun x y H Q => ∃ p xs i v, x = .ref p ∧ y = .int i ∧ SqL K H p xs ∧ atI xs i = some v ∧ Q v H
def rIxT (K : PySem.W.Frag) : R2 := fun x y H Q => ∃ p xs i v, x = .ref p ∧ y = .int i ∧ SqT K H p xs ∧ atI xs i = some v ∧ Q v H
def rIxS : R2 := fun x y H Q => ∃ z i c, x = .str z ∧ y = .int i ∧ z.length ≤ sizeLine ∧ atI z.cps.toList i = some c ∧ Q (.str ⟨#[c]⟩) H
theorem ix_list : IxR X (rIxL X.K) := by
  intro value slice pins s σ H x y v u Q I rx ry h hs
  obtain ⟨p, xs, i, z, rfl, rfl, hq, he, q⟩ := h
  cases rx
  obtain ⟨t, rfl⟩ := ry
  obtain ⟨its, r, pl, hz⟩ := I.list hq
  obtain ⟨j, h1, h2, h3, h4, h5⟩ := atI_get he
  obtain ⟨w, ew, rw'⟩ := r.get h2
  have hl := r.length
  have hn := line63
  have fin : EP X pins σ Q w s := ⟨z, H, I, rw', q⟩
  by_cases h0 : 0 ≤ i
  · have hj : i.toNat = j := by
      rw [seqIndex_of h0 h5] at h1
      exact Option.some.inj h1
    exact item_listR pl.isList h0 (by lia) (by rw [hj]; simpa using ew) fin hs
  · have hj : (i + (its.toArray.size : Int)).toNat = j := by
      rw [seqIndex_neg (by lia) h4] at h1
      rw [List.size_toArray, ← hl]
      exact Option.some.inj h1
    exact subscriptTail_builtinR (x := w) pl.isList.typeIs slot_list_getitem.lookup
      (wpAny_getItem_list_neg (Q := fun r s' => r = w ∧ EP X pins σ Q r s') pl.isList (by lia) (by rw [List.size_toArray] <;> lia) (by lia) (by rw [hj]; simpa using ew) ⟨rfl, fin⟩) hs
theorem ix_tup : IxR X (rIxT X.K) := by
  intro value slice pins s σ H x y v u Q I rx ry h hs
  obtain ⟨p, xs, i, z, rfl, rfl, hq, he, q⟩ := h
  cases rx
  obtain ⟨t, rfl⟩ := ry
  obtain ⟨its, r, pl, hz⟩ := I.tuple hq
  obtain ⟨j, h1, h2, h3, h4, h5⟩ := atI_get he
  obtain ⟨w, ew, rw'⟩ := r.get h2
  have hl := r.length
  have hn := line63
  have fin : EP X pins σ Q w s := ⟨z, H, I, rw', q⟩
  exact subscriptTail_builtinR (x := w) pl.typeIs slot_tuple_getitem.lookup
    (getItem_tuple (j := j) (Q := fun r s' => r = w ∧ EP X pins σ Q r s') pl (by lia) (by lia) (by rw [List.size_toArray, ← hl]; exact h1) (by simpa using ew) ⟨rfl, fin⟩) hs
theorem ix_str : IxR X rIxS := by
  intro value slice pins s σ H x y v u Q I rx ry h hs
  obtain ⟨z, i, c, rfl, rfl, hz, he, q⟩ := h
  obtain ⟨t, rfl⟩ := rx
  obtain ⟨t', rfl⟩ := ry
  obtain ⟨j, h1, h2, h3, h4, h5⟩ := atI_get he
  have hl : z.cps.toList.length = z.length := by simp [Str.length]
  rw [hl] at h1 h4 h5
  have hn := line63
  exact tail_any (typeIs_str s z t) slot_str_getitem.lookup (getItem_str (c := c) (by
    have e1 : decide (i < -(2 ^ 63 : Int)) = false := decide_eq_false (by lia)
    have e2 : decide (i ≥ 2 ^ 63) = false := decide_eq_false (by lia)
    rw [e1, e2, Bool.or_false]) (by rw [h1]; simpa using h2) ⟨.str ⟨#[c]⟩, H, I.tok _, ⟨_, rfl⟩, q⟩) hs
def rIx (K : PySem.W.Frag) : R2 := fun x y H Q => rIxL K x y H Q ∨ rIxT K x y H Q ∨ rIxS x y H Q
theorem ix_seq : IxR X (rIx X.K) := ix_list.or (ix_tup.or ix_str)
theorem slice_bounds (lo hi : Option Int) (n : Nat) : (sliceBounds lo hi none n).1 = ((HT.sIx n 0 lo : Nat) : Int) ∧ (sliceBounds lo hi none n).2.1 = ((HT.sIx n n hi : Nat) : Int) ∧ (sliceBounds lo hi none n).2.2 = 1 := by
  refine ⟨?_, ?_, rfl⟩
  · cases lo with
    | none => simp [sliceBounds, HT.sIx]
    | some i =>
      simp only [sliceBounds, HT.sIx, Option.getD_none, show (1 : Int) > 0 by decide, if_true]
      by_cases h : i < 0
      · simp only [h, if_true] <;> lia
      · simp only [h, if_false] <;> lia
  · cases hi with
    | none => simp [sliceBounds, HT.sIx]
    | some i =>
      simp only [sliceBounds, HT.sIx, Option.getD_none, show (1 : Int) > 0 by decide, if_true]
      by_cases h : i < 0
      · simp only [h, if_true] <;> lia
      · simp only [h, if_false] <;> lia
theorem slicePick_cut (its : List Value) (lo hi : Option Int) : slicePick its.toArray lo hi none = ((its.drop (HT.sIx its.length 0 lo)).take (HT.sIx its.length its.length hi - HT.sIx its.length 0 lo)).toArray := by
  obtain ⟨h1, h2, h3⟩ := slice_bounds lo hi its.toArray.size
  unfold slicePick
  rw [h1, h2, h3]
  simp only [sliceRange_one, pick_run, List.size_toArray] <;> rfl
def rSlL (K : PySem.W.Frag) : V → Option Int → Option Int → Hp → VK → Prop := fun x lo hi H Q => ∃ a xs, x = .ref a ∧ SqL K H a xs ∧ ∀ p, H p = none → Q (.ref p) (upd H p (.lst (cutV xs lo hi)))
theorem sl_list : SlR X (rSlL X.K) := by
  intro pins s σ H x v vl vu lo hi sl Q I rx hs pl pu h
  obtain ⟨a, xs, rfl, hx, q⟩ := h
  cases rx
  obtain ⟨its, r, ht, hz⟩ := I.list hx
  have hlen := r.length
  refine ⟨"list", _, slot_list_getitem.lookup, ht.isList.typeIs, ?_⟩
  refine wpAny_getItem_list_slice ht.isList hs pl pu .none (by simp) ?_ (by rw [List.size_toArray] <;> lia)
  rw [slicePick_cut, ← hlen]
  refine ⟨.ref s.heap.objs.size, _, I.laid (t' := s.toks) (o := .lst (cutV xs lo hi)) (fun b ob q => Heap.get?_push_of_some _ q) (Nat.le_refl _) ?_, rfl, q _ (I.hok.fresh (Nat.le_refl _))⟩
  exact ⟨Nat.le_trans (cutV_length xs lo hi) hz, _, 0, (r.drop (HT.sIx xs.length 0 lo)).take (HT.sIx xs.length xs.length hi - HT.sIx xs.length 0 lo), Heap.get?_push_size _ rfl⟩
def flatV : V → Bool
  | .non => true
  | .bl _ => true
  | .int _ => true
  | .str _ => true
  | _ => false
def eqV : V → V → Bool
  | .non, .non => true
  | .bl a, .bl b => a == b
  | .bl a, .int b => (if a then 1 else 0) == b
  | .int a, .bl b => a == (if b then 1 else 0)
  | .int a, .int b => a == b
  | .str a, .str b => a == b
  | _, _ => false
theorem eqAt_V {A : Around} {s : Shared} {y x : V} {u v : Value} (ry : RelV y u) (rx : RelV x v) (fy : flatV y = true) (fx : flatV x = true) : SeqAt.EqAt A s u v (eqV y x) := by
  cases y with
  | non =>
    cases ry
    cases x with
    | non => cases rx; exact SeqAt.EqAt.same _
    | bl b => cases rx; exact SeqAt.EqAt.none_bool b
    | int b => obtain ⟨t, rfl⟩ := rx; exact SeqAt.EqAt.none_int b t
    | str b => obtain ⟨t, rfl⟩ := rx; exact SeqAt.EqAt.none_str b t
    | _ => exact absurd (show false = true from fx) Bool.false_ne_true
  | bl a =>
    cases ry
    cases x with
    | non => cases rx; exact SeqAt.EqAt.bool_none a
    | bl b => cases rx; exact SeqAt.EqAt.bool_bool a b
    | int b => obtain ⟨t, rfl⟩ := rx; exact SeqAt.EqAt.bool_int a b t
    | str b => obtain ⟨t, rfl⟩ := rx; exact SeqAt.EqAt.bool_str a b t
    | _ => exact absurd (show false = true from fx) Bool.false_ne_true
  | int a =>
    obtain ⟨t', rfl⟩ := ry
    cases x with
    | non => cases rx; exact SeqAt.EqAt.int_none a t'
    | bl b => cases rx; exact SeqAt.EqAt.int_bool a t' b
    | int b => obtain ⟨t, rfl⟩ := rx; exact SeqAt.EqAt.int_int a t' b t
    | str b => obtain ⟨t, rfl⟩ := rx; exact SeqAt.EqAt.int_str a t' b t
    | _ => exact absurd (show false = true from fx) Bool.false_ne_true
  | str a =>
    obtain ⟨t', rfl⟩ := ry
    cases x with
    | non => cases rx; exact SeqAt.EqAt.str_none a t'
    | bl b => cases rx; exact SeqAt.EqAt.str_bool a t' b
    | int b => obtain ⟨t, rfl⟩ := rx; exact SeqAt.EqAt.str_int a t' b t
    | str b => obtain ⟨t, rfl⟩ := rx; exact SeqAt.EqAt.str_str a t' b t
    | _ => exact absurd (show false = true from fx) Bool.false_ne_true
  | _ => exact absurd (show false = true from fy) Bool.false_ne_true
def eqU (x : V) (u : Value) : Bool := match u with
  | .none => eqV .non x
  | .bool b => eqV (.bl b) x
  | .int i _ => eqV (.int i) x
  | .str z _ => eqV (.str z) x
  | _ => false
theorem eqU_of {x y : V} {u : Value} (r : RelV y u) (f : flatV y = true) : eqU x u = eqV y x := by
  cases y with
  | non => cases r; rfl
  | bl b => cases r; rfl
  | int i => obtain ⟨t, rfl⟩ := r; rfl
  | str z => obtain ⟨t, rfl⟩ := r; rfl
  | _ => exact absurd (show false = true from f) Bool.false_ne_true
theorem any_eqU {x : V} : ∀ {xs : List V} {us : List Value}, Vals xs us → xs.all flatV = true → us.any (eqU x) = xs.any fun y => eqV y x
  | _, _, .nil, _ => rfl
  | y :: xs, u :: us, .cons r t, f => by
    rw [List.all_cons, Bool.and_eq_true] at f
    rw [List.any_cons, List.any_cons, eqU_of r f.1, any_eqU t f.2]
theorem mem_eqAt {A : Around} {s : Shared} {x : V} {v : Value} (rx : RelV x v) (fx : flatV x = true) : ∀ {xs : List V} {us : List Value}, Vals xs us → xs.all flatV = true → ∀ u ∈ us, SeqAt.EqAt A s u v (eqU x u)
  | _, _, .nil, _ => fun u hu => by cases hu
  | y :: xs, u :: us, .cons r t, f => fun u' hu => by
    rw [List.all_cons, Bool.and_eq_true] at f
    rcases List.mem_cons.mp hu with rfl | hu
    · rw [eqU_of r f.1]; exact eqAt_V r rx f.1 fx
    · exact mem_eqAt rx fx t f.2 u' hu
def inV (x : V) (xs : List V) : Bool := xs.any fun y => eqV y x
def rIn (K : PySem.W.Frag) (neg : Bool) : R2 := fun x y H Q => ∃ p xs, y = .ref p ∧ (SqL K H p xs ∨ SqT K H p xs) ∧ flatV x = true ∧ xs.all flatV = true ∧ Q (.bl (if neg then !inV x xs else inV x xs)) H
theorem op_in_seq : OpR X (compareOp .In) (rIn X.K false) := by
  intro pins s σ H x y v u Q I rx ry h
  obtain ⟨p, xs, rfl, hq, fx, fs, q⟩ := h
  cases ry
  rcases hq with hq | hq
  · obtain ⟨its, r, pl, hz⟩ := I.list hq
    refine SeqAt.in_listAt (eqU x) pl.isList (fun w hw => mem_eqAt rx fx r fs w (by simpa using hw)) ⟨.bl _, H, I, rfl, ?_⟩
    rw [show its.toArray.any (eqU x) = its.any (eqU x) by simp, any_eqU r fs]
    exact q
  · obtain ⟨its, r, pl, hz⟩ := I.tuple hq
    refine SeqAt.in_tupleAt (eqU x) pl (fun w hw => mem_eqAt rx fx r fs w (by simpa using hw)) ⟨.bl _, H, I, rfl, ?_⟩
    rw [show its.toArray.any (eqU x) = its.any (eqU x) by simp, any_eqU r fs]
    exact q
theorem op_notIn_seq : OpR X (compareOp .NotIn) (rIn X.K true) := by
  intro pins s σ H x y v u Q I rx ry h
  obtain ⟨p, xs, rfl, hq, fx, fs, q⟩ := h
  cases ry
  rcases hq with hq | hq
  · obtain ⟨its, r, pl, hz⟩ := I.list hq
    refine SeqAt.notIn_listAt (eqU x) pl.isList (fun w hw => mem_eqAt rx fx r fs w (by simpa using hw)) ⟨.bl _, H, I, rfl, ?_⟩
    rw [show its.toArray.any (eqU x) = its.any (eqU x) by simp, any_eqU r fs]
    exact q
  · obtain ⟨its, r, pl, hz⟩ := I.tuple hq
    refine SeqAt.notIn_tupleAt (eqU x) pl (fun w hw => mem_eqAt rx fx r fs w (by simpa using hw)) ⟨.bl _, H, I, rfl, ?_⟩
    rw [show its.toArray.any (eqU x) = its.any (eqU x) by simp, any_eqU r fs]
    exact q
theorem call_len_seq : CallR X (.builtin "len") (fun xs H Q => ∃ p ys, xs = [.ref p] ∧ (SqL X.K H p ys ∨ SqT X.K H p ys) ∧ Q (.int ys.length) H) := by
  intro pins s σ H xs us Q I r h
  obtain ⟨p, ys, rfl, hq, q⟩ := h
  obtain ⟨u, rfl, rx⟩ := vals1 r
  cases rx
  have hn := line63
  rcases hq with hq | hq
  · obtain ⟨its, r', pl, hz⟩ := I.list hq
    have hlen := r'.length
    exact Calls.call_len_list pl.isList (by simp only [List.size_toArray] <;> lia) ⟨.int ys.length, H, I.tok _, ⟨s.toks + 1, by rw [List.size_toArray, hlen]⟩, q⟩
  · obtain ⟨its, r', pl, hz⟩ := I.tuple hq
    have hlen := r'.length
    exact len_tuple pl (by simp only [List.size_toArray] <;> lia) ⟨.int ys.length, H, I.tok _, ⟨s.toks + 1, by rw [List.size_toArray, hlen]⟩, q⟩
theorem call_len_str : CallR X (.builtin "len") (fun xs H Q => ∃ z, xs = [.str z] ∧ z.length ≤ sizeLine ∧ Q (.int z.length) H) := by
  intro pins s σ H xs us Q I r h
  obtain ⟨z, rfl, hz, q⟩ := h
  obtain ⟨u, rfl, t, rfl⟩ := vals1 r
  have hn := line63
  exact len_str (by lia) ⟨.int z.length, H, I.tok _, ⟨_, rfl⟩, q⟩
theorem CallR.or {f : Value} {r r' : List V → Hp → VK → Prop} (h : CallR X f r) (h' : CallR X f r') : CallR X f (fun xs H Q => r xs H Q ∨ r' xs H Q) := by
  intro pins s σ H xs us Q I rs q
  rcases q with q | q
  · exact h pins s σ H xs us Q I rs q
  · exact h' pins s σ H xs us Q I rs q
theorem call_list_of : CallR X (.type "list") (fun xs H Q => ∃ p ys, xs = [.ref p] ∧ (SqL X.K H p ys ∨ SqT X.K H p ys) ∧ ∀ l, H l = none → Q (.ref l) (upd H l (.lst ys))) := by
  intro pins s σ H xs us Q I r h
  obtain ⟨p, ys, rfl, hq, q⟩ := h
  obtain ⟨u, rfl, rx⟩ := vals1 r
  cases rx
  have fin : ∀ (its : List Value), Vals ys its → ys.length ≤ sizeLine → ∀ (h' : Heap) (c' : Nat), (∀ b o', s.heap.get? b = some o' → h'.get? b = some o') →
      h'.get? s.heap.objs.size = some { cls := .type "list", dict := none, data := .seq its.toArray c', slots := #[] } → EP X pins σ Q (.ref s.heap.objs.size) { s with heap := h' } := fun its r' hz h' c' kp e =>
    ⟨.ref s.heap.objs.size, _, I.laid (t' := s.toks) kp (Nat.le_refl _) (show ObjOk X.prog X.w _ h' _ (.lst ys) from ⟨hz, its, c', r', e⟩), rfl, q _ (I.hok.fresh (Nat.le_refl _))⟩
  rcases hq with hq | hq
  · obtain ⟨its, r', pl, hz⟩ := I.list hq
    have hlen := r'.length
    obtain ⟨o, ho, hc, n, hd⟩ := pl.isList
    exact call_list_seq p (.inl rfl) ho hc hd (fun h' c' kp e => fin its r' hz h' c' kp e) (by simp only [List.size_toArray] <;> lia)
  · obtain ⟨its, r', pl, hz⟩ := I.tuple hq
    have hlen := r'.length
    obtain ⟨o, ho, hc, n, hd⟩ := pl
    exact call_list_seq p (.inr rfl) ho hc hd (fun h' c' kp e => fin its r' hz h' c' kp e) (by simp only [List.size_toArray] <;> lia)
theorem call_tuple_of : CallR X (.type "tuple") (fun xs H Q => ∃ p ys, xs = [.ref p] ∧ ((SqL X.K H p ys ∧ ∀ l, H l = none → Q (.ref l) (upd H l (.tup ys))) ∨ (SqT X.K H p ys ∧ Q (.ref p) H))) := by
  intro pins s σ H xs us Q I r h
  obtain ⟨p, ys, rfl, h⟩ := h
  obtain ⟨u, rfl, rx⟩ := vals1 r
  cases rx
  rcases h with ⟨hq, q⟩ | ⟨hq, q⟩
  · obtain ⟨its, r', pl, hz⟩ := I.list hq
    have hlen := r'.length
    refine call_tuple_list pl.isList (fun h' kp => ?_) (by simp only [List.size_toArray] <;> lia)
    have I1 : Inv X pins σ H { s with heap := h' } := I.kept (t' := s.toks) kp
    have I2 : Inv X pins σ (upd H h'.objs.size (.tup ys)) { s with heap := h'.push { cls := .type "tuple", data := .seq its.toArray } } :=
      I1.laid (t' := s.toks) (fun b o e => Heap.get?_push_of_some _ e) (Nat.le_refl _) (show ObjOk X.prog X.w _ _ _ (.tup ys) from ⟨hz, its, r', IsTup.new _ _⟩)
    exact ⟨.ref h'.objs.size, _, I2, rfl, q _ (I1.hok.fresh (Nat.le_refl _))⟩
  · obtain ⟨its, r', pl, hz⟩ := I.tuple hq
    exact call_tuple_same pl ⟨.ref p, H, I, rfl, q⟩
def tyV (K : PySem.W.Frag) (T : String) (x : V) (H : Hp) : Prop := match x with
  | .str _ => T = "str"
  | .int _ => T = "int"
  | .ref p => (T = "list" ∧ ∃ xs, SqL K H p xs) ∨ (T = "tuple" ∧ ∃ o, K.lookup p = some o ∧ o.cls = .type "tuple" ∧ o.dict = none) ∨
      (T = "dict" ∧ ((∃ kvs, H p = some (.dK kvs)) ∨ ∃ kvs, H p = some (.dT kvs))) ∨ (T = "set" ∧ ∃ S n, H p = some (.set S n))
  | _ => False
theorem tyV_is {pins : List (Addr × Obj)} {σ : St} {H : Hp} {s : Shared} {T : String} {x : V} {v : Value} (I : Inv X pins σ H s) (r : RelV x v) (ty : tyV X.K T x H) :
    s.TypeIs v T ∧ ∀ a, v = .ref a → ∃ ob, s.heap.get? a = some ob ∧ ob.dict = none := by
  cases x with
  | str z =>
    obtain ⟨t, rfl⟩ := r
    cases (show T = "str" from ty)
    exact ⟨typeIs_str s z t, fun _ e => nomatch e⟩
  | int i =>
    obtain ⟨t, rfl⟩ := r
    cases (show T = "int" from ty)
    exact ⟨typeIs_int s i t, fun _ e => nomatch e⟩
  | ref p =>
    cases r
    rcases ty with ⟨rfl, xs, hq⟩ | ⟨rfl, o, hk, hc, hd⟩ | ⟨rfl, hk⟩ | ⟨rfl, S, n, hk⟩
    · obtain ⟨its, _, pl, _⟩ := I.list hq
      refine ⟨pl.isList.typeIs, fun a e => ?_⟩
      cases e
      obtain ⟨o, n, e, c, hd, _⟩ := pl
      exact ⟨o, e, hd⟩
    · refine ⟨⟨o, I.kIn p o hk, hc⟩, fun a e => ?_⟩
      cases e
      exact ⟨o, I.kIn _ o hk, hd⟩
    · have z : ∃ o, s.heap.get? p = some o ∧ o.ExactDict := by
        rcases hk with ⟨kvs, hk⟩ | ⟨kvs, hk⟩
        · obtain ⟨_, _, _, _, o, _, _, e, ex, _⟩ := I.hok p _ hk
          exact ⟨o, e, ex⟩
        · obtain ⟨_, _, _, _, o, _, _, e, ex, _⟩ := I.hok p _ hk
          exact ⟨o, e, ex⟩
      obtain ⟨o, e, ex⟩ := z
      refine ⟨⟨o, e, ex.1⟩, fun a e2 => ?_⟩
      cases e2
      exact ⟨o, e, ex.2.1⟩
    · obtain ⟨o, _, _, _, e, ex, _⟩ := I.hok p _ hk
      refine ⟨⟨o, e, ex.1⟩, fun a e2 => ?_⟩
      cases e2
      exact ⟨o, e, ex.2.1⟩
  | _ => exact False.elim ty
variable {o e : Expr} {es : List Expr} {to : TE} {t : TA} {name : Str} {apos cpos : Pos} {T id : String} {r : V → List V → Hp → VK → Prop}
end
end L2
namespace L2
open PySem PySem.Spec PyProof.Rows
def MtM (X : Cx) (id : String) (r : V → List V → Hp → VK → Prop) : Prop :=
  ∀ (pins : List (Addr × Obj)) (s : Shared) (σ : St) (H : Hp) (x : V) (xs : List V) (v : Value) (us : List Value) (Q : VK), Inv X pins σ H s → RelV x v → Vals xs us → r x xs H Q →
    wpAny (model X.prog X.w) X.A (call (.builtin id) (v :: us)) (EP X pins σ Q) X.xe s
theorem Vals.one : ∀ {x : V} {us : List Value}, Vals [x] us → ∃ u, us = [u] ∧ RelV x u
  | _, _, .cons r .nil => ⟨_, rfl, r⟩
section
variable {X : Cx} {pins : List (Addr × Obj)} {σ : St} {H : Hp} {s : Shared} {l b : Addr} {xs ys zs : List V}
theorem Inv.lset {its its' : List Value} {n : Nat} {f : Array Value → Array Value} {t' : Nat} (I : Inv X pins σ H s) (hH : H l = some (.lst xs))
    (e : s.heap.get? l = some { cls := .type "list", data := .seq its.toArray n }) (hf : f its.toArray = its'.toArray) (hv : Vals ys its') (hz : ys.length ≤ sizeLine) :
    Inv X pins σ (upd H l (.lst ys)) { s with heap := s.heap.update l (Obj.mapSeq f), toks := t' } := by
  have q := PySem.IsL.update e f
  rw [hf] at q
  refine I.write (x := l) (e := l) (by rw [hH]; exact trivial) (.inl rfl) (fun b' u hb hu => (Heap.get?_update_other s.heap (Obj.mapSeq f) (Ne.symm hb)).trans hu) ⟨_, q⟩ ?_
  exact ⟨hz, its', _, hv, q⟩
theorem Inv.lnew {its : List Value} {t' : Nat} (I : Inv X pins σ H s) (hv : Vals ys its) (hz : ys.length ≤ sizeLine) :
    Inv X pins σ (upd H s.heap.objs.size (.lst ys)) { s with heap := s.heap.push { cls := .type "list", data := .seq its.toArray }, toks := t' } :=
  I.laid (fun _ _ q => Heap.get?_push_of_some _ q) (Nat.le_refl _) ⟨hz, its, 0, hv, Heap.get?_push_size _ rfl⟩
theorem Inv.fresh (I : Inv X pins σ H s) : H s.heap.objs.size = none := I.hok.fresh (Nat.le_refl _)
theorem Inv.lstM (I : Inv X pins σ H s) (hH : H l = some (.lst xs)) : xs.length ≤ sizeLine ∧ ∃ (its : List Value) (n : Nat), Vals xs its ∧ xs.length = its.length ∧ s.heap.get? l = some { cls := .type "list", data := .seq its.toArray n } := by
  obtain ⟨z, its, n, r, e⟩ := I.hok l _ hH
  exact ⟨z, its, n, r, r.length, e⟩
end
section
variable {X : Cx}
def rAppend : V → List V → Hp → VK → Prop := fun x vs H Q => ∃ l xs y, x = .ref l ∧ vs = [y] ∧ H l = some (.lst xs) ∧ xs.length < sizeLine ∧ Q .non (upd H l (.lst (xs ++ [y])))
theorem mt_append : MtM X "list.append" rAppend := by
  intro pins s σ H x vs v us Q I rx rv h
  obtain ⟨l, xs, y, rfl, rfl, hH, hz, q⟩ := h
  cases rx
  obtain ⟨u, rfl, ru⟩ := rv.one
  obtain ⟨z, its, n, r, hl, e⟩ := I.lstM hH
  refine call_meets F.slot_list_append ⟨_, e, rfl⟩ F.entry_list_append (F.args_list_append_2 _ _) (PySem.list_append l its.toArray n u (by rw [List.size_toArray]; lia)) ⟨e, ?_⟩
  refine ⟨.non, _, I.lset (its' := its ++ [u]) hH e (by simp) (r.append (.cons ru .nil)) ?_, rfl, q⟩
  rw [List.length_append, List.length_singleton]
  lia
end
section
variable {prog : Program} {w : World} {A : Around} {E : Value → Shared → Prop} {s : Shared}
end
section
variable {X : Cx}
end
end L2
namespace Att
open PySem PySem.W PySem.Calls PyProof.Rows
theorem ints_of_wellAll {P : Params} {h : Heap} : ∀ (ns : List Int) (vs : List Value), WellAll P h vs (ns.map WData.int) → IntsAre vs ns := by
  intro ns
  induction ns with
  | nil =>
    intro vs w
    rw [List.map_nil] at w
    cases w
    exact .nil
  | cons n ns ih =>
    intro vs w
    rw [List.map_cons] at w
    cases w with
    | cons a b =>
      cases a
      exact .cons _ _ (ih _ b)
theorem script_of {l : OpenLaw} {n : Nat} (hn : l.most = some n) {P : Params} {h : Heap} {args : List WData} {vals : List Value}
    (hpre : l.row.toRowW.claim.pre args = true) (hwl : WellAll P h vals args) :
    ∃ a vs ns, vals = [Value.ref a] ∧ args = [WData.list (ns.map WData.int)] ∧ h.get? a = some { cls := .type "list", data := .seq vs.toArray } ∧ IntsAre vs ns ∧ ns.length ≤ n := by
  have hsh : WShape.hasAll [] args [.list .int] = true := (pre_splitW hpre).1
  have hc : l.pre.holds [] { args := args } = true := (pre_splitW hpre).2
  obtain ⟨d, r, rfl, h1, h2⟩ := hasAllW_cons hsh
  obtain rfl := hasAllW_nil h2
  obtain ⟨xs, rfl, h3⟩ := hasW_list h1
  obtain ⟨ns, rfl⟩ := items_int h3
  have hlen : ns.length ≤ n := by
    unfold OpenLaw.pre at hc
    have h4 : (WTm.not (.lt (.lit (.int (n : Int))) (.len (.arg 0)))).holds [] { args := [.list (ns.map .int)] } = true := by
      have h4 := (holds_andW hc).1
      rw [hn] at h4
      exact h4
    have h5 := condW_of h4 (w_not (w_lt w_lit (w_len_list (w_arg rfl))))
    rw [List.length_map] at h5
    refine Nat.le_of_not_lt fun q => ?_
    have q' : (n : Int) < ((ns.length : Nat) : Int) := by lia
    first
      | (rw [decide_eq_true q'] at h5; exact absurd h5 (by decide))
      | (simp at h5; lia)
  cases hwl with
  | cons w1 w2 =>
    cases w2
    cases w1 with
    | list ho hall => exact ⟨_, _, ns, rfl, rfl, ho, ints_of_wellAll ns _ hall, hlen⟩
theorem post_true (l : OpenLaw) (args : List WData) : l.row.toRowW.claim.post args (.bool true) args = true :=
  postW_of (r := l.row.toRowW) (X := (true == true))
    (show WShape.has [] (.bool true) .bool = true by first | rfl | decide | simp [WShape.has, WShape.arms, WShape.armsAll])
    (show (WTm.eq .res (.lit (.bool true))).value [] { args := args, res := some (.bool true), after := args } = some (.bool (true == true)) from w_eq_bool (w_res rfl) w_lit) rfl
theorem attach_call {l : OpenLaw} {n : Nat} {q : Program} {loose : List Str} {XP : (Str → Option Value) → Heap → Prop} {YP : World → Heap → Prop} {d : DefRec}
    (hn : l.most = some n) (hdf : d.params.defaults = [])
    (call : ∀ (w : World) (s₀ s₁ : Shared) (mg mb : Str → Option Value) (fa : Addr) (o : Obj) (pm cd doc : Value) (a : Addr) (vs : List Value) (ns : List Int),
      Ground q loose [] XP w s₀ mg mb s₁.heap → YP w s₁.heap →
      s₁.heap.get? fa = some o → o.data = .func (docDef d.name d.params d.body d.scope pm cd doc) → s₁.heap.CodeRec cd d.name → mg d.name = some (.ref fa) →
      s₁.heap.get? a = some { cls := .type "list", data := .seq vs.toArray } → IntsAre vs ns → ns.length ≤ n → s₁.gens = #[] →
      codeAny (model l.prog w) callerA (.call (.ref fa) ⟨[.ref a], []⟩) (fun r s' => r = .ok (.ret (.bool true)) ∧ OldK s₁.heap s'.heap ∧ s'.os = s₁.os ∧ AllBare s'.gens) s₁) :
    WalkO q loose XP YP l.row.toRowW d [] (fun f vs => PySem.call f vs) := by
  intro w s₀ s₁ mg mb G Y fa o pm cd doc dV kV ho hd hcd hD hmg hg args vals as hpre hlay hrd hwl hlo
  obtain rfl : dV = .none := Dflts.none hD hdf
  obtain rfl : kV = .none := Dflts.noKw hD
  obtain ⟨a, vs, ns, rfl, rfl, hobj, hints, hlen⟩ := script_of hn hpre hwl
  refine enter_call (codeAny_mono (call w s₀ s₁ mg mb fa o pm cd doc a vs ns G Y ho (fd_plain hd) hcd hmg hobj hints hlen hg) fun r s' hq => ?_)
  obtain ⟨rfl, h2, h3, h4⟩ := hq
  exact ⟨.inl ⟨.bool true, .bool true, [], rfl, fun _ => rfl, .bool true, post_true l _, fun _ => ⟨List.Pairwise.nil, fun _ hm => (nomatch hm)⟩⟩, h2, h3, h4⟩
section
variable {prog : Program} {w : World} {A : Around} {E : Value → Shared → Prop} {s : Shared} {K : Frag}
end
end Att
namespace L2
open PySem PySem.Spec PyProof.Rows
theorem vals_ints : ∀ {vs : List Value} {ns : List Int}, IntsAre vs ns → Vals (ns.map V.int) vs
  | _, _, .nil => .nil
  | _, _, .cons n t h => .cons ⟨t, rfl⟩ (vals_ints h)
def Only (H : Hp) : Prop := ∀ b, H b = none ∨ ∃ o xs, H b = some (.frz o (.lst xs))
theorem law_call {P : Program} {w : World} {K : PySem.W.Frag} {mg mb : Str → Option Value} {CX : CXT} {k : Nat} {fa a : Addr} {fd : FuncData} {x : Str} {sp : Sp} {s₁ : Shared} {vs : List Value} {ns : List Int}
    (KX : K.In s₁.heap) (hns : s₁.heap.Ns mainGlobals mg) (hb : s₁.heap.Ns builtinsNs mb) (hbb : ∀ x : Str, x ≠ "__name__" → mb x = bootBuiltins x) (hlim : s₁.heap.NoLimit) (hg : s₁.gens = #[])
    (ha : s₁.heap.get? a = some { cls := .type "list", data := .seq vs.toArray }) (hi : IntsAre vs ns) (hl : ns.length ≤ sizeLine) (hr : Room k callerA)
    (F : ∀ base : Heap, K.In base → base.Ns mainGlobals mg → FnOk P w K mg base CX k fa fd [x] sp) (hbind : ∀ (s : Shared) (u : Value), BindsTo s fd ⟨[u], []⟩ [(x, u)])
    (hsp : ∀ H : Hp, Only H → SqL K H a (ns.map V.int) → sp [.ref a] H (fun v _ => v = .bl true) fun _ _ _ => False)
    (hCX : ∀ H e s', CX [] H s₁ (fun _ _ _ => False) e s' → False) :
    codeAny (model P w) callerA (.call (.ref fa) ⟨[.ref a], []⟩) (fun r s' => r = .ok (.ret (.bool true)) ∧ OldK s₁.heap s'.heap ∧ s'.os = s₁.os ∧ AllBare s'.gens) s₁ := by
  have rv := vals_ints hi
  have lenV := hi.length
  have core : ∀ H : Hp, Only H → SqL K H a (ns.map V.int) → HOk P w H s₁.heap → (∀ b, H b ≠ none → b = a) → (H a ≠ none → K.lookup a = none) →
      codeAny (model P w) callerA (.call (.ref fa) ⟨[.ref a], []⟩) (fun r s' => r = .ok (.ret (.bool true)) ∧ OldK s₁.heap s'.heap ∧ s'.os = s₁.os ∧ AllBare s'.gens) s₁ := by
    intro H hO hS hok hA hK
    have base_of : ∀ {b : Addr} {o : Obj}, s₁.heap.get? b = some o → H b = none → (hidT s₁.heap H).get? b = some o := fun e n => hidT_get e n
    have noA : ∀ {b : Addr} {o : Obj} {es : Array DictEntry} {ep : Nat}, s₁.heap.get? b = some o → o.data = .dict es ep → H b = none := fun {b o es ep} e d => by
      cases q : H b with
      | none => rfl
      | some u =>
        have e' : b = a := hA b (by rw [q]; simp)
        subst e'
        rw [ha] at e; cases e
        have d' : Data.seq vs.toArray _ = Data.dict es ep := d
        cases d'
    have nsK : ∀ {b : Addr} {m : Str → Option Value}, s₁.heap.Ns b m → (hidT s₁.heap H).Ns b m := fun {b m} ⟨o, es, ep, e, d, r⟩ => ⟨o, es, ep, base_of e (noA e d), d, r⟩
    have hKb : K.In (hidT s₁.heap H) := fun b o e => base_of (KX b o e) (by
      cases q : H b with
      | none => rfl
      | some u =>
        have e' : b = a := hA b (by rw [q]; simp)
        subst e'
        rw [hK (by rw [q]; simp)] at e; cases e)
    have hM : Mod K mg (hidT s₁.heap H) := ⟨hKb, nsK hns, ⟨mb, nsK hb, hbb⟩, let ⟨mc, h1, h2⟩ := hlim; ⟨mc, nsK h1, h2⟩⟩
    have e0 : Env0 P w K mg (hidT s₁.heap H) callerA [] s₁ H := ⟨rfl, hM, fun b o e => of_hidT e, Nat.le_of_eq (hidT_size _ _), trivial, fun b hb => absurd (show b ∈ ([] : List Addr) from hb) (by simp), hok, .of_eq hg⟩
    refine codeAny_mono ((F _ hKb (nsK hns)).run callerA [] s₁ H ⟨[.ref a], []⟩ [.ref a] [.ref a] _ _ hr e0 (hbind s₁ (.ref a)) (.cons rfl .nil) (hsp H hO hS)) fun r s' h => ?_
    cases r with
    | error e => exact (hCX H e s' h).elim
    | ok fl =>
      cases fl with
      | next => exact False.elim h
      | brk => exact False.elim h
      | cont => exact False.elim h
      | ret u =>
        obtain ⟨v, H', os, bare, un, hok', r', q⟩ := h
        have q' : v = .bl true := q
        subst q'
        obtain rfl : u = Value.bool true := r'
        refine ⟨rfl, OldK.of_keep fun b o e => ?_, os, bare⟩
        cases q : H b with
        | none => exact un.keep b o e q (by intro z; exact absurd (show b ∈ ([] : List Addr) from z) (by simp)) (by simp)
        | some u =>
          rcases hO b with z | ⟨ob, xs, z⟩
          · rw [q] at z; cases z
          · have z2 := un.frzs b ob _ z
            obtain ⟨e1, _⟩ := hok b _ z
            obtain ⟨e2, _⟩ := hok' b _ z2
            rw [e] at e1; cases e1
            exact e2
  cases hk : K.lookup a with
  | some o =>
    have e := KX a o hk
    rw [ha] at e
    cases e
    refine core (fun _ => none) (fun _ => .inl rfl) (.inr ⟨_, vs.toArray, _, hk, rfl, rfl, rfl, by rw [List.size_toArray, lenV]; exact hl, by simpa using rv⟩) (fun b u z => by have z' : (none : Option HO) = some u := z; cases z') (fun b z => absurd rfl z) fun z => absurd rfl z
  | none =>
    refine core (fun b => if b = a then some (.frz { cls := .type "list", data := .seq vs.toArray } (.lst (ns.map V.int))) else none) (fun b => ?_) (.inl (.inr ⟨{ cls := .type "list", data := .seq vs.toArray }, if_pos rfl⟩)) (fun b u z => ?_) (fun b z => ?_) fun _ => hk
    · by_cases hb : b = a
      · exact .inr ⟨_, _, if_pos hb⟩
      · exact .inl (if_neg hb)
    · by_cases hb : b = a
      · have z' := (if_pos hb).symm.trans z
        cases z'
        subst hb
        exact ⟨ha, by rw [List.length_map]; exact hl, vs, _, rv, ha⟩
      · have z' := (if_neg hb).symm.trans z
        cases z'
    · by_cases hb : b = a
      · exact hb
      · exact absurd (if_neg hb) z
end L2
namespace L2
open PySem PySem.Spec PyProof.Rows
theorem walk_of {l : PySem.W.OpenLaw} {n k : Nat} {q : Program} {loose : List Str} {XP : (Str → Option Value) → Heap → Prop} {YP : World → Heap → Prop} {d : DefRec} {K : Params → PySem.W.Frag} {CX : World → CXT} {sp : World → Sp} {x : Str}
    (hn : l.most = some n) (hn2 : n ≤ sizeLine) (hdf : d.params.defaults = []) (hr : Room k callerA)
    (hY : ∀ (w : World) (h : Heap), YP w h → (K w.params).In h)
    (F : ∀ (w : World) (mg : Str → Option Value) (fa : Addr) (h : Heap), (K w.params).In h → h.Ns mainGlobals mg → mg d.name = some (.ref fa) →
      ∃ fd : FuncData, (∀ (s : Shared) (u : Value), BindsTo s fd ⟨[u], []⟩ [(x, u)]) ∧
        ∀ base : Heap, (K w.params).In base → base.Ns mainGlobals mg → FnOk l.prog w (K w.params) mg base (CX w) k fa fd [x] (sp w))
    (hsp : ∀ (w : World) (H : Hp) (a : Addr) (ns : List Int), ns.length ≤ n → Only H → SqL (K w.params) H a (ns.map V.int) → sp w [.ref a] H (fun v _ => v = .bl true) fun _ _ _ => False)
    (hCX : ∀ (w : World) (H : Hp) (s : Shared) (e : Value) (s' : Shared), CX w [] H s (fun _ _ _ => False) e s' → False) :
    PySem.W.WalkO q loose XP YP l.row.toRowW d [] (fun f vs => PySem.call f vs) := by
  refine Att.attach_call hn hdf fun w s₀ s₁ mg mb fa o pm cd doc a vs ns G Y ho hd hcd hmg hobj hints hlen hg => ?_
  have KX := hY w _ Y
  obtain ⟨fd, hb, hF⟩ := F w mg fa _ KX G.T.g hmg
  exact law_call KX G.T.g G.T.b G.T.builtins G.T.nolimit hg hobj hints (Nat.le_trans hlen hn2) hr hF hb (fun H hO hS => hsp w H a ns hlen hO hS) fun H e s' => hCX w H s₁ e s'
end L2
namespace L2
open PySem PySem.Spec PyProof.Rows
def defArgs (s : Stmt) : Arguments := match s with
  | .FunctionDef _ a _ _ _ _ _ _ _ _ => a
  | _ => { posonlyargs := [], args := [], vararg := none, kwonlyargs := [], kw_defaults := [], kwarg := none, defaults := [] }
def defBody (s : Stmt) : List Stmt := match s with
  | .FunctionDef _ _ b _ _ _ _ _ _ _ => b
  | _ => []
def defScope (s : Stmt) : Scope := match s with
  | .FunctionDef _ _ _ _ _ _ sc _ _ _ => sc
  | _ => { kind := .function, names := [], isGenerator := false, isCoroutine := false }
abbrev CX0 : CXT := fun _ _ _ _ _ _ => False
abbrev E0 : XK := fun _ _ _ => False
theorem pass0 {X : Cx} : Passes CX0 X E0 := fun _ _ _ _ _ _ _ h => h.elim
structure Fun (K : PySem.W.Frag) (x qual : Str) (st : Stmt) (f : Addr) (fd : FuncData) : Prop where
  ex : ∃ (oc : Value) (od : Option Addr) (kV doc pm : Value) (an : Option Addr) (cdv ct : Value) (osl : Array (Option Value)),
    fd = PySem.W.fnOf x qual (defArgs st) (defBody st) (defScope st) .none kV doc pm an cdv ct ∧ K.lookup f = some ⟨oc, od, .func fd, osl⟩ ∧ PySem.W.codeIn K cdv qual = true
  kp : PySem.W.keepIn K (.ref f) = true
section
variable {P : Program} {w : World} {K : PySem.W.Frag} {mg : Str → Option Value} {base : Heap}
theorem Fun.ok {x qual : Str} {st : Stmt} {f : Addr} {fd : FuncData} {N ps : List Str} {k : Nat} {sp : Sp} (F : Fun K x qual st f fd) (S : FnScope N ps (defScope st)) (len : ∀ vs H Q E, sp vs H Q E → vs.length = ps.length)
    (hbody : ∀ (cdv : Value) (A : Around) (outer : List Env) (s : Shared) (H : Hp) (vs : List V) (Q : VK) (E : XK), Room k (A.deeper (envOfC qual (defScope st) s.heap.objs.size f cdv)) → sp vs H Q E →
      ∃ t, PSs (cxOf CX0 P w K mg base N qual (defScope st) f cdv A outer s H E).nox (defBody st) t ∧ t { nx := fun _ H' => Q .non H', rt := Q } (start N vs) H) : FnOk P w K mg base CX0 (k + 1) f fd ps sp := by
  obtain ⟨oc, od, kV, doc, pm, an, cdv, ct, osl, rfl, lk, hcd⟩ := F.ex
  refine fn_of lk hcd S len fun A outer s H vs Q E hr hsp => ?_
  obtain ⟨t, h, q⟩ := hbody cdv A outer s H vs Q E hr hsp
  exact ⟨t, h.nox, q⟩
theorem Fun.binds {x qual : Str} {st : Stmt} {f : Addr} {fd : FuncData} {ps : List Str} (F : Fun K x qual st f fd)
    (h : ∀ (kV doc pm : Value) (an : Option Addr) (cdv ct : Value) (us : List Value), us.length = ps.length → bindArgs (PySem.W.fnOf x qual (defArgs st) (defBody st) (defScope st) .none kV doc pm an cdv ct) ⟨us, []⟩ = pure (ps.zip us)) : Binds K fd ps [] := by
  obtain ⟨oc, od, kV, doc, pm, an, cdv, ct, osl, rfl, lk, hcd⟩ := F.ex
  exact .all (h kV doc pm an cdv ct)
theorem fun_mk {x qual : Str} {st : Stmt} {f : Addr} {oc : Value} {od an : Option Addr} {osl : Array (Option Value)} {kV doc pm cdv ct : Value} (l : K.lookup f = some ⟨oc, od, .func (PySem.W.fnOf x qual (defArgs st) (defBody st) (defScope st) .none kV doc pm an cdv ct), osl⟩)
    (c : PySem.W.codeIn K cdv qual = true) (k : PySem.W.keepIn K (.ref f) = true) : Fun K x qual st f (PySem.W.fnOf x qual (defArgs st) (defBody st) (defScope st) .none kV doc pm an cdv ct) := ⟨⟨oc, od, kV, doc, pm, an, cdv, ct, osl, rfl, l, c⟩, k⟩
end
section
variable {X : Cx}
end
end L2
namespace L2
open PySem PySem.Spec PyProof.Rows
section
variable {κ : Type} [DecidableEq κ]
def valV (kvs : List (κ × V)) (k : κ) : Option V := (kvs.find? fun kv => decide (kv.1 = k)).map (·.2)
def putK (kvs : List (κ × V)) (k : κ) (v : V) : List (κ × V) :=
  if (kvs.any fun kv => decide (kv.1 = k)) = true then kvs.map (fun kv => if kv.1 = k then (kv.1, v) else kv) else kvs ++ [(k, v)]
theorem valV_pos {p : κ × V} {r : List (κ × V)} {k : κ} (e : p.1 = k) : valV (p :: r) k = some p.2 := by simp [valV, List.find?_cons, e]
theorem valV_neg {p : κ × V} {r : List (κ × V)} {k : κ} (e : ¬ p.1 = k) : valV (p :: r) k = valV r k := by simp [valV, List.find?_cons, e]
theorem valV_any (k : κ) : ∀ kvs : List (κ × V), (kvs.any fun kv => decide (kv.1 = k)) = (valV kvs k).isSome
  | [] => rfl
  | p :: r => by
    rw [List.any_cons]
    by_cases e : p.1 = k
    · simp only [valV_pos e, decide_eq_true e, Bool.true_or, Option.isSome_some]
    · rw [valV_neg e, decide_eq_false e, Bool.false_or]; exact valV_any k r
theorem length_putK (kvs : List (κ × V)) (k : κ) (v : V) : (putK kvs k v).length ≤ kvs.length + 1 := by
  unfold putK
  split
  · rw [List.length_map]; lia
  · rw [List.length_append, List.length_cons, List.length_nil]; lia
theorem RelO.isSome_eq {o : Option V} {u : Option Value} (r : RelO o u) : o.isSome = u.isSome := by
  cases o with
  | none => cases u with
    | none => rfl
    | some _ => exact (show False from r).elim
  | some _ => cases u with
    | none => exact (show False from r).elim
    | some _ => rfl
theorem KV.val {kvs : List (κ × V)} {vs : List (κ × Value)} (r : KV kvs vs) (k : κ) : RelO (valV kvs k) (valueAt vs k) := by
  unfold KV at r
  induction r with
  | nil => exact True.intro
  | @cons p q ps qs h t ih =>
    obtain ⟨h1, h2⟩ := h
    by_cases e : p.1 = k
    · have e' : q.1 = k := h1.symm.trans e
      have b : valueAt (q :: qs) k = some q.2 := by simp [valueAt, List.find?_cons, e']
      rw [valV_pos e, b]; exact h2
    · have e' : ¬ q.1 = k := fun z => e (h1.trans z)
      have b : valueAt (q :: qs) k = valueAt qs k := by simp [valueAt, List.find?_cons, e']
      rw [valV_neg e, b]; exact ih
theorem KV.any {kvs : List (κ × V)} {vs : List (κ × Value)} (r : KV kvs vs) (k : κ) : (kvs.any fun kv => decide (kv.1 = k)) = vs.any fun kv => decide (kv.1 = k) := by
  unfold KV at r
  induction r with
  | nil => rfl
  | cons h t ih => rw [List.any_cons, List.any_cons, ih, h.1]
theorem KV.repl {kvs : List (κ × V)} {vs : List (κ × Value)} (r : KV kvs vs) (k : κ) {y : V} {u : Value} (ry : RelV y u) :
    KV (kvs.map fun kv => if kv.1 = k then (kv.1, y) else kv) (vs.map fun kv => if kv.1 = k then (kv.1, u) else kv) := by
  unfold KV at r ⊢
  induction r with
  | nil => exact .nil
  | @cons p q ps qs h t ih =>
    rw [List.map_cons, List.map_cons]
    refine .cons ?_ ih
    obtain ⟨h1, h2⟩ := h
    by_cases e : p.1 = k
    · rw [if_pos e, if_pos (h1.symm.trans e)]; exact ⟨h1, ry⟩
    · rw [if_neg e, if_neg (fun z => e (h1.trans z))]; exact ⟨h1, h2⟩
theorem KV.put {kvs : List (κ × V)} {vs : List (κ × Value)} (r : KV kvs vs) (k : κ) {y : V} {u : Value} (ry : RelV y u) : KV (putK kvs k y) (stored vs k u) := by
  unfold putK stored
  rw [r.any k]
  by_cases e : (vs.any fun kv => decide (kv.1 = k)) = true
  · rw [if_pos e, if_pos e]; exact r.repl k ry
  · rw [if_neg e, if_neg e]; exact Paired.snoc r ⟨rfl, ry⟩
theorem KV.length {kvs : List (κ × V)} {vs : List (κ × Value)} (r : KV kvs vs) : kvs.length = vs.length := Paired.length r
end
theorem kV_is {P : Program} {w : World} {k : Key} {u : Value} (r : RelV (kV k) u) : (mixKind P w).is k u = true := by
  cases k with
  | inl i => obtain ⟨t, e⟩ := (show ∃ t, u = Value.int i t from r); subst e; exact mixKind_int P w i t
  | inr x => obtain ⟨t, e⟩ := (show ∃ t, u = Value.str x t from r); subst e; exact mixKind_str P w x t
theorem items_are {P : Program} {w : World} : ∀ {ks : List Key} {us : List Value}, Vals (ks.map kV) us → ItemsAre (mixKind P w) ks us
  | [], _, r => by rw [List.map_nil] at r; cases r; exact .nil
  | k :: ks, _, r => by
    rw [List.map_cons] at r
    cases r with
    | cons h t => exact .cons (kV_is h) (items_are t)
abbrev KT (H : Hp) : List (List Key × V) → List (List Key × Addr × Value) → Prop := Paired fun p q => p.1 = q.1 ∧ H q.2.1 = some (.tup (p.1.map kV)) ∧ RelV p.2 q.2.2
theorem KT.val {H : Hp} {kvs : List (List Key × V)} {xs : List (List Key × Addr × Value)} (r : KT H kvs xs) (k : List Key) : RelO (valV kvs k) ((atKey xs k).map (·.2)) := by
  induction r with
  | nil => exact True.intro
  | @cons p q ps qs h t ih =>
    obtain ⟨h1, _, h2⟩ := h
    by_cases e : p.1 = k
    · have e' : q.1 = k := h1.symm.trans e
      have b : atKey (q :: qs) k = some q.2 := by simp [atKey, List.find?_cons, e']
      rw [valV_pos e, b]; exact h2
    · have e' : ¬ q.1 = k := fun z => e (h1.trans z)
      have b : atKey (q :: qs) k = atKey qs k := by simp [atKey, List.find?_cons, e']
      rw [valV_neg e, b]; exact ih
theorem KT.repl {H : Hp} {kvs : List (List Key × V)} {xs : List (List Key × Addr × Value)} (r : KT H kvs xs) (k : List Key) {y : V} {u : Value} (ry : RelV y u) :
    KT H (kvs.map fun kv => if kv.1 = k then (kv.1, y) else kv) (xs.map (putAt k u)) := by
  induction r with
  | nil => exact .nil
  | @cons p q ps qs h t ih =>
    rw [List.map_cons, List.map_cons]
    refine .cons ?_ ih
    obtain ⟨h1, h2, h3⟩ := h
    unfold putAt
    by_cases e : p.1 = k
    · rw [if_pos e, if_pos (h1.symm.trans e)]; exact ⟨h1, h2, ry⟩
    · rw [if_neg e, if_neg (fun z => e (h1.trans z))]; exact ⟨h1, h2, h3⟩
theorem KT.put {H : Hp} {kvs : List (List Key × V)} {xs : List (List Key × Addr × Value)} (r : KT H kvs xs) (k : List Key) {b : Addr} {y : V} {u : Value} (hb : H b = some (.tup (k.map kV))) (ry : RelV y u) :
    KT H (putK kvs k y) (storedH xs k b u) := by
  have e : (kvs.any fun kv => decide (kv.1 = k)) = (atKey xs k).isSome := by
    rw [valV_any, (r.val k).isSome_eq, Option.isSome_map]
  unfold putK storedH
  rw [e]
  by_cases q : (atKey xs k).isSome = true
  · rw [if_pos q, if_pos q]; exact r.repl k ry
  · rw [if_neg q, if_neg q]; exact Paired.snoc r ⟨rfl, hb, ry⟩
theorem KT.keeps {H H' : Hp} {kvs : List (List Key × V)} {xs : List (List Key × Addr × Value)} (r : KT H kvs xs) (ht : ∀ b ys, H b = some (.tup ys) → H' b = some (.tup ys)) : KT H' kvs xs :=
  Paired.mapP r fun _ _ z => ⟨z.1, ht _ _ z.2.1, z.2.2⟩
section
variable {P : Program} {w : World} {H : Hp} {h : Heap} {a : Addr}
theorem rd_of {u : HO} (ok : HOk P w H h) (e : Rd H a u) : ObjOk P w H h a u := e.ok ok
theorem dk_rd {kvs : List (Key × V)} (ok : HOk P w H h) (e : Rd H a (.dK kvs)) : kvs.length ≤ sizeLine ∧ (a == sysModules) = false ∧ ∃ vs, KV kvs vs ∧ h.DictOf (mixKind P w) a vs :=
  show ObjOk P w H h a (.dK kvs) from rd_of ok e
theorem dk_of {kvs : List (Key × V)} (ok : HOk P w H h) (e : H a = some (.dK kvs)) : kvs.length ≤ sizeLine ∧ (a == sysModules) = false ∧ ∃ vs, KV kvs vs ∧ h.DictOf (mixKind P w) a vs := dk_rd ok (.inl e)
theorem key_of {ks : List Key} (ok : HOk P w H h) (e : H a = some (.tup (ks.map kV))) : (tupleKind (mixKind P w)).is h ks a := by
  obtain ⟨_, its, r, o, h1, h2, n, h3⟩ := (show ObjOk P w H h a (.tup (ks.map kV)) from ok a _ e)
  exact ⟨o, its.toArray, n, h1, h2, h3, by simpa using items_are r⟩
theorem dt_rd {kvs : List (List Key × V)} (ok : HOk P w H h) (e : Rd H a (.dT kvs)) : kvs.length ≤ sizeLine ∧ (a == sysModules) = false ∧
    ∃ xs, KT H kvs xs ∧ h.DictOfH (tupleKind (mixKind P w)) a xs := by
  obtain ⟨z, y, xs, r, o, es, ep, h1, h2, h3, h4, h5⟩ := (show ObjOk P w H h a (.dT kvs) from rd_of ok e)
  refine ⟨z, y, xs, r, o, es, ep, h1, h2, h3, h4, fun x hx => ?_, h5⟩
  have all : ∀ {l : List (List Key × V)} {m : List (List Key × Addr × Value)}, KT H l m → ∀ x ∈ m, (tupleKind (mixKind P w)).is h x.1 x.2.1 := by
    intro l m q
    induction q with
    | nil => intro x hx; exact nomatch hx
    | @cons p q ps qs hq t ih =>
      intro x hx
      rcases List.mem_cons.mp hx with e | hx
      · subst e
        exact key_of ok (by rw [← hq.1]; exact hq.2.1)
      · exact ih x hx
  exact all r x hx
theorem dt_of {kvs : List (List Key × V)} (ok : HOk P w H h) (e : H a = some (.dT kvs)) : kvs.length ≤ sizeLine ∧ (a == sysModules) = false ∧
    ∃ xs, KT H kvs xs ∧ h.DictOfH (tupleKind (mixKind P w)) a xs := dt_rd ok (.inl e)
end
def DGet (H : Hp) (a : Addr) (y : V) (r : Option V) : Prop :=
  (∃ kvs k, Rd H a (.dK kvs) ∧ y = kV k ∧ r = valV kvs k) ∨ ∃ kvs k b, Rd H a (.dT kvs) ∧ y = .ref b ∧ H b = some (.tup (k.map kV)) ∧ r = valV kvs k
def DPut (H : Hp) (a : Addr) (y v : V) (H' : Hp) : Prop :=
  (∃ kvs k, H a = some (.dK kvs) ∧ y = kV k ∧ kvs.length < sizeLine ∧ H' = upd H a (.dK (putK kvs k v))) ∨
  ∃ kvs k b, H a = some (.dT kvs) ∧ y = .ref b ∧ H b = some (.tup (k.map kV)) ∧ kvs.length < sizeLine ∧ H' = upd H a (.dT (putK kvs k v))
section
variable {X : Cx} {pins : List (Addr × Obj)} {σ : St} {H : Hp} {s : Shared} {a : Addr} {y v : V} {u r : Value} {o : Option V} {A : Around} {E : Value → Shared → Prop}
theorem Inv.big (I : Inv X pins σ H s) : sysModules < s.heap.objs.size := by
  have h : mainGlobals < s.heap.objs.size := (I.mod.glob.keeps I.bk).lt
  exact Nat.lt_trans (by decide) h
theorem d_getItem {Q : Value → Shared → Prop} (hu : A.units + 1 < cLine) (I : Inv X pins σ H s) (g : DGet H a y (some v)) (ry : RelV y u) (h : ∀ w' s', Inv X pins σ H s' → RelV v w' → Q w' s') :
    wpAny (model X.prog X.w) A (getItem (.ref a) u) Q E s := by
  rcases g with ⟨kvs, k, e, ey, l⟩ | ⟨kvs, k, b, e, ey, eb, l⟩
  · subst ey
    obtain ⟨z, hd, vs, rel, dd⟩ := dk_rd I.hok e
    obtain ⟨w', hw, rw'⟩ := RelO.some_of (v := v) (o := valueAt vs k) (by rw [l]; exact rel.val k)
    exact wpAny_getItem_of (kV_is ry) dd.mapOf hw (h w' _ (I.tok _) rw')
  · subst ey
    cases (show u = Value.ref b from ry)
    obtain ⟨z, hd, xs, rel, dd⟩ := dt_rd I.hok e
    obtain ⟨w', hw, rw'⟩ := RelO.some_of (v := v) (o := (atKey xs k).map (·.2)) (by rw [l]; exact rel.val k)
    obtain ⟨p, hp, hp2⟩ := Option.map_eq_some_iff.mp hw
    refine wpAny_getItem_heap (tupleKind_room_in1 hu) (key_of I.hok eb) dd hp ?_
    rw [hp2]
    exact h w' _ (I.tok _) rw'
theorem d_write {h' : Heap} {t' : Nat} {ob : HO} (I : Inv X pins σ H s) (mu : Mut (H a)) (hs : Heap.SameBut a s.heap h') (he : ∃ q, h'.get? a = some q) (new : ObjOk X.prog X.w (upd H a ob) h' a ob) :
    Inv X pins σ (upd H a ob) { s with heap := h', toks := t' } :=
  I.write (x := a) (e := a) mu (.inl rfl) (fun b q hb z => (hs.2 b hb).trans z) he new
theorem dk_new {P : Program} {w : World} {H' : Hp} {h' : Heap} {kvs : List (Key × V)} {vs : List (Key × Value)} (z : kvs.length ≤ sizeLine) (hd : (a == sysModules) = false) (rel : KV kvs vs) (dd : h'.DictOf (mixKind P w) a vs) :
    ObjOk P w H' h' a (.dK kvs) := ⟨z, hd, vs, rel, dd⟩
theorem d_setItem {H' : Hp} {Q : Unit → Shared → Prop} (hu : A.units + 1 < cLine) (I : Inv X pins σ H s) (g : DPut H a y v H') (ry : RelV y u) (rv : RelV v r) (h : ∀ s', Inv X pins σ H' s' → Q () s') :
    wpAny (model X.prog X.w) A (setItem (.ref a) u r) Q E s := by
  rcases g with ⟨kvs, k, e, ey, l, eH⟩ | ⟨kvs, k, b, e, ey, eb, l, eH⟩
  · subst ey eH
    obtain ⟨z, hd, vs, rel, dd⟩ := dk_of I.hok e
    have hz : vs.length ≤ sizeLine := by rw [← rel.length]; exact z
    have hl : (putK kvs k v).length ≤ sizeLine := by have := length_putK kvs k v; lia
    refine wpAny_setItem_pairs (hsz := hz) (kV_is ry) dd fun h' dd' hs => h _ ?_
    have he : ∃ q, h'.get? a = some q := let ⟨q, _, _, hq, _⟩ := dd'; ⟨q, hq⟩
    exact d_write I (by rw [e]; exact True.intro) hs he (dk_new hl hd (rel.put k rv) dd')
  · subst ey eH
    cases (show u = Value.ref b from ry)
    obtain ⟨z, hd, xs, rel, dd⟩ := dt_of I.hok e
    have hz : xs.length ≤ sizeLine := by rw [← Paired.length rel]; exact z
    have hl : (putK kvs k v).length ≤ sizeLine := by have := length_putK kvs k v; lia
    refine wpAny_setItem_heap (hsz := hz) (tupleKind_room_in1 hu) (key_of I.hok eb) dd fun h' dd' hs => h _ ?_
    obtain ⟨q, es, ep, hq, h2, h3, h4, _, h5⟩ := dd'
    refine d_write I (by rw [e]; exact True.intro) hs ⟨q, hq⟩ ⟨hl, hd, _, (rel.put k eb rv).keeps fun c ys ec => ?_, q, es, ep, hq, h2, h3, h4, h5⟩
    rw [upd_ne (ne_of ec e (fun z => nomatch z))]
    exact ec
end
section
variable {X : Cx} {pins : List (Addr × Obj)} {σ : St} {H : Hp} {s : Shared} {a : Addr} {kvs : List (Key × V)} {k : Key} {u : Value} {A : Around} {E : Value → Shared → Prop}
end
def NoSl (i : Expr) : Prop := ∀ ov iv, subscripted i false ov iv = operate [ov, iv] (getItem ov iv)
theorem subD_of {prog : Program} {w : World} {A : Around} {E : Value → Shared → Prop} {s : Shared} {env : Env} {value slice : Expr} {pos : Pos} {T id : String} {Q : Value → Shared → Prop}
    (hl : typeLookup (.type T) "__getitem__" = pure (some (.builtin id))) (hs : NoSl slice)
    (h : wpAny (model prog w) A (eval value env) (fun o s₁ => wpAny (model prog w) A (eval slice env) (fun i s₂ => s₂.TypeIs o T ∧ wpAny (model prog w) A (getItem o i) Q E s₂) E s₁) E s) :
    wpAny (model prog w) A (eval (.Subscript value slice pos) env) Q E s := by
  refine Subscript_ (wpAny_mono h (fun o s₁ h₁ => wpAny_mono h₁ (fun i s₂ h₂ => ?_) fun _ _ x => x) fun _ _ x => x)
  obtain ⟨hT, h₂⟩ := h₂
  unfold subscriptTail
  refine wpAny_bind ?_
  rw [getitemInPython_of_ne hT.not_modules]
  refine wpAny_bind (wpAny_specialOf hT hl ?_)
  have fin : wpAny (model prog w) A (subscripted slice false o i) (fun r s₃ => wpAny (model prog w) A (letTemporaryGo value o r >>= fun _ => pure r) Q E s₃) E s₂ := by
    rw [hs o i]
    exact wpAny_operating (wpAny_mono h₂ (fun r s₃ h₃ => wpAny_bind (wpAny_letTemporaryGo (wpAny_pure h₃))) fun _ _ x => x)
  first
    | exact wpAny_pure (wpAny_bind fin)
    | exact wpAny_bind (wpAny_pure (wpAny_bind fin))
    | exact wpAny_bind fin
theorem dict_typeIs {X : Cx} {pins : List (Addr × Obj)} {σ : St} {H : Hp} {s : Shared} {a : Addr} {y : V} {o : Option V} (I : Inv X pins σ H s) (g : DGet H a y o) : s.TypeIs (.ref a) "dict" := by
  rcases g with ⟨kvs, k, e, _, _⟩ | ⟨kvs, k, b, e, _, _, _⟩
  · obtain ⟨_, _, vs, _, dd⟩ := dk_rd I.hok e
    exact dd.typeIs
  · obtain ⟨_, _, xs, _, dd⟩ := dt_rd I.hok e
    exact dd.typeIs
def tDGet (td ty : TE) : TE := fun σ H Q => td σ H fun x H1 => ty σ H1 fun y H2 => ∃ a v, x = .ref a ∧ DGet H2 a y (some v) ∧ Q v H2
def sDPut (td ty tv : TE) : TS := fun D σ H => tv σ H fun v H1 => td σ H1 fun x H2 => ty σ H2 fun y H3 => ∃ a H4, x = .ref a ∧ DPut H3 a y v H4 ∧ D.nx σ H4
section
variable {X : Cx} {o i e value : Expr} {pos pos' tpos : Pos} {td ty tv : TE}
theorem pe_dget (hu : X.A.units + 1 < cLine) (ho : PE X o td) (hi : PE X i ty) (hs : NoSl i) : PE X (.Subscript o i pos) (tDGet td ty) := by
  intro pins s σ H Q I h
  refine subD_of PySem.F.slot_dict_getitem.lookup hs (thn (ho pins s σ H _ I h) fun u s1 ⟨x, H1, I1, rx, q1⟩ => thn (hi pins s1 σ H1 _ I1 q1) fun iv s2 ⟨y, H2, I2, ry, a, v, ex, g, q2⟩ => ?_)
  subst ex
  obtain rfl : u = Value.ref a := rx
  exact ⟨dict_typeIs I2 g, d_getItem hu I2 g ry fun w' s3 I3 rw' => ⟨v, H2, I3, rw', q2⟩⟩
theorem ps_dput (hu : X.A.units + 1 < cLine) (ho : PE X o td) (hi : PE X i ty) (hv : PE X value tv) (hs : swapsWith value (some (.Subscript o i pos')) pos.line X.env = pure false) :
    PS X (.Assign [.Subscript o i pos'] value pos) (sDPut td ty tv) := by
  intro pins s σ H D I h
  refine wpAny_Assign_Subscript (thn (hv pins s σ H _ I h) fun r s1 ⟨v, H1, I1, rv, q1⟩ => thn (ho pins s1 σ H1 _ I1 q1) fun u s2 ⟨x, H2, I2, rx, q2⟩ => thn (hi pins s2 σ H2 _ I2 q2) fun iv s3 ⟨y, H3, I3, ry, a, H4, ex, g, q3⟩ => ?_) hs
  subst ex
  obtain rfl : u = Value.ref a := rx
  exact d_setItem hu I3 g ry rv fun s4 I4 => ⟨σ, H4, I4, q3⟩
end
theorem dk_empty {P : Program} {w : World} {H : Hp} (h : Heap) (hb : sysModules < h.objs.size) : ObjOk P w H (h.push { cls := .type "dict", data := .dict #[] }) h.objs.size (.dK []) :=
  ⟨Nat.zero_le _, beq_eq_false_iff_ne.mpr (Ne.symm (Nat.ne_of_lt hb)), [], .nil, Heap.DictOf.new h⟩
def tDNewK : TE := fun _ H Q => ∀ p, H p = none → Q (.ref p) (upd H p (.dK []))
section
variable {X : Cx} {pos : Pos}
theorem pe_dnewK : PE X (.Dict [] [] pos) tDNewK := fun pins s σ H Q I h =>
  wpAny_Dict_empty ⟨.ref s.heap.objs.size, _, I.laid (a := s.heap.objs.size) (o := .dK []) (t' := s.toks) (fun _ _ q => Heap.get?_push_of_some _ q) (Nat.le_refl _) (dk_empty s.heap I.big), rfl, h _ (I.hok.fresh (Nat.le_refl _))⟩
end
def tPairs : List (TE × TE) → St → Hp → (List (V × V) → Hp → Prop) → Prop
  | [], _, H, Q => Q [] H
  | (tk, tv) :: r, σ, H, Q => tk σ H fun x H1 => tv σ H1 fun y H2 => tPairs r σ H2 fun ps H3 => Q ((x, y) :: ps) H3
abbrev VV : List (V × V) → List (Value × Value) → Prop := Paired fun p q => RelV p.1 q.1 ∧ RelV p.2 q.2
def PPs (X : Cx) (pos : Pos) (keys : List (Option Expr)) (values : List Expr) (trs : List (TE × TE)) : Prop :=
  ∀ (pins : List (Addr × Obj)) (s : Shared) (σ : St) (H : Hp) (Q : List (V × V) → Hp → Prop), Inv X pins σ H s → tPairs trs σ H Q →
    wpAny (model X.prog X.w) X.A (evalPairs (pairTrees keys values X.env pos)) (fun vs s' => ∃ ps H', Inv X pins σ H' s' ∧ VV ps vs ∧ Q ps H') X.xe s
theorem pps_nil {X : Cx} {pos : Pos} : PPs X pos [] [] [] := fun pins s σ H Q I h => pairTrees_nil_walk ⟨[], H, I, .nil, h⟩
theorem pps_cons {X : Cx} {pos : Pos} {k v : Expr} {ks : List (Option Expr)} {vs : List Expr} {tk tv : TE} {trs : List (TE × TE)} (hk : PE X k tk) (hv : PE X v tv) (hr : PPs X pos ks vs trs) :
    PPs X pos (some k :: ks) (v :: vs) ((tk, tv) :: trs) := fun pins s σ H Q I h =>
  pairTrees_cons_walk (thn (hk pins s σ H _ I h) fun u s1 ⟨x, H1, I1, rx, q1⟩ => thn (hv pins s1 σ H1 _ I1 q1) fun w2 s2 ⟨y, H2, I2, ry, q2⟩ =>
    thn (hr pins s2 σ H2 _ I2 q2) fun ws s3 ⟨ps, H3, I3, rel, q3⟩ => ⟨(x, y) :: ps, H3, I3, .cons ⟨rx, ry⟩ rel, q3⟩)
def mergeK (kvs more : List (Key × V)) : List (Key × V) := more.foldl (fun acc kv => putK acc kv.1 kv.2) kvs
theorem KV.merge : ∀ {more : List (Key × V)} {rs : List (Key × Value)} {kvs : List (Key × V)} {vs : List (Key × Value)}, KV more rs → KV kvs vs → KV (mergeK kvs more) (merged vs rs) := by
  intro more rs kvs vs r
  unfold KV at r
  induction r generalizing kvs vs with
  | nil => intro q; exact q
  | @cons p q ps qs h t ih =>
    intro r0
    have e : KV (putK kvs p.1 p.2) (stored vs q.1 q.2) := by
      have := r0.put p.1 h.2
      rw [← h.1]; exact this
    exact ih e
theorem length_mergeK : ∀ (more kvs : List (Key × V)), (mergeK kvs more).length ≤ kvs.length + more.length
  | [], kvs => by show kvs.length ≤ kvs.length + 0; lia
  | p :: r, kvs => by
    have h1 := length_mergeK r (putK kvs p.1 p.2)
    have h2 := length_putK kvs p.1 p.2
    show (mergeK (putK kvs p.1 p.2) r).length ≤ _
    rw [List.length_cons]; lia
theorem carries_of {P : Program} {w : World} : ∀ {kvs : List (Key × V)} {ws : List (Value × Value)}, VV (kvs.map fun kv => (kV kv.1, kv.2)) ws → ∃ rs, Carries (mixKind P w) ws rs ∧ KV kvs rs
  | [], _, r => by rw [List.map_nil] at r; cases r; exact ⟨[], True.intro, .nil⟩
  | p :: kvs, _, r => by
    rw [List.map_cons] at r
    cases r with
    | @cons a b as bs h t =>
      obtain ⟨rs, c, q⟩ := carries_of (P := P) (w := w) t
      obtain ⟨b1, b2⟩ := b
      exact ⟨(p.1, b2) :: rs, ⟨kV_is h.1, rfl, c⟩, .cons ⟨rfl, h.2⟩ q⟩
def tDisp (trs : List (TE × TE)) : TE := fun σ H Q => ∀ p, H p = none → tPairs trs σ (upd H p (.dK [])) fun ps H2 => H2 p = some (.dK []) ∧ ∃ kvs : List (Key × V), ps = kvs.map (fun kv => (kV kv.1, kv.2)) ∧ kvs.length ≤ 15 ∧ Q (.ref p) (upd H2 p (.dK (mergeK [] kvs)))
theorem pe_disp {X : Cx} {pos : Pos} {keys : List (Option Expr)} {values : List Expr} {trs : List (TE × TE)} (h : PPs X pos keys values trs) (hall : keys.all (·.isSome) = true) (hl : keys.length = values.length) (h0 : keys ≠ [])
    (h15 : keys.length ≤ 15) : PE X (.Dict keys values pos) (tDisp trs) := by
  intro pins s σ H Q I q
  have hn := I.hok.fresh (Nat.le_refl s.heap.objs.size)
  have I1 := I.laid (a := s.heap.objs.size) (o := .dK []) (h' := s.heap.push { cls := .type "dict", data := .dict #[] }) (t' := s.toks) (fun _ _ q => Heap.get?_push_of_some _ q) (Nat.le_refl _) (dk_empty s.heap I.big)
  refine wpAny_Dict_walk (knd := mixKind X.prog X.w) hall hl h0 h15 (thn (h pins _ σ _ _ I1 (q _ hn)) fun ws s2 ⟨ps, H2, I2, rel, e, kvs, ep, lk, q2⟩ => ?_)
  subst ep
  obtain ⟨rs, c, rk⟩ := carries_of (P := X.prog) (w := X.w) rel
  obtain ⟨z, hd, vs0, r0, dd⟩ := dk_of I2.hok e
  cases r0
  refine ⟨rs, c, dd, fun h' dd' hs => ⟨.ref s.heap.objs.size, _, ?_, rfl, q2⟩⟩
  have hz : (mergeK [] kvs).length ≤ sizeLine := by
    have h1 := length_mergeK kvs []
    rw [List.length_nil] at h1
    rw [sizeLine_eq]; lia
  have he : ∃ q, h'.get? s.heap.objs.size = some q := let ⟨q, _, _, hq, _⟩ := dd'; ⟨q, hq⟩
  exact d_write I2 (by rw [e]; exact True.intro) hs he (dk_new hz hd (rk.merge .nil) dd')
section
variable {X : Cx} {pins : List (Addr × Obj)} {σ : St} {H : Hp} {s : Shared} {a : Addr} {y d : V} {u r : Value} {o : Option V} {A : Around} {E : Value → Shared → Prop}
end
section
variable {X : Cx} {o e f : Expr} {apos cpos : Pos} {td ty tx : TE}
end
section
variable {X : Cx} {pins : List (Addr × Obj)} {σ : St} {H : Hp} {s : Shared} {a : Addr} {kvs : List (Key × V)} {A : Around} {E : Value → Shared → Prop}
end
section
variable {X : Cx} {pins : List (Addr × Obj)} {σ : St} {H : Hp} {s : Shared} {a : Addr} {y : V} {u : Value} {A : Around} {E : Value → Shared → Prop}
end
end L2
namespace L2
open PySem PySem.Spec PyProof.Rows
section
variable {X : Cx}
end
section
variable {κ : Type} [DecidableEq κ]
end
end L2
namespace L3
open PySem PySem.Spec PyProof.Rows L2
inductive D where
  | non | bl (b : Bool) | int (i : Int) | str (x : Str) | ty (n : String) | ref (a : Addr)
  | tup (xs : List D) | lst (xs : List D) | dct (kvs : List (Key × D))
inductive MO where
  | lst (xs : List D) | dct (kvs : List (Key × D)) | dt (kvs : List (List Int × D))
abbrev Mem := Addr → Option MO
def mput (M : Mem) (a : Addr) (o : MO) : Mem := fun b => if b = a then some o else M b
def mdel (M : Mem) (a : Addr) : Mem := fun b => if b = a then none else M b
theorem mput_same {M : Mem} {a : Addr} {o : MO} : mput M a o a = some o := by unfold mput; rw [if_pos rfl]
theorem mput_ne {M : Mem} {a b : Addr} {o : MO} (h : b ≠ a) : mput M a o b = M b := by unfold mput; rw [if_neg h]
theorem mput_mput {M : Mem} {a : Addr} {o u : MO} : mput (mput M a o) a u = mput M a u := by
  funext b; unfold mput; split <;> rfl
def KLst (K : PySem.W.Frag) (a : Addr) (xs : List V) : Prop :=
  ∃ (o : Obj) (its : Array Value) (n : Nat), K.lookup a = some o ∧ o.cls = .type "list" ∧ o.dict = none ∧ o.data = .seq its n ∧ its.size ≤ sizeLine ∧ Vals xs its.toList
def KTup (K : PySem.W.Frag) (a : Addr) (xs : List V) : Prop :=
  ∃ (o : Obj) (its : Array Value) (n : Nat), K.lookup a = some o ∧ o.cls = .type "tuple" ∧ o.data = .seq its n ∧ its.size ≤ sizeLine ∧ Vals xs its.toList
def Fix (M : Mem) (H : Hp) (a : Addr) (o : HO) : Prop := Rd H a o ∧ M a = none
mutual
inductive Rep (K : PySem.W.Frag) (M : Mem) (H : Hp) : D → V → Prop
  | non : Rep K M H .non .non
  | bl {b : Bool} : Rep K M H (.bl b) (.bl b)
  | int {i : Int} : Rep K M H (.int i) (.int i)
  | str {x : Str} : Rep K M H (.str x) (.str x)
  | ty {n : String} : Rep K M H (.ty n) (.ty n)
  | ref {a : Addr} : Rep K M H (.ref a) (.ref a)
  | tup {a : Addr} {ds : List D} {vs : List V} : (Fix M H a (.tup vs) ∨ KTup K a vs) → Reps K M H ds vs → Rep K M H (.tup ds) (.ref a)
  | lst {a : Addr} {ds : List D} {vs : List V} : (Fix M H a (.lst vs) ∨ KLst K a vs) → Reps K M H ds vs → Rep K M H (.lst ds) (.ref a)
  | dct {a : Addr} {ds : List (Key × D)} {vs : List (Key × V)} : Fix M H a (.dK vs) → RepK K M H ds vs → Rep K M H (.dct ds) (.ref a)
inductive Reps (K : PySem.W.Frag) (M : Mem) (H : Hp) : List D → List V → Prop
  | nil : Reps K M H [] []
  | cons {d : D} {v : V} {ds : List D} {vs : List V} : Rep K M H d v → Reps K M H ds vs → Reps K M H (d :: ds) (v :: vs)
inductive RepK (K : PySem.W.Frag) (M : Mem) (H : Hp) : List (Key × D) → List (Key × V) → Prop
  | nil : RepK K M H [] []
  | cons {k : Key} {d : D} {v : V} {ds : List (Key × D)} {vs : List (Key × V)} : Rep K M H d v → RepK K M H ds vs → RepK K M H ((k, d) :: ds) ((k, v) :: vs)
end
def entD (x : List Int × Addr × Value) : DictEntry := ⟨reduceHash (Builtin.Tuple.tupleHashOf (x.1.map hashInt)), .ref x.2.1, x.2.2⟩
def dtφ (a : Addr) (xs : List (List Int × Addr × Value)) : Heap → Prop := fun h => (a == sysModules) = false ∧ ∃ o es ep, h.get? a = some o ∧ o.ExactDict ∧ o.data = .dict es ep ∧ es.toList = xs.map entD ∧ (xs.map (·.1)).Nodup
inductive RepT (K : PySem.W.Frag) (M : Mem) (H : Hp) : List (List Int × D) → List (List Int × Addr × Value) → Prop
  | nil : RepT K M H [] []
  | cons {k : List Int} {b : Addr} {d : D} {v : V} {u : Value} {ds : List (List Int × D)} {xs : List (List Int × Addr × Value)} : Rep K M H (.tup (k.map D.int)) (.ref b) → Rep K M H d v → RelV v u → RepT K M H ds xs → RepT K M H ((k, d) :: ds) ((k, b, u) :: xs)
def RepO (K : PySem.W.Frag) (M : Mem) (H : Hp) (a : Addr) : MO → HO → Prop
  | .lst ds, .lst vs => Reps K M H ds vs
  | .dct ds, .dK vs => RepK K M H ds vs
  | .dt ds, .ext φ => ∃ xs, φ = dtφ a xs ∧ RepT K M H ds xs
  | _, _ => False
def MRel (K : PySem.W.Frag) (M : Mem) (H : Hp) : Prop := ∀ a o, M a = some o → ∃ ho, H a = some ho ∧ RepO K M H a o ho
structure Step (M : Mem) (H : Hp) (M' : Mem) (H' : Hp) : Prop where
  keep : ∀ a o, H a = some o → M a = none → H' a = some o
  dom : ∀ a, M' a ≠ none → M a ≠ none ∨ H a = none
theorem Step.refl {M : Mem} {H : Hp} : Step M H M H := ⟨fun _ _ h _ => h, fun _ h => .inl h⟩
theorem Step.gone {M M' : Mem} {H H' : Hp} (s : Step M H M' H') {a : Addr} {o : HO} (h : H a = some o) (hm : M a = none) : M' a = none := by
  cases e : M' a with
  | none => rfl
  | some u =>
    rcases s.dom a (by rw [e]; intro z; cases z) with z | z
    · exact absurd hm z
    · rw [h] at z; cases z
theorem Step.trans {M M1 M2 : Mem} {H H1 H2 : Hp} (a : Step M H M1 H1) (b : Step M1 H1 M2 H2) : Step M H M2 H2 where
  keep := fun c o h hm => b.keep c o (a.keep c o h hm) (a.gone h hm)
  dom := fun c h => by
    rcases b.dom c h with z | z
    · exact a.dom c z
    · cases e : H c with
      | none => exact .inr rfl
      | some o =>
        refine .inl fun hm => ?_
        rw [a.keep c o e hm] at z; cases z
theorem Fix.mono {M M' : Mem} {H H' : Hp} {a : Addr} {o : HO} (s : Step M H M' H') (f : Fix M H a o) : Fix M' H' a o := by
  obtain ⟨r, hm⟩ := f
  rcases r with r | ⟨ob, r⟩
  · exact ⟨.inl (s.keep _ _ r hm), s.gone r hm⟩
  · exact ⟨.inr ⟨ob, s.keep _ _ r hm⟩, s.gone r hm⟩
section
variable {K : PySem.W.Frag} {M M' : Mem} {H H' : Hp}
theorem Rep.mono {d : D} {v : V} (s : Step M H M' H') (r : Rep K M H d v) : Rep K M' H' d v :=
  Rep.rec (motive_1 := fun d v _ => Rep K M' H' d v) (motive_2 := fun ds vs _ => Reps K M' H' ds vs) (motive_3 := fun ds vs _ => RepK K M' H' ds vs)
    .non .bl .int .str .ty .ref (fun h _ ih => .tup (h.imp (Fix.mono s) id) ih) (fun h _ ih => .lst (h.imp (Fix.mono s) id) ih) (fun h _ ih => .dct (h.mono s) ih)
    .nil (fun _ _ a b => .cons a b) .nil (fun _ _ a b => .cons a b) r
theorem Reps.mono {ds : List D} {vs : List V} (s : Step M H M' H') (r : Reps K M H ds vs) : Reps K M' H' ds vs := by
  induction ds generalizing vs with
  | nil => cases r; exact .nil
  | cons d ds ih => cases r with | cons a b => exact .cons (a.mono s) (ih b)
theorem RepK.mono {ds : List (Key × D)} {vs : List (Key × V)} (s : Step M H M' H') (r : RepK K M H ds vs) : RepK K M' H' ds vs := by
  induction ds generalizing vs with
  | nil => cases r; exact .nil
  | cons d ds ih => cases r with | cons a b => exact .cons (a.mono s) (ih b)
theorem RepT.mono {ds : List (List Int × D)} {xs : List (List Int × Addr × Value)} (s : Step M H M' H') (r : RepT K M H ds xs) : RepT K M' H' ds xs := by
  induction r with
  | nil => exact .nil
  | cons a b c _ ih => exact .cons (a.mono s) (b.mono s) c ih
theorem Reps.length {ds : List D} {vs : List V} (r : Reps K M H ds vs) : ds.length = vs.length := by
  induction ds generalizing vs with
  | nil => cases r; rfl
  | cons d ds ih => cases r with | cons a b => rw [List.length_cons, List.length_cons, ih b]
theorem Reps.get {ds : List D} {vs : List V} (r : Reps K M H ds vs) {i : Nat} {d : D} (h : ds[i]? = some d) : ∃ v, vs[i]? = some v ∧ Rep K M H d v := by
  induction ds generalizing vs i with
  | nil => simp at h
  | cons d' ds ih =>
    cases r with
    | cons a b =>
      cases i with
      | zero => simp at h; subst h; exact ⟨_, rfl, a⟩
      | succ i => simpa using ih b (by simpa using h)
theorem Reps.append {ds es : List D} {vs us : List V} (r : Reps K M H ds vs) (q : Reps K M H es us) : Reps K M H (ds ++ es) (vs ++ us) := by
  induction ds generalizing vs with
  | nil => cases r; exact q
  | cons d ds ih => cases r with | cons a b => exact .cons a (ih b)
theorem Reps.take {ds : List D} {vs : List V} (r : Reps K M H ds vs) (n : Nat) : Reps K M H (ds.take n) (vs.take n) := by
  induction ds generalizing vs n with
  | nil => cases r; simp; exact .nil
  | cons d ds ih => cases r with | cons a b => cases n with
    | zero => simp; exact .nil
    | succ n => simpa using Reps.cons a (ih b n)
theorem Reps.drop {ds : List D} {vs : List V} (r : Reps K M H ds vs) (n : Nat) : Reps K M H (ds.drop n) (vs.drop n) := by
  induction ds generalizing vs n with
  | nil => cases r; simp; exact .nil
  | cons d ds ih => cases r with | cons a b => cases n with
    | zero => exact .cons a b
    | succ n => simpa using ih b n
theorem Reps.ints {ns : List Int} : Reps K M H (ns.map D.int) (ns.map V.int) := by
  induction ns with
  | nil => exact .nil
  | cons n ns ih => exact .cons .int ih
theorem MRel.free (m : MRel K M H) {a : Addr} (h : H a = none) : M a = none := by
  cases e : M a with
  | none => rfl
  | some o => obtain ⟨ho, z, _⟩ := m a o e; rw [h] at z; cases z
end
abbrev Lo := List (Option D)
structure SRel (K : PySem.W.Frag) (M : Mem) (H : Hp) (σ : Lo) (σv : L2.St) : Prop where
  len : σ.length = σv.length
  get : ∀ (i : Nat) (d : D), σ[i]? = some (some d) → ∃ v, σv[i]? = some (some v) ∧ Rep K M H d v
theorem SRel.mono {K : PySem.W.Frag} {M M' : Mem} {H H' : Hp} {σ : Lo} {σv : L2.St} (s : Step M H M' H') (r : SRel K M H σ σv) : SRel K M' H' σ σv :=
  ⟨r.len, fun i d h => let ⟨v, e, q⟩ := r.get i d h; ⟨v, e, q.mono s⟩⟩
theorem SRel.set {K : PySem.W.Frag} {M : Mem} {H : Hp} {σ : Lo} {σv : L2.St} (r : SRel K M H σ σv) {d : D} {v : V} (q : Rep K M H d v) (i : Nat) : SRel K M H (σ.set i (some d)) (σv.set i (some v)) := by
  refine ⟨by simp [r.len], fun j e h => ?_⟩
  rw [List.getElem?_set] at h
  rw [List.getElem?_set, ← r.len]
  by_cases hij : i = j
  · rw [if_pos hij] at h ⊢
    by_cases hl : j < σ.length
    · rw [hij, if_pos hl] at h
      rw [hij, if_pos hl]
      cases h
      exact ⟨v, rfl, q⟩
    · rw [hij, if_neg hl] at h; cases h
  · rw [if_neg hij] at h ⊢
    exact r.get j e h
abbrev DK := D → Mem → Prop
abbrev TE3 := Lo → Mem → DK → Prop
abbrev TT3 := Lo → Mem → (Bool → Mem → Prop) → Prop
abbrev TA3 := Lo → Mem → (List D → Mem → Prop) → Prop
structure Ends3 where
  nx : Lo → Mem → Prop
  rt : DK
  bk : Lo → Mem → Prop := fun _ _ => False
  ct : Lo → Mem → Prop := fun _ _ => False
abbrev TS3 := Ends3 → Lo → Mem → Prop
def EP3 (X : Cx) (pins : List (Addr × Obj)) (σv : L2.St) (M : Mem) (H : Hp) (Q : DK) (u : Value) (s' : Shared) : Prop :=
  ∃ d v M' H', Inv X pins σv H' s' ∧ Step M H M' H' ∧ MRel X.K M' H' ∧ RelV v u ∧ Rep X.K M' H' d v ∧ Q d M'
def TP3 (X : Cx) (pins : List (Addr × Obj)) (σv : L2.St) (M : Mem) (H : Hp) (Q : Bool → Mem → Prop) (b : Bool) (s' : Shared) : Prop :=
  ∃ M' H', Inv X pins σv H' s' ∧ Step M H M' H' ∧ MRel X.K M' H' ∧ Q b M'
def AP3 (X : Cx) (pins : List (Addr × Obj)) (σv : L2.St) (M : Mem) (H : Hp) (Q : List D → Mem → Prop) (us : List Value) (s' : Shared) : Prop :=
  ∃ ds vs M' H', Inv X pins σv H' s' ∧ Step M H M' H' ∧ MRel X.K M' H' ∧ Vals vs us ∧ Reps X.K M' H' ds vs ∧ Q ds M'
def SP3 (X : Cx) (pins : List (Addr × Obj)) (M : Mem) (H : Hp) (T : Ends3) (f : Flow) (s' : Shared) : Prop :=
  match f with
  | .next => ∃ σ' σv' M' H', Inv X pins σv' H' s' ∧ Step M H M' H' ∧ MRel X.K M' H' ∧ SRel X.K M' H' σ' σv' ∧ T.nx σ' M'
  | .brk => ∃ σ' σv' M' H', Inv X pins σv' H' s' ∧ Step M H M' H' ∧ MRel X.K M' H' ∧ SRel X.K M' H' σ' σv' ∧ T.bk σ' M'
  | .cont => ∃ σ' σv' M' H', Inv X pins σv' H' s' ∧ Step M H M' H' ∧ MRel X.K M' H' ∧ SRel X.K M' H' σ' σv' ∧ T.ct σ' M'
  | .ret u => ∃ d v σv' M' H', Inv X pins σv' H' s' ∧ Step M H M' H' ∧ MRel X.K M' H' ∧ RelV v u ∧ Rep X.K M' H' d v ∧ T.rt d M'
def PE3 (X : Cx) (e : Expr) (t : TE3) : Prop :=
  ∀ (pins : List (Addr × Obj)) (s : Shared) (σv : L2.St) (H : Hp) (σ : Lo) (M : Mem) (Q : DK), Inv X pins σv H s → SRel X.K M H σ σv → MRel X.K M H → t σ M Q →
    wpAny (model X.prog X.w) X.A (eval e X.env) (EP3 X pins σv M H Q) X.xe s
def PT3 (X : Cx) (e : Expr) (t : TT3) : Prop :=
  ∀ (pins : List (Addr × Obj)) (s : Shared) (σv : L2.St) (H : Hp) (σ : Lo) (M : Mem) (Q : Bool → Mem → Prop), Inv X pins σv H s → SRel X.K M H σ σv → MRel X.K M H → t σ M Q →
    wpAny (model X.prog X.w) X.A (isTrue e X.env (eval e X.env)) (TP3 X pins σv M H Q) X.xe s
def PA3 (X : Cx) (es : List Expr) (t : TA3) : Prop :=
  ∀ (pos : Pos) (pins : List (Addr × Obj)) (s : Shared) (σv : L2.St) (H : Hp) (σ : Lo) (M : Mem) (Q : List D → Mem → Prop), Inv X pins σv H s → SRel X.K M H σ σv → MRel X.K M H → t σ M Q →
    wpAny (model X.prog X.w) X.A (spliced (backTo pos (starEach es X.env))) (AP3 X pins σv M H Q) X.xe s
def PS3 (X : Cx) (st : Stmt) (t : TS3) : Prop :=
  ∀ (pins : List (Addr × Obj)) (s : Shared) (σv : L2.St) (H : Hp) (σ : Lo) (M : Mem) (T : Ends3), Inv X pins σv H s → SRel X.K M H σ σv → MRel X.K M H → t T σ M →
    wpAny (model X.prog X.w) X.A (exec st X.env) (SP3 X pins M H T) X.xe s
def PSs3 (X : Cx) (st : List Stmt) (t : TS3) : Prop :=
  ∀ (pins : List (Addr × Obj)) (s : Shared) (σv : L2.St) (H : Hp) (σ : Lo) (M : Mem) (T : Ends3), Inv X pins σv H s → SRel X.K M H σ σv → MRel X.K M H → t T σ M →
    wpAny (model X.prog X.w) X.A (execs st X.env) (SP3 X pins M H T) X.xe s
def dnE (K : PySem.W.Frag) (t : TE3) : TE := fun σv H Q2 => ∃ σ M Q, SRel K M H σ σv ∧ MRel K M H ∧ t σ M Q ∧ ∀ d v M' H', Step M H M' H' → MRel K M' H' → Rep K M' H' d v → Q d M' → Q2 v H'
def dnA (K : PySem.W.Frag) (t : TA3) : TA := fun σv H Q2 => ∃ σ M Q, SRel K M H σ σv ∧ MRel K M H ∧ t σ M Q ∧ ∀ ds vs M' H', Step M H M' H' → MRel K M' H' → Reps K M' H' ds vs → Q ds M' → Q2 vs H'
structure EndsDn (K : PySem.W.Frag) (M : Mem) (H : Hp) (T : Ends3) (D2 : Ends) : Prop where
  nx : ∀ σ' σv' M' H', Step M H M' H' → MRel K M' H' → SRel K M' H' σ' σv' → T.nx σ' M' → D2.nx σv' H'
  bk : ∀ σ' σv' M' H', Step M H M' H' → MRel K M' H' → SRel K M' H' σ' σv' → T.bk σ' M' → D2.bk σv' H'
  ct : ∀ σ' σv' M' H', Step M H M' H' → MRel K M' H' → SRel K M' H' σ' σv' → T.ct σ' M' → D2.ct σv' H'
  rt : ∀ d v M' H', Step M H M' H' → MRel K M' H' → Rep K M' H' d v → T.rt d M' → D2.rt v H'
def dnS (K : PySem.W.Frag) (t : TS3) : TS := fun D2 σv H => ∃ σ M T, SRel K M H σ σv ∧ MRel K M H ∧ t T σ M ∧ EndsDn K M H T D2
section
variable {X : Cx} {e : Expr} {es : List Expr} {st : Stmt} {sts : List Stmt}
theorem PE3.dn {t : TE3} (h : PE3 X e t) : PE X e (dnE X.K t) := by
  rintro pins s σv H Q2 I ⟨σ, M, Q, hS, hM, ht, hq⟩
  exact thn (h pins s σv H σ M Q I hS hM ht) fun u s' ⟨d, v, M', H', I', st, m', r, rep, q⟩ => ⟨v, H', I', r, hq d v M' H' st m' rep q⟩
theorem PA3.dn {t : TA3} (h : PA3 X es t) : PA X es (dnA X.K t) := by
  rintro pos pins s σv H Q2 I ⟨σ, M, Q, hS, hM, ht, hq⟩
  exact thn (h pos pins s σv H σ M Q I hS hM ht) fun u s' ⟨d, v, M', H', I', st, m', r, rep, q⟩ => ⟨v, H', I', r, hq d v M' H' st m' rep q⟩
theorem sp_dn {pins : List (Addr × Obj)} {M : Mem} {H : Hp} {T : Ends3} {D2 : Ends} (h : EndsDn X.K M H T D2) {f : Flow} {s' : Shared} (q : SP3 X pins M H T f s') : SP X pins D2 f s' := by
  cases f with
  | next => obtain ⟨σ', σv', M', H', I, st, m, r, q⟩ := q; exact ⟨σv', H', I, h.nx _ _ _ _ st m r q⟩
  | brk => obtain ⟨σ', σv', M', H', I, st, m, r, q⟩ := q; exact ⟨σv', H', I, h.bk _ _ _ _ st m r q⟩
  | cont => obtain ⟨σ', σv', M', H', I, st, m, r, q⟩ := q; exact ⟨σv', H', I, h.ct _ _ _ _ st m r q⟩
  | ret u => obtain ⟨d, v, σv', M', H', I, st, m, rv, r, q⟩ := q; exact ⟨v, σv', H', I, rv, h.rt _ _ _ _ st m r q⟩
theorem PSs3.dn {t : TS3} (h : PSs3 X sts t) : PSs X sts (dnS X.K t) := by
  rintro pins s σv H D2 I ⟨σ, M, T, hS, hM, ht, hq⟩
  exact thn (h pins s σv H σ M T I hS hM ht) fun f s' q => sp_dn hq q
abbrev Up (K : PySem.W.Frag) (M : Mem) (H : Hp) (Q : DK) : VK := fun v H' => ∃ d M', Step M H M' H' ∧ MRel K M' H' ∧ Rep K M' H' d v ∧ Q d M'
theorem PE3.of {t : TE3} {t2 : TE} (h : PE X e t2) (hr : ∀ pins s σv H σ M Q, Inv X pins σv H s → SRel X.K M H σ σv → MRel X.K M H → t σ M Q → t2 σv H (Up X.K M H Q)) : PE3 X e t := by
  intro pins s σv H σ M Q I hS hM ht
  exact thn (h pins s σv H _ I (hr pins s σv H σ M Q I hS hM ht)) fun u s' ⟨v, H', I', r, d, M', st, m', rep, q⟩ => ⟨d, v, M', H', I', st, m', r, rep, q⟩
abbrev UpE (K : PySem.W.Frag) (M : Mem) (H : Hp) (T : Ends3) : Ends where
  nx := fun σv' H' => ∃ σ' M', Step M H M' H' ∧ MRel K M' H' ∧ SRel K M' H' σ' σv' ∧ T.nx σ' M'
  rt := fun v H' => ∃ d M', Step M H M' H' ∧ MRel K M' H' ∧ Rep K M' H' d v ∧ T.rt d M'
  bk := fun σv' H' => ∃ σ' M', Step M H M' H' ∧ MRel K M' H' ∧ SRel K M' H' σ' σv' ∧ T.bk σ' M'
  ct := fun σv' H' => ∃ σ' M', Step M H M' H' ∧ MRel K M' H' ∧ SRel K M' H' σ' σv' ∧ T.ct σ' M'
theorem PS3.of {t : TS3} {t2 : TS} (h : PS X st t2) (hr : ∀ pins s σv H σ M T, Inv X pins σv H s → SRel X.K M H σ σv → MRel X.K M H → t T σ M → t2 (UpE X.K M H T) σv H) : PS3 X st t := by
  intro pins s σv H σ M T I hS hM ht
  refine thn (h pins s σv H _ I (hr pins s σv H σ M T I hS hM ht)) fun f s' q => ?_
  cases f with
  | next => obtain ⟨σv', H', I, σ', M', st, m, r, q⟩ := q; exact ⟨σ', σv', M', H', I, st, m, r, q⟩
  | brk => obtain ⟨σv', H', I, σ', M', st, m, r, q⟩ := q; exact ⟨σ', σv', M', H', I, st, m, r, q⟩
  | cont => obtain ⟨σv', H', I, σ', M', st, m, r, q⟩ := q; exact ⟨σ', σv', M', H', I, st, m, r, q⟩
  | ret u => obtain ⟨v, σv', H', I, rv, d, M', st, m, r, q⟩ := q; exact ⟨d, v, σv', M', H', I, st, m, rv, r, q⟩
end
end L3
namespace L3
open PySem PySem.Spec PyProof.Rows L2
section
variable {K : PySem.W.Frag} {M : Mem} {H : Hp} {p : Addr} {ho : HO} {o : MO}
theorem Step.lay (hp : H p = none) : Step M H M (upd H p ho) :=
  ⟨fun a u h _ => by rw [upd_ne (ne_of_none h hp)]; exact h, fun _ h => .inl h⟩
theorem MRel.lay (m : MRel K M H) (hp : H p = none) : MRel K M (upd H p ho) := fun a u e => by
  obtain ⟨hu, e1, r⟩ := m a u e
  refine ⟨hu, by rw [upd_ne (ne_of_none e1 hp)]; exact e1, ?_⟩
  cases u <;> cases hu <;> first | exact r.elim | exact Reps.mono (Step.lay hp) r | exact RepK.mono (Step.lay hp) r | (obtain ⟨xs, e, r⟩ := r; exact ⟨xs, e, r.mono (Step.lay hp)⟩)
theorem Step.put (h : H p = none ∨ M p ≠ none) : Step M H (mput M p o) (upd H p ho) := by
  refine ⟨fun a u e hm => ?_, fun a e => ?_⟩
  · have : a ≠ p := by
      rintro rfl
      rcases h with h | h
      · rw [h] at e; cases e
      · exact h hm
    rw [upd_ne this]; exact e
  · by_cases ha : a = p
    · subst ha; exact h.elim .inr .inl
    · rw [mput_ne ha] at e; exact .inl e
theorem RepO.mono {M' : Mem} {H' : Hp} (s : Step M H M' H') (r : RepO K M H p o ho) : RepO K M' H' p o ho := by
  cases o <;> cases ho <;> first | exact r.elim | exact Reps.mono s r | exact RepK.mono s r | (obtain ⟨xs, e, r⟩ := r; exact ⟨xs, e, r.mono s⟩)
theorem MRel.put (m : MRel K M H) (h : H p = none ∨ M p ≠ none) (r : RepO K M H p o ho) : MRel K (mput M p o) (upd H p ho) := fun a u e => by
  by_cases ha : a = p
  · subst ha
    rw [mput_same] at e; cases e
    exact ⟨ho, upd_same, r.mono (Step.put h)⟩
  · rw [mput_ne ha] at e
    obtain ⟨hu, e1, r1⟩ := m a u e
    exact ⟨hu, by rw [upd_ne ha]; exact e1, r1.mono (Step.put h)⟩
end
mutual
def pyD : D → PyData
  | .non => .none | .bl b => .bool b | .int i => .int i | .str x => .str x
  | .tup xs => .tuple (pyDs xs) | .lst xs => .list (pyDs xs)
  | .dct _ => .none | .ty _ => .none | .ref _ => .none
def pyDs : List D → List PyData
  | [] => [] | d :: ds => pyD d :: pyDs ds
end
mutual
def plain : D → Bool
  | .non | .bl _ | .int _ | .str _ => true
  | .tup xs | .lst xs => plains xs
  | .dct _ | .ty _ | .ref _ => false
def plains : List D → Bool
  | [] => true | d :: ds => plain d && plains ds
end
section
variable {X : Cx} {pins : List (Addr × Obj)} {σv : L2.St} {M : Mem} {H : Hp} {s : Shared}
theorem SqT.of3 {K : PySem.W.Frag} {a : Addr} {vs : List V} (h : Fix M H a (.tup vs) ∨ KTup K a vs) : SqT K H a vs := h.imp (·.1) id
theorem SqL.of3 {K : PySem.W.Frag} {a : Addr} {vs : List V} (h : Fix M H a (.lst vs) ∨ KLst K a vs) : SqL K H a vs := h.imp (·.1) id
mutual
theorem rep_readsX (I : Inv X pins σv H s) (d : D) {v : V} {u : Value} (hp : plain d = true) (p : Rep X.K M H d v) (r : RelV v u) : ∃ as, Reads s.heap u (pyD d) as := by
  cases d with
  | non => cases p; cases r; exact ⟨[], .none⟩
  | bl b => cases p; cases r; exact ⟨[], .bool b⟩
  | int i => cases p; obtain ⟨t, rfl⟩ := r; exact ⟨[], .int i t⟩
  | str x => cases p; obtain ⟨t, rfl⟩ := r; exact ⟨[], .str x t⟩
  | tup xs =>
    cases p with
    | tup h q =>
    cases r
    obtain ⟨its, rv, ⟨o, e1, e2, n, e3⟩, _⟩ := I.tuple (SqT.of3 h)
    obtain ⟨as, ra⟩ := rep_readsAll I xs (by simpa [plain] using hp) q rv
    exact ⟨as, by rw [pyD]; exact .tuple e1 e2 e3 (by simpa using ra)⟩
  | lst xs =>
    cases p with
    | @lst a _ _ h q =>
    cases r
    obtain ⟨its, rv, ⟨o, n, e1, e2, _, e3⟩, _⟩ := I.list (SqL.of3 h)
    obtain ⟨as, ra⟩ := rep_readsAll I xs (by simpa [plain] using hp) q rv
    exact ⟨a :: as, by rw [pyD]; exact .list e1 e2 e3 (by simpa using ra)⟩
  | dct _ => cases hp
  | ty _ => cases hp
  | ref _ => cases hp
theorem rep_readsAll (I : Inv X pins σv H s) (ds : List D) {vs : List V} {us : List Value} (hp : plains ds = true) (p : Reps X.K M H ds vs) (r : Vals vs us) : ∃ as, ReadsAll s.heap us (pyDs ds) as := by
  cases ds with
  | nil => cases p; cases r; exact ⟨[], .nil⟩
  | cons d ds =>
    cases p with
    | cons q qs =>
    cases r with
    | cons r rs =>
      have hp' : plain d = true ∧ plains ds = true := by simpa [plains] using hp
      obtain ⟨as, h1⟩ := rep_readsX I d hp'.1 q r
      obtain ⟨bs, h2⟩ := rep_readsAll I ds hp'.2 qs rs
      exact ⟨as ++ bs, by rw [pyDs]; exact .cons h1 h2⟩
end
end
theorem rep_reads {X : Cx} {pins : List (Addr × Obj)} {σv : L2.St} {M : Mem} {H : Hp} {s : Shared} (I : Inv X pins σv H s) {d : D} {v : V} {u : Value} (hp : plain d = true) (p : Rep X.K M H d v) (r : RelV v u) : ∃ as, Reads s.heap u (pyD d) as := rep_readsX I d hp p r
abbrev R3 := D → D → Mem → DK → Prop
abbrev C3 := List D → Mem → DK → Prop
def OpR3 (X : Cx) (f : Value → Value → Sem Value) (r : R3) : Prop :=
  ∀ (pins : List (Addr × Obj)) (s : Shared) (σv : L2.St) (H : Hp) (M : Mem) (x y : D) (xv yv : V) (v u : Value) (Q : DK), Inv X pins σv H s → MRel X.K M H → RelV xv v → RelV yv u → Rep X.K M H x xv → Rep X.K M H y yv → r x y M Q →
    wpAny (model X.prog X.w) X.A (f v u) (EP3 X pins σv M H Q) X.xe s
def CallR3 (X : Cx) (f : Value) (r : C3) : Prop :=
  ∀ (pins : List (Addr × Obj)) (s : Shared) (σv : L2.St) (H : Hp) (M : Mem) (xs : List D) (xvs : List V) (us : List Value) (Q : DK), Inv X pins σv H s → MRel X.K M H → Vals xvs us → Reps X.K M H xs xvs → r xs M Q →
    wpAny (model X.prog X.w) X.A (call f us) (EP3 X pins σv M H Q) X.xe s
section
variable {X : Cx}
theorem ep_up {pins : List (Addr × Obj)} {σv : L2.St} {M : Mem} {H : Hp} {Q : DK} {u : Value} {s' : Shared} (h : EP X pins σv (Up X.K M H Q) u s') : EP3 X pins σv M H Q u s' := by
  obtain ⟨v, H', I', r, d, M', st, m', rep, q⟩ := h
  exact ⟨d, v, M', H', I', st, m', r, rep, q⟩
theorem OpR3.of {f : Value → Value → Sem Value} {r : R2} {r3 : R3} (h : OpR X f r)
    (hr : ∀ (H : Hp) (M : Mem) (x y : D) (xv yv : V) (Q : DK), MRel X.K M H → Rep X.K M H x xv → Rep X.K M H y yv → r3 x y M Q → r xv yv H (Up X.K M H Q)) : OpR3 X f r3 :=
  fun pins s σv H M x y xv yv v u Q I m rx ry px py q => thn (h pins s σv H xv yv v u _ I rx ry (hr H M x y xv yv Q m px py q)) fun _ _ z => ep_up z
theorem CallR3.of {f : Value} {r : List V → Hp → VK → Prop} {r3 : C3} (h : CallR X f r)
    (hr : ∀ (H : Hp) (M : Mem) (xs : List D) (xvs : List V) (Q : DK), MRel X.K M H → Reps X.K M H xs xvs → r3 xs M Q → r xvs H (Up X.K M H Q)) : CallR3 X f r3 :=
  fun pins s σv H M xs xvs us Q I m rv px q => thn (h pins s σv H xvs us _ I rv (hr H M xs xvs Q m px q)) fun _ _ z => ep_up z
theorem up0 {K : PySem.W.Frag} {M : Mem} {H : Hp} {Q : DK} {d : D} {v : V} (m : MRel K M H) (r : Rep K M H d v) (q : Q d M) : Up K M H Q v H := ⟨d, M, .refl, m, r, q⟩
def tOp3 (r : R3) (ta tb : TE3) : TE3 := fun σ M Q => ta σ M fun x M1 => tb σ M1 fun y M2 => r x y M2 Q
variable {a b c e : Expr} {es : List Expr} {ta tb tc te : TE3} {t : TA3} {pos : Pos}
theorem EP3.trans {pins : List (Addr × Obj)} {σv : L2.St} {M M1 : Mem} {H H1 : Hp} {Q : DK} {u : Value} {s' : Shared} (st : Step M H M1 H1) (h : EP3 X pins σv M1 H1 Q u s') : EP3 X pins σv M H Q u s' := by
  obtain ⟨d, v, M', H', I', st', m', r, rep, q⟩ := h
  exact ⟨d, v, M', H', I', st.trans st', m', r, rep, q⟩
theorem bin3 (ha : PE3 X a ta) (hb : PE3 X b tb) {f : Value → Value → Sem Value} {r : R3} (ho : OpR3 X f r) {pins : List (Addr × Obj)} {s : Shared} {σv : L2.St} {H : Hp} {σ : Lo} {M : Mem} {Q : DK}
    (I : Inv X pins σv H s) (hS : SRel X.K M H σ σv) (hM : MRel X.K M H) (h : tOp3 r ta tb σ M Q) :
    wpAny (model X.prog X.w) X.A (eval a X.env) (fun v s₁ => wpAny (model X.prog X.w) X.A (eval b X.env) (fun u s₂ => wpAny (model X.prog X.w) X.A (f v u) (EP3 X pins σv M H Q) X.xe s₂) X.xe s₁) X.xe s := by
  refine thn (ha pins s σv H σ M _ I hS hM h) fun v s1 hx0 => ?_
  obtain ⟨x, xv, M1, H1, I1, st1, m1, rv1, p1, q1⟩ := hx0
  refine thn (hb pins s1 σv H1 σ M1 _ I1 (hS.mono st1) m1 q1) fun u s2 hx0 => ?_
  obtain ⟨y, yv, M2, H2, I2, st2, m2, rv2, p2, q2⟩ := hx0
  exact thn (ho pins s2 σv H2 M2 x y xv yv v u Q I2 m2 rv1 rv2 (p1.mono st2) p2 q2) fun _ _ z => z.trans (st1.trans st2)
theorem pe3_op {op : Operator} {r : R3} (ho : OpR3 X (binaryOp op) r) (ha : PE3 X a ta) (hb : PE3 X b tb) : PE3 X (.BinOp a op b pos) (tOp3 r ta tb) :=
  fun pins s σv H σ M Q I hS hM h => wpAny_BinOp (bin3 ha hb ho I hS hM h)
theorem pe3_cmp {op : CmpOp} {r : R3} (ho : OpR3 X (compareOp op) r) (ha : PE3 X a ta) (hb : PE3 X b tb) (hm : behindInMarks op b = false) : PE3 X (.Compare a [op] [b] pos) (tOp3 r ta tb) :=
  fun pins s σv H σ M Q I hS hM h => wpAny_Compare1 (bin3 ha hb ho I hS hM h) hm
def tTest3 (t : TE3) : TT3 := fun σ M Q => t σ M fun x M' => ∃ k, x = .bl k ∧ Q k M'
theorem pt3_cmp {op : CmpOp} {r : R3} (ho : OpR3 X (compareOp op) r) (ha : PE3 X a ta) (hb : PE3 X b tb) (hm : behindInMarks op b = false) : PT3 X (.Compare a [op] [b] pos) (tTest3 (tOp3 r ta tb)) := by
  intro pins s σv H σ M Q I hS hM h
  refine wpAny_isTrue_Compare1 (thn (bin3 (Q := fun x M' => ∃ k, x = .bl k ∧ Q k M') ha hb ho I hS hM h) fun v s1 h1 => thn h1 fun u s2 h2 => thn h2 fun d s3 ⟨x, xv, M1, H1, I1, st1, m1, rv1, p1, k, e, q1⟩ => ?_) hm
  subst e
  cases p1
  cases rv1
  exact wpAny_truthy_bool ⟨M1, H1, I1, st1, m1, q1⟩
theorem pt3_val (h : PE3 X e te) (he : ∀ whole, isTrue e X.env whole = (do let v ← whole; standAt e.pos; holding [v] (truthy v)) := by intro _; rfl) : PT3 X e (tTest3 te) := by
  intro pins s σv H σ M Q I hS hM hw
  refine isTrue_plain (thn (h pins s σv H σ M _ I hS hM hw) fun v s1 ⟨x, xv, M1, H1, I1, st1, m1, rv1, p1, k, e, q1⟩ => ?_) (he _)
  subst e
  cases p1
  cases rv1
  exact wpAny_truthy_bool ⟨M1, H1, I1, st1, m1, q1⟩
def tChain3 (r r' : R3) (ta tb tc : TE3) : TE3 := fun σ M Q => ta σ M fun x M1 => tb σ M1 fun y M2 => r x y M2 fun z M3 => ∃ k, z = .bl k ∧ if k = true then tc σ M3 fun w M4 => r' y w M4 Q else Q (.bl false) M3
theorem pe3_chain {op op' : CmpOp} {r r' : R3} (ho : OpR3 X (compareOp op) r) (ho' : OpR3 X (compareOp op') r') (ha : PE3 X a ta) (hb : PE3 X b tb) (hc : PE3 X c tc)
    (hm : lastMarks [op, op'] [b, c] = false := by with_unfolding_all rfl) : PE3 X (.Compare a [op, op'] [b, c] pos) (tChain3 r r' ta tb tc) := by
  intro pins s σv H σ M Q I hS hM h
  refine Compare_chain (thn (ha pins s σv H σ M _ I hS hM h) fun v s1 ⟨x, xv, M1, H1, I1, st1, m1, rv1, p1, q1⟩ => chain_link (thn (hb pins s1 σv H1 σ M1 _ I1 (hS.mono st1) m1 q1) fun u s2 ⟨y, yv, M2, H2, I2, st2, m2, rv2, p2, q2⟩ =>
    thn (ho pins s2 σv H2 M2 x y xv yv v u _ I2 m2 rv1 rv2 (p1.mono st2) p2 q2) fun d s3 ⟨z, zv, M3, H3, I3, st3, m3, rv3, p3, k, e, q3⟩ => ?_)) hm
  subst e
  cases p3
  cases rv3
  refine wpAny_truthy_bool ?_
  have st := (st1.trans st2).trans st3
  cases k with
  | false => exact ite_ff ⟨.bl false, .bl false, M3, H3, I3, st, m3, rfl, .bl, q3⟩
  | true => exact ite_tt (chain_last (thn (hc pins s3 σv H3 σ M3 _ I3 (hS.mono st) m3 q3) fun w' s4 ⟨z', zv', M4, H4, I4, st4, m4, rv4, p4, q4⟩ =>
      thn (ho' pins s4 σv H4 M4 y z' yv zv' u w' Q I4 m4 rv2 rv4 (p2.mono (st3.trans st4)) p4 q4) fun _ _ z => z.trans (st.trans st4)))
theorem pt3_chain {op op' : CmpOp} {r r' : R3} (ho : OpR3 X (compareOp op) r) (ho' : OpR3 X (compareOp op') r') (ha : PE3 X a ta) (hb : PE3 X b tb) (hc : PE3 X c tc)
    (hm : lastMarks [op, op'] [b, c] = false := by with_unfolding_all rfl) : PT3 X (.Compare a [op, op'] [b, c] pos) (tTest3 (tChain3 r r' ta tb tc)) := by
  intro pins s σv H σ M Q I hS hM h
  refine isTrue_chain (thn (ha pins s σv H σ M _ I hS hM h) fun v s1 ⟨x, xv, M1, H1, I1, st1, m1, rv1, p1, q1⟩ => test_link (thn (hb pins s1 σv H1 σ M1 _ I1 (hS.mono st1) m1 q1) fun u s2 ⟨y, yv, M2, H2, I2, st2, m2, rv2, p2, q2⟩ =>
    thn (ho pins s2 σv H2 M2 x y xv yv v u _ I2 m2 rv1 rv2 (p1.mono st2) p2 q2) fun d s3 ⟨z, zv, M3, H3, I3, st3, m3, rv3, p3, k, e, q3⟩ => ?_)) hm
  subst e
  cases p3
  cases rv3
  refine wpAny_truthy_bool ?_
  have st := (st1.trans st2).trans st3
  cases k with
  | false =>
    obtain ⟨k', e', q'⟩ := q3
    cases e'
    exact ite_ff ⟨M3, H3, I3, st, m3, q'⟩
  | true =>
    refine ite_tt (test_last (thn (hc pins s3 σv H3 σ M3 _ I3 (hS.mono st) m3 q3) fun w' s4 ⟨z', zv', M4, H4, I4, st4, m4, rv4, p4, q4⟩ =>
      thn (ho' pins s4 σv H4 M4 y z' yv zv' u w' _ I4 m4 rv2 rv4 (p2.mono (st3.trans st4)) p4 q4) fun d' s5 ⟨z2, zv2, M5, H5, I5, st5, m5, rv5, p5, k2, e2, q5⟩ => ?_))
    subst e2
    cases p5
    cases rv5
    exact wpAny_truthy_bool ⟨M5, H5, I5, (st.trans st4).trans st5, m5, q5⟩
def PW3 (X : Cx) (e : Expr) (t : TT3) : Prop :=
  ∀ (whole : Sem Value) (pins : List (Addr × Obj)) (s : Shared) (σv : L2.St) (H : Hp) (σ : Lo) (M : Mem) (Q : Bool → Mem → Prop), Inv X pins σv H s → SRel X.K M H σ σv → MRel X.K M H → t σ M Q →
    wpAny (model X.prog X.w) X.A (isTrue e X.env whole) (TP3 X pins σv M H Q) X.xe s
theorem PW3.pt {t : TT3} (h : PW3 X e t) : PT3 X e t := h _
variable {tA tB' : TT3} {rest : List Expr}
def tAnd3 (t u : TT3) : TT3 := fun σ M Q => t σ M fun c M1 => if c = true then u σ M1 Q else Q false M1
def tOr3 (t u : TT3) : TT3 := fun σ M Q => t σ M fun c M1 => if c = true then Q true M1 else u σ M1 Q
def tNot3 (t : TT3) : TT3 := fun σ M Q => t σ M fun c M1 => Q (!c) M1
theorem TP3.trans {pins : List (Addr × Obj)} {σv : L2.St} {M M1 : Mem} {H H1 : Hp} {Q : Bool → Mem → Prop} {u : Bool} {s' : Shared} (st : Step M H M1 H1) (h : TP3 X pins σv M1 H1 Q u s') : TP3 X pins σv M H Q u s' := by
  obtain ⟨M', H', I', st', m', q⟩ := h
  exact ⟨M', H', I', st.trans st', m', q⟩
theorem pw3_and1 (ha : PT3 X a tA) : PW3 X (.BoolOp .And [a] pos) tA := by
  intro wh pins s σv H σ M Q I hS hM h
  refine isTrue_and (thn (ha pins s σv H σ M Q I hS hM h) fun c s1 e => ?_)
  cases c with
  | true => exact isTrue_and_nil e
  | false => exact e
theorem pw3_or1 (ha : PT3 X a tA) : PW3 X (.BoolOp .Or [a] pos) tA := by
  intro wh pins s σv H σ M Q I hS hM h
  refine isTrue_or (thn (ha pins s σv H σ M Q I hS hM h) fun c s1 e => ?_)
  cases c with
  | false => exact isTrue_or_nil e
  | true => exact e
theorem pw3_and (ha : PT3 X a tA) (hb : PW3 X (.BoolOp .And (b :: rest) pos) tB') : PW3 X (.BoolOp .And (a :: b :: rest) pos) (tAnd3 tA tB') := by
  intro wh pins s σv H σ M Q I hS hM h
  refine isTrue_and (thn (ha pins s σv H σ M _ I hS hM h) fun c s1 ⟨M1, H1, I1, st1, m1, q1⟩ => ?_)
  cases c with
  | true => exact thn (hb wh pins s1 σv H1 σ M1 Q I1 (hS.mono st1) m1 q1) fun _ _ z => z.trans st1
  | false => exact ⟨M1, H1, I1, st1, m1, q1⟩
theorem pw3_or (ha : PT3 X a tA) (hb : PW3 X (.BoolOp .Or (b :: rest) pos) tB') : PW3 X (.BoolOp .Or (a :: b :: rest) pos) (tOr3 tA tB') := by
  intro wh pins s σv H σ M Q I hS hM h
  refine isTrue_or (thn (ha pins s σv H σ M _ I hS hM h) fun c s1 ⟨M1, H1, I1, st1, m1, q1⟩ => ?_)
  cases c with
  | false => exact thn (hb wh pins s1 σv H1 σ M1 Q I1 (hS.mono st1) m1 q1) fun _ _ z => z.trans st1
  | true => exact ⟨M1, H1, I1, st1, m1, q1⟩
theorem pt3_not (ha : PT3 X a tA) : PT3 X (.UnaryOp .Not a pos) (tNot3 tA) := fun pins s σv H σ M Q I hS hM h =>
  isTrue_not (ha pins s σv H σ M (fun c M1 => Q (!c) M1) I hS hM h)
def tAndV3 (ta tb : TE3) : TE3 := fun σ M Q => ta σ M fun x M1 => ∃ c, x = .bl c ∧ if c = true then tb σ M1 Q else Q (.bl false) M1
theorem pe3_one {op} (h : PE3 X a ta) : PE3 X (.BoolOp op [a] pos) ta := fun pins s σv H σ M Q I hS hM hw => BoolOp_one (h pins s σv H σ M Q I hS hM hw)
theorem pe3_and (ha : PE3 X a ta) (hb : PE3 X (.BoolOp .And (b :: rest) pos) tb) : PE3 X (.BoolOp .And (a :: b :: rest) pos) (tAndV3 ta tb) := by
  intro pins s σv H σ M Q I hS hM h
  refine BoolOp_and (thn (ha pins s σv H σ M _ I hS hM h) fun v s1 ⟨x, xv, M1, H1, I1, st1, m1, rv1, p1, c, e, q1⟩ => ?_)
  subst e
  cases p1
  cases rv1
  refine wpAny_truthy_bool ?_
  cases c with
  | true => exact thn (hb pins s1 σv H1 σ M1 Q I1 (hS.mono st1) m1 q1) fun _ _ z => z.trans st1
  | false => exact ⟨.bl false, .bl false, M1, H1, I1, st1, m1, rfl, .bl, q1⟩
def tVar3 (i : Nat) : TE3 := fun σ M Q => match σ[i]? with
  | some (some d) => Q d M
  | _ => False
def tC3 (d : D) : TE3 := fun _ M Q => Q d M
theorem pe3_var {i : Nat} (h : PE X e (tVar i)) : PE3 X e (tVar3 i) := PE3.of h fun pins s σv H σ M Q I hS hM q => by
  unfold tVar3 at q
  cases e : σ[i]? with
  | none => rw [e] at q; exact q.elim
  | some od =>
    rw [e] at q
    cases od with
    | none => exact q.elim
    | some d =>
      obtain ⟨v, hv, r⟩ := hS.get i d e
      exact ⟨v, hv, up0 hM r q⟩
theorem pv3 (i : Nat) {x : Str} {pos : Pos} (hN : X.N[i]? = some x := by rfl) (hv : Vis X.env.scope x := by first | exact Or.inl rfl | exact Or.inr (Or.inl rfl) | exact Or.inr (Or.inr rfl)) (hd : (x == ("__debug__" : Str)) = false := by decide)
    (hcd : (x == ("__classdict__" : Str)) = false := by decide) : PE3 X (.Name x pos) (tVar3 i) := pe3_var (pe_var hN hv hd hcd)
theorem pe3_c {v : V} {d : D} (h : PE X e (tC v)) (hr : ∀ K M H, Rep K M H d v) : PE3 X e (tC3 d) := PE3.of h fun pins s σv H σ M Q I hS hM q => up0 hM (hr _ _ _) q
theorem pe3_int {i j pos} : PE3 X (.Constant (.int i) j pos) (tC3 (.int i)) := pe3_c pe_int fun _ _ _ => .int
theorem pe3_bl {b j pos} : PE3 X (.Constant (.bool b) j pos) (tC3 (.bl b)) := pe3_c pe_bl fun _ _ _ => .bl
theorem pe3_non {j pos} : PE3 X (.Constant .none j pos) (tC3 .non) := pe3_c pe_non fun _ _ _ => .non
theorem pe3_str {x j pos} : PE3 X (.Constant (.str x) j pos) (tC3 (.str x)) := pe3_c pe_str fun _ _ _ => .str
theorem pe3_glob {x : Str} {d : D} {v : V} {u : Value} {pos : Pos} (hg : Gl X x) (hm : X.mg x = some u) (r : RelV v u) (hr : ∀ M H, Rep X.K M H d v) (hd : (x == ("__debug__" : Str)) = false := by decide) : PE3 X (.Name x pos) (tC3 d) :=
  PE3.of (pe_glob hg hm r hd) fun pins s σv H σ M Q I hS hM q => up0 hM (hr _ _) q
def tNil3 : TA3 := fun _ M Q => Q [] M
def tCons3 (ta : TE3) (tr : TA3) : TA3 := fun σ M Q => ta σ M fun x M1 => tr σ M1 fun xs M2 => Q (x :: xs) M2
theorem pa3_nil : PA3 X [] tNil3 := fun pos pins s σv H σ M Q I hS hM h => Calls.spliced_nil ⟨[], [], M, H, I, .refl, hM, .nil, .nil, h⟩
theorem pa3_cons (ha : PE3 X e te) (hr : PA3 X es t) (hs : starEach (e :: es) X.env = (false, eval e X.env) :: starEach es X.env := by rfl) : PA3 X (e :: es) (tCons3 te t) := by
  intro pos pins s σv H σ M Q I hS hM h
  rw [hs]
  show wpAny _ _ (spliced ((false, eval e X.env) :: backTo pos (starEach es X.env))) _ _ s
  refine Calls.spliced_cons (thn (ha pins s σv H σ M _ I hS hM h) fun u s1 ⟨x, xv, M1, H1, I1, st1, m1, rv1, p1, q1⟩ => ?_)
  exact thn (hr pos pins s1 σv H1 σ M1 _ I1 (hS.mono st1) m1 q1) fun us s2 ⟨xs, xvs, M2, H2, I2, st2, m2, rv2, p2, q2⟩ => ⟨x :: xs, xv :: xvs, M2, H2, I2, st1.trans st2, m2, .cons rv1 rv2, .cons (p1.mono st2) p2, q2⟩
def tTup3 (t : TA3) : TE3 := fun σ M Q => t σ M fun xs M1 => xs.length ≤ sizeLine ∧ Q (.tup xs) M1
def tLst3 (t : TA3) : TE3 := fun σ M Q => t σ M fun xs M1 => xs.length ≤ sizeLine ∧ Q (.lst xs) M1
def tLstM3 (t : TA3) : TE3 := fun σ M Q => t σ M fun xs M1 => xs.length ≤ sizeLine ∧ ∀ p, M1 p = none → Q (.ref p) (mput M1 p (.lst xs))
theorem pe3_tup {x1} (h : PA3 X es t) : PE3 X (.Tuple es x1 pos) (tTup3 t) := PE3.of (pe_tup h.dn) fun pins s σv H σ M Q I hS hM h => by
  refine ⟨σ, M, _, hS, hM, h, fun ds vs M' H' st m r ⟨hl, q⟩ => ⟨by rw [← r.length]; exact hl, fun p hp => ?_⟩⟩
  exact ⟨.tup ds, M', st.trans (Step.lay hp), m.lay hp, .tup (.inl ⟨.inl upd_same, m.free hp⟩) (r.mono (Step.lay hp)), q⟩
theorem pe3_lst (h : PA3 X es t) : PE3 X (.List es pos) (tLst3 t) := PE3.of (pe_lst h.dn) fun pins s σv H σ M Q I hS hM h => by
  refine ⟨σ, M, _, hS, hM, h, fun ds vs M' H' st m r ⟨hl, q⟩ => ⟨by rw [← r.length]; exact hl, fun p hp => ?_⟩⟩
  exact ⟨.lst ds, M', st.trans (Step.lay hp), m.lay hp, .lst (.inl ⟨.inl upd_same, m.free hp⟩) (r.mono (Step.lay hp)), q⟩
theorem pe3_lstM (h : PA3 X es t) : PE3 X (.List es pos) (tLstM3 t) := PE3.of (pe_lst h.dn) fun pins s σv H σ M Q I hS hM h => by
  refine ⟨σ, M, _, hS, hM, h, fun ds vs M' H' st m r ⟨hl, q⟩ => ⟨by rw [← r.length]; exact hl, fun p hp => ?_⟩⟩
  exact ⟨.ref p, mput M' p (.lst ds), st.trans (Step.put (.inl hp)), m.put (.inl hp) r, .ref, q p (m.free hp)⟩
end
end L3
namespace L3
open PySem PySem.Spec PyProof.Rows L2
section
variable {X : Cx}
def rI3 (C : Int → Int → Prop) (g : Int → Int → D) : R3 := fun x y M Q => match x, y with
  | .int i, .int j => C i j ∧ Q (g i j) M
  | _, _ => False
def rI30 (g : Int → Int → D) : R3 := fun x y M Q => match x, y with
  | .int i, .int j => Q (g i j) M
  | _, _ => False
theorem op3_I {f : Value → Value → Sem Value} {C : Int → Int → Prop} {g : Int → Int → Int} (h : OpR X f (rI C fun i j => .int (g i j))) : OpR3 X f (rI3 C fun i j => .int (g i j)) :=
  OpR3.of h fun H M x y xv yv Q m px py q => by
    cases x <;> cases y <;> first | exact q.elim | skip
    cases px; cases py
    exact ⟨_, _, rfl, rfl, q.1, up0 m .int q.2⟩
theorem op3_B0 {f : Value → Value → Sem Value} {g : Int → Int → Bool} (h : OpR X f (rI0 fun i j => .bl (g i j))) : OpR3 X f (rI30 fun i j => .bl (g i j)) :=
  OpR3.of h fun H M x y xv yv Q m px py q => by
    cases x <;> cases y <;> first | exact q.elim | skip
    cases px; cases py
    exact ⟨_, _, rfl, rfl, up0 m .bl q⟩
def CMulB (i j : Int) : Prop := CMul i j ∨ (i.natAbs < 2 ^ 4096 ∧ j.natAbs < 2 ^ 4096)
theorem bits_le {i : Int} (h : i.natAbs < 2 ^ 4096) : Builtin.Int.intBits i ≤ 4096 := by
  unfold Builtin.Int.intBits
  split
  · lia
  · rename_i hi
    have h0 : i.natAbs ≠ 0 := by intro z; apply hi; have : i = 0 := by lia
                                 subst this; rfl
    have := (Nat.log2_lt h0).mpr h
    lia
theorem mul_ok {i j : Int} (h : CMulB i j) : IntMulOk i j := by
  rcases h with h | ⟨h1, h2⟩
  · exact h.ok
  · have b1 := bits_le h1
    have b2 := bits_le h2
    unfold IntMulOk Builtin.Int.intTooBig
    have : decide (((Builtin.Int.intBits i + Builtin.Int.intBits j : Nat) : Int) > ((bitsLine : Nat) : Int)) = false := by
      refine decide_eq_false ?_
      have : bitsLine = 134217728 := rfl
      lia
    intro z
    simp only [Bool.and_eq_true] at z
    have z2 := z.2
    simp only [Int.natCast_add] at this
    rw [this] at z2; cases z2
theorem op_mulB : OpR X (binaryOp .Mult) (rI CMulB fun i j => .int (i * j)) := opI fun _ _ _ _ _ _ _ hc q => mul_int q (mul_ok hc)
def CDivB (i j : Int) : Prop := 0 < j ∧ j.natAbs < 2 ^ 4096
theorem op_fdivB : OpR X (binaryOp .FloorDiv) (rI CDivB fun i j => .int (i / j)) := opI fun i j _ _ _ _ _ hc q => by
  have h1 : (0 : Int) < j := hc.1
  refine floordiv_int (by lia) (by rw [Int.fdiv_eq_ediv_of_nonneg i (by lia)]; exact q) (.inl (PyProof.noPylong_of_log2 ?_))
  have h0 : j.natAbs ≠ 0 := by lia
  have := (Nat.log2_lt h0).mpr hc.2
  lia
theorem o3_mul : OpR3 X (binaryOp .Mult) (rI3 CMulB fun i j => .int (i * j)) := op3_I op_mulB
theorem o3_fdiv : OpR3 X (binaryOp .FloorDiv) (rI3 CDivB fun i j => .int (i / j)) := op3_I op_fdivB
theorem o3_mod : OpR3 X (binaryOp .Mod) (rI3 (fun _ j => 0 < j) fun i j => .int (i % j)) := op3_I op_mod
theorem o3_pow : OpR3 X (binaryOp .Pow) (rI3 CPow fun i j => .int (i ^ j.toNat)) := op3_I op_pow
theorem o3_lt : OpR3 X (compareOp .Lt) (rI30 fun i j => .bl (decide (i < j))) := op3_B0 op_lt
theorem o3_le : OpR3 X (compareOp .LtE) (rI30 fun i j => .bl (decide (i ≤ j))) := op3_B0 op_le
theorem o3_gt : OpR3 X (compareOp .Gt) (rI30 fun i j => .bl (decide (j < i))) := op3_B0 op_gt
theorem o3_ge : OpR3 X (compareOp .GtE) (rI30 fun i j => .bl (decide (j ≤ i))) := op3_B0 op_ge
def rAdd3 : R3 := fun x y M Q => match x, y with
  | .int i, .int j => Q (.int (i + j)) M
  | .str a, .str b => a.length + b.length ≤ sizeLine ∧ Q (.str (a ++ b)) M
  | .lst a, .lst b => a.length + b.length ≤ sizeLine ∧ Q (.lst (a ++ b)) M
  | .tup a, .tup b => a.length + b.length ≤ sizeLine ∧ Q (.tup (a ++ b)) M
  | _, _ => False
theorem o3_add : OpR3 X (binaryOp .Add) rAdd3 := by
  intro pins s σv H M x y xv yv v u Q I m rx ry px py q
  cases x <;> cases y <;> first | exact q.elim | skip
  · cases px; cases py
    exact thn (op_add pins s σv H _ _ v u _ I rx ry ⟨_, _, rfl, rfl, up0 m .int q⟩) fun _ _ z => ep_up z
  · cases px; cases py
    exact thn (op_add_str pins s σv H _ _ v u _ I rx ry ⟨_, _, rfl, rfl, q.1, up0 m .str q.2⟩) fun _ _ z => ep_up z
  · cases px with | tup h1 r1 => cases py with | tup h2 r2 =>
    cases rx; cases ry
    obtain ⟨its, e1, p1, z1⟩ := I.tuple (SqT.of3 h1)
    obtain ⟨its2, e2, p2, z2⟩ := I.tuple (SqT.of3 h2)
    obtain ⟨⟨cls, dd, data, sl⟩, ho, hc, n, hd⟩ := id p1
    obtain ⟨⟨cls2, dd2, data2, sl2⟩, ho2, hc2, n2, hd2⟩ := id p2
    simp only at hc hd hc2 hd2
    subst hc hd hc2 hd2
    have l1 := r1.length
    have l2 := r2.length
    have l3 := e1.length
    have l4 := e2.length
    obtain ⟨hz, q⟩ := q
    by_cases hA : its.toArray.isEmpty = true
    · refine concat_meets ⟨_, ho, rfl⟩ ⟨_, ho2, rfl⟩ noFill_tuple_add seq_tuple_add PySem.F.slot_tuple_add PySem.F.entry_tuple_add (PySem.F.args_tuple_add_2 _ _) (tuple_addW0 _ _ _ _ n n2 dd dd2 sl sl2 hA) ⟨ho, ho2, ?_⟩
      have h0 : its = [] := by simpa using hA
      subst h0
      cases e1
      cases r1
      exact ⟨_, .ref _, M, H, I, .refl, m, rfl, .tup h2 r2, q⟩
    · by_cases hB : its2.toArray.isEmpty = true
      · refine concat_meets ⟨_, ho, rfl⟩ ⟨_, ho2, rfl⟩ noFill_tuple_add seq_tuple_add PySem.F.slot_tuple_add PySem.F.entry_tuple_add (PySem.F.args_tuple_add_2 _ _) (tuple_addW1 _ _ _ _ n n2 dd dd2 sl sl2 hA hB) ⟨ho, ho2, ?_⟩
        have h0 : its2 = [] := by simpa using hB
        subst h0
        cases e2
        cases r2
        rw [List.append_nil] at q
        exact ⟨_, .ref _, M, H, I, .refl, m, rfl, .tup h1 r1, q⟩
      · refine concat_meets ⟨_, ho, rfl⟩ ⟨_, ho2, rfl⟩ noFill_tuple_add seq_tuple_add PySem.F.slot_tuple_add PySem.F.entry_tuple_add (PySem.F.args_tuple_add_2 _ _) (tuple_addW2 _ _ _ _ n n2 dd dd2 sl sl2 hA hB (by simp; lia)) ⟨ho, ho2, ?_⟩
        have ea : its.toArray ++ its2.toArray = (its ++ its2).toArray := by simp
        rw [ea]
        have hf := I.fresh
        have rr := r1.append r2
        refine ⟨_, .ref s.heap.objs.size, M, _, I.laid (t' := s.toks) (o := .tup _) (fun b ob q => Heap.get?_push_of_some _ q) (Nat.le_refl _) ⟨by rw [List.length_append]; lia, _, e1.append e2, IsTup.new _ _⟩, Step.lay hf, m.lay hf, rfl, .tup (.inl ⟨.inl upd_same, m.free hf⟩) (rr.mono (Step.lay hf)), q⟩
  · cases px with | lst h1 r1 => cases py with | lst h2 r2 =>
    cases rx; cases ry
    obtain ⟨its, e1, p1, z1⟩ := I.list (SqL.of3 h1)
    obtain ⟨its2, e2, p2, z2⟩ := I.list (SqL.of3 h2)
    obtain ⟨⟨cls, dd, data, sl⟩, ho, hc, n, hd⟩ := p1.isList
    obtain ⟨⟨cls2, dd2, data2, sl2⟩, ho2, hc2, n2, hd2⟩ := p2.isList
    simp only at hc hd hc2 hd2
    subst hc hd hc2 hd2
    have l1 := r1.length
    have l2 := r2.length
    have l3 := e1.length
    have l4 := e2.length
    obtain ⟨hz, q⟩ := q
    refine concat_meets ⟨_, ho, rfl⟩ ⟨_, ho2, rfl⟩ noFill_list_add seq_list_add PySem.F.slot_list_add PySem.F.entry_list_add (PySem.F.args_list_add_2 _ _) (list_addW _ _ _ _ n n2 dd dd2 sl sl2 (by simp; lia)) ⟨ho, ho2, ?_⟩
    have ea : its.toArray ++ its2.toArray = (its ++ its2).toArray := by simp
    rw [ea]
    have hf := I.fresh
    have rr := r1.append r2
    exact ⟨_, .ref s.heap.objs.size, M, _, I.lnew (t' := s.toks) (e1.append e2) (by rw [List.length_append]; lia), Step.lay hf, m.lay hf, rfl, .lst (.inl ⟨.inl upd_same, m.free hf⟩) (rr.mono (Step.lay hf)), q⟩
def dOk (d : D) : Prop := plain d = true ∧ (pyD d).canLay0 = true ∧ (pyD d).depth ≤ 60
def rEq3 : R3 := fun x y M Q => (dOk x ∧ dOk y ∧ Q (.bl (PyData.eqv (pyD x) (pyD y))) M) ∨ ∃ a b, x = .str a ∧ y = .str b ∧ Q (.bl (a == b)) M
def rNe3 : R3 := fun x y M Q => (dOk x ∧ dOk y ∧ Q (.bl (!PyData.eqv (pyD x) (pyD y))) M) ∨ ∃ a b, x = .str a ∧ y = .str b ∧ Q (.bl (!(a == b))) M
theorem o3_eq {k : Nat} (hr : Room k X.A) : OpR3 X (compareOp .Eq) rEq3 := by
  intro pins s σv H M x y xv yv v u Q I m rx ry px py h
  rcases h with ⟨dx, dy, q⟩ | ⟨a, b, rfl, rfl, q⟩
  rotate_left
  · cases px; cases py
    exact thn (op_eq pins s σv H _ _ v u _ I rx ry ⟨rfl, up0 m .bl (by rw [dec_str]; exact q)⟩) fun _ _ z => ep_up z
  obtain ⟨as, r1⟩ := rep_reads I dx.1 px rx
  obtain ⟨bs, r2⟩ := rep_reads I dy.1 py ry
  exact SeqAt.compareEq_reads r1 r2 dx.2.1 dy.2.1 (by have := hr.units; have := dx.2.2; lia) ⟨_, .bl _, M, H, I, .refl, m, rfl, .bl, q⟩
theorem o3_ne {k : Nat} (hr : Room k X.A) : OpR3 X (compareOp .NotEq) rNe3 := by
  intro pins s σv H M x y xv yv v u Q I m rx ry px py h
  rcases h with ⟨dx, dy, q⟩ | ⟨a, b, rfl, rfl, q⟩
  rotate_left
  · cases px; cases py
    exact thn (op_ne pins s σv H _ _ v u _ I rx ry ⟨rfl, up0 m .bl (by rw [dec_str]; exact q)⟩) fun _ _ z => ep_up z
  obtain ⟨as, r1⟩ := rep_reads I dx.1 px rx
  obtain ⟨bs, r2⟩ := rep_reads I dy.1 py ry
  exact SeqAt.compareNe_reads r1 r2 dx.2.1 dy.2.1 (by have := hr.units; have := dx.2.2; lia) ⟨_, .bl _, M, H, I, .refl, m, rfl, .bl, q⟩
def rIs3 : R3 := fun x y M Q => y = .non ∧ Q (.bl (match x with | .non => true | _ => false)) M
theorem o3_is : OpR3 X (compareOp .Is) rIs3 := OpR3.of op_isN fun H M x y xv yv Q m px py hx0 => by
  obtain ⟨e, q⟩ := hx0
  subst e; cases py
  refine ⟨rfl, ?_⟩
  cases px <;> exact up0 m .bl (by simpa using q)
variable {a b e : Expr} {ta tb te : TE3} {pos : Pos}
def rIx3 : R3 := fun x y M Q => match x, y with
  | .lst ds, .int i => ∃ d, atI ds i = some d ∧ Q d M
  | .tup ds, .int i => ∃ d, atI ds i = some d ∧ Q d M
  | .ref a, .int i => ∃ ds d, M a = some (.lst ds) ∧ atI ds i = some d ∧ Q d M
  | .str z, .int i => z.length ≤ sizeLine ∧ ∃ c, atI z.cps.toList i = some c ∧ Q (.str ⟨#[c]⟩) M
  | _, _ => False
theorem Reps.atI {K : PySem.W.Frag} {M : Mem} {H : Hp} {ds : List D} {vs : List V} (r : Reps K M H ds vs) {i : Int} {d : D} (h : L2.atI ds i = some d) : ∃ v, L2.atI vs i = some v ∧ Rep K M H d v := by
  unfold L2.atI at h ⊢
  rw [← r.length]
  cases e : ixN ds.length i with
  | none => rw [e] at h; cases h
  | some j =>
    rw [e] at h
    exact r.get (show ds[j]? = some d from h)
theorem pe3_ix (ha : PE3 X a ta) (hb : PE3 X b tb) (hs : PlainIx b) : PE3 X (.Subscript a b pos) (tOp3 rIx3 ta tb) := by
  intro pins s σv H σ M Q I hS hM h
  refine Subscript_ (thn (ha pins s σv H σ M _ I hS hM h) fun v s1 ⟨x, xv, M1, H1, I1, st1, m1, rv1, p1, q1⟩ =>
    thn (hb pins s1 σv H1 σ M1 _ I1 (hS.mono st1) m1 q1) fun u s2 ⟨y, yv, M2, H2, I2, st2, m2, rv2, p2, q2⟩ => ?_)
  have fin : rIx X.K xv yv H2 (Up X.K M2 H2 Q) := by
    have p1' := p1.mono st2
    cases x <;> cases y <;> first | exact q2.elim | skip
    · cases p1'; cases p2
      obtain ⟨hz, c, hc, q⟩ := q2
      exact .inr (.inr ⟨_, _, c, rfl, rfl, hz, hc, up0 m2 .str q⟩)
    · cases p1'; cases p2
      obtain ⟨ds, d, hm, hd, q⟩ := q2
      obtain ⟨ho, e1, r⟩ := m2 _ _ hm
      cases ho <;> first | exact r.elim | skip
      obtain ⟨v', hv, rv⟩ := Reps.atI r hd
      exact .inl ⟨_, _, _, v', rfl, rfl, .inl (.inl e1), hv, up0 m2 rv q⟩
    · cases p1' with | tup h1 r => cases p2; obtain ⟨d, hd, q⟩ := q2; obtain ⟨v', hv, rv⟩ := Reps.atI r hd; exact .inr (.inl ⟨_, _, _, v', rfl, rfl, SqT.of3 h1, hv, up0 m2 rv q⟩)
    · cases p1' with | lst h1 r => cases p2; obtain ⟨d, hd, q⟩ := q2; obtain ⟨v', hv, rv⟩ := Reps.atI r hd; exact .inl ⟨_, _, _, v', rfl, rfl, SqL.of3 h1, hv, up0 m2 rv q⟩
  exact thn (ix_seq a b pins s2 σv H2 xv yv v u _ I2 rv1 rv2 fin (hs _ _)) fun _ _ z => (ep_up z).trans (st1.trans st2)
def tNoPart3 : Lo → Mem → (Option Int → Mem → Prop) → Prop := fun _ M Q => Q none M
def tPart3 (t : TE3) : Lo → Mem → (Option Int → Mem → Prop) → Prop := fun σ M Q => t σ M fun x M1 => match x with
  | .int i => Q (some i) M1
  | _ => False
abbrev TO3 := Lo → Mem → (Option Int → Mem → Prop) → Prop
def PO3 (X : Cx) (e : Option Expr) (t : TO3) : Prop :=
  ∀ (pins : List (Addr × Obj)) (s : Shared) (σv : L2.St) (H : Hp) (σ : Lo) (M : Mem) (Q : Option Int → Mem → Prop), Inv X pins σv H s → SRel X.K M H σ σv → MRel X.K M H → t σ M Q →
    wpAny (model X.prog X.w) X.A (evalPart e X.env) (fun v s' => ∃ o M' H', Inv X pins σv H' s' ∧ Step M H M' H' ∧ MRel X.K M' H' ∧ IsPart v o ∧ Q o M') X.xe s
theorem po3_none : PO3 X none tNoPart3 := by
  intro pins s σv H σ M Q I hS hM h
  rw [evalPart_none]
  exact wpAny_pure ⟨none, M, H, I, .refl, hM, .none, h⟩
theorem po3_some (h : PE3 X e te) : PO3 X (some e) (tPart3 te) := by
  intro pins s σv H σ M Q I hS hM hw
  rw [evalPart_some]
  refine thn (h pins s σv H σ M _ I hS hM hw) fun u s1 hx0 => ?_
  obtain ⟨x, xv, M1, H1, I1, st1, m1, rv1, p1, q1⟩ := hx0
  cases x <;> first | exact q1.elim | skip
  cases p1
  obtain ⟨t, rfl⟩ := rv1
  exact ⟨some _, M1, H1, I1, st1, m1, .int _ t, q1⟩
def cutD (xs : List D) (lo hi : Option Int) : List D := (xs.drop (HT.sIx xs.length 0 lo)).take (HT.sIx xs.length xs.length hi - HT.sIx xs.length 0 lo)
theorem Reps.cut {K : PySem.W.Frag} {M : Mem} {H : Hp} {ds : List D} {vs : List V} (r : Reps K M H ds vs) (lo hi : Option Int) : Reps K M H (cutD ds lo hi) (cutV vs lo hi) := by
  unfold cutD cutV
  rw [r.length]
  exact (r.drop _).take _
def rSl3 : D → Option Int → Option Int → Mem → DK → Prop := fun x lo hi M Q => match x with
  | .lst ds => Q (.lst (cutD ds lo hi)) M
  | .tup ds => ¬ (HT.sIx ds.length 0 lo = 0 ∧ HT.sIx ds.length ds.length hi = ds.length) ∧ Q (.tup (cutD ds lo hi)) M
  | _ => False
theorem pe3_slice {lo hi : Option Expr} {tl th : TO3} {p2 : Pos} (he : PE3 X e te) (hl : PO3 X lo tl) (hu : PO3 X hi th) :
    PE3 X (.Subscript e (.Slice lo hi none p2) pos) (fun σ M Q => te σ M fun x M1 => tl σ M1 fun l M2 => th σ M2 fun u M3 => rSl3 x l u M3 Q) := by
  intro pins s σv H σ M Q I hS hM h
  refine Subscript_ (thn (he pins s σv H σ M _ I hS hM h) fun v s1 ⟨x, xv, M1, H1, I1, st1, m1, rv1, p1, q1⟩ => ?_)
  refine wpAny_Slice (thn (hl pins s1 σv H1 σ M1 _ I1 (hS.mono st1) m1 q1) fun vl s2 ⟨l, M2, H2, I2, st2, m2, pl, q2⟩ => thn (hu pins s2 σv H2 σ M2 _ I2 (hS.mono (st1.trans st2)) m2 q2) fun vu s3 ⟨u, M3, H3, I3, st3, m3, pu, q3⟩ => ?_)
  rw [evalPart_none]
  refine wpAny_pure ?_
  have I4 : Inv X pins σv H3 { s3 with heap := s3.heap.push { cls := .type "slice", data := .fields #[vl, vu, .none] } } := I3.kept (t' := s3.toks) fun b ob q => Heap.get?_push_of_some _ q
  have p3 := p1.mono (st2.trans st3)
  have fin : rSlL X.K xv l u H3 (Up X.K M3 H3 Q) ∨ rSlT X.K xv l u H3 (Up X.K M3 H3 Q) := by
    cases x <;> first | exact q3.elim | skip
    · cases p3 with | tup h1 r =>
      obtain ⟨hw, q⟩ := q3
      rw [r.length] at hw
      exact .inr ⟨_, _, rfl, SqT.of3 h1, hw, fun p hp => ⟨_, M3, Step.lay hp, m3.lay hp, .tup (.inl ⟨.inl upd_same, m3.free hp⟩) ((r.cut l u).mono (Step.lay hp)), q⟩⟩
    · cases p3 with | lst h1 r =>
      refine .inl ⟨_, _, rfl, SqL.of3 h1, fun p hp => ?_⟩
      exact ⟨_, M3, Step.lay hp, m3.lay hp, .lst (.inl ⟨.inl upd_same, m3.free hp⟩) ((r.cut l u).mono (Step.lay hp)), q3⟩
  obtain ⟨T, id, hT, ht, hg⟩ := (sl_list.or sl_tup) pins { s3 with heap := s3.heap.push { cls := .type "slice", data := .fields #[vl, vu, .none] } } σv H3 xv v vl vu l u s3.heap.objs.size _ I4 rv1 (Heap.IsSliceOf.new ..) pl pu fin
  show wpAny (model X.prog X.w) X.A (subscriptTail e (.Slice lo hi none p2) v (.ref s3.heap.objs.size)) (EP3 X pins σv M H Q) X.xe { s3 with heap := s3.heap.push { cls := .type "slice", data := .fields #[vl, vu, .none] } }
  exact tail_any (ops := [.ref s3.heap.objs.size, v]) ht hT (thn hg fun _ _ z => (ep_up z).trans ((st1.trans st2).trans st3)) (by with_unfolding_all rfl)
end
end L3
namespace L3
open PySem PySem.Spec PyProof.Rows L2
section
variable {X : Cx} {a b e o i value : Expr} {es : List Expr} {ta tb te td ty tv : TE3} {t : TA3} {pos p pos' : Pos} {x : Str} {id T : String} {r : C3}
def tCB3 (r : C3) (t : TA3) : TE3 := fun σ M Q => t σ M fun ds M1 => r ds M1 Q
theorem pe3_callB (hc : CallR3 X (.builtin id) r) (hg : Gl X x) (hm : X.mg x = none) (hv : bootBuiltins x = some (.builtin id)) (ha : PA3 X (e :: es) t) (hn : x ≠ "__name__" := by decide) (hdb : (x == ("__debug__" : Str)) = false := by decide)
    (he : starEach (e :: es) X.env = (false, eval e X.env) :: starEach es X.env := by rfl) (hpl : (backTo pos (starEach es X.env)).any (·.1) = false := by rfl) : PE3 X (.Call (.Name x p) (e :: es) [] pos) (tCB3 r t) := by
  intro pins s σv H σ M Q I hS hM h
  refine wpAny_Call_Name_kw (ld_blt I hg hm hv ?_ hn hdb)
  exact PyProof.Rows.callWith_builtin1 (thn (ha pos pins s σv H σ M _ I hS hM h) fun us s1 ⟨ds, vs, M1, H1, I1, st1, m1, rv1, p1, q1⟩ => thn (hc pins s1 σv H1 M1 ds vs us Q I1 m1 rv1 p1 q1) fun _ _ z => z.trans st1) he hpl
theorem pe3_callTy (hc : CallR3 X (.type T) r) (hg : Gl X x) (hm : X.mg x = none) (hv : bootBuiltins x = some (.type T)) (ha : PA3 X (e :: es) t) (hn : x ≠ "__name__" := by decide) (hdb : (x == ("__debug__" : Str)) = false := by decide)
    (he : starEach (e :: es) X.env = (false, eval e X.env) :: starEach es X.env := by rfl) (hpl : (backTo pos (starEach es X.env)).any (·.1) = false := by rfl) : PE3 X (.Call (.Name x p) (e :: es) [] pos) (tCB3 r t) := by
  intro pins s σv H σ M Q I hS hM h
  refine wpAny_Call_Name_kw (ld_blt I hg hm hv ?_ hn hdb)
  exact PyProof.Rows.callWith_type1 (thn (ha pos pins s σv H σ M _ I hS hM h) fun us s1 ⟨ds, vs, M1, H1, I1, st1, m1, rv1, p1, q1⟩ => thn (hc pins s1 σv H1 M1 ds vs us Q I1 m1 rv1 p1 q1) fun _ _ z => z.trans st1) he hpl
theorem pe3_bltn {v : V} {d : D} {u : Value} (hg : Gl X x) (hm : X.mg x = none) (hv : bootBuiltins x = some u) (r : RelV v u) (hr : ∀ K M H, Rep K M H d v) (hn : x ≠ "__name__" := by decide) (hd : (x == ("__debug__" : Str)) = false := by decide) : PE3 X (.Name x pos) (tC3 d) :=
  pe3_c (pe_bltn hg hm hv r hn hd) hr
def rLen3 : C3 := fun ds M Q => match ds with
  | [.lst xs] => Q (.int xs.length) M
  | [.tup xs] => Q (.int xs.length) M
  | [.str z] => z.length ≤ sizeLine ∧ Q (.int z.length) M
  | [.ref a] => ∃ xs, M a = some (.lst xs) ∧ Q (.int xs.length) M
  | _ => False
theorem c3_len : CallR3 X (.builtin "len") rLen3 := CallR3.of (call_len_seq.or call_len_str) fun H M xs xvs Q m px q => by
  rcases px with _ | ⟨pd, ps⟩; (exact (q : False).elim); rcases ps with _ | ⟨p2, ps2⟩; rotate_left; (first | exact (q : False).elim | (cases pd <;> exact (q : False).elim))
  cases pd with
  | lst h r => exact .inl ⟨_, _, rfl, .inl (SqL.of3 h), by rw [← r.length]; exact up0 m .int q⟩
  | tup h r => exact .inl ⟨_, _, rfl, .inr (SqT.of3 h), by rw [← r.length]; exact up0 m .int q⟩
  | str => exact .inr ⟨_, rfl, q.1, up0 m .int q.2⟩
  | ref =>
    obtain ⟨ds, hm, q⟩ := q
    obtain ⟨ho, e1, r⟩ := m _ _ hm
    cases ho <;> first | exact r.elim | skip
    have r' : Reps X.K M H ds _ := r
    exact .inl ⟨_, _, rfl, .inl (.inl (.inl e1)), by rw [← r'.length]; exact up0 m .int q⟩
  | _ => exact (q : False).elim
def rAbs3 : C3 := fun ds M Q => match ds with
  | [.int i] => Q (.int (if i < 0 then -i else i)) M
  | _ => False
theorem c3_abs : CallR3 X (.builtin "abs") rAbs3 := CallR3.of call_abs fun H M xs xvs Q m px q => by
  rcases px with _ | ⟨pd, ps⟩; (exact (q : False).elim); rcases ps with _ | ⟨p2, ps2⟩; rotate_left; (first | exact (q : False).elim | (cases pd <;> exact (q : False).elim))
  cases pd with
  | int => exact ⟨_, rfl, up0 m .int q⟩
  | _ => exact (q : False).elim
def rList3 : C3 := fun ds M Q => match ds with
  | [.lst xs] => Q (.lst xs) M
  | [.tup xs] => Q (.lst xs) M
  | _ => False
theorem c3_list : CallR3 X (.type "list") rList3 := CallR3.of call_list_of fun H M xs xvs Q m px q => by
  rcases px with _ | ⟨pd, ps⟩; (exact (q : False).elim); rcases ps with _ | ⟨p2, ps2⟩; rotate_left; (first | exact (q : False).elim | (cases pd <;> exact (q : False).elim))
  cases pd with
  | lst h r => exact ⟨_, _, rfl, .inl (SqL.of3 h), fun l hl => ⟨_, M, Step.lay hl, m.lay hl, .lst (.inl ⟨.inl upd_same, m.free hl⟩) (r.mono (Step.lay hl)), q⟩⟩
  | tup h r => exact ⟨_, _, rfl, .inr (SqT.of3 h), fun l hl => ⟨_, M, Step.lay hl, m.lay hl, .lst (.inl ⟨.inl upd_same, m.free hl⟩) (r.mono (Step.lay hl)), q⟩⟩
  | _ => exact (q : False).elim
def tyN : D → String
  | .non => "NoneType" | .bl _ => "bool" | .int _ => "int" | .str _ => "str" | .tup _ => "tuple" | .lst _ => "list" | .dct _ => "dict" | .ty _ => "type" | .ref _ => ""
def isIn (n T : String) : Bool := n == T || (n == "bool" && T == "int")
def okTy : D → Prop
  | .ref _ => False
  | .ty _ => False
  | _ => True
def rIsi3 : C3 := fun ds M Q => match ds with
  | [d, .ty T] => okTy d ∧ (T = "bool" ∨ T = "int" ∨ T = "str" ∨ T = "tuple" ∨ T = "list") ∧ Q (.bl (isIn (tyN d) T)) M
  | _ => False
theorem kit_ok {K : PySem.W.Frag} {n T : String} (hn : n = "NoneType" ∨ n = "bool" ∨ n = "int" ∨ n = "str" ∨ n = "tuple" ∨ n = "list" ∨ n = "dict") (hT : T = "bool" ∨ T = "int" ∨ T = "str" ∨ T = "tuple" ∨ T = "list") :
    PySem.W.kitOne K (.type n) (.type T) = some (isIn n T) := by
  rcases hn with rfl | rfl | rfl | rfl | rfl | rfl | rfl <;> rcases hT with rfl | rfl | rfl | rfl | rfl <;> kernel_rfl
end
end L3
namespace L3
open PySem PySem.Spec PyProof.Rows L2
section
variable {X : Cx} {a b e o i value : Expr} {es : List Expr} {ta tb te td ty tv : TE3} {t : TA3} {pos p pos' : Pos} {x : Str}
theorem c3_isi : CallR3 X (.builtin "isinstance") rIsi3 := by
  intro pins s σv H M xs xvs us Q I m rv px q
  have fin : ∀ (d : D) (T : String) (v : V) (u : Value) (n : String) (hn : n = "NoneType" ∨ n = "bool" ∨ n = "int" ∨ n = "str" ∨ n = "tuple" ∨ n = "list" ∨ n = "dict") (G : Heap → Prop), tyN d = n →
      PySem.W.KitX X.K u (.type n) G → G s.heap → u ≠ .builtin "__main__.__loader__#opaque" → (T = "bool" ∨ T = "int" ∨ T = "str" ∨ T = "tuple" ∨ T = "list") ∧ Q (.bl (isIn (tyN d) T)) M →
      wpAny (model X.prog X.w) X.A (call (.builtin "isinstance") [u, .type T]) (EP3 X pins σv M H Q) X.xe s := by
    intro d T v u n hn G e1 kx g hu ⟨hT, q⟩
    subst e1
    exact PySem.W.kia_one kx I.kIn g (kit_ok hn hT) hu fun tk => ⟨_, .bl _, M, H, I.tok tk, .refl, m, rfl, .bl, q⟩
  match xs, px, q with
  | [d, .ty T], .cons pd (.cons .ty .nil), q =>
    obtain ⟨u, u', rfl, ru, ru'⟩ := vals2 rv
    cases ru'
    obtain ⟨hd, q⟩ := q
    cases pd with
    | non => cases ru; exact fin .non T .non _ _ (.inl rfl) _ rfl PySem.W.kitx_none True.intro (fun z => nomatch z) q
    | @bl k => cases ru; exact fin (.bl k) T .non _ _ (.inr (.inl rfl)) _ rfl PySem.W.kitx_bool True.intro (fun z => nomatch z) q
    | @int k => obtain ⟨t, rfl⟩ := ru; exact fin (.int k) T .non _ _ (.inr (.inr (.inl rfl))) _ rfl PySem.W.kitx_int True.intro (fun z => nomatch z) q
    | @str k => obtain ⟨t, rfl⟩ := ru; exact fin (.str k) T .non _ _ (.inr (.inr (.inr (.inl rfl)))) _ rfl PySem.W.kitx_str True.intro (fun z => nomatch z) q
    | @tup a k vs h r =>
      cases ru
      obtain ⟨its, _, ⟨ob, h1, h2, _⟩, _⟩ := I.tuple (SqT.of3 h)
      exact fin (.tup k) T .non _ _ (.inr (.inr (.inr (.inr (.inl rfl))))) _ rfl PySem.W.kitx_tuple ⟨ob, h1, h2⟩ (fun z => nomatch z) q
    | @lst a k vs h r =>
      cases ru
      obtain ⟨its, _, ⟨ob, n, h1, h2, _⟩, _⟩ := I.list (SqL.of3 h)
      exact fin (.lst k) T .non _ _ (.inr (.inr (.inr (.inr (.inr (.inl rfl)))))) _ rfl PySem.W.kitx_list ⟨ob, h1, h2⟩ (fun z => nomatch z) q
    | @dct a k vs h r =>
      cases ru
      obtain ⟨_, _, vs, _, ob, es, ep, h1, h2, _⟩ := dk_rd I.hok h.1
      exact fin (.dct k) T .non _ _ (.inr (.inr (.inr (.inr (.inr (.inr rfl)))))) _ rfl PySem.W.kitx_dict ⟨ob, h1, h2.1⟩ (fun z => nomatch z) q
    | ty => exact hd.elim
    | ref => exact hd.elim
def valD (kds : List (Key × D)) (k : Key) : Option D := (kds.find? fun kv => decide (kv.1 = k)).map (·.2)
def putD (kds : List (Key × D)) (k : Key) (d : D) : List (Key × D) :=
  if (kds.any fun kv => decide (kv.1 = k)) = true then kds.map (fun kv => if kv.1 = k then (kv.1, d) else kv) else kds ++ [(k, d)]
def mergeD (kds more : List (Key × D)) : List (Key × D) := more.foldl (fun acc kv => putD acc kv.1 kv.2) kds
def kD : Key → D
  | .inl i => .int i
  | .inr x => .str x
def dK? : D → Option Key
  | .int i => some (.inl i)
  | .str x => some (.inr x)
  | _ => none
section
variable {K : PySem.W.Frag} {M : Mem} {H : Hp}
theorem RepK.length {kds : List (Key × D)} {kvs : List (Key × V)} (r : RepK K M H kds kvs) : kds.length = kvs.length := by
  induction kds generalizing kvs with
  | nil => cases r; rfl
  | cons d ds ih => cases r with | cons a b => rw [List.length_cons, List.length_cons, ih b]
theorem RepK.val {kds : List (Key × D)} {kvs : List (Key × V)} (r : RepK K M H kds kvs) (k : Key) : (∃ d v, valD kds k = some d ∧ valV kvs k = some v ∧ Rep K M H d v) ∨ (valD kds k = none ∧ valV kvs k = none) := by
  induction kds generalizing kvs with
  | nil => cases r; exact .inr ⟨rfl, rfl⟩
  | cons d ds ih =>
    cases r with
    | @cons k' d v ds vs a b =>
      by_cases e : k' = k
      · exact .inl ⟨d, v, by simp [valD, e], by simp [valV, e], a⟩
      · have e1 : valD ((k', d) :: ds) k = valD ds k := by simp [valD, e]
        have e2 : valV ((k', v) :: vs) k = valV vs k := by simp [valV, e]
        rw [e1, e2]; exact ih b
theorem RepK.some {kds : List (Key × D)} {kvs : List (Key × V)} (r : RepK K M H kds kvs) {k : Key} {d : D} (h : valD kds k = Option.some d) : ∃ v, valV kvs k = Option.some v ∧ Rep K M H d v := by
  rcases r.val k with ⟨d', v, e1, e2, q⟩ | ⟨e1, _⟩
  · rw [h] at e1; cases e1; exact ⟨v, e2, q⟩
  · rw [h] at e1; cases e1
theorem RepK.anyK {kds : List (Key × D)} {kvs : List (Key × V)} (r : RepK K M H kds kvs) (k : Key) : (kds.any fun kv => decide (kv.1 = k)) = kvs.any fun kv => decide (kv.1 = k) := by
  induction kds generalizing kvs with
  | nil => cases r; rfl
  | cons d ds ih => cases r with | cons a b => rw [List.any_cons, List.any_cons, ih b]
theorem RepK.repl {kds : List (Key × D)} {kvs : List (Key × V)} (r : RepK K M H kds kvs) (k : Key) {d : D} {v : V} (q : Rep K M H d v) : RepK K M H (kds.map (fun kv => if kv.1 = k then (kv.1, d) else kv)) (kvs.map (fun kv => if kv.1 = k then (kv.1, v) else kv)) := by
  induction kds generalizing kvs with
  | nil => cases r; exact .nil
  | cons d' ds ih =>
    cases r with
    | @cons k' d' v' ds vs a b =>
      rw [List.map_cons, List.map_cons]
      by_cases e : k' = k
      · simp only [e, if_true]; exact .cons q (ih b)
      · simp only [e, if_false]; exact .cons a (ih b)
theorem RepK.snoc {kds : List (Key × D)} {kvs : List (Key × V)} (r : RepK K M H kds kvs) (k : Key) {d : D} {v : V} (q : Rep K M H d v) : RepK K M H (kds ++ [(k, d)]) (kvs ++ [(k, v)]) := by
  induction kds generalizing kvs with
  | nil => cases r; exact .cons q .nil
  | cons d' ds ih => cases r with | cons a b => exact .cons a (ih b)
theorem RepK.put {kds : List (Key × D)} {kvs : List (Key × V)} (r : RepK K M H kds kvs) (k : Key) {d : D} {v : V} (q : Rep K M H d v) : RepK K M H (putD kds k d) (putK kvs k v) := by
  unfold putD putK
  rw [r.anyK]
  split
  · exact r.repl k q
  · exact r.snoc k q
theorem RepK.merge {more : List (Key × D)} {mv : List (Key × V)} (q : RepK K M H more mv) : ∀ {kds : List (Key × D)} {kvs : List (Key × V)}, RepK K M H kds kvs → RepK K M H (mergeD kds more) (mergeK kvs mv) := by
  induction more generalizing mv with
  | nil => cases q; exact fun r => r
  | cons d ds ih => cases q with | cons a b => exact fun r => ih b (r.put _ a)
theorem rep_key {k : Key} {v : V} (r : Rep K M H (kD k) v) : v = kV k := by
  cases k <;> (cases r; rfl)
theorem dK_of {d : D} {k : Key} (h : dK? d = Option.some k) : d = kD k := by
  cases d <;> first | (cases h; rfl) | cases h
end
def rDGet3 : R3 := fun x y M Q => ∃ k d, dK? y = some k ∧ (match x with
  | .dct kds => valD kds k = some d
  | .ref a => ∃ kds, M a = some (.dct kds) ∧ valD kds k = some d
  | _ => False) ∧ Q d M
theorem pe3_dget (hu : X.A.units + 1 < cLine) (ho : PE3 X o td) (hi : PE3 X i ty) (hs : NoSl i) : PE3 X (.Subscript o i pos) (tOp3 rDGet3 td ty) := PE3.of (pe_dget hu ho.dn hi.dn hs) fun pins s σv H σ M Q I hS hM h => by
  refine ⟨σ, M, _, hS, hM, h, fun x xv M1 H1 st1 m1 p1 q1 => ⟨σ, M1, _, hS.mono st1, m1, q1, fun y yv M2 H2 st2 m2 p2 q2 => ?_⟩⟩
  obtain ⟨k, d, hk, hx, q⟩ := q2
  have hy := dK_of hk
  subst hy
  have ey := rep_key p2
  subst ey
  have p1' := p1.mono st2
  cases x <;> first | exact hx.elim | skip
  · cases p1'
    obtain ⟨kds, hm, hv⟩ := hx
    obtain ⟨ho, e1, r⟩ := m2 _ _ hm
    cases ho <;> first | exact r.elim | skip
    obtain ⟨v, hv', rv⟩ := RepK.some r hv
    exact ⟨_, v, rfl, .inl ⟨_, k, .inl e1, rfl, hv'.symm⟩, d, M2, st1.trans st2, m2, rv, q⟩
  · cases p1' with
    | dct hf r =>
      obtain ⟨v, hv', rv⟩ := RepK.some r hx
      exact ⟨_, v, rfl, .inl ⟨_, k, hf.1, rfl, hv'.symm⟩, d, M2, st1.trans st2, m2, rv, q⟩
def tDPut3 (td ty tv : TE3) : TS3 := fun T σ M => tv σ M fun d M1 => td σ M1 fun x M2 => ty σ M2 fun y M3 => ∃ k a kds, dK? y = some k ∧ x = .ref a ∧ M3 a = some (.dct kds) ∧ kds.length < sizeLine ∧ T.nx σ (mput M3 a (.dct (putD kds k d)))
theorem ps3_dput (hu : X.A.units + 1 < cLine) (ho : PE3 X o td) (hi : PE3 X i ty) (hv : PE3 X value tv) (hs : swapsWith value (some (.Subscript o i pos')) pos.line X.env = pure false) :
    PS3 X (.Assign [.Subscript o i pos'] value pos) (tDPut3 td ty tv) := PS3.of (ps_dput hu ho.dn hi.dn hv.dn hs) fun pins s σv H σ M T I hS hM h => by
  refine ⟨σ, M, _, hS, hM, h, fun d v M1 H1 st1 m1 p1 q1 => ⟨σ, M1, _, hS.mono st1, m1, q1, fun x xv M2 H2 st2 m2 p2 q2 => ⟨σ, M2, _, hS.mono (st1.trans st2), m2, q2, fun y yv M3 H3 st3 m3 p3 q3 => ?_⟩⟩⟩
  obtain ⟨k, a, kds, hk, rfl, hm, hl, q⟩ := q3
  have hy := dK_of hk
  subst hy
  have ey := rep_key p3
  subst ey
  cases p2
  obtain ⟨ho, e1, r⟩ := m3 _ _ hm
  cases ho <;> first | exact r.elim | skip
  have r' : RepK X.K M3 H3 kds _ := r
  have hne : H3 a = none ∨ M3 a ≠ none := .inr (by rw [hm]; intro z; cases z)
  have pd := p1.mono (st2.trans st3)
  refine ⟨a, _, rfl, .inl ⟨_, k, e1, rfl, by rw [← r'.length]; exact hl, rfl⟩, σ, mput M3 a (.dct (putD kds k d)), ((st1.trans st2).trans st3).trans (Step.put hne), m3.put hne (r'.put k pd), ?_, q⟩
  exact hS.mono (((st1.trans st2).trans st3).trans (Step.put hne))
def tPairs3 : List (TE3 × TE3) → Lo → Mem → (List (D × D) → Mem → Prop) → Prop
  | [], _, M, Q => Q [] M
  | (tk, tv) :: r, σ, M, Q => tk σ M fun x M1 => tv σ M1 fun y M2 => tPairs3 r σ M2 fun ps M3 => Q ((x, y) :: ps) M3
def PPs3 (X : Cx) (pos : Pos) (keys : List (Option Expr)) (values : List Expr) (trs : List (TE3 × TE3)) : Prop := PPs X pos keys values (trs.map fun z => (dnE X.K z.1, dnE X.K z.2))
theorem pps3_nil : PPs3 X pos [] [] [] := pps_nil
theorem pps3_cons {k v : Expr} {ks : List (Option Expr)} {vs : List Expr} {tk tv : TE3} {trs : List (TE3 × TE3)} (hk : PE3 X k tk) (hv : PE3 X v tv) (hr : PPs3 X pos ks vs trs) : PPs3 X pos (some k :: ks) (v :: vs) ((tk, tv) :: trs) := pps_cons hk.dn hv.dn hr
inductive RepP (K : PySem.W.Frag) (M : Mem) (H : Hp) : List (D × D) → List (V × V) → Prop
  | nil : RepP K M H [] []
  | cons {d1 d2 : D} {v1 v2 : V} {ds : List (D × D)} {vs : List (V × V)} : Rep K M H d1 v1 → Rep K M H d2 v2 → RepP K M H ds vs → RepP K M H ((d1, d2) :: ds) ((v1, v2) :: vs)
theorem tPairs_dn {K : PySem.W.Frag} : ∀ (trs : List (TE3 × TE3)) {σ : Lo} {σv : L2.St} {M : Mem} {H : Hp} {Q : List (D × D) → Mem → Prop} {Q2 : List (V × V) → Hp → Prop}, SRel K M H σ σv → MRel K M H → tPairs3 trs σ M Q →
    (∀ ps vs M' H', Step M H M' H' → MRel K M' H' → RepP K M' H' ps vs → Q ps M' → Q2 vs H') → tPairs (trs.map fun z => (dnE K z.1, dnE K z.2)) σv H Q2
  | [], σ, σv, M, H, Q, Q2, hS, hM, h, hq => hq [] [] M H .refl hM .nil h
  | (tk, tv) :: r, σ, σv, M, H, Q, Q2, hS, hM, h, hq => by
    refine ⟨σ, M, _, hS, hM, h, fun x xv M1 H1 st1 m1 p1 q1 => ⟨σ, M1, _, hS.mono st1, m1, q1, fun y yv M2 H2 st2 m2 p2 q2 => ?_⟩⟩
    refine tPairs_dn r (hS.mono (st1.trans st2)) m2 q2 fun ps vs M3 H3 st3 m3 p3 q3 => ?_
    exact hq _ _ M3 H3 ((st1.trans st2).trans st3) m3 (.cons (p1.mono (st2.trans st3)) (p2.mono st3) p3) q3
def tDispM3 (trs : List (TE3 × TE3)) : TE3 := fun σ M Q => ∀ p, M p = none → tPairs3 trs σ (mput M p (.dct [])) fun ps M1 => M1 p = some (.dct []) ∧
  ∃ kds : List (Key × D), ps = kds.map (fun kd => (kD kd.1, kd.2)) ∧ kds.length ≤ 15 ∧ Q (.ref p) (mput M1 p (.dct (mergeD [] kds)))
theorem repP_keys {K : PySem.W.Frag} {M : Mem} {H : Hp} : ∀ (kds : List (Key × D)) {vs : List (V × V)}, RepP K M H (kds.map (fun kd => (kD kd.1, kd.2))) vs → ∃ kvs : List (Key × V), vs = kvs.map (fun kv => (kV kv.1, kv.2)) ∧ RepK K M H kds kvs
  | [], vs, r => by cases r; exact ⟨[], rfl, .nil⟩
  | (k, d) :: kds, vs, r => by
    cases r with
    | cons a b c =>
      obtain ⟨kvs, e, q⟩ := repP_keys kds c
      have ek := rep_key a
      subst ek e
      exact ⟨(k, _) :: kvs, rfl, .cons b q⟩
theorem pe3_dispM {keys : List (Option Expr)} {values : List Expr} {trs : List (TE3 × TE3)} (h : PPs3 X pos keys values trs) (hall : keys.all (·.isSome) = true) (hl : keys.length = values.length) (h0 : keys ≠ []) (h15 : keys.length ≤ 15) :
    PE3 X (.Dict keys values pos) (tDispM3 trs) := PE3.of (pe_disp h hall hl h0 h15) fun pins s σv H σ M Q I hS hM h => by
  intro p hp
  have st0 : Step M H (mput M p (.dct [])) (upd H p (.dK [])) := Step.put (.inl hp)
  refine tPairs_dn trs (hS.mono st0) (hM.put (.inl hp) (show RepK _ _ _ _ _ from .nil)) (h p (hM.free hp)) fun ps vs M1 H1 st1 m1 r1 hx0 => ?_
  obtain ⟨hm, kds, e, hl, q⟩ := hx0
  subst e
  obtain ⟨kvs, rfl, rk⟩ := repP_keys kds r1
  obtain ⟨ho, e1, r⟩ := m1 _ _ hm
  cases ho <;> first | exact r.elim | skip
  have r' : RepK X.K M1 H1 [] _ := r
  cases r'
  have hne : H1 p = none ∨ M1 p ≠ none := .inr (by rw [hm]; intro z; cases z)
  exact ⟨e1, kvs, rfl, by rw [← rk.length]; exact hl, .ref p, mput M1 p (.dct (mergeD [] kds)), (st0.trans st1).trans (Step.put hne), m1.put hne (rk.merge .nil), .ref, q⟩
end
def Vs (M : Mem) (d : D) (M' : Mem) (d' : D) : Prop := ∀ (K : PySem.W.Frag) (H : Hp) (v : V), MRel K M H → Rep K M H d v → MRel K M' H ∧ Rep K M' H d' v ∧ ∀ a, M' a ≠ none → M a ≠ none
section
variable {K : PySem.W.Frag} {M M' : Mem} {H : Hp}
theorem Rep.shrink {d : D} {v : V} (s : ∀ a, M a = none → M' a = none) (r : Rep K M H d v) : Rep K M' H d v :=
  Rep.rec (motive_1 := fun d v _ => Rep K M' H d v) (motive_2 := fun ds vs _ => Reps K M' H ds vs) (motive_3 := fun ds vs _ => RepK K M' H ds vs)
    .non .bl .int .str .ty .ref (fun h _ ih => .tup (h.imp (fun z => ⟨z.1, s _ z.2⟩) id) ih) (fun h _ ih => .lst (h.imp (fun z => ⟨z.1, s _ z.2⟩) id) ih) (fun h _ ih => .dct ⟨h.1, s _ h.2⟩ ih)
    .nil (fun _ _ a b => .cons a b) .nil (fun _ _ a b => .cons a b) r
theorem Reps.shrink {ds : List D} {vs : List V} (s : ∀ a, M a = none → M' a = none) (r : Reps K M H ds vs) : Reps K M' H ds vs := by
  induction ds generalizing vs with
  | nil => cases r; exact .nil
  | cons d ds ih => cases r with | cons a b => exact .cons (a.shrink s) (ih b)
theorem RepK.shrink {ds : List (Key × D)} {vs : List (Key × V)} (s : ∀ a, M a = none → M' a = none) (r : RepK K M H ds vs) : RepK K M' H ds vs := by
  induction ds generalizing vs with
  | nil => cases r; exact .nil
  | cons d ds ih => cases r with | cons a b => exact .cons (a.shrink s) (ih b)
theorem RepT.shrink {ds : List (List Int × D)} {xs : List (List Int × Addr × Value)} (s : ∀ a, M a = none → M' a = none) (r : RepT K M H ds xs) : RepT K M' H ds xs := by
  induction r with
  | nil => exact .nil
  | cons a b c _ ih => exact .cons (a.shrink s) (b.shrink s) c ih
def Sub (M' M : Mem) : Prop := ∀ a o, M' a = some o → M a = some o
theorem Sub.refl : Sub M M := fun _ _ h => h
theorem Sub.none {a : Addr} (s : Sub M' M) (h : M a = Option.none) : M' a = Option.none := by
  cases e : M' a with
  | none => rfl
  | some o => rw [s a o e] at h; cases h
theorem MRel.sub (s : Sub M' M) (m : MRel K M H) : MRel K M' H := fun a o e => by
  obtain ⟨ho, e1, r⟩ := m a o (s a o e)
  refine ⟨ho, e1, ?_⟩
  cases o <;> cases ho <;> first | exact r.elim | exact Reps.shrink (fun _ z => s.none z) r | exact RepK.shrink (fun _ z => s.none z) r | (obtain ⟨xs, e, r⟩ := r; exact ⟨xs, e, r.shrink fun _ z => s.none z⟩)
theorem Vs.sub (s : Sub M' M) (d : D) : Vs M d M' d := fun K H v m r => ⟨m.sub s, r.shrink fun _ z => s.none z, fun a h z => h (s.none z)⟩
theorem Vs.refl (d : D) : Vs M d M d := Vs.sub .refl d
theorem mdel_sub {a : Addr} : Sub (mdel M a) M := fun b o h => by
  unfold mdel at h
  split at h
  · cases h
  · exact h
theorem mdel_self {a : Addr} : mdel M a a = none := by unfold mdel; rw [if_pos rfl]
theorem mdel_put {a : Addr} {o : MO} (h : M a = none) : mdel (mput M a o) a = M := by
  funext b
  unfold mdel mput
  by_cases e : b = a
  · rw [if_pos e, e, h]
  · rw [if_neg e, if_neg e]
theorem Vs.frzL {a : Addr} {ds : List D} (h : M a = some (.lst ds)) : Vs M (.ref a) (mdel M a) (.lst ds) := fun K H v m r => by
  cases r
  obtain ⟨ho, e1, q⟩ := m a _ h
  cases ho <;> first | exact q.elim | skip
  exact ⟨m.sub mdel_sub, .lst (.inl ⟨.inl e1, mdel_self⟩) (Reps.shrink (fun _ z => mdel_sub.none z) q), fun b hb z => hb (mdel_sub.none z)⟩
theorem Vs.frzD {a : Addr} {ds : List (Key × D)} (h : M a = some (.dct ds)) : Vs M (.ref a) (mdel M a) (.dct ds) := fun K H v m r => by
  cases r
  obtain ⟨ho, e1, q⟩ := m a _ h
  cases ho <;> first | exact q.elim | skip
  exact ⟨m.sub mdel_sub, .dct ⟨.inl e1, mdel_self⟩ (RepK.shrink (fun _ z => mdel_sub.none z) q), fun b hb z => hb (mdel_sub.none z)⟩
theorem Step.less {M0 : Mem} {H0 : Hp} (s : Step M0 H0 M H) (h : ∀ a, M' a ≠ none → M a ≠ none) : Step M0 H0 M' H := ⟨s.keep, fun a z => s.dom a (h a z)⟩
end
end L3
namespace L3
open PySem PySem.Spec PyProof.Rows L2
section
variable {X : Cx} {a b e o i value : Expr} {es : List Expr} {ta tb te td ty tv : TE3} {t : TA3} {pos p pos' : Pos} {x : Str} {st : Stmt} {rest : List Stmt} {t1 t2 : TS3}
theorem SP3.trans {pins : List (Addr × Obj)} {M M1 : Mem} {H H1 : Hp} {T : Ends3} {f : Flow} {s' : Shared} (s : Step M H M1 H1) (h : SP3 X pins M1 H1 T f s') : SP3 X pins M H T f s' := by
  cases f with
  | next => obtain ⟨σ', σv', M', H', I, st, r⟩ := h; exact ⟨σ', σv', M', H', I, s.trans st, r⟩
  | brk => obtain ⟨σ', σv', M', H', I, st, r⟩ := h; exact ⟨σ', σv', M', H', I, s.trans st, r⟩
  | cont => obtain ⟨σ', σv', M', H', I, st, r⟩ := h; exact ⟨σ', σv', M', H', I, s.trans st, r⟩
  | ret u => obtain ⟨d, v, σv', M', H', I, st, r⟩ := h; exact ⟨d, v, σv', M', H', I, s.trans st, r⟩
def tNext3 : TS3 := fun T σ M => T.nx σ M
def tSeq3 (t u : TS3) : TS3 := fun T σ M => t { T with nx := u T } σ M
theorem pss3_nil : PSs3 X [] tNext3 := fun _ _ σv H σ M T I hS hM h => wpAny_execs_nil ⟨σ, σv, M, H, I, .refl, hM, hS, h⟩
theorem pss3_cons (h1 : PS3 X st t1) (h2 : PSs3 X rest t2) : PSs3 X (st :: rest) (tSeq3 t1 t2) := by
  intro pins s σv H σ M T I hS hM h
  refine wpAny_execs_cons (thn (h1 pins s σv H σ M { T with nx := t2 T } I hS hM h) fun f s1 q => ?_)
  cases f with
  | next =>
    obtain ⟨σ', σv', M', H', I', st, m', r', q⟩ := q
    exact thn (h2 pins s1 σv' H' σ' M' T I' r' m' q) fun _ _ z => z.trans st
  | ret v => exact q
  | brk => exact q
  | cont => exact q
theorem pss3_one (h1 : PS3 X st t1) : PSs3 X [st] t1 := by
  intro pins s σv H σ M T I hS hM h
  refine wpAny_execs_cons (thn (h1 pins s σv H σ M T I hS hM h) fun f s1 q => ?_)
  cases f with
  | next => exact wpAny_execs_nil q
  | ret v => exact q
  | brk => exact q
  | cont => exact q
def tDrop3 (te : TE3) : TS3 := fun T σ M => te σ M fun _ M1 => T.nx σ M1
theorem ps3_expr (he : PE3 X e te) (hs : swapsWith e none pos.line X.env = pure false := by rfl) : PS3 X (.Expr e pos) (tDrop3 te) := by
  intro pins s σv H σ M T I hS hM h
  exact wpAny_Expr_any (thn (he pins s σv H σ M _ I hS hM h) fun v s1 ⟨d, xv, M1, H1, I1, st1, m1, r1, p1, q1⟩ => ⟨σ, σv, M1, H1, I1, st1, m1, hS.mono st1, q1⟩) I.quiet hs
def tRet3 (te : TE3) : TS3 := fun T σ M => te σ M T.rt
theorem ps3_ret (he : PE3 X e te) : PS3 X (.Return (some e) pos) (tRet3 te) := by
  intro pins s σv H σ M T I hS hM h
  exact wpAny_Return_some (thn (he pins s σv H σ M _ I hS hM h) fun v s1 ⟨d, xv, M1, H1, I1, st1, m1, r1, p1, q1⟩ => ⟨d, xv, σv, M1, H1, I1, st1, m1, r1, p1, q1⟩)
def tIfS3 (c : TT3) (t u : TS3) : TS3 := fun T σ M => c σ M fun b M1 => if b = true then t T σ M1 else u T σ M1
theorem ps3_if {c : Expr} {a b : List Stmt} {tc : TT3} (hc : PT3 X c tc) (ha : PSs3 X a t1) (hb : PSs3 X b t2) : PS3 X (.If c a b pos) (tIfS3 tc t1 t2) := by
  intro pins s σv H σ M T I hS hM h
  refine wpAny_If (thn (hc pins s σv H σ M _ I hS hM h) fun d s1 ⟨M1, H1, I1, st1, m1, q1⟩ => ?_)
  cases d with
  | true => exact thn (ha pins s1 σv H1 σ M1 T I1 (hS.mono st1) m1 q1) fun _ _ z => z.trans st1
  | false => exact thn (hb pins s1 σv H1 σ M1 T I1 (hS.mono st1) m1 q1) fun _ _ z => z.trans st1
def tSet3 (i : Nat) (te : TE3) : TS3 := fun T σ M => te σ M fun d M1 => T.nx (σ.set i (some d)) M1
theorem ps3_set {i : Nat} (hN : X.N.Nodup) (hi : X.N[i]? = some x) (hx : Loc X.env.scope x) (he : PE3 X e te) (hs : swapsWith e (some (.Name x pos')) pos.line X.env = pure false := by rfl) (hf : X.fn x = true ∨ X.env.scope.names.lookup x = some .local := by first | exact .inl rfl | exact .inr rfl | assumption) :
    PS3 X (.Assign [.Name x pos'] e pos) (tSet3 i te) := PS3.of (ps_set hN hi hx he.dn hs hf) fun pins s σv H σ M T I hS hM h =>
  ⟨σ, M, _, hS, hM, h, fun d v M' H' st m r q => ⟨σ.set i (some d), M', st, m, (hS.mono st).set r i, q⟩⟩
def Wk (K : PySem.W.Frag) (J : It) (ds : List D) (M : Mem) (H : Hp) : Prop := ∀ M' H', Step M H M' H' →
  (∀ i, i < ds.length → J.go i H') ∧ (∀ i d x H'', ds[i]? = some d → J.yld i H' x H'' → H'' = H' ∧ Rep K M' H' d x) ∧ ∀ i, ds.length ≤ i → J.stop i H'
abbrev TI3 := Lo → Mem → (List D → Mem → Prop) → Prop
def dnI (K : PySem.W.Frag) (t : TI3) : TI := fun σv H R2 => ∃ σ M R, SRel K M H σ σv ∧ MRel K M H ∧ t σ M R ∧ ∀ ds J M' H', Step M H M' H' → MRel K M' H' → Wk K J ds M' H' → R ds M' → R2 J H'
def PI3 (X : Cx) (tg iter : Expr) (t : TI3) : Prop := PI X tg iter (dnI X.K t)
theorem PI.weak {tg iter : Expr} {w1 w2 : TI} (h : PI X tg iter w1) (hw : ∀ σ H R, w2 σ H R → w1 σ H R) : PI X tg iter w2 := fun pins s σ H R I q => h pins s σ H R I (hw _ _ _ q)
def tFor3 (ti : TI3) (i : Nat) (tb : TS3) : TS3 := fun T σ M => ti σ M fun ds M1 => ∃ Pv : Nat → Lo → Mem → Prop, Pv 0 σ M1 ∧
  (∀ k d σ M, ds[k]? = some d → Pv k σ M → tb { T with nx := Pv (k + 1), ct := Pv (k + 1), bk := T.nx } (σ.set i (some d)) M) ∧ ∀ σ M, Pv ds.length σ M → T.nx σ M
theorem ps3_for {iter : Expr} {body : List Stmt} {ti : TI3} {tb : TS3} {i : Nat} {px : Pos} (hp : PassesOwn (model X.prog X.w) X.A X.env X.xe) (hc : X.calm = true) (hi : PI3 X (.Name x px) iter ti)
    (hN : X.N.Nodup) (hix : X.N[i]? = some x) (hx : Loc X.env.scope x) (hb : PSs3 X body tb)
    (hs : ∀ y, foldedSetIterable iter X.env y = pure y := by intro _; rfl) (hf : X.fn x = true ∨ X.env.scope.names.lookup x = some .local := by first | exact .inl rfl | exact .inr rfl | assumption) :
    PS3 X (.For (.Name x px) iter body [] pos) (tFor3 ti i tb) := PS3.of (ps_for hp hc hi (pg_name hN hix hx hf) hb.dn hs) fun pins s σv H σ M T I hS hM h => by
  refine ⟨σ, M, _, hS, hM, h, fun ds J M1 H1 st1 m1 wk ⟨Pv, p0, turn, done⟩ => ?_⟩
  refine ⟨fun k m σv' H' => m = ds.length - k ∧ k ≤ ds.length ∧ ∃ σ' M', Step M1 H1 M' H' ∧ MRel X.K M' H' ∧ SRel X.K M' H' σ' σv' ∧ Pv k σ' M', ⟨_, rfl, Nat.zero_le _, σ, M1, .refl, m1, hS.mono st1, p0⟩, ?_⟩
  rintro k m σv' H' ⟨rfl, hk, σ', M', st', m', hS', pk⟩
  obtain ⟨go, yld, stop⟩ := wk M' H' st'
  by_cases hlt : k < ds.length
  · refine .inr ⟨go k hlt, fun σ2 H2 => ∃ σ'' M'', Step M1 H1 M'' H2 ∧ MRel X.K M'' H2 ∧ SRel X.K M'' H2 σ'' σ2 ∧ Pv (k + 1) σ'' M'', ?_, ?_⟩
    · rintro σ2 H2 ⟨σ'', M'', q⟩
      exact ⟨ds.length - (k + 1), by lia, rfl, hlt, σ'', M'', q⟩
    · intro y H'' hy
      obtain ⟨rfl, ry⟩ := yld k ds[k] y H'' (by simp [hlt]) hy
      refine ⟨σ'.set i (some ds[k]), M', _, hS'.set ry i, m', turn k ds[k] σ' M' (by simp [hlt]) pk, ?_⟩
      exact ⟨fun σ2 v2 M2 H2 s2 m2 r2 q2 => ⟨σ2, M2, st'.trans s2, m2, r2, q2⟩, fun σ2 v2 M2 H2 s2 m2 r2 q2 => ⟨σ2, M2, (st1.trans st').trans s2, m2, r2, q2⟩,
        fun σ2 v2 M2 H2 s2 m2 r2 q2 => ⟨σ2, M2, st'.trans s2, m2, r2, q2⟩, fun d v2 M2 H2 s2 m2 r2 q2 => ⟨d, M2, (st1.trans st').trans s2, m2, r2, q2⟩⟩
  · have e : k = ds.length := by lia
    subst e
    exact .inl ⟨stop _ (Nat.le_refl _), σ', M', st1.trans st', m', hS', done σ' M' pk⟩
def iRng3 (ta : TA3) : TI3 := fun σ M R => ta σ M fun ds M1 => match ds with
  | [.int j] => -(2 ^ 62) ≤ j ∧ j < 2 ^ 62 ∧ R ((List.range j.toNat).map fun k => D.int (k : Nat)) M1
  | _ => False
theorem pi3_range1 {tg : Expr} (hg : Gl X "range") (hm : X.mg "range" = none) (ha : PA3 X [a] t) (hs : starEach [a] X.env = [(false, eval a X.env)] := by rfl) : PI3 X tg (.Call (.Name "range" p) [a] [] pos) (iRng3 t) :=
  PI.weak (pi_range1 hg hm ha.dn hs) fun σv H R2 hx0 => by
    obtain ⟨σ, M, R, hS, hM, h, k⟩ := hx0
    refine ⟨σ, M, _, hS, hM, h, fun ds vs M' H' st m r q => ?_⟩
    have px := r
    clear r
    rcases px with _ | ⟨pd, ps⟩; (exact (q : False).elim); rcases ps with _ | ⟨p2, ps2⟩; rotate_left; (first | exact (q : False).elim | (cases pd <;> exact (q : False).elim))
    cases pd with
    | @int j =>
      obtain ⟨h1, h2, q⟩ := q
      refine ⟨j, rfl, h1, h2, k _ _ M' H' st m (fun M2 H2 s2 => ⟨fun i hi => ?_, fun i d x H3 hd hy => ?_, fun i hi => ?_⟩) q⟩
      · show i < j.toNat
        simpa using hi
      · obtain ⟨rfl, rfl⟩ := hy
        refine ⟨rfl, ?_⟩
        rw [List.getElem?_map] at hd
        cases e : (List.range j.toNat)[i]? with
        | none => rw [e] at hd; cases hd
        | some n =>
          rw [e] at hd
          have en : n = i := by
            rw [List.getElem?_range] at e
            · exact (Option.some.inj e).symm
            · have := (List.getElem?_eq_some_iff.mp e).1; simpa using this
          subst en
          cases hd
          have z : (0 : Int) + (n : Int) = (n : Int) := by lia
          rw [z]; exact .int
      · show j.toNat ≤ i
        simpa using hi
    | _ => exact (q : False).elim
theorem pi3_list {tg : Expr} {te' : TE3} (ha : PE3 X a te') (hte : te' = te) : PI3 X tg a (fun σ M R => te σ M fun d M1 => match d with | .lst ds => R ds M1 | _ => False) := by
  subst hte
  refine PI.weak (pi_list ha.dn) fun σv H R2 hx0 => ?_
  obtain ⟨σ, M, R, hS, hM, h, k⟩ := hx0
  refine ⟨σ, M, _, hS, hM, h, fun d v M' H' st m r q => ?_⟩
  cases r <;> first | exact q.elim | skip
  rename_i a' ds vs h1 rs
  refine ⟨a', rfl, ⟨vs, SqL.of3 h1⟩, k ds _ M' H' st m (fun M2 H2 s2 => ?_) q⟩
  have h2 : SqL X.K H2 a' vs := SqL.of3 (h1.imp (Fix.mono s2) id)
  have r2 := rs.mono s2
  refine ⟨fun i hi => ?_, fun i d x H3 hd hy => ?_, fun i hi => ?_⟩
  · obtain ⟨v, hv, _⟩ := r2.get (i := i) (d := ds[i]) (by simp [hi])
    exact ⟨vs, v, h2, hv⟩
  · obtain ⟨rfl, hy⟩ := hy
    obtain ⟨v, hv, rv⟩ := r2.get hd
    rw [hy vs h2] at hv
    cases hv
    exact ⟨rfl, rv⟩
  · exact ⟨vs, h2, by rw [← r2.length]; exact hi⟩
theorem pi3_tup {tg : Expr} (ha : PE3 X a te) : PI3 X tg a (fun σ M R => te σ M fun d M1 => match d with | .tup ds => R ds M1 | _ => False) := by
  refine PI.weak (pi_tup ha.dn) fun σv H R2 hx0 => ?_
  obtain ⟨σ, M, R, hS, hM, h, k⟩ := hx0
  refine ⟨σ, M, _, hS, hM, h, fun d v M' H' st m r q => ?_⟩
  cases r <;> first | exact q.elim | skip
  rename_i a' ds vs h1 rs
  refine ⟨a', rfl, ⟨vs, SqT.of3 h1⟩, k ds _ M' H' st m (fun M2 H2 s2 => ?_) q⟩
  have h2 : SqT X.K H2 a' vs := SqT.of3 (h1.imp (Fix.mono s2) id)
  have r2 := rs.mono s2
  refine ⟨fun i hi => ?_, fun i d x H3 hd hy => ?_, fun i hi => ?_⟩
  · obtain ⟨v, hv, _⟩ := r2.get (i := i) (d := ds[i]) (by simp [hi])
    exact ⟨vs, v, h2, hv⟩
  · obtain ⟨rfl, hy⟩ := hy
    obtain ⟨v, hv, rv⟩ := r2.get hd
    rw [hy vs h2] at hv
    cases hv
    exact ⟨rfl, rv⟩
  · exact ⟨vs, h2, by rw [← r2.length]; exact hi⟩
def Its (z : Str) : It := ⟨fun i _ => i < z.cps.size, fun i H x H' => H' = H ∧ ∃ c, z.cps[i]? = some c ∧ x = .str ⟨#[c]⟩, fun i _ => z.cps.size ≤ i⟩
theorem turn_str {P : Program} {w : World} {K : PySem.W.Frag} {tg : Expr} (z : Str) (tk : Tok) (it : Addr) (wide : Bool) : Turn P w K tg (Its z) [it] it (fun i h => h.IsStrIter it (if wide then "str_iterator" else "str_ascii_iterator") z tk i) where
  mem := by simp
  obj := fun i h st b hb => by
    have e : b = it := by simpa using hb
    subst e
    obtain ⟨o, e, c, d⟩ := st
    exact ⟨o, e, fun v z => by rw [d] at z; cases z⟩
  keep := fun i h h' st k => let ⟨o, ho, r⟩ := st; ⟨o, k it (by simp) o ho, r⟩
  item := by
    intro X hP hw hK hc i pins s σ H E I hf st hg
    subst hP hw hK
    obtain ⟨f0, f1, f2, f3, f4, f5⟩ := hf it (by simp)
    have hg' : i < z.cps.size := hg
    have fin : ∀ (h' : Heap), h'.IsStrIter it (if wide then "str_iterator" else "str_ascii_iterator") z tk (i + 1) → Heap.SameBut it s.heap h' → ∃ u, some (Value.str ⟨#[z.cps[i]]⟩ s.toks) = some u ∧
        wpAny (model X.prog X.w) X.A (letOwnedTupleGo tg (.ref it) u) (fun _ s2 => ∃ x H', Inv X pins σ H' s2 ∧ RelV x u ∧ (Its z).yld i H x H' ∧ s2.heap.IsStrIter it (if wide then "str_iterator" else "str_ascii_iterator") z tk (i + 1) ∧ ∀ b ∈ [it], H' b = none) E { s with heap := h', toks := s.toks + 1 } := by
      intro h' st' sb
      have I1 : Inv X pins σ H { s with heap := h', toks := s.toks + 1 } := I.turned (t' := s.toks + 1) (fun b o hb e => (sb.2 b hb).trans e) f0 f1 f3 f4 f5
      obtain ⟨o, e, c, d⟩ := id st'
      refine ⟨_, rfl, go_of (s := { s with heap := h', toks := s.toks + 1 }) e c d (by cases wide <;> decide) ⟨.str ⟨#[z.cps[i]]⟩, H, I1, ⟨_, rfl⟩, ⟨rfl, _, by simp [hg'], rfl⟩, st', fun b hb => (hf b hb).1⟩⟩
    cases wide with
    | false => exact wpAny_pyNext_ascii_item st (c := z.cps[i]) (by simp [hg']) fun h' a b => fin h' a b
    | true => exact wpAny_pyNext_wide_item st (c := z.cps[i]) (by simp [hg']) fun h' a b => fin h' a b
  done := by
    intro X hP hw hK hc i pins s σ H E I hf st hg
    subst hP hw hK
    obtain ⟨f0, f1, f2, f3, f4, f5⟩ := hf it (by simp)
    have hg' : z.cps.size ≤ i := hg
    cases wide with
    | false => exact wpAny_pyNext_ascii_end (I.ok.hd hc) st (by simp [hg']) fun h' eb => ⟨rfl, I.turned (t' := s.toks) (fun b o hb e => eb b o hb e) f0 f1 f3 f4 f5⟩
    | true => exact wpAny_pyNext_wide_end (I.ok.hd hc) st (by simp [hg']) fun h' eb => ⟨rfl, I.turned (t' := s.toks) (fun b o hb e => eb b o hb e) f0 f1 f3 f4 f5⟩
  self := fun A i s Q E st h => by
    cases wide with
    | false => exact wpAny_pyIter_striter_ascii st h
    | true => exact wpAny_pyIter_striter_wide st h
theorem pi_str {tg l : Expr} {tl : TE} (hl : PE X l tl) : PI X tg l (fun σ H R => tl σ H fun x H1 => ∃ z, x = .str z ∧ R (Its z) H1) := by
  intro pins s σ H R I h
  refine thn (hl pins s σ H _ I h) fun v s1 hx0 => ?_
  obtain ⟨x, H1, I1, r1, q1⟩ := hx0
  obtain ⟨z, e, q⟩ := q1
  subst e
  obtain ⟨tk, rfl⟩ := r1
  have fin : ∀ wide : Bool, PIE X pins σ tg R (.ref s1.heap.objs.size) { s1 with heap := s1.heap.push { cls := .type (if wide then "str_iterator" else "str_ascii_iterator"), data := .fields #[.str z tk, .int 0 0] } } := fun wide => by
    refine ⟨s1.heap.objs.size, [s1.heap.objs.size], _, _, H1, rfl, I1.kept (t' := s1.toks) fun b o e => Heap.get?_push_of_some _ e, turn_str z tk _ wide, ⟨_, Heap.get?_push_size _ rfl, rfl, rfl⟩, fun b hb => ?_, q⟩
    have e : b = s1.heap.objs.size := by simpa using hb
    subst e
    exact I1.fpOk (Nat.le_refl _) (I1.hok.fresh (Nat.le_refl _))
  cases ha : z.cps.all (· < 128)
  · exact wpAny_pyIter_wide ha (fin true)
  · exact wpAny_pyIter_ascii ha (fin false)
theorem pi3_str {tg : Expr} (ha : PE3 X a te) : PI3 X tg a (fun σ M R => te σ M fun d M1 => match d with | .str z => R (z.cps.toList.map fun c => D.str ⟨#[c]⟩) M1 | _ => False) := by
  refine PI.weak (pi_str ha.dn) fun σv H R2 hx0 => ?_
  obtain ⟨σ, M, R, hS, hM, h, k⟩ := hx0
  refine ⟨σ, M, _, hS, hM, h, fun d v M' H' st m r q => ?_⟩
  cases r <;> first | exact q.elim | skip
  rename_i z
  refine ⟨z, rfl, k _ _ M' H' st m (fun M2 H2 s2 => ⟨fun i hi => ?_, fun i d x H3 hd hy => ?_, fun i hi => ?_⟩) q⟩
  · show i < z.cps.size
    simpa using hi
  · obtain ⟨rfl, c, hc, rfl⟩ := hy
    rw [List.getElem?_map] at hd
    have : z.cps.toList[i]? = some c := by simpa using hc
    rw [this] at hd
    cases hd
    exact ⟨rfl, .str⟩
  · show z.cps.size ≤ i
    simpa using hi
end
abbrev Sp3 := List D → Mem → DK → Prop
def dnSp (K : PySem.W.Frag) (sp : Sp3) : Sp := fun vs H Q _ => ∃ ds M Q3, Reps K M H ds vs ∧ MRel K M H ∧ sp ds M Q3 ∧ ∀ d v M' H', Step M H M' H' → MRel K M' H' → Rep K M' H' d v → Q3 d M' → Q v H'
def View (Q : DK) : DK := fun d M => ∃ d' M', Vs M d M' d' ∧ Q d' M'
theorem View.of {Q : DK} {d : D} {M : Mem} (q : Q d M) : View Q d M := ⟨d, M, .refl d, q⟩
def start3 (N : List Str) (ds : List D) : Lo := ds.map some ++ List.replicate (N.length - ds.length) none
theorem start_rel {K : PySem.W.Frag} {M : Mem} {H : Hp} {N : List Str} {ds : List D} {vs : List V} (r : Reps K M H ds vs) : SRel K M H (start3 N ds) (L2.start N vs) := by
  refine ⟨by simp [start3, L2.start, r.length], fun i d h => ?_⟩
  unfold start3 at h
  unfold L2.start
  by_cases hi : i < ds.length
  · rw [List.getElem?_append_left (by simpa using hi), List.getElem?_map] at h
    rw [List.getElem?_append_left (by simpa [← r.length] using hi), List.getElem?_map]
    cases e : ds[i]? with
    | none => rw [e] at h; cases h
    | some d' =>
      rw [e] at h; cases h
      obtain ⟨v, hv, rv⟩ := r.get e
      exact ⟨v, by rw [hv]; rfl, rv⟩
  · rw [List.getElem?_append_right (by simpa using hi), List.getElem?_replicate] at h
    split at h <;> cases h
section
variable {P : Program} {w : World} {K : PySem.W.Frag} {mg : Str → Option Value} {base : Heap}
theorem Fun.ok3 {x qual : Str} {st : Stmt} {f : Addr} {fd : FuncData} {N ps : List Str} {k : Nat} {sp : Sp3} (F : Fun K x qual st f fd) (S : FnScope N ps (defScope st)) (len : ∀ ds M Q, sp ds M Q → ds.length = ps.length)
    (hbody : ∀ (cdv : Value) (A : Around) (outer : List Env) (s : Shared) (H : Hp) (E : XK), Room k (A.deeper (envOfC qual (defScope st) s.heap.objs.size f cdv)) →
      ∃ t, PSs3 (cxOf CX0 P w K mg base N qual (defScope st) f cdv A outer s H E).nox (defBody st) t ∧ ∀ ds M Q, sp ds M Q → t { nx := fun _ M' => View Q .non M', rt := View Q } (start3 N ds) M) :
    FnOk P w K mg base CX0 (k + 1) f fd ps (dnSp K sp) := by
  refine F.ok S (fun vs H Q E ⟨ds, M, Q3, r, _, h, _⟩ => by rw [← r.length]; exact len _ _ _ h) fun cdv A outer s H vs Q E hr hx0 => ?_
  obtain ⟨ds, M, Q3, r, m, h, q⟩ := hx0
  obtain ⟨t, ht, hs⟩ := hbody cdv A outer s H E hr
  have fin : ∀ d v M' H', Step M H M' H' → MRel K M' H' → Rep K M' H' d v → View Q3 d M' → Q v H' := fun d v M' H' st m' r' hx0 => by
    obtain ⟨d2, M2, vs2, q2⟩ := hx0
    obtain ⟨m2, r2, s2⟩ := vs2 K H' v m' r'
    exact q d2 v M2 H' (st.less s2) m2 r2 q2
  refine ⟨_, ht.dn, start3 N ds, M, _, start_rel r, m, hs ds M Q3 h, ?_⟩
  exact ⟨fun σ' σv' M' H' st m' _ z => fin .non .non M' H' st m' .non z, fun _ _ _ _ _ _ _ z => z.elim, fun _ _ _ _ _ _ _ z => z.elim, fin⟩
end
section
variable {X : Cx} {e : Expr} {es : List Expr} {t : TA3} {x : Str} {p pos : Pos} {k : Nat} {f : Addr} {fd : FuncData} {ps : List Str} {sp : Sp3}
def tCall3 (sp : Sp3) (t : TA3) : TE3 := fun σ M Q => t σ M fun ds M1 => sp ds M1 Q
theorem pe3_call (F : FnOk X.prog X.w X.K X.mg X.base CX0 k f fd ps (dnSp X.K sp)) (hr : Room k X.A) (hg : Gl X x) (hm : X.mg x = some (.ref f)) (hk : PySem.W.keepIn X.K (.ref f) = true) (hb : Binds X.K fd ps [])
    (ha : PA3 X (e :: es) t) (hdb : (x == ("__debug__" : Str)) = false := by decide) (he : starEach (e :: es) X.env = (false, eval e X.env) :: starEach es X.env := by rfl) (hpl : (backTo pos (starEach es X.env)).any (·.1) = false := by rfl) :
    PE3 X (.Call (.Name x p) (e :: es) [] pos) (tCall3 sp t) :=
  PE3.of (pe_call F hr hg hm hk hb .nil pass0 ha.dn hdb he hpl) fun pins s σv H σ M Q I hS hM h => by
    refine ⟨σ, M, _, hS, hM, h, fun ds vs M1 H1 st1 m1 r1 q1 => ?_⟩
    show dnSp X.K sp (vs ++ []) H1 _ _
    rw [List.append_nil]
    exact ⟨ds, M1, Q, r1, m1, q1, fun d v M' H' st m r q => ⟨d, M', st1.trans st, m, r, q⟩⟩
theorem pe3_call0 (F : FnOk X.prog X.w X.K X.mg X.base CX0 k f fd ps (dnSp X.K sp)) (hr : Room k X.A) (hg : Gl X x) (hm : X.mg x = some (.ref f)) (hk : PySem.W.keepIn X.K (.ref f) = true) (hb : Binds X.K fd ps [])
    (hdb : (x == ("__debug__" : Str)) = false := by decide) : PE3 X (.Call (.Name x p) [] [] pos) (tCall3 sp tNil3) :=
  PE3.of (pe_call0 F hr hg hm hk hb .nil pass0 hdb) fun pins s σv H σ M Q I hS hM h =>
    ⟨[], M, Q, .nil, hM, h, fun d v M' H' st m r q => ⟨d, M', st, m, r, q⟩⟩
end
end L3
namespace L3
open PySem PySem.Spec PyProof.Rows L2
abbrev rMul3 : R3 := rI3 CMulB fun i j => .int (i * j)
abbrev rFdiv3 : R3 := rI3 CDivB fun i j => .int (i / j)
abbrev rMod3 : R3 := rI3 (fun _ j => 0 < j) fun i j => .int (i % j)
abbrev rPow3 : R3 := rI3 CPow fun i j => .int (i ^ j.toNat)
abbrev rLt3 : R3 := rI30 fun i j => .bl (decide (i < j))
abbrev rLe3 : R3 := rI30 fun i j => .bl (decide (i ≤ j))
abbrev rGt3 : R3 := rI30 fun i j => .bl (decide (j < i))
abbrev rGe3 : R3 := rI30 fun i j => .bl (decide (j ≤ i))
def tSl3 (te : TE3) (tl th : TO3) : TE3 := fun σ M Q => te σ M fun x M1 => tl σ M1 fun l M2 => th σ M2 fun u M3 => rSl3 x l u M3 Q
def iList3 (te : TE3) : TI3 := fun σ M R => te σ M fun d M1 => match d with | .lst ds => R ds M1 | _ => False
def iTup3 (te : TE3) : TI3 := fun σ M R => te σ M fun d M1 => match d with | .tup ds => R ds M1 | _ => False
def iStr3 (te : TE3) : TI3 := fun σ M R => te σ M fun d M1 => match d with | .str z => R (z.cps.toList.map fun c => D.str ⟨#[c]⟩) M1 | _ => False
section
variable {X : Cx} {a e : Expr} {te : TE3} {pos : Pos} {lo hi : Option Expr} {tl th : TO3} {p2 : Pos} {tg : Expr}
theorem pe3_sl (he : PE3 X e te) (hl : PO3 X lo tl) (hu : PO3 X hi th) : PE3 X (.Subscript e (.Slice lo hi none p2) pos) (tSl3 te tl th) := pe3_slice he hl hu
theorem pi3_l (ha : PE3 X a te) : PI3 X tg a (iList3 te) := pi3_list ha rfl
theorem pi3_t (ha : PE3 X a te) : PI3 X tg a (iTup3 te) := pi3_tup ha
theorem pi3_s (ha : PE3 X a te) : PI3 X tg a (iStr3 te) := pi3_str ha
theorem pe3_globI {x : Str} {i : Int} (hg : Gl X x) (hm : ∃ tk, X.mg x = some (.int i tk)) (hd : (x == ("__debug__" : Str)) = false := by decide) : PE3 X (.Name x pos) (tC3 (.int i)) := by
  obtain ⟨tk, hm⟩ := hm
  exact pe3_glob (v := .int i) hg hm ⟨tk, rfl⟩ (fun _ _ => .int) hd
theorem pe3_globS {x z : Str} (hg : Gl X x) (hm : ∃ tk, X.mg x = some (.str z tk)) (hd : (x == ("__debug__" : Str)) = false := by decide) : PE3 X (.Name x pos) (tC3 (.str z)) := by
  obtain ⟨tk, hm⟩ := hm
  exact pe3_glob (v := .str z) hg hm ⟨tk, rfl⟩ (fun _ _ => .str) hd
theorem hu3 {k : Nat} (hr : Room k X.A) : X.A.units + 1 < cLine := by have := hr.units; lia
end
theorem b3_len : bootBuiltins "len" = some (.builtin "len") := by decide +kernel
theorem b3_abs : bootBuiltins "abs" = some (.builtin "abs") := by decide +kernel
theorem b3_repr : bootBuiltins "repr" = some (.builtin "repr") := by decide +kernel
theorem b3_isinstance : bootBuiltins "isinstance" = some (.builtin "isinstance") := by decide +kernel
theorem b3_bool : bootBuiltins "bool" = some (.type "bool") := by decide +kernel
theorem b3_str : bootBuiltins "str" = some (.type "str") := by decide +kernel
theorem b3_list : bootBuiltins "list" = some (.type "list") := by decide +kernel
theorem b3_tuple : bootBuiltins "tuple" = some (.type "tuple") := by decide +kernel
structure FnAt (K : PySem.W.Frag) (mg : Str → Option Value) (x : Str) (st : Stmt) (ps : List Str) (f : Addr) (fd : FuncData) : Prop where
  fn : Fun K x x st f fd
  bd : Binds K fd ps []
  gl : mg x = some (.ref f)
theorem us0 {us : List Value} (h : us.length = 0) : us = [] := List.length_eq_zero_iff.mp h
theorem us1 {us : List Value} (h : us.length = 1) : ∃ a, us = [a] := by
  cases us with
  | nil => cases h
  | cons a r => exact ⟨a, by rw [us0 (Nat.succ.inj h)]⟩
theorem us2 {us : List Value} (h : us.length = 2) : ∃ a b, us = [a, b] := by
  cases us with
  | nil => cases h
  | cons a r => obtain ⟨b, e⟩ := us1 (Nat.succ.inj h); exact ⟨a, b, by rw [e]⟩
theorem fnAt_mk {K : PySem.W.Frag} {h : Heap} {mg : Str → Option Value} {x : Str} {st : Stmt} {ps : List Str} {f : Addr} {oc : Value} {od an : Option Addr} {osl : Array (Option Value)} {kV doc pm cdv ct : Value} (X : K.In h) (G : h.Ns mainGlobals mg)
    (a : PySem.W.nsIn K mainGlobals x = some (some (.ref f))) (l : K.lookup f = some ⟨oc, od, .func (PySem.W.fnOf x x (defArgs st) (defBody st) (defScope st) .none kV doc pm an cdv ct), osl⟩)
    (c : PySem.W.codeIn K cdv x = true) (k : PySem.W.keepIn K (.ref f) = true)
    (hb : ∀ (kV doc pm : Value) (an : Option Addr) (cdv ct : Value) (us : List Value), us.length = ps.length → bindArgs (PySem.W.fnOf x x (defArgs st) (defBody st) (defScope st) .none kV doc pm an cdv ct) ⟨us, []⟩ = pure (ps.zip us)) :
    FnAt K mg x st ps f (PySem.W.fnOf x x (defArgs st) (defBody st) (defScope st) .none kV doc pm an cdv ct) :=
  ⟨fun_mk l c k, (fun_mk l c k).binds hb, PySem.W.mg_of X G a⟩
def spLaw3 : Sp3 := fun ds M Q => ∃ ns : List Int, ds = [.lst (ns.map D.int)] ∧ ns.length ≤ 63 ∧ (∀ a, M a = none) ∧ ∀ M', Q (.bl true) M'
theorem walk3 {l : PySem.W.OpenLaw} {q : Program} {loose : List Str} {XP : (Str → Option Value) → Heap → Prop} {YP : World → Heap → Prop} {d : DefRec} {K : Params → PySem.W.Frag} {k : Nat} {x : Str} (hn : l.most = some 63) (hdf : d.params.defaults = []) (hr : Room k callerA)
    (hY : ∀ (w : World) (h : Heap), YP w h → (K w.params).In h)
    (F : ∀ (w : World) (mg : Str → Option Value) (fa : Addr) (h : Heap), (K w.params).In h → h.Ns mainGlobals mg → mg d.name = some (.ref fa) →
      ∃ fd : FuncData, (∀ (s : Shared) (u : Value), BindsTo s fd ⟨[u], []⟩ [(x, u)]) ∧ ∀ base : Heap, (K w.params).In base → base.Ns mainGlobals mg → FnOk l.prog w (K w.params) mg base CX0 k fa fd [x] (dnSp (K w.params) spLaw3)) :
    PySem.W.WalkO q loose XP YP l.row.toRowW d [] (fun f vs => PySem.call f vs) :=
  L2.walk_of (n := 63) (k := k) (x := x) (CX := fun _ => CX0) (sp := fun w => dnSp (K w.params) spLaw3) hn (by decide) hdf hr hY F
    (fun w H a ns hl _ hS => ⟨[.lst (ns.map D.int)], fun _ => none, fun d _ => d = .bl true, .cons (.lst (hS.imp (fun z => ⟨z, rfl⟩) id) .ints) .nil, (fun _ _ z => nomatch z), ⟨ns, rfl, hl, fun _ => rfl, fun _ => rfl⟩,
      fun d v M' H' _ _ r e => by subst e; cases r; rfl⟩) fun _ _ _ _ _ z => z
def penO (ns : List Int) (a l : Int) : MO := .dct [(.inr "cells", .lst (ns.map D.int)), (.inr "at", .int a), (.inr "left", .int l)]
def Pen (M : Mem) (p : Addr) (b : Nat) : Prop := ∃ ns a l, M p = some (penO ns a l) ∧ ns.length ≤ 63 ∧ 0 ≤ a ∧ a ≤ (b : Int) ∧ 0 ≤ l
def Same3 (p : Addr) (M M' : Mem) : Prop := ∀ q, q ≠ p → M' q = M q
theorem Same3.trans {p : Addr} {M M1 M2 : Mem} (a : Same3 p M M1) (b : Same3 p M1 M2) : Same3 p M M2 := fun q h => (b q h).trans (a q h)
def spPen : Sp3 := fun ds M Q => ∃ ns : List Int, ds = [.lst (ns.map D.int)] ∧ ns.length ≤ 63 ∧ ∀ p M', M p = none → Pen M' p 0 → Same3 p M M' → Q (.ref p) M'
def spDraw : Sp3 := fun ds M Q => ∃ p many b, ds = [.ref p, .int many] ∧ Pen M p b ∧ b < 2 ^ 30 ∧ 0 < many ∧ many < 2 ^ 200 ∧ ∀ n M', 0 ≤ n → n < many → Pen M' p (b + 1) → Same3 p M M' → Q (.int n) M'
end L3
namespace L3
open PySem PySem.Spec PyProof.Rows L2
def closN (c : Str → Addr) : List (Str × NameKind) → List (Str × Addr) → List (Str × Addr)
  | [], acc => acc
  | (n, k) :: r, acc => closN c r (if (k == .free) = true then (n, c n) :: acc else acc)
theorem closureFor_of {scope : Scope} {env : Env} {c : Str → Addr} (h : ∀ p ∈ scope.names, p.2 = .free → env.cells.lookup p.1 = some (c p.1)) : closureFor scope env = pure (closN c scope.names []) := by
  unfold closureFor
  have key : ∀ (l : List (Str × NameKind)) (acc : List (Str × Addr)), (∀ p ∈ l, p.2 = .free → env.cells.lookup p.1 = some (c p.1)) →
      (forIn l acc fun (x : Str × NameKind) (r : List (Str × Addr)) => match x with
        | (name, kind) => if (kind == NameKind.free) = true then do let y ← cellOf env name; pure (ForInStep.yield ((name, y) :: r)) else pure (ForInStep.yield r) : Sem (List (Str × Addr))) = pure (closN c l acc) := by
    intro l
    induction l with
    | nil => intro acc _; rfl
    | cons p l ih =>
      intro acc hp
      obtain ⟨n, k⟩ := p
      rw [List.forIn_cons]
      by_cases hk : (k == NameKind.free) = true
      · have hkf : k = .free := by simpa using hk
        have hc := hp (n, k) List.mem_cons_self hkf
        have e : cellOf env n = pure (c n) := by unfold cellOf; rw [show env.cells.lookup n = some (c n) from hc]
        simp only [hk, if_true, e]
        have := ih ((n, c n) :: acc) fun q hq => hp q (List.mem_cons_of_mem _ hq)
        unfold closN
        rw [if_pos hk, ← this]
        rfl
      · simp only [hk, if_false]
        have := ih acc fun q hq => hp q (List.mem_cons_of_mem _ hq)
        unfold closN
        rw [if_neg hk, ← this]
        rfl
  have k2 := key scope.names [] h
  first
    | exact k2
    | (refine Eq.trans ?_ k2; rfl)
    | (simp only [bind_pure]; exact k2)
theorem closN_acc (c : Str → Addr) : ∀ (l : List (Str × NameKind)) (acc : List (Str × Addr)) (p : Str × Addr), p ∈ closN c l acc → p ∈ acc ∨ (p.2 = c p.1 ∧ (p.1, NameKind.free) ∈ l)
  | [], acc, p, h => .inl h
  | (n, k) :: r, acc, p, h => by
    unfold closN at h
    rcases closN_acc c r _ p h with h | ⟨h1, h2⟩
    · by_cases hk : (k == NameKind.free) = true
      · rw [if_pos hk] at h
        rcases List.mem_cons.mp h with rfl | h
        · have hkf : k = .free := by simpa using hk
          exact .inr ⟨rfl, by rw [hkf]; exact List.mem_cons_self⟩
        · exact .inl h
      · rw [if_neg hk] at h; exact .inl h
    · exact .inr ⟨h1, List.mem_cons_of_mem _ h2⟩
theorem closN_has (c : Str → Addr) : ∀ (l : List (Str × NameKind)) (acc : List (Str × Addr)) (n : Str), ((n, NameKind.free) ∈ l ∨ (n, c n) ∈ acc) → (n, c n) ∈ closN c l acc
  | [], acc, n, h => by
    rcases h with h | h
    · exact absurd h (by simp)
    · exact h
  | (m, k) :: r, acc, n, h => by
    unfold closN
    refine closN_has c r _ n ?_
    rcases h with h | h
    · rcases List.mem_cons.mp h with e | h
      · cases e
        exact .inr (by rw [if_pos (by decide)]; exact List.mem_cons_self)
      · exact .inl h
    · by_cases hk : (k == NameKind.free) = true
      · rw [if_pos hk]; exact .inr (List.mem_cons_of_mem _ h)
      · rw [if_neg hk]; exact .inr h
theorem lookup_of_all {l : List (Str × Addr)} {c : Str → Addr} (h : ∀ p ∈ l, p.2 = c p.1) {n : Str} (hm : (n, c n) ∈ l) : l.lookup n = some (c n) := by
  induction l with
  | nil => exact absurd hm (by simp)
  | cons p r ih =>
    obtain ⟨m, a⟩ := p
    by_cases e : n = m
    · subst e
      have : a = c n := h (n, a) List.mem_cons_self
      simp [List.lookup_cons, this]
    · have e' : (n == m) = false := by simpa using e
      simp only [List.lookup_cons, e']
      refine ih (fun q hq => h q (List.mem_cons_of_mem _ hq)) ?_
      rcases List.mem_cons.mp hm with z | z
      · cases z; exact absurd rfl e
      · exact z
theorem closN_all (c : Str → Addr) (l : List (Str × NameKind)) : ∀ p ∈ closN c l [], p.2 = c p.1 := fun p hp => by
  rcases closN_acc c l [] p hp with h | h
  · exact absurd h (by simp)
  · exact h.1
theorem closN_lookup {c : Str → Addr} {l : List (Str × NameKind)} {n : Str} (h : (n, NameKind.free) ∈ l) : (closN c l []).lookup n = some (c n) :=
  lookup_of_all (closN_all c l) (closN_has c l [] n (.inl h))
theorem of_closN {c : Str → Addr} {l : List (Str × NameKind)} {n : Str} {a : Addr} (h : (closN c l []).lookup n = some a) : a = c n ∧ (n, NameKind.free) ∈ l := by
  have hm := PySem.mem_of_lookup h
  rcases closN_acc c l [] (n, a) hm with z | z
  · exact absurd z (by simp)
  · exact z
theorem comp_loop {prog : Program} {w : World} {A : Around} {R : Result → Shared → Prop} {s : Shared} {elt target iter : Expr} {ifs : List Expr} {scope : Scope} {pos : Pos} {it acc : Value} {env : Env} (I : Nat → Shared → Prop)
    (turn : ∀ n s, I n s → wpAny (model prog w) A (pyNext it) (fun r s₁ => match r with
      | none => R (.ok .next) s₁
      | some v => wpAny (model prog w) A (letOwnedTupleGo target it v) (fun _ s₁' => wpAny (model prog w) A (assign target env v) (fun _ s₂ =>
          wpAny (model prog w) A (forIn ifs true fun c r => if r = true then do let ok ← isTrue c env (eval c env); pure (ForInStep.yield ok) else pure (ForInStep.yield r)) (fun ok s₃ =>
            if ok = true then wpAny (model prog w) A (eval elt env) (fun x s₄ =>
              wpAny (model prog w) A (call (.builtin "list.append") [acc, x]) (fun _ s₅ => ∃ m, m < n ∧ I m s₅) (fun _ _ => False) s₄) (fun _ _ => False) s₃
            else ∃ m, m < n ∧ I m s₃) (fun _ _ => False) s₂) (fun _ _ => False) s₁') (fun _ _ => False) s₁) (fun _ _ => False) s)
    (n : Nat) (h : I n s) : codeAny (model prog w) A (.compLoop (.ListComp elt [⟨target, iter, ifs, 0⟩] scope pos) 0 it acc env) R s := by
  refine codeAny_loop rfl I (fun n s hI => ?_) n h
  show wpAny _ A ((compTurn (.ListComp elt [⟨target, iter, ifs, 0⟩] scope pos) 0 it acc env).onRaise (fun x => do noteFrame x env; theTreesLotGoes x)) _ _ s
  refine wpAny_noted ?_
  rw [compTurn_list]
  refine wpAny_bind (wpAny_standAt (wpAny_bind (wpAny_mono (turn n s hI) (fun r s₁ h₁ => ?_) fun _ _ h' => h'.elim)))
  cases r with
  | none => exact wpAny_pure h₁
  | some v =>
    refine wpAny_bind (wpAny_mono h₁ (fun _ s₁' h₁' => ?_) fun _ _ h' => h'.elim)
    refine wpAny_bind (wpAny_mono h₁' (fun _ s₂ h₂ => wpAny_bind (wpAny_mono h₂ (fun ok s₃ h₃ => ?_) fun _ _ h' => h'.elim)) fun _ _ h' => h'.elim)
    cases ok with
    | false => exact wpAny_pure ⟨rfl, h₃⟩
    | true =>
      exact wpAny_bind (wpAny_bind (wpAny_mono h₃ (fun x s₄ h₄ => wpAny_bind (wpAny_mono h₄ (fun _ s₅ h₅ => wpAny_pure (wpAny_pure ⟨rfl, h₅⟩)) fun _ _ h' => h'.elim)) fun _ _ h' => h'.elim))
def compCx (X : Cx) (scope : Scope) (cl : List (Str × Addr)) (s₀ : Shared) (H₀ : Hp) (ex : List Addr) (N' : List Str) : Cx :=
  { X with N := N', s₀ := s₀, H₀ := H₀, env := compEnvC scope cl s₀.heap.objs.size X.env, outer := X.stack, stack := X.stack, ex := ex, fn := fun _ => false, pn := [], xe := fun _ _ => False }
theorem relabel_free {scope : Scope} {env : Env} (hcell : ∀ y ∈ scope.names, y.2 ≠ .cell) {x : Str} (h : (relabel scope env).names.lookup x = some .cell ∨ (relabel scope env).names.lookup x = some .free) : (x, NameKind.free) ∈ scope.names := by
  have key : ∀ k', (k' = .cell ∨ k' = .free) → (relabel scope env).names.lookup x = some k' → (x, NameKind.free) ∈ scope.names := fun k' hk h => by
    have hm := PySem.mem_of_lookup h
    obtain ⟨⟨n, k⟩, hn, e⟩ := List.mem_map.mp hm
    by_cases hc : (k == NameKind.free && env.scope.kind == .function && env.kindOf n == some .cell) = true
    · dsimp only at e
      rw [if_pos hc] at e
      cases e
      have : k = .free := by
        simp only [Bool.and_eq_true] at hc
        simpa using hc.1.1
      rw [this] at hn; exact hn
    · dsimp only at e
      rw [if_neg hc] at e
      cases e
      rcases hk with rfl | rfl
      · exact absurd rfl (hcell _ hn)
      · exact hn
  rcases h with h | h
  · exact key _ (.inl rfl) h
  · exact key _ (.inr rfl) h
def PIfs (X : Cx) (ifs : List Expr) (t : TT3) : Prop :=
  ∀ (pins : List (Addr × Obj)) (s : Shared) (σv : L2.St) (H : Hp) (σ : Lo) (M : Mem) (Q : Bool → Mem → Prop), Inv X pins σv H s → SRel X.K M H σ σv → MRel X.K M H → t σ M Q →
    wpAny (model X.prog X.w) X.A (forIn ifs true fun c r => if r = true then do let ok ← isTrue c X.env (eval c X.env); pure (ForInStep.yield ok) else pure (ForInStep.yield r)) (TP3 X pins σv M H Q) X.xe s
def tTrue3 : TT3 := fun _ M Q => Q true M
theorem pifs_nil {X : Cx} : PIfs X [] tTrue3 := fun pins s σv H σ M Q I hS hM h => by
  rw [List.forIn_nil]
  exact wpAny_pure ⟨M, H, I, .refl, hM, h⟩
theorem pifs_one {X : Cx} {c : Expr} {t : TT3} (hc : PT3 X c t) : PIfs X [c] t := fun pins s σv H σ M Q I hS hM h => by
  rw [List.forIn_cons]
  simp only [if_true]
  refine wpAny_bind (wpAny_bind (thn (hc pins s σv H σ M Q I hS hM h) fun b s1 q => wpAny_pure ?_))
  show wpAny _ _ (forIn [] b _) _ _ _
  rw [List.forIn_nil]
  exact wpAny_pure q
abbrev TG3 := D → Lo → Mem → (Lo → Mem → Prop) → Prop
def dnG (K : PySem.W.Frag) (g : TG3) : TG := fun v σv H Q2 => ∃ d σ M Q, Rep K M H d v ∧ SRel K M H σ σv ∧ MRel K M H ∧ g d σ M Q ∧ ∀ σ' σv' M' H', Step M H M' H' → MRel K M' H' → SRel K M' H' σ' σv' → Q σ' M' → Q2 σv' H'
def PG3 (X : Cx) (tg : Expr) (g : TG3) : Prop := PG X tg (dnG X.K g)
theorem PG.weak {X : Cx} {tg : Expr} {g1 g2 : TG} (h : PG X tg g1) (hw : ∀ v σ H Q, g2 v σ H Q → g1 v σ H Q) : PG X tg g2 := fun pins s σ H v u Q I r q => h pins s σ H v u Q I r (hw _ _ _ _ q)
def gName3 (i : Nat) : TG3 := fun d σ M Q => Q (σ.set i (some d)) M
theorem pg3_name {X : Cx} {i : Nat} {x : Str} {pos : Pos} (hN : X.N.Nodup) (hi : X.N[i]? = some x) (hx : Loc X.env.scope x) (hf : X.fn x = true ∨ X.env.scope.names.lookup x = some .local := by first | exact .inl rfl | exact .inr rfl | assumption) : PG3 X (.Name x pos) (gName3 i) :=
  PG.weak (pg_name hN hi hx hf) fun v σv H Q2 ⟨d, σ, M, Q, r, hS, hM, h, k⟩ => k (σ.set i (some d)) _ M H .refl hM (hS.set r i) h
def setAll {α : Type} : List (Option α) → List Nat → List α → List (Option α)
  | σ, i :: is, x :: xs => setAll (σ.set i (some x)) is xs
  | σ, _, _ => σ
def gSet (is : List Nat) : TGs := fun vs σ H Q => vs.length = is.length ∧ Q (setAll σ is vs) H
theorem PGs.weak {X : Cx} {ts : List Expr} {g1 g2 : TGs} (h : PGs X ts g1) (hw : ∀ v σ H Q, g2 v σ H Q → g1 v σ H Q) : PGs X ts g2 := fun pins s σ H v u Q I r q => h pins s σ H v u Q I r (hw _ _ _ _ q)
theorem pgs3_nil {X : Cx} : PGs X [] (gSet []) := PGs.weak pgs_nil fun vs σ H Q hx0 => by
  obtain ⟨hl, q⟩ := hx0
  have e : vs = [] := List.length_eq_zero_iff.mp hl
  subst e
  exact ⟨rfl, q⟩
theorem pgs3_cons {X : Cx} {i : Nat} {is : List Nat} {x : Str} {pos : Pos} {es : List Expr} (hN : X.N.Nodup) (hi : X.N[i]? = some x) (hx : Loc X.env.scope x) (h2 : PGs X es (gSet is))
    (hf : X.fn x = true ∨ X.env.scope.names.lookup x = some .local := by first | exact .inl rfl | exact .inr rfl | assumption)
    (hs : (assignEach (.Name x pos :: es) X.env).map (·.2) = assign (.Name x pos) X.env :: (assignEach es X.env).map (·.2) := by rfl) : PGs X (.Name x pos :: es) (gSet (i :: is)) :=
  PGs.weak (pgs_cons (pg_name hN hi hx hf) h2 hs) fun vs σ H Q hx0 => by
    obtain ⟨hl, q⟩ := hx0
    cases vs with
    | nil => cases hl
    | cons v r => exact ⟨v, r, rfl, by simpa using hl, q⟩
theorem setAll_rel {K : PySem.W.Frag} {M : Mem} {H : Hp} : ∀ {is : List Nat} {ds : List D} {vs : List V} {σ : Lo} {σv : L2.St}, Reps K M H ds vs → SRel K M H σ σv → SRel K M H (setAll σ is ds) (setAll σv is vs)
  | [], ds, vs, σ, σv, r, hS => by cases ds <;> cases vs <;> exact hS
  | i :: is, _, _, σ, σv, .nil, hS => hS
  | i :: is, _, _, σ, σv, .cons a b, hS => setAll_rel (is := is) b (hS.set a i)
def gTup3 (is : List Nat) : TG3 := fun d σ M Q => ∃ ds, d = .tup ds ∧ ds.length = is.length ∧ Q (setAll σ is ds) M
theorem pg3_tup {X : Cx} {es : List Expr} {k : Nat} {pos : Pos} {is : List Nat} (hc : X.calm = true) (h : PGs X es (gSet is))
    (hn : (assignEach es X.env).length = is.length := by rfl) (hst : (assignEach es X.env).findIdx? (·.1) = none := by rfl) : PG3 X (.Tuple es k pos) (gTup3 is) :=
  PG.weak (pg_tup hc h hn hst) fun v σv H Q2 hx0 => by
    obtain ⟨d, σ, M, Q, r, hS, hM, ⟨ds, e, hl, q⟩, kk⟩ := hx0
    subst e
    cases r with
    | tup h1 rs => exact ⟨_, _, rfl, SqT.of3 h1, by rw [← rs.length]; exact hl, by rw [← rs.length]; exact hl, kk _ _ M H .refl hM (setAll_rel rs hS) q⟩
end L3
namespace L3
open PySem PySem.Spec PyProof.Rows L2
theorem lookup_mapk {f : Str × NameKind → Str × NameKind} (hf : ∀ p, (f p).1 = p.1) {x : Str} : ∀ {l : List (Str × NameKind)}, (l.map f).lookup x = (l.lookup x).map fun k => (f (x, k)).2
  | [] => rfl
  | (n, k) :: r => by
    have h1 := hf (n, k)
    rw [List.map_cons]
    generalize hq : f (n, k) = q at h1 ⊢
    obtain ⟨q1, q2⟩ := q
    cases h1
    rw [List.lookup_cons, List.lookup_cons]
    by_cases e : x = n
    · subst e
      simp [hq]
    · have e' : (x == n) = false := by simpa using e
      rw [e']
      exact lookup_mapk hf
theorem relabel_lookup {scope : Scope} {env : Env} {x : Str} : (relabel scope env).names.lookup x = (scope.names.lookup x).map fun k => if (k == NameKind.free && env.scope.kind == .function && env.kindOf x == some .cell) = true then NameKind.cell else k := by
  have := lookup_mapk (f := fun p => if (p.2 == NameKind.free && env.scope.kind == .function && env.kindOf p.1 == some .cell) = true then (p.1, NameKind.cell) else (p.1, p.2)) (fun p => by split <;> rfl) (x := x) (l := scope.names)
  refine this.trans ?_
  congr 1
  funext k
  split <;> rfl
theorem relabel_free' {scope : Scope} {env : Env} {x : Str} (h : scope.names.lookup x = some .free) : (relabel scope env).names.lookup x = some .cell ∨ (relabel scope env).names.lookup x = some .free := by
  rw [relabel_lookup, h, Option.map_some]
  split
  · exact .inl rfl
  · exact .inr rfl
def tComp3 (ti : TI3) (n : Nat) (slots : List Nat) (g : TG3) (tt : TT3) (te : TE3) : TE3 := fun σ M Q => ti σ M fun ds M1 => ∀ p, M1 p = none → ∃ Pv : Nat → List D → Mem → Prop, Pv 0 [] (mput M1 p (.lst [])) ∧
  (∀ k d acc M, ds[k]? = some d → Pv k acc M → g d (List.replicate n none ++ slots.map fun j => (σ[j]?).getD none) M fun σ' M0 => tt σ' M0 fun b M' =>
    if b = true then te σ' M' fun e M'' => M'' p = some (.lst acc) ∧ acc.length < sizeLine ∧ Pv (k + 1) (acc ++ [e]) (mput M'' p (.lst (acc ++ [e]))) else Pv (k + 1) acc M') ∧
  ∀ acc M, Pv ds.length acc M → M p = some (.lst acc) ∧ Q (.lst acc) (mdel M p)
def WkE (K : PySem.W.Frag) (J : It) (ds : List D) (M : Mem) (H : Hp) : Prop := ∀ M' H', Step M H M' H' → MRel K M' H' →
  (∀ i, i < ds.length → J.go i H') ∧ (∀ i d x H'', ds[i]? = some d → J.yld i H' x H'' → Step M' H' M' H'' ∧ MRel K M' H'' ∧ Rep K M' H'' d x) ∧ J.stop ds.length H'
def dnIE (K : PySem.W.Frag) (t : TI3) : TI := fun σv H R2 => ∃ σ M R, SRel K M H σ σv ∧ MRel K M H ∧ t σ M R ∧ ∀ ds J M' H', Step M H M' H' → MRel K M' H' → WkE K J ds M' H' → R ds M' → R2 J H'
def PI3E (X : Cx) (tg iter : Expr) (t : TI3) : Prop := PI X tg iter (dnIE X.K t)
theorem PI3.toE {X : Cx} {tg iter : Expr} {t : TI3} (h : PI3 X tg iter t) : PI3E X tg iter t := PI.weak h fun σv H R2 ⟨σ, M, R, hS, hM, ht, k⟩ => ⟨σ, M, R, hS, hM, ht, fun ds J M' H' st m wk => k ds J M' H' st m fun M2 H2 st2 m2 =>
  let ⟨go, yld, stop⟩ := wk M2 H2 st2
  ⟨go, fun i d x H'' e y => by obtain ⟨rfl, r⟩ := yld i d x H'' e y; exact ⟨.refl, m2, r⟩, stop _ (Nat.le_refl _)⟩⟩
def tCompF (ti : TI3) (n : Nat) (slots : List Nat) (g : TG3) (tt : TT3) (te : TE3) (F : Addr → List D → Mem → Prop) (σ : Lo) (M : Mem) : Prop := ti σ M fun ds M1 => ∀ p, M1 p = none → ∃ Pv : Nat → List D → Mem → Prop, Pv 0 [] (mput M1 p (.lst [])) ∧
  (∀ k d acc M, ds[k]? = some d → Pv k acc M → g d (List.replicate n none ++ slots.map fun j => (σ[j]?).getD none) M fun σ' M0 => tt σ' M0 fun b M' =>
    if b = true then te σ' M' fun e M'' => M'' p = some (.lst acc) ∧ acc.length < sizeLine ∧ Pv (k + 1) (acc ++ [e]) (mput M'' p (.lst (acc ++ [e]))) else Pv (k + 1) acc M') ∧
  ∀ acc M, Pv ds.length acc M → M p = some (.lst acc) ∧ F p acc M
set_option maxHeartbeats 2000000 in
theorem comp_core {X : Cx} {elt tg iter : Expr} {pos : Pos} {ifs : List Expr} {scope : Scope} {tns caps : List Str} {slots : List Nat} {ti : TI3} {g : TG3} {tt : TT3} {te : TE3}
    (hc : X.calm = true) (hi : PI3E X tg iter ti) (hkind : scope.kind = .function) (hcell : ∀ y ∈ scope.names, y.2 ≠ .cell)
    (hnames : ∀ y ∈ scope.names, y.2 = .local → scope.names.lookup y.1 = some .local)
    (hfree : ∀ y ∈ scope.names, y.2 = .free → X.env.kindOf y.1 = some .cell ∨ X.env.kindOf y.1 = some .free)
    (hcf : ∀ y ∈ caps, scope.names.lookup y = some .free) (hcaps : slots.map (fun j => X.N[j]?) = caps.map some)
    (hgk : ∀ d M Q (cs : Lo), g d (List.replicate tns.length none ++ cs) M Q → g d (List.replicate tns.length none ++ cs) M (fun σ' M' => σ'.drop tns.length = cs ∧ Q σ' M'))
    (hg : ∀ cl s₀ H₀ ex, PG3 (compCx X scope cl s₀ H₀ ex (tns ++ caps)) tg g)
    (ht : ∀ cl s₀ H₀ ex, PIfs (compCx X scope cl s₀ H₀ ex (tns ++ caps)) ifs tt) (he : ∀ cl s₀ H₀ ex, PE3 (compCx X scope cl s₀ H₀ ex (tns ++ caps)) elt te)
    (hs : ∀ y, foldedSetIterable iter X.env y = pure y)
    {use : Option (Value → Sem Unit)} {Post : Value → Shared → Prop} {pins : List (Addr × Obj)} {s : Shared} {σv : L2.St} {H : Hp} {σ : Lo} {M : Mem} {F : Addr → List L3.D → Mem → Prop} (I : Inv X pins σv H s) (hS : SRel X.K M H σ σv) (hM : MRel X.K M H) (h : tCompF ti tns.length slots g tt te F σ M)
    (fin : ∀ (D C : Addr) (acc : List L3.D) (H5 : Hp) (M5 : Mem) (s6 : Shared) (m : Str → Option Value), s6.heap.Ns C m → Inv X pins σv H5 s6 → H5 C = none → C ≠ X.env.locals → C ∉ X.fs → X.s₀.heap.objs.size ≤ C → (∀ x c, X.env.cells.lookup x = some c → c ≠ C) → (∀ p ∈ X.pn ++ pins, p.1 ≠ C) →
      Step M H M5 H5 → MRel X.K M5 H5 → M5 D = some (.lst acc) → F D acc M5 → compPost (model X.prog X.w) X.A X.xe use Post (.ref D) C (.ok .next) s6) :
    wpAny (model X.prog X.w) X.A (comprehension (.ListComp elt [⟨tg, iter, ifs, 0⟩] scope pos) scope X.env (firstIterPos [⟨tg, iter, ifs, 0⟩] pos) (newList []) false (firstIter [⟨tg, iter, ifs, 0⟩] X.env) use) Post X.xe s := by
  have hclos : closureFor scope X.env = pure (closN (fun n => (X.env.cells.lookup n).getD 0) scope.names []) := closureFor_of fun p hp hk => by
    obtain ⟨a, e⟩ := I.ok.has p.1 (hfree p hp hk)
    rw [e]; rfl
  have cellsOf : ∀ x c, (closN (fun n => (X.env.cells.lookup n).getD 0) scope.names []).lookup x = some c → X.env.cells.lookup x = some c := fun x c e => by
    obtain ⟨e1, e2⟩ := of_closN e
    obtain ⟨a, e3⟩ := I.ok.has x (hfree _ e2 rfl)
    rw [e3] at e1
    rw [e3, e1]; rfl
  have clHas : ∀ n, (n, NameKind.free) ∈ scope.names → ∃ c, (closN (fun n => (X.env.cells.lookup n).getD 0) scope.names []).lookup n = some c := fun n hn => ⟨_, closN_lookup hn⟩
  generalize closN (fun n => (X.env.cells.lookup n).getD 0) scope.names [] = cl at hclos cellsOf clHas
  refine wpAny_comprehension_free rfl hs hclos hkind hnames ?_
  refine thn (hi pins s σv H (fun J H2 => ∃ ds M1, Step M H M1 H2 ∧ MRel X.K M1 H2 ∧ WkE X.K J ds M1 H2 ∧ _) I ⟨σ, M, _, hS, hM, h, fun ds J M1 H1 st m wk q => ⟨ds, M1, st, m, wk, q⟩⟩) fun v s1 h1 => thn h1 fun itv s2 h2 => ?_
  obtain ⟨it, fp, tn, J, H2, e0, I2, T, st2, f2, ds, M1, stp, m1, wk, cont⟩ := h2
  subst e0
  refine wpAny_newObj_type ?_
  have I3 := I2.lnew (its := []) (ys := []) (t' := s2.toks) .nil (Nat.zero_le _)
  have hget : ∀ b o, s2.heap.get? b = some o → ({ s2 with heap := s2.heap.push { cls := .type "list", data := .seq #[] }, toks := s2.toks } : Shared).heap.get? b = some o := fun b o e => Heap.get?_push_of_some _ e
  have hsz : s2.heap.objs.size < ({ s2 with heap := s2.heap.push { cls := .type "list", data := .seq #[] }, toks := s2.toks } : Shared).heap.objs.size := Heap.lt_size (Heap.get?_push_size _ rfl)
  change wpAny _ _ _ _ _ ({ s2 with heap := s2.heap.push { cls := .type "list", data := .seq #[] }, toks := s2.toks } : Shared)
  change Inv X pins σv _ ({ s2 with heap := s2.heap.push { cls := .type "list", data := .seq #[] }, toks := s2.toks } : Shared) at I3
  have hos3 : ({ s2 with heap := s2.heap.push { cls := .type "list", data := .seq #[] }, toks := s2.toks } : Shared).os = s2.os := rfl
  generalize ({ s2 with heap := s2.heap.push { cls := .type "list", data := .seq #[] }, toks := s2.toks } : Shared) = s3 at I3 hget hsz hos3 ⊢
  refine wpAny_newFunctionEnv hcell (fun _ hx => absurd hx (by simp)) (fun h4 hns hsb => ?_) hkind
  have hDn : H2 s2.heap.objs.size = none := I2.fresh
  have hD : upd H2 s2.heap.objs.size (.lst []) s2.heap.objs.size = some (.lst []) := upd_same
  have fpne : ∀ b ∈ fp, b ≠ s2.heap.objs.size := fun b hb => by
    obtain ⟨o, e, _⟩ := T.obj _ _ st2 b hb
    exact Nat.ne_of_lt (Heap.lt_size e)
  generalize s2.heap.objs.size = D at hDn hD hsz I3 fpne ⊢
  have stD : Step M1 H2 (mput M1 D (.lst [])) (upd H2 D (.lst [])) := Step.put (.inl hDn)
  have mD : MRel X.K (mput M1 D (.lst [])) (upd H2 D (.lst [])) := m1.put (.inl hDn) .nil
  have k4 : ∀ b o, s3.heap.get? b = some o → h4.get? b = some o := fun b o e => (hsb.2 b (Nat.ne_of_lt (Heap.lt_size e))).trans (Heap.get?_push_of_some _ e)
  have fpold : ∀ b ∈ fp, b < s3.heap.objs.size := fun b hb => by
    obtain ⟨o, e, _⟩ := T.obj _ _ st2 b hb
    exact Heap.lt_size (hget b o e)
  have fpD : ∀ b ∈ fp, upd H2 D (.lst []) b = none := fun b hb => by
    rw [upd_ne (fpne b hb)]; exact (f2 b hb).1
  have xok : (compCx X scope cl s3 (upd H2 D (.lst [])) fp (tns ++ caps)).Ok := {
    mod := I.ok.mod
    kind := hkind
    glob := I.ok.glob
    blt := I.ok.blt
    above := Nat.le_refl _
    inj := fun x y c e1 e2 => I.ok.inj x y c (cellsOf x c e1) (cellsOf y c e2)
    has := fun x hx => clHas x (relabel_free hcell hx)
    cab := fun x c hf => by cases hf
    hd := I.ok.hd
    frames := I.ok.frames
    stk := .inl rfl
    exf := fun b hb => ⟨Nat.ne_of_lt (fpold b hb), fun x c e => (f2 b hb).2.2.2.2.1 x c (cellsOf x c e)⟩
    bs := I3.bs
    bsz := Nat.le_trans I3.ok.bsz I3.sz
    noex := fun b o e hb => by
      rcases (f2 b hb).2.2.2.1 with z | z
      · exact I.ok.noex b o e z
      · exact absurd (Nat.lt_of_lt_of_le (Heap.lt_size e) (Nat.le_trans I.ok.bsz z)) (Nat.lt_irrefl _)
    exfs := fun b hb z => by
      rcases List.mem_cons.mp (I2.stkSub b z) with z | z
      · exact (f2 b hb).2.1 z
      · exact (f2 b hb).2.2.1 z
    funs := I3.stack
    frf := I3.stkFree }
  have I4 : Inv (compCx X scope cl s3 (upd H2 D (.lst [])) fp (tns ++ caps)) [] (List.replicate tns.length none ++ slots.map fun j => (σv[j]?).getD none) (upd H2 D (.lst [])) { s3 with heap := h4, toks := s3.toks + ([] : List (Str × Value)).length } := {
    ok := xok
    os := rfl
    bare := I3.bare
    base := Un.kept k4
    loc := by
      refine ⟨_, hns, fun i x v e1 e2 vis => ?_⟩
      have hlen : caps.length = slots.length := by
        have := congrArg List.length hcaps
        simpa using this.symm
      have hi : tns.length ≤ i := by
        rcases Nat.lt_or_ge i tns.length with z | z
        · rw [List.getElem?_append_left (by simpa using z), List.getElem?_replicate] at e2
          split at e2 <;> cases e2
        · exact z
      change (tns ++ caps)[i]? = some x at e1
      rw [List.getElem?_append_right hi] at e1
      rw [List.getElem?_append_right (by simpa using hi), List.length_replicate, List.getElem?_map] at e2
      cases e3 : slots[i - tns.length]? with
      | none => rw [e3] at e2; cases e2
      | some j =>
        rw [e3, Option.map_some] at e2
        have e2' : (σv[j]?).getD none = some v := Option.some.inj e2
        have e5 : σv[j]? = some (some v) := by
          cases q : σv[j]? with
          | none => rw [q] at e2'; cases e2'
          | some z => rw [q] at e2'; simp only [Option.getD_some] at e2'; rw [e2']
        have e4 : X.N[j]? = some x := by
          have := congrArg (fun l => l[i - tns.length]?) hcaps
          simp only [List.getElem?_map, e3, e1, Option.map_some] at this
          exact Option.some.inj this
        have hxf := hcf x (List.mem_of_getElem? e1)
        have hk := hfree (x, .free) (PySem.mem_of_lookup hxf) rfl
        obtain ⟨m, hm, hl⟩ := I3.loc
        obtain ⟨u, ru, lk⟩ := hl j x v e4 e5 (hk.elim (fun z => .inr (.inl z)) fun z => .inr (.inr z))
        refine ⟨u, ru, .inr ⟨relabel_free' hxf, ?_⟩⟩
        rcases lk with ⟨z, _⟩ | ⟨_, c, ec, ic⟩
        · rcases hk with y | y <;> (rw [show X.env.kindOf x = _ from z] at y; cases y)
        · obtain ⟨c', ec'⟩ := clHas x (PySem.mem_of_lookup hxf)
          have := cellsOf x c' ec'
          rw [ec] at this
          cases this
          obtain ⟨o, ho, r⟩ := ic
          exact ⟨c, ec', o, k4 _ _ ho, r⟩
    cell := fun x c e => by
      obtain ⟨v, o, ho, r⟩ := I3.cell x c (cellsOf x c e)
      exact ⟨v, o, k4 _ _ ho, r⟩
    free := I3.fresh
    freeC := fun x c e => I3.freeC x c (cellsOf x c e)
    pin := fun p hp => absurd hp (by simp [compCx])
    hok := I3.hok.kept k4
    len := by
      have := congrArg List.length hcaps
      simp at this
      simp [compCx, this] }
  have hlen : caps.length = slots.length := by
    have := congrArg List.length hcaps
    simpa using this.symm
  have stat : ∀ {H' : Hp}, (∀ b ∈ fp, H' b = none) → ∀ b ∈ fp, FpOk (compCx X scope cl s3 (upd H2 D (.lst [])) fp (tns ++ caps)) [] H' b := fun hn b hb =>
    ⟨hn b hb, (xok.exf b hb).1, xok.exfs b hb, .inl hb, (xok.exf b hb).2, fun p hp => absurd hp (by simp [compCx])⟩
  have hMD : M1 D = none := m1.free hDn
  obtain ⟨Pv, p0, turn, done⟩ := cont D hMD
  have hS0 : SRel X.K (mput M1 D (.lst [])) (upd H2 D (.lst [])) (List.replicate tns.length none ++ slots.map fun j => (σ[j]?).getD none) (List.replicate tns.length none ++ slots.map fun j => (σv[j]?).getD none) := by
    refine ⟨by simp, fun i d e => ?_⟩
    rcases Nat.lt_or_ge i tns.length with z | z
    · rw [List.getElem?_append_left (by simpa using z), List.getElem?_replicate] at e
      split at e <;> cases e
    · rw [List.getElem?_append_right (by simpa using z), List.length_replicate, List.getElem?_map] at e ⊢
      cases e3 : slots[i - tns.length]? with
      | none => rw [e3] at e; cases e
      | some j =>
        rw [e3, Option.map_some] at e
        have e2' : (σ[j]?).getD none = some d := Option.some.inj e
        have e5 : σ[j]? = some (some d) := by
          cases q : σ[j]? with
          | none => rw [q] at e2'; cases e2'
          | some z => rw [q] at e2'; simp only [Option.getD_some] at e2'; rw [e2']
        obtain ⟨v, ev, rv⟩ := hS.get j d e5
        exact ⟨v, by rw [Option.map_some, ev]; rfl, rv.mono (stp.trans stD)⟩
  generalize hcs : (slots.map fun j => (σ[j]?).getD none) = cs at turn hS0
  have hcsl : cs.length = caps.length := by rw [← hcs, hlen]; simp
  have loop : codeAny (model X.prog X.w) X.A (.compLoop (.ListComp elt [⟨tg, iter, ifs, 0⟩] scope pos) 0 (.ref it) (.ref D) (compEnvC scope cl s3.heap.objs.size X.env)) (compPost (model X.prog X.w) X.A X.xe use Post (.ref D) s3.heap.objs.size) { s3 with heap := h4, toks := s3.toks + ([] : List (Str × Value)).length } := by
    refine comp_loop (fun n s' => ∃ k acc σv' H' M', n = ds.length - k ∧ k ≤ ds.length ∧ Inv (compCx X scope cl s3 (upd H2 D (.lst [])) fp (tns ++ caps)) [] σv' H' s' ∧ tn k s'.heap ∧ (∀ b ∈ fp, H' b = none) ∧
      Step (mput M1 D (.lst [])) (upd H2 D (.lst [])) M' H' ∧ MRel X.K M' H' ∧ SRel X.K M' H' (List.replicate tns.length none ++ cs) σv' ∧ Pv k acc M') ?_ _ ⟨0, [], _, _, _, rfl, Nat.zero_le _, I4, T.keep _ _ _ st2 fun b hb o e => k4 _ _ (hget _ _ e), fpD, .refl, mD, hS0, p0⟩
    rintro n s5 ⟨k, acc, σv5, H5, M5, rfl, hk, I5, tn5, fr5, st5, m5, hS5, pk⟩
    obtain ⟨go, yld, stop⟩ := wk M5 H5 (stD.trans st5) m5
    by_cases hlt : k < ds.length
    · refine thn (T.item (compCx X scope cl s3 (upd H2 D (.lst [])) fp (tns ++ caps)) rfl rfl rfl hc k [] s5 σv5 H5 (fun _ _ => False) I5 (stat fr5) tn5 (go k hlt)) fun r s6 hx0 => ?_
      obtain ⟨u, hr, h6⟩ := hx0
      subst hr
      refine thn h6 fun _ s7 hx0 => ?_
      obtain ⟨x, H7, I7, r7, y7, tn7, fr7⟩ := hx0
      obtain ⟨sy, my, ry⟩ := yld k ds[k] x H7 (by simp [hlt]) y7
      have I7' := I7.pinned (stat fr7) (T.obj _ _ tn7)
      refine thn (hg cl s3 (upd H2 D (.lst [])) fp _ s7 σv5 _ x u (fun σv' H' => ∃ σ' M', Step M5 H7 M' H' ∧ MRel X.K M' H' ∧ SRel X.K M' H' σ' σv' ∧ _) I7' r7 ⟨ds[k], _, M5, _, ry, hS5.mono sy, my, hgk _ _ _ _ (turn k ds[k] acc M5 (by simp [hlt]) pk), fun σ' σv' M' H' st m r q => ⟨σ', M', st, m, r, q⟩⟩) fun _ s8 hx0 => ?_
      obtain ⟨σ8, H8, I8, σ', M8, st8, m8, hS8, hdr, q8⟩ := hx0
      have again : ∀ (sF : Shared) (HF : Hp) (MF : Mem) (accF : List L3.D), Inv (compCx X scope cl s3 (upd H2 D (.lst [])) fp (tns ++ caps)) ([] ++ pinsAt fp s7.heap) σ8 HF sF → Step M8 H8 MF HF → MRel X.K MF HF → Pv (k + 1) accF MF →
          ∃ m, m < ds.length - k ∧ ∃ k acc σv' H' M', m = ds.length - k ∧ k ≤ ds.length ∧ Inv (compCx X scope cl s3 (upd H2 D (.lst [])) fp (tns ++ caps)) [] σv' H' sF ∧ tn k sF.heap ∧ (∀ b ∈ fp, H' b = none) ∧
            Step (mput M1 D (.lst [])) (upd H2 D (.lst [])) M' H' ∧ MRel X.K M' H' ∧ SRel X.K M' H' (List.replicate tns.length none ++ cs) σv' ∧ Pv k acc M' := by
        intro sF HF MF accF IF stF mF pF
        refine ⟨ds.length - (k + 1), by lia, k + 1, accF, σ8, HF, MF, rfl, hlt, IF.unpinned, T.keep _ _ _ tn7 fun b hb o e => (IF.pin (b, o) (List.mem_append_right _ (List.mem_append_right _ (mem_pinsAt hb e)))).1, fun b hb => ?_, ((st5.trans sy).trans st8).trans stF, mF, ?_, pF⟩
        · obtain ⟨o, e, d⟩ := T.obj _ _ tn7 b hb
          exact (IF.pin (b, o) (List.mem_append_right _ (List.mem_append_right _ (mem_pinsAt hb e)))).2.1
        · refine SRel.mono stF ⟨?_, fun i d e => ?_⟩
          · have := I8.len
            rw [this, List.length_append, List.length_replicate, hcsl]
            simp [compCx]
          · rcases Nat.lt_or_ge i tns.length with z | z
            · rw [List.getElem?_append_left (by simpa using z), List.getElem?_replicate] at e
              split at e <;> cases e
            · rw [List.getElem?_append_right (by simpa using z), List.length_replicate, ← hdr, List.getElem?_drop] at e
              have : tns.length + (i - tns.length) = i := by lia
              rw [this] at e
              exact hS8.get i d e
      refine thn (ht cl s3 (upd H2 D (.lst [])) fp _ s8 σ8 H8 σ' M8 _ I8 hS8 m8 q8) fun ok s9 hx0 => ?_
      obtain ⟨M9, H9, I9, st9, m9, q9⟩ := hx0
      cases ok with
      | false => exact again s9 H9 M9 acc I9 st9 m9 q9
      | true =>
        refine thn (he cl s3 (upd H2 D (.lst [])) fp _ s9 σ8 H9 σ' M9 _ I9 (hS8.mono st9) m9 q9) fun xv s10 hx0 => ?_
        obtain ⟨e, v, M10, H10, I10, st10, m10, r10, rep10, hMp, hlt2, q10⟩ := hx0
        obtain ⟨ho, hHo, rO⟩ := m10 D _ hMp
        cases ho <;> first | exact (rO : False).elim | skip
        rename_i vs
        have rO' : Reps X.K M10 H10 acc vs := rO
        refine thn (mt_append _ s10 σ8 H10 (.ref D) [v] (.ref D) [xv] (fun w H' => H' = upd H10 D (.lst (vs ++ [v]))) I10 rfl (.cons r10 .nil) ⟨D, vs, v, rfl, rfl, hHo, by rw [← rO'.length]; exact hlt2, rfl⟩) fun _ s11 hx0 => ?_
        obtain ⟨w, H11, I11, _, e11⟩ := hx0
        subst e11
        exact again s11 _ _ _ I11 (st9.trans (st10.trans (Step.put (.inr (by rw [hMp]; simp))))) (m10.put (.inr (by rw [hMp]; simp)) (o := .lst (acc ++ [e])) (Reps.append rO' (.cons rep10 .nil))) q10
    · have e : k = ds.length := by lia
      subst e
      refine thn (T.done (compCx X scope cl s3 (upd H2 D (.lst [])) fp (tns ++ caps)) rfl rfl rfl hc _ [] s5 σv5 H5 (fun _ _ => False) I5 (stat fr5) tn5 stop) fun r s6 hx0 => ?_
      obtain ⟨hr, I6⟩ := hx0
      subst hr
      obtain ⟨m, hn, _⟩ := I6.loc
      obtain ⟨hp, hq⟩ := done acc M5 pk
      refine fin D s3.heap.objs.size acc H5 M5 s6 m hn (I3.call' (ch := fp) I6.os I6.base I6.hok I6.bare (fun b hb => ⟨(f2 b hb).2.2.2.1, (f2 b hb).2.1, (f2 b hb).2.2.2.2.1, (f2 b hb).2.2.2.2.2⟩)) I6.free (Nat.ne_of_gt I3.lt) (I3.nofs (Nat.le_refl _)) I3.sz (fun x c e z => ?_) (fun p hp z => absurd (Heap.lt_size (I3.pin p hp).1) (by rw [z]; exact Nat.lt_irrefl _)) ((stp.trans stD).trans st5) m5 hp hq
      obtain ⟨v, q⟩ := I3.cell x c e
      exact absurd q.lt (by rw [z]; exact Nat.lt_irrefl _)
  exact codeAny_compStart_list loop (T.self _ _ _ _ _ (T.keep _ _ _ st2 fun b hb o e => k4 _ _ (hget _ _ e)) loop)
theorem pe3_compE {X : Cx} {elt tg iter : Expr} {pos : Pos} {ifs : List Expr} {scope : Scope} {tns caps : List Str} {slots : List Nat} {ti : TI3} {g : TG3} {tt : TT3} {te : TE3}
    (hc : X.calm = true) (hi : PI3E X tg iter ti) (hkind : scope.kind = .function) (hcell : ∀ y ∈ scope.names, y.2 ≠ .cell)
    (hnames : ∀ y ∈ scope.names, y.2 = .local → scope.names.lookup y.1 = some .local)
    (hfree : ∀ y ∈ scope.names, y.2 = .free → X.env.kindOf y.1 = some .cell ∨ X.env.kindOf y.1 = some .free)
    (hcf : ∀ y ∈ caps, scope.names.lookup y = some .free) (hcaps : slots.map (fun j => X.N[j]?) = caps.map some)
    (hgk : ∀ d M Q (cs : Lo), g d (List.replicate tns.length none ++ cs) M Q → g d (List.replicate tns.length none ++ cs) M (fun σ' M' => σ'.drop tns.length = cs ∧ Q σ' M'))
    (hg : ∀ cl s₀ H₀ ex, PG3 (compCx X scope cl s₀ H₀ ex (tns ++ caps)) tg g)
    (ht : ∀ cl s₀ H₀ ex, PIfs (compCx X scope cl s₀ H₀ ex (tns ++ caps)) ifs tt) (he : ∀ cl s₀ H₀ ex, PE3 (compCx X scope cl s₀ H₀ ex (tns ++ caps)) elt te)
    (hs : ∀ y, foldedSetIterable iter X.env y = pure y := by intro _; rfl) :
    PE3 X (.ListComp elt [⟨tg, iter, ifs, 0⟩] scope pos) (tComp3 ti tns.length slots g tt te) := by
  intro pins s σv H σ M Q I hS hM h
  rw [eval_ListComp]
  refine comp_core hc hi hkind hcell hnames hfree hcf hcaps hgk hg ht he hs (use := none) (F := fun p acc M => Q (.lst acc) (mdel M p)) I hS hM h fun D C acc H5 M5 s6 m hn I7 c1 c2 c3 c4 c5 c6 st m5 hp hq => ?_
  obtain ⟨mF, rF, sF⟩ := Vs.frzL hp X.K H5 (.ref D) m5 .ref
  exact ⟨m, hn, fun h' sb => ⟨.lst acc, .ref D, mdel M5 D, H5, I7.turned (t' := s6.toks) (it := C) (fun b o hb e => (sb.2 b hb).trans e) c1 c2 (.inr c4) c5 c6, st.less sF, mF, rfl, rF, hq⟩⟩
theorem pe3_comp {X : Cx} {elt tg iter : Expr} {pos : Pos} {ifs : List Expr} {scope : Scope} {tns caps : List Str} {slots : List Nat} {ti : TI3} {g : TG3} {tt : TT3} {te : TE3}
    (hc : X.calm = true) (hi : PI3 X tg iter ti) (hkind : scope.kind = .function) (hcell : ∀ y ∈ scope.names, y.2 ≠ .cell)
    (hnames : ∀ y ∈ scope.names, y.2 = .local → scope.names.lookup y.1 = some .local)
    (hfree : ∀ y ∈ scope.names, y.2 = .free → X.env.kindOf y.1 = some .cell ∨ X.env.kindOf y.1 = some .free)
    (hcf : ∀ y ∈ caps, scope.names.lookup y = some .free) (hcaps : slots.map (fun j => X.N[j]?) = caps.map some)
    (hgk : ∀ d M Q (cs : Lo), g d (List.replicate tns.length none ++ cs) M Q → g d (List.replicate tns.length none ++ cs) M (fun σ' M' => σ'.drop tns.length = cs ∧ Q σ' M'))
    (hg : ∀ cl s₀ H₀ ex, PG3 (compCx X scope cl s₀ H₀ ex (tns ++ caps)) tg g)
    (ht : ∀ cl s₀ H₀ ex, PIfs (compCx X scope cl s₀ H₀ ex (tns ++ caps)) ifs tt) (he : ∀ cl s₀ H₀ ex, PE3 (compCx X scope cl s₀ H₀ ex (tns ++ caps)) elt te)
    (hs : ∀ y, foldedSetIterable iter X.env y = pure y := by intro _; rfl) :
    PE3 X (.ListComp elt [⟨tg, iter, ifs, 0⟩] scope pos) (tComp3 ti tns.length slots g tt te) := pe3_compE hc hi.toE hkind hcell hnames hfree hcf hcaps hgk hg ht he hs
end L3
namespace L3
open PySem PySem.Spec PyProof.Rows L2
theorem setAll_drop {α : Type} {n : Nat} : ∀ {is : List Nat} {σ : List (Option α)} {xs : List α}, (∀ i ∈ is, i < n) → (setAll σ is xs).drop n = σ.drop n
  | [], σ, xs, _ => by cases xs <;> rfl
  | i :: is, σ, [], _ => rfl
  | i :: is, σ, x :: xs, h => by
    show (setAll (σ.set i (some x)) is xs).drop n = σ.drop n
    rw [setAll_drop fun j hj => h j (List.mem_cons_of_mem _ hj), List.drop_set_of_lt (h i List.mem_cons_self)]
theorem gk_name {i n : Nat} (hi : i < n) (d : D) (M : Mem) (Q : Lo → Mem → Prop) (cs : Lo) (h : gName3 i d (List.replicate n none ++ cs) M Q) : gName3 i d (List.replicate n none ++ cs) M (fun σ' M' => σ'.drop n = cs ∧ Q σ' M') := by
  refine ⟨?_, h⟩
  rw [List.drop_set_of_lt hi, List.drop_left' (by simp)]
theorem gk_tup {n : Nat} {is : List Nat} (hi : ∀ i ∈ is, i < n) (d : D) (M : Mem) (Q : Lo → Mem → Prop) (cs : Lo) (h : gTup3 is d (List.replicate n none ++ cs) M Q) : gTup3 is d (List.replicate n none ++ cs) M (fun σ' M' => σ'.drop n = cs ∧ Q σ' M') := by
  obtain ⟨ds, e, hl, q⟩ := h
  refine ⟨ds, e, hl, ?_, q⟩
  rw [setAll_drop hi, List.drop_left' (by simp)]
abbrev M3 := D → List D → Mem → DK → Prop
def MtR3 (X : Cx) (id : String) (r : M3) : Prop :=
  ∀ (pins : List (Addr × Obj)) (s : Shared) (σv : L2.St) (H : Hp) (M : Mem) (x : D) (xs : List D) (xv : V) (xvs : List V) (v : Value) (us : List Value) (Q : DK), Inv X pins σv H s → MRel X.K M H → RelV xv v → Vals xvs us → Rep X.K M H x xv → Reps X.K M H xs xvs → r x xs M Q →
    wpAny (model X.prog X.w) X.A (call (.builtin id) (v :: us)) (EP3 X pins σv M H Q) X.xe s
def tyD (T : String) (M : Mem) : D → Prop
  | .str _ => T = "str"
  | .lst _ => T = "list"
  | .ref a => (T = "list" ∧ ∃ ds, M a = some (.lst ds)) ∨ (T = "dict" ∧ ∃ ds, M a = some (.dct ds))
  | _ => False
theorem tyD_V {X : Cx} {T : String} {M : Mem} {H : Hp} {d : D} {v : V} (m : MRel X.K M H) (r : Rep X.K M H d v) (h : tyD T M d) : tyV X.K T v H := by
  cases r with
  | str => exact h
  | lst h1 _ => exact .inl ⟨h, _, SqL.of3 h1⟩
  | ref =>
    rcases h with ⟨rfl, ds, e⟩ | ⟨rfl, ds, e⟩
    · obtain ⟨ho, e1, r⟩ := m _ _ e
      cases ho <;> first | exact (r : False).elim | skip
      exact .inl ⟨rfl, _, .inl (.inl e1)⟩
    · obtain ⟨ho, e1, r⟩ := m _ _ e
      cases ho <;> first | exact (r : False).elim | skip
      exact .inr (.inr (.inl ⟨rfl, .inl ⟨_, e1⟩⟩))
  | dct h1 _ => exact h.elim
  | _ => exact h.elim
def tBM3 (T : String) (r : M3) (to : TE3) (t : TA3) : TE3 := fun σ M Q => to σ M fun x M1 => tyD T M1 x ∧ t σ M1 fun xs M2 => r x xs M2 Q
def tBM03 (T : String) (r : M3) (to : TE3) : TE3 := fun σ M Q => to σ M fun x M1 => tyD T M1 x ∧ r x [] M1 Q
section
variable {X : Cx} {o e : Expr} {es : List Expr} {to : TE3} {t : TA3} {name : Str} {apos cpos : Pos} {T id : String} {r : M3}
theorem pe3_bm0 (pa : PlainAttrs T) (slot : Slot T name id) (hty : typeOf (.builtin id) = pure (.type "method_descriptor")) (hm : MtR3 X id r) (ho : PE3 X o to)
    (hbase : attributeBase o name X.env (eval o X.env) = eval o X.env := by rfl) (hline : (apos.endLine == cpos.line) = true := by rfl) : PE3 X (.Call (.Attribute o name apos) [] [] cpos) (tBM03 T r to) := by
  intro pins s σv H σ M Q I hS hM h
  refine wpAny_Call_method0_late hbase hline (thn (ho pins s σv H σ M _ I hS hM h) fun v s1 ⟨d, xv, M1, H1, I1, st1, m1, r1, p1, ty, q1⟩ => ?_)
  obtain ⟨h1, h2⟩ := tyV_is I1 r1 (tyD_V m1 p1 ty)
  exact ⟨T, id, pa, slot, hty, h1, h2, Calls.callWith_builtin rfl (PySem.evalArgs_none (thn (hm pins s1 σv H1 M1 d [] xv [] v [] Q I1 m1 r1 .nil p1 .nil q1) fun _ _ z => z.trans st1))⟩
theorem pe3_bm (pa : PlainAttrs T) (slot : Slot T name id) (hty : typeOf (.builtin id) = pure (.type "method_descriptor")) (hm : MtR3 X id r) (ho : PE3 X o to) (ha : PA3 X (e :: es) t)
    (hbase : attributeBase o name X.env (eval o X.env) = eval o X.env := by rfl)
    (hfew : ((backTo cpos (starEach (e :: es) X.env)).all (fun x => !x.1) && (backToKw cpos (keywordEach [] X.env)).all (fun x => x.1.isSome)
      && decide ((e :: es).length + ([] : List Keyword).length + (if ([] : List Keyword).isEmpty then 0 else 1) < 30)) = true := by rfl)
    (hline : (apos.endLine == cpos.line) = true := by rfl) (hs : starEach (e :: es) X.env = (false, eval e X.env) :: starEach es X.env := by rfl) (hplain : (backTo cpos (starEach es X.env)).any (·.1) = false := by rfl) :
    PE3 X (.Call (.Attribute o name apos) (e :: es) [] cpos) (tBM3 T r to t) := by
  intro pins s σv H σ M Q I hS hM h
  refine wpAny_Call_method_late hbase hfew hline rfl (thn (ho pins s σv H σ M _ I hS hM h) fun v s1 ⟨d, xv, M1, H1, I1, st1, m1, r1, p1, ty, q1⟩ => ?_)
  obtain ⟨h1, h2⟩ := tyV_is I1 r1 (tyD_V m1 p1 ty)
  refine ⟨T, id, pa, slot, hty, h1, h2, ?_⟩
  have hA := ha cpos pins s1 σv H1 σ M1 _ I1 (hS.mono st1) m1 q1
  rw [hs] at hA ⊢
  refine Calls.callWith_builtin (by show (false || (backTo cpos (starEach es X.env)).any (·.1)) = false; rw [hplain] <;> rfl) (Calls.evalArgs_plain ?_)
  exact thn hA fun us s2 ⟨ds, vs, M2, H2, I2, st2, m2, rv2, p2, q2⟩ => thn (hm pins s2 σv H2 M2 d ds xv vs v us Q I2 m2 r1 rv2 (p1.mono st2) p2 q2) fun _ _ z => z.trans (st1.trans st2)
theorem MtR3.of {id : String} {r : M3} {r2 : V → List V → Hp → VK → Prop} (h : MtM X id r2) (hr : ∀ H M x xs xv xvs Q, MRel X.K M H → Rep X.K M H x xv → Reps X.K M H xs xvs → r x xs M Q → r2 xv xvs H (Up X.K M H Q)) : MtR3 X id r := by
  intro pins s σv H M x xs xv xvs v us Q I m rv rvs px pxs q
  exact thn (h pins s σv H xv xvs v us _ I rv rvs (hr H M x xs xv xvs Q m px pxs q)) fun _ _ z => ep_up z
theorem reps1 {K : PySem.W.Frag} {M : Mem} {H : Hp} {d : D} {vs : List V} (r : Reps K M H [d] vs) : ∃ v, vs = [v] ∧ Rep K M H d v := by
  cases r with
  | cons a b => cases b; exact ⟨_, rfl, a⟩
def rAppend3 : M3 := fun x xs M Q => ∃ a ds y, x = .ref a ∧ xs = [y] ∧ M a = some (.lst ds) ∧ ds.length < sizeLine ∧ Q .non (mput M a (.lst (ds ++ [y])))
theorem m3_append : MtR3 X "list.append" rAppend3 := MtR3.of mt_append fun H M x xs xv xvs Q m px pxs hx0 => by
  obtain ⟨a, ds, y, e1, e2, hm, hl, q⟩ := hx0
  subst e1 e2
  cases px
  obtain ⟨yv, rfl, py⟩ := reps1 pxs
  obtain ⟨ho, e3, r⟩ := m _ _ hm
  cases ho <;> first | exact (r : False).elim | skip
  rename_i vs
  have r' : Reps X.K M H ds vs := r
  refine ⟨a, vs, _, rfl, rfl, e3, by rw [← r'.length]; exact hl, .non, _, Step.put (.inr (by rw [hm]; simp)), m.put (.inr (by rw [hm]; simp)) (o := .lst (ds ++ [y])) (Reps.append r' (.cons py .nil)), .non, q⟩
end
def compOk (env : Env) (scope : Scope) (caps : List Str) : Bool :=
  (scope.names.all fun y => match y.2 with
    | .free => (match env.kindOf y.1 with | some .cell => true | some .free => true | _ => false)
    | .cell => false
    | .local => (match scope.names.lookup y.1 with | some .local => true | _ => false)
    | _ => true) && caps.all fun y => match scope.names.lookup y with | some .free => true | _ => false
theorem pe3_compB {X : Cx} {elt tg iter : Expr} {pos : Pos} {ifs : List Expr} {scope : Scope} (tns caps : List Str) (slots : List Nat) {ti : TI3} {g : TG3} {tt : TT3} {te : TE3}
    (hc : X.calm = true) (hi : PI3 X tg iter ti) (hkind : scope.kind = .function) (hok : compOk X.env scope caps = true) (hcaps : slots.map (fun j => X.N[j]?) = caps.map some)
    (hgk : ∀ d M Q (cs : Lo), g d (List.replicate tns.length none ++ cs) M Q → g d (List.replicate tns.length none ++ cs) M (fun σ' M' => σ'.drop tns.length = cs ∧ Q σ' M'))
    (hg : ∀ cl s₀ H₀ ex, PG3 (compCx X scope cl s₀ H₀ ex (tns ++ caps)) tg g)
    (ht : ∀ cl s₀ H₀ ex, PIfs (compCx X scope cl s₀ H₀ ex (tns ++ caps)) ifs tt) (he : ∀ cl s₀ H₀ ex, PE3 (compCx X scope cl s₀ H₀ ex (tns ++ caps)) elt te)
    (hs : ∀ y, foldedSetIterable iter X.env y = pure y := by intro _; rfl) :
    PE3 X (.ListComp elt [⟨tg, iter, ifs, 0⟩] scope pos) (tComp3 ti tns.length slots g tt te) := by
  unfold compOk at hok
  rw [Bool.and_eq_true, List.all_eq_true, List.all_eq_true] at hok
  obtain ⟨h1, h2⟩ := hok
  refine pe3_comp hc hi hkind (fun y hy e => ?_) (fun y hy e => ?_) (fun y hy e => ?_) (fun y hy => ?_) hcaps hgk hg ht he hs
  · have := h1 y hy; rw [e] at this; cases this
  · have := h1 y hy
    rw [e] at this
    dsimp only at this
    split at this
    · assumption
    · cases this
  · have := h1 y hy
    rw [e] at this
    dsimp only at this
    split at this
    · exact .inl (by assumption)
    · exact .inr (by assumption)
    · cases this
  · have := h2 y hy
    split at this
    · assumption
    · cases this
def tFrz3 (i : Nat) (t : TS3) : TS3 := fun T σ M => ∃ a ds, σ[i]? = some (some (.ref a)) ∧ M a = some (.lst ds) ∧ t T (σ.set i (some (.lst ds))) (mdel M a)
theorem pss3_frz {X : Cx} {sts : List Stmt} {t : TS3} (i : Nat) (h : PSs3 X sts t) : PSs3 X sts (tFrz3 i t) := by
  rintro pins s σv H σ M T I hS hM ⟨a, ds, e1, e2, q⟩
  obtain ⟨m, r, sub⟩ := Vs.frzL e2 X.K H (.ref a) hM .ref
  have st : Step M H (mdel M a) H := ⟨fun _ _ h _ => h, fun b h => .inl (sub b h)⟩
  have hS' : SRel X.K (mdel M a) H (σ.set i (some (.lst ds))) σv := by
    refine ⟨by simp [hS.len], fun j d e => ?_⟩
    rw [List.getElem?_set] at e
    by_cases hij : i = j
    · subst hij
      have hl : i < σ.length := (List.getElem?_eq_some_iff.mp e1).1
      rw [if_pos rfl, if_pos hl] at e
      cases e
      obtain ⟨v, ev, rv⟩ := hS.get i _ e1
      cases rv
      exact ⟨_, ev, r⟩
    · rw [if_neg hij] at e
      obtain ⟨v, ev, rv⟩ := hS.get j d e
      exact ⟨v, ev, rv.mono st⟩
  exact thn (h pins s σv H _ _ T I hS' m q) fun _ _ z => z.trans st
end L3
namespace L3
open PySem L2
section
variable {t u : TS3} {T : Ends3} {σ : Lo} {M : Mem} {Q : DK} {QB : Bool → Mem → Prop} {QA : List D → Mem → Prop} {c tA tB : TT3} {te ta tb tc : TE3} {tas : TA3} {i : Nat} {d x y : D} {r r' : R3} {ru : U3} {rc : C3} {sp : Sp3}
theorem rd_seq (h : t { T with nx := u T } σ M) : tSeq3 t u T σ M := h
theorem rd_ifs (h : c σ M fun b M1 => if b = true then t T σ M1 else u T σ M1) : tIfS3 c t u T σ M := h
theorem rd_test (h : te σ M fun x M' => ∃ k, x = .bl k ∧ QB k M') : tTest3 te σ M QB := h
theorem rd_op (h : ta σ M fun x M1 => tb σ M1 fun y M2 => r x y M2 Q) : tOp3 r ta tb σ M Q := h
theorem rd_var {i : Nat} (e : σ[i]? = some (some d)) (h : Q d M) : tVar3 i σ M Q := by unfold tVar3; rw [e]; exact h
theorem rd_c (h : Q d M) : tC3 d σ M Q := h
theorem rd_ret (h : te σ M T.rt) : tRet3 te T σ M := h
theorem rd_set (h : te σ M fun d M1 => T.nx (σ.set i (some d)) M1) : tSet3 i te T σ M := h
theorem rd_drop (h : te σ M fun _ M1 => T.nx σ M1) : tDrop3 te T σ M := h
theorem rd_next (h : T.nx σ M) : tNext3 T σ M := h
theorem rd_call (h : tas σ M fun ds M1 => sp ds M1 Q) : tCall3 sp tas σ M Q := h
theorem rd_cb (h : tas σ M fun ds M1 => rc ds M1 Q) : tCB3 rc tas σ M Q := h
theorem rd_nil (h : QA [] M) : tNil3 σ M QA := h
theorem rd_cons (h : te σ M fun x M1 => tas σ M1 fun xs M2 => QA (x :: xs) M2) : tCons3 te tas σ M QA := h
theorem rd_tupE (h : tas σ M fun xs M1 => xs.length ≤ sizeLine ∧ Q (.tup xs) M1) : tTup3 tas σ M Q := h
theorem rd_lstE (h : tas σ M fun xs M1 => xs.length ≤ sizeLine ∧ Q (.lst xs) M1) : tLst3 tas σ M Q := h
theorem rd_and (h : tA σ M fun c M1 => if c = true then tB σ M1 QB else QB false M1) : tAnd3 tA tB σ M QB := h
theorem rd_or (h : tA σ M fun c M1 => if c = true then QB true M1 else tB σ M1 QB) : tOr3 tA tB σ M QB := h
theorem rd_not (h : tA σ M fun c M1 => QB (!c) M1) : tNot3 tA σ M QB := h
theorem rd_andV (h : ta σ M fun x M1 => ∃ c, x = .bl c ∧ if c = true then tb σ M1 Q else Q (.bl false) M1) : tAndV3 ta tb σ M Q := h
theorem rd_chain (h : ta σ M fun x M1 => tb σ M1 fun y M2 => r x y M2 fun z M3 => ∃ k, z = .bl k ∧ if k = true then tc σ M3 fun w M4 => r' y w M4 Q else Q (.bl false) M3) : tChain3 r r' ta tb tc σ M Q := h
theorem rd_sl {tl th : TO3} (h : te σ M fun x M1 => tl σ M1 fun l M2 => th σ M2 fun u M3 => rSl3 x l u M3 Q) : tSl3 te tl th σ M Q := h
theorem rd_np {QO : Option Int → Mem → Prop} (h : QO none M) : tNoPart3 σ M QO := h
theorem rd_part {QO : Option Int → Mem → Prop} (h : te σ M fun x M1 => match x with | .int i => QO (some i) M1 | _ => False) : tPart3 te σ M QO := h
theorem rd_bl {b : Bool} {P : Bool → Prop} (h : P b) : ∃ k, D.bl b = .bl k ∧ P k := ⟨b, rfl, h⟩
theorem rd_iteT {P R : Prop} (h : P) : if true = true then P else R := by rw [if_pos rfl]; exact h
theorem rd_iteF {P R : Prop} (h : R) : if false = true then P else R := by rw [if_neg Bool.false_ne_true]; exact h
theorem rd_dec {c P R : Prop} [Decidable c] (h1 : c → P) (h2 : ¬ c → R) : if decide c = true then P else R := by
  by_cases h : c
  · rw [decide_eq_true h, if_pos rfl]; exact h1 h
  · rw [decide_eq_false h, if_neg Bool.false_ne_true]; exact h2 h
theorem rd_I0 {g : Int → Int → D} {i j : Int} (h : Q (g i j) M) : rI30 g (.int i) (.int j) M Q := h
theorem rd_I {C : Int → Int → Prop} {g : Int → Int → D} {i j : Int} (hc : C i j) (h : Q (g i j) M) : rI3 C g (.int i) (.int j) M Q := ⟨hc, h⟩
theorem rd_addI {i j : Int} (h : Q (.int (i + j)) M) : rAdd3 (.int i) (.int j) M Q := h
theorem rd_addS {a b : Str} (hl : a.length + b.length ≤ sizeLine) (h : Q (.str (a ++ b)) M) : rAdd3 (.str a) (.str b) M Q := ⟨hl, h⟩
theorem rd_addL {a b : List D} (hl : a.length + b.length ≤ sizeLine) (h : Q (.lst (a ++ b)) M) : rAdd3 (.lst a) (.lst b) M Q := ⟨hl, h⟩
theorem rd_eqS {a b : Str} (h : Q (.bl (a == b)) M) : rEq3 (.str a) (.str b) M Q := .inr ⟨a, b, rfl, rfl, h⟩
theorem rd_neS {a b : Str} (h : Q (.bl (!(a == b))) M) : rNe3 (.str a) (.str b) M Q := .inr ⟨a, b, rfl, rfl, h⟩
theorem rd_ne (hx : dOk x) (hy : dOk y) (h : Q (.bl (!PyData.eqv (pyD x) (pyD y))) M) : rNe3 x y M Q := .inl ⟨hx, hy, h⟩
theorem rd_ixL {ds : List D} {i : Int} (e : atI ds i = some d) (h : Q d M) : rIx3 (.lst ds) (.int i) M Q := ⟨d, e, h⟩
theorem rd_ixT {ds : List D} {i : Int} (e : atI ds i = some d) (h : Q d M) : rIx3 (.tup ds) (.int i) M Q := ⟨d, e, h⟩
theorem rd_ixS {z : Str} {i : Int} {c : Nat} (hl : z.length ≤ sizeLine) (e : atI z.cps.toList i = some c) (h : Q (.str ⟨#[c]⟩) M) : rIx3 (.str z) (.int i) M Q := ⟨hl, c, e, h⟩
theorem rd_lenL {ds : List D} (h : Q (.int ds.length) M) : rLen3 [.lst ds] M Q := h
theorem rd_lenS {z : Str} (hl : z.length ≤ sizeLine) (h : Q (.int z.length) M) : rLen3 [.str z] M Q := ⟨hl, h⟩
theorem rd_abs {i : Int} (h : Q (.int (if i < 0 then -i else i)) M) : rAbs3 [.int i] M Q := h
theorem rd_listL {ds : List D} (h : Q (.lst ds) M) : rList3 [.lst ds] M Q := h
theorem rd_isi {N : String} (ho : okTy d) (hN : N = "bool" ∨ N = "int" ∨ N = "str" ∨ N = "tuple" ∨ N = "list") (h : Q (.bl (isIn (tyN d) N)) M) : rIsi3 [d, .ty N] M Q := ⟨ho, hN, h⟩
theorem rd_slL {ds : List D} {l u : Option Int} (h : Q (.lst (cutD ds l u)) M) : rSl3 (.lst ds) l u M Q := h
theorem rd_isN (h : Q (.bl (match x with | .non => true | _ => false)) M) : rIs3 x .non M Q := ⟨rfl, h⟩
theorem rd_for {ti : TI3} {tb : TS3} (h : ti σ M fun ds M1 => ∃ Pv : Nat → Lo → Mem → Prop, Pv 0 σ M1 ∧
  (∀ k d σ M, ds[k]? = some d → Pv k σ M → tb { T with nx := Pv (k + 1), ct := Pv (k + 1), bk := T.nx } (σ.set i (some d)) M) ∧ ∀ σ M, Pv ds.length σ M → T.nx σ M) : tFor3 ti i tb T σ M := h
theorem rd_rng {R : List D → Mem → Prop} (h : tas σ M fun ds M1 => match ds with | [.int j] => -(2 ^ 62) ≤ j ∧ j < 2 ^ 62 ∧ R ((List.range j.toNat).map fun k => D.int (k : Nat)) M1 | _ => False) : iRng3 tas σ M R := h
end
theorem pen_mono {M : Mem} {p : Addr} {b c : Nat} (h : Pen M p b) (hc : b ≤ c) : Pen M p c := by
  obtain ⟨ns, a, l, h1, h2, h3, h4, h5⟩ := h
  exact ⟨ns, a, l, h1, h2, h3, by lia, h5⟩
theorem atI_mem {α : Type} {ds : List α} {n : Int} (h0 : 0 ≤ n) (h1 : n < (ds.length : Int)) : ∃ d, atI ds n = some d ∧ d ∈ ds := by
  obtain ⟨k, rfl⟩ : ∃ k : Nat, n = (k : Int) := ⟨n.toNat, by lia⟩
  have hk : k < ds.length := by lia
  exact ⟨ds[k], atI_nat (by simp [hk]), List.getElem_mem hk⟩
theorem draw {p : Addr} {many : Int} {b : Nat} {M : Mem} {Q : DK} (hP : Pen M p b) (hb : b < 2 ^ 30) (h0 : 0 < many) (h1 : many < 2 ^ 200) (h : ∀ n M', 0 ≤ n → n < many → Pen M' p (b + 1) → Same3 p M M' → Q (.int n) M') : spDraw [.ref p, .int many] M Q :=
  ⟨p, many, b, rfl, hP, hb, h0, h1, h⟩
theorem strOkD {x : Str} (h : PyData.strOk x = true) : dOk (.str x) := ⟨rfl, by simpa [pyD, PyData.canLay0] using h, by simp [pyD, PyData.depth]⟩
theorem intOkD {i : Int} : dOk (.int i) := ⟨rfl, rfl, by simp [pyD, PyData.depth]⟩
theorem blOkD {b : Bool} : dOk (.bl b) := ⟨rfl, rfl, by simp [pyD, PyData.depth]⟩
end L3
namespace L3
open PySem L2
def tPenB : TS3 :=
    (tRet3 (tDispM3 [((tC3 (.str "cells")), (tCB3 rList3 (tCons3 (tSl3 (tVar3 0) tNoPart3 (tPart3 (tC3 (.int 63)))) tNil3))), ((tC3 (.str "at")), (tC3 (.int 0))), ((tC3 (.str "left")), (tC3 (.int 0)))]))
def tDrawB : TS3 :=
    (tSeq3 (tIfS3 (tTest3 (tOp3 rGt3 (tOp3 rDGet3 (tVar3 0) (tC3 (.str "left"))) (tC3 (.int 0)))) (tSeq3 (tSet3 2 (tOp3 rMod3 (tOp3 rDGet3 (tVar3 0) (tC3 (.str "left"))) (tVar3 1)))
    (tSeq3 (tDPut3 (tVar3 0) (tC3 (.str "left")) (tOp3 rFdiv3 (tOp3 rDGet3 (tVar3 0) (tC3 (.str "left"))) (tVar3 1)))
    (tRet3 (tVar3 2)))) tNext3)
    (tSeq3 (tSet3 3 (tOp3 rDGet3 (tVar3 0) (tC3 (.str "cells"))))
    (tSeq3 (tSet3 4 (tOp3 rDGet3 (tVar3 0) (tC3 (.str "at"))))
    (tSeq3 (tDPut3 (tVar3 0) (tC3 (.str "at")) (tOp3 rAdd3 (tVar3 4) (tC3 (.int 1))))
    (tSeq3 (tSet3 5 (tOp3 rAdd3 (tOp3 rMul3 (tC3 (.int 30011)) (tVar3 4)) (tC3 (.int 77))))
    (tSeq3 (tIfS3 (tTest3 (tOp3 rNe3 (tVar3 3) (tLst3 tNil3))) (tSet3 5 (tOp3 rIx3 (tVar3 3) (tOp3 rMod3 (tVar3 4) (tCB3 rLen3 (tCons3 (tVar3 3) tNil3))))) tNext3)
    (tSeq3 (tIfS3 (tAnd3 (tTest3 (tOp3 rLt3 (tVar3 4) (tCB3 rLen3 (tCons3 (tVar3 3) tNil3)))) (tTest3 (tOp3 rGe3 (tCB3 rAbs3 (tCons3 (tVar3 5) tNil3)) (tOp3 rPow3 (tC3 (.int 10)) (tC3 (.int 18)))))) (tSeq3 (tDPut3 (tVar3 0) (tC3 (.str "left")) (tOp3 rFdiv3 (tCB3 rAbs3 (tCons3 (tVar3 5) tNil3)) (tVar3 1)))
    (tRet3 (tOp3 rMod3 (tCB3 rAbs3 (tCons3 (tVar3 5) tNil3)) (tVar3 1)))) tNext3)
    (tSeq3 (tSet3 6 (tOp3 rMod3 (tOp3 rPow3 (tOp3 rAdd3 (tOp3 rAdd3 (tOp3 rMod3 (tVar3 5) (tC3 (.int 2147483587))) (tOp3 rMul3 (tC3 (.int 50021)) (tVar3 4))) (tC3 (.int 29))) (tC3 (.int 5))) (tC3 (.int 2147483629))))
    (tSeq3 (tSet3 6 (tOp3 rMod3 (tOp3 rPow3 (tOp3 rAdd3 (tOp3 rMul3 (tVar3 6) (tOp3 rAdd3 (tOp3 rMul3 (tC3 (.int 2)) (tVar3 4)) (tC3 (.int 5)))) (tC3 (.int 81799))) (tC3 (.int 3))) (tC3 (.int 2147483647))))
    (tRet3 (tOp3 rMod3 (tOp3 rFdiv3 (tVar3 6) (tC3 (.int 16))) (tVar3 1))))))))))))
local macro_rules | `(tactic| walk_at "rd") => `(tactic| repeat (first | with_reducible refine rd_seq ?_ | with_reducible refine rd_ifs ?_ | with_reducible refine rd_test ?_ | with_reducible refine rd_op ?_ | with_reducible refine rd_un ?_ | with_reducible refine rd_c ?_ | with_reducible refine rd_ret ?_ | with_reducible refine rd_set ?_ | with_reducible refine rd_drop ?_ | with_reducible refine rd_next ?_ | with_reducible refine rd_call ?_ | with_reducible refine rd_cb ?_ | with_reducible refine rd_nil ?_ | with_reducible refine rd_cons ?_ | with_reducible refine rd_tupE ?_ | with_reducible refine rd_lstE ?_ | with_reducible refine rd_and ?_ | with_reducible refine rd_or ?_ | with_reducible refine rd_not ?_ | with_reducible refine rd_andV ?_ | with_reducible refine rd_orV ?_ | with_reducible refine rd_notV ?_ | with_reducible refine rd_if3 ?_ | with_reducible refine rd_chain ?_ | with_reducible refine rd_sl ?_ | with_reducible refine rd_np ?_ | with_reducible refine rd_part ?_ | with_reducible refine rd_bl ?_ | with_reducible refine rd_iteT ?_ | with_reducible refine rd_iteF ?_ | with_reducible refine rd_I0 ?_ | with_reducible refine rd_U ?_ | with_reducible refine rd_addI ?_ | with_reducible refine rd_lenL ?_ | with_reducible refine rd_lenT ?_ | with_reducible refine rd_abs ?_ | with_reducible refine rd_intI ?_ | with_reducible refine rd_intB ?_ | with_reducible refine rd_listL ?_ | with_reducible refine rd_listT ?_ | with_reducible refine rd_slL ?_ | with_reducible refine rd_isN ?_ | with_reducible refine rd_isntN ?_ | with_reducible refine rd_for ?_ | with_reducible refine rd_rng ?_ | ((with_reducible show tVar3 _ _ _ _); refine rd_var rfl ?_) | ((with_reducible show _ ∧ _); refine ⟨(by first | decide | (simp only [List.length_cons, List.length_nil]; decide)), ?_⟩)))
theorem k_ca : ¬ (("cells" : Str) = "at") := by decide +kernel
theorem k_cl : ¬ (("cells" : Str) = "left") := by decide +kernel
theorem k_al : ¬ (("at" : Str) = "left") := by decide +kernel
theorem k_la : ¬ (("left" : Str) = "at") := by decide +kernel
theorem inr_ne {x y : Str} (h : ¬ x = y) : ¬ (Sum.inr x : Key) = Sum.inr y := fun z => h (Sum.inr.inj z)
theorem merge_pen (x y z : D) : mergeD [] [(.inr "cells", x), (.inr "at", y), (.inr "left", z)] = ([(.inr "cells", x), (.inr "at", y), (.inr "left", z)] : List (Key × D)) := by
  simp [mergeD, putD, inr_ne k_ca, inr_ne k_cl, inr_ne k_al]
theorem put_left (x y z d : D) : putD [(.inr "cells", x), (.inr "at", y), (.inr "left", z)] (.inr "left") d = ([(.inr "cells", x), (.inr "at", y), (.inr "left", d)] : List (Key × D)) := by
  simp [putD, inr_ne k_cl, inr_ne k_al]
theorem put_at (x y z d : D) : putD [(.inr "cells", x), (.inr "at", y), (.inr "left", z)] (.inr "at") d = ([(.inr "cells", x), (.inr "at", d), (.inr "left", z)] : List (Key × D)) := by
  simp [putD, inr_ne k_ca, inr_ne k_la]
theorem get_left {ns : List Int} {a l : Int} {M : Mem} {p : Addr} {Q : DK} (h : M p = some (penO ns a l)) : rDGet3 (.ref p) (.str "left") M Q ↔ Q (.int l) M := by
  constructor
  · rintro ⟨k, d, hk, ⟨kds, hm, hv⟩, q⟩
    cases hk
    rw [h] at hm
    cases hm
    simp [valD, inr_ne k_cl, inr_ne k_al] at hv
    subst hv; exact q
  · intro q
    exact ⟨_, .int l, rfl, ⟨_, h, by simp [valD, inr_ne k_cl, inr_ne k_al]⟩, q⟩
theorem get_at {ns : List Int} {a l : Int} {M : Mem} {p : Addr} {Q : DK} (h : M p = some (penO ns a l)) : rDGet3 (.ref p) (.str "at") M Q ↔ Q (.int a) M := by
  constructor
  · rintro ⟨k, d, hk, ⟨kds, hm, hv⟩, q⟩
    cases hk
    rw [h] at hm
    cases hm
    simp [valD, inr_ne k_ca] at hv
    subst hv; exact q
  · intro q
    exact ⟨_, .int a, rfl, ⟨_, h, by simp [valD, inr_ne k_ca]⟩, q⟩
theorem get_cells {ns : List Int} {a l : Int} {M : Mem} {p : Addr} {Q : DK} (h : M p = some (penO ns a l)) : rDGet3 (.ref p) (.str "cells") M Q ↔ Q (.lst (ns.map D.int)) M := by
  constructor
  · rintro ⟨k, d, hk, ⟨kds, hm, hv⟩, q⟩
    cases hk
    rw [h] at hm
    cases hm
    simp [valD] at hv
    subst hv; exact q
  · intro q
    exact ⟨_, .lst (ns.map D.int), rfl, ⟨_, h, by simp [valD]⟩, q⟩
theorem dput_left {ns : List Int} {a l l' : Int} {M : Mem} {p : Addr} {T : Lo → Mem → Prop} {σ : Lo} (h : M p = some (penO ns a l)) (q : T σ (mput M p (penO ns a l'))) :
    ∃ k a' kds, dK? (.str "left") = some k ∧ D.ref p = .ref a' ∧ M a' = some (.dct kds) ∧ kds.length < sizeLine ∧ T σ (mput M a' (.dct (putD kds k (.int l')))) :=
  ⟨_, p, _, rfl, rfl, h, by show 3 < sizeLine; decide, by rw [put_left]; exact q⟩
theorem dput_at {ns : List Int} {a a1 l : Int} {M : Mem} {p : Addr} {T : Lo → Mem → Prop} {σ : Lo} (h : M p = some (penO ns a l)) (q : T σ (mput M p (penO ns a1 l))) :
    ∃ k a' kds, dK? (.str "at") = some k ∧ D.ref p = .ref a' ∧ M a' = some (.dct kds) ∧ kds.length < sizeLine ∧ T σ (mput M a' (.dct (putD kds k (.int a1)))) :=
  ⟨_, p, _, rfl, rfl, h, by show 3 < sizeLine; decide, by rw [put_at]; exact q⟩
theorem cut_ints (ns : List Int) (lo hi : Option Int) : ∃ ms : List Int, cutD (ns.map D.int) lo hi = ms.map D.int ∧ ms.length ≤ ns.length := by
  unfold cutD
  refine ⟨(ns.drop (HT.sIx (ns.map D.int).length 0 lo)).take (HT.sIx (ns.map D.int).length (ns.map D.int).length hi - HT.sIx (ns.map D.int).length 0 lo), ?_, ?_⟩
  · rw [← List.map_drop, ← List.map_take]
  · rw [List.length_take, List.length_drop]; lia
theorem ints_ok : ∀ ns : List Int, plains (ns.map D.int) = true ∧ PyData.canLayAll0 (pyDs (ns.map D.int)) = true ∧ PyData.depthAll (pyDs (ns.map D.int)) = 0
  | [] => ⟨rfl, rfl, rfl⟩
  | n :: ns => by
    obtain ⟨h1, h2, h3⟩ := ints_ok ns
    simp [List.map_cons, plains, plain, pyDs, pyD, PyData.canLayAll0, PyData.canLay0, PyData.depthAll, PyData.depth, h1, h2, h3]
theorem dOk_ints (ns : List Int) : dOk (.lst (ns.map D.int)) := by
  obtain ⟨h1, h2, h3⟩ := ints_ok ns
  refine ⟨by simpa [plain] using h1, by simpa [pyD, PyData.canLay0] using h2, ?_⟩
  simp [pyD, PyData.depth, h3]
theorem rd_pen {Q : DK} {ds : List D} {M : Mem} (h : spPen ds M Q) (d : D) (e : ds = [d]) (T : Lo → Mem → Prop) : tPenB { nx := T, rt := View Q } [some d] M := by
  obtain ⟨ns, rfl, hl, q⟩ := h
  cases e
  unfold tPenB
  walk_at "rd"
  intro p hp
  unfold tPairs3
  walk_at "rd"
  unfold tPairs3
  walk_at "rd"
  unfold tPairs3
  walk_at "rd"
  unfold tPairs3
  refine ⟨mput_same, [(.inr "cells", _), (.inr "at", _), (.inr "left", _)], rfl, by simp, View.of ?_⟩
  rw [merge_pen, mput_mput]
  obtain ⟨ms, e, hms⟩ := cut_ints ns none (some 63)
  rw [e]
  exact q p _ hp ⟨ms, 0, 0, mput_same, by lia, by lia, by simp, by lia⟩ fun b hb => mput_ne hb
theorem mix1 {a c : Int} (h0 : 0 ≤ a) (h1 : a < 2 ^ 31) : CPow (c % 2147483587 + 50021 * a + 29) 5 := by
  have z1 := Int.emod_nonneg c (show (2147483587 : Int) ≠ 0 by decide)
  have z2 := Int.emod_lt_of_pos c (show (0 : Int) < 2147483587 by decide)
  refine ⟨by decide, by decide, ?_⟩
  lia
theorem mix2 {a n : Int} (h0 : 0 ≤ a) (h1 : a < 2 ^ 30) (h2 : 0 ≤ n) (h3 : n < 2147483629) : CPow (n * (2 * a + 5) + 81799) 3 := by
  refine ⟨by decide, by decide, ?_⟩
  have e : n * (2 * a + 5) ≤ 2147483629 * 2147483653 := Int.mul_le_mul (by lia) (by lia) (by lia) (by lia)
  have e0 : 0 ≤ n * (2 * a + 5) := Int.mul_nonneg h2 (by lia)
  lia
theorem rd_dp {td ty tv : TE3} {T : Ends3} {σ : Lo} {M : Mem} (h : tv σ M fun d M1 => td σ M1 fun x M2 => ty σ M2 fun y M3 => ∃ k a kds, dK? y = some k ∧ x = .ref a ∧ M3 a = some (.dct kds) ∧ kds.length < sizeLine ∧ T.nx σ (mput M3 a (.dct (putD kds k d)))) : tDPut3 td ty tv T σ M := h
theorem big200 {x : Int} (h0 : 0 < x) (h : x < 2 ^ 200) : CDivB 0 x := by
  refine ⟨h0, ?_⟩
  have h2 : x.natAbs < 2 ^ 200 := by lia
  exact Nat.lt_trans h2 (Nat.pow_lt_pow_right (by decide) (by decide))
theorem at_ints {ns : List Int} {a : Int} (h0 : 0 ≤ a) (h : a < (ns.length : Int)) : ∃ c, atI (ns.map D.int) a = some (D.int c) := by
  obtain ⟨k, rfl⟩ : ∃ k : Nat, a = (k : Int) := ⟨a.toNat, by lia⟩
  have hk : k < ns.length := by lia
  exact ⟨ns[k], atI_nat (by simp [hk])⟩
def tDrawTail : TS3 :=
    (tSeq3 (tSet3 6 (tOp3 rMod3 (tOp3 rPow3 (tOp3 rAdd3 (tOp3 rAdd3 (tOp3 rMod3 (tVar3 5) (tC3 (.int 2147483587))) (tOp3 rMul3 (tC3 (.int 50021)) (tVar3 4))) (tC3 (.int 29))) (tC3 (.int 5))) (tC3 (.int 2147483629))))
    (tSeq3 (tSet3 6 (tOp3 rMod3 (tOp3 rPow3 (tOp3 rAdd3 (tOp3 rMul3 (tVar3 6) (tOp3 rAdd3 (tOp3 rMul3 (tC3 (.int 2)) (tVar3 4)) (tC3 (.int 5)))) (tC3 (.int 81799))) (tC3 (.int 3))) (tC3 (.int 2147483647))))
    (tRet3 (tOp3 rMod3 (tOp3 rFdiv3 (tVar3 6) (tC3 (.int 16))) (tVar3 1)))))
def tDrawRest : TS3 :=
    tSeq3 (tIfS3 (tAnd3 (tTest3 (tOp3 rLt3 (tVar3 4) (tCB3 rLen3 (tCons3 (tVar3 3) tNil3)))) (tTest3 (tOp3 rGe3 (tCB3 rAbs3 (tCons3 (tVar3 5) tNil3)) (tOp3 rPow3 (tC3 (.int 10)) (tC3 (.int 18)))))) (tSeq3 (tDPut3 (tVar3 0) (tC3 (.str "left")) (tOp3 rFdiv3 (tCB3 rAbs3 (tCons3 (tVar3 5) tNil3)) (tVar3 1)))
    (tRet3 (tOp3 rMod3 (tCB3 rAbs3 (tCons3 (tVar3 5) tNil3)) (tVar3 1)))) tNext3)
    tDrawTail
theorem rd_draw {Q : DK} {ds : List D} {M : Mem} (h : spDraw ds M Q) (d0 d1 : D) (e : ds = [d0, d1]) (T : Lo → Mem → Prop) : tDrawB { nx := T, rt := View Q } [some d0, some d1, none, none, none, none, none] M := by
  obtain ⟨p, many, b, rfl, ⟨ns, a, l, hM, hl, ha0, hab, hl0⟩, hb, hm0, hm1, q⟩ := h
  cases e
  have hdv : ∀ i, CDivB i many := fun i => ⟨hm0, (big200 hm0 hm1).2⟩
  have hb' : (b : Int) < 2 ^ 30 := by
    have : ((2 ^ 30 : Nat) : Int) = (2 : Int) ^ 30 := by decide
    lia
  unfold tDrawB
  walk_at "rd"
  refine (get_left hM).mpr ?_
  walk_at "rd"
  refine rd_dec (fun hpos => ?_) (fun hneg => ?_)
  · walk_at "rd"
    refine (get_left hM).mpr ?_
    walk_at "rd"
    refine rd_I hm0 ?_
    walk_at "rd"
    refine rd_dp ?_
    walk_at "rd"
    refine (get_left hM).mpr ?_
    walk_at "rd"
    refine rd_I (hdv _) ?_
    walk_at "rd"
    refine dput_left hM ?_
    walk_at "rd"
    exact View.of (q _ _ (Int.emod_nonneg _ (by lia)) (Int.emod_lt_of_pos _ hm0) ⟨ns, a, _, mput_same, hl, ha0, by lia, Int.ediv_nonneg hl0 (by lia)⟩ fun _ h => mput_ne h)
  · walk_at "rd"
    refine (get_cells hM).mpr ?_
    walk_at "rd"
    refine (get_at hM).mpr ?_
    walk_at "rd"
    refine rd_dp ?_
    walk_at "rd"
    refine dput_at hM ?_
    have hM1 : mput M p (penO ns (a + 1) l) p = some (penO ns (a + 1) l) := mput_same
    walk_at "rd"
    refine rd_I (.inl (.inl ⟨by decide, by decide⟩)) ?_
    walk_at "rd"
    refine rd_ne (dOk_ints ns) ⟨rfl, rfl, by decide⟩ ?_
    have rest : ∀ c : Int, tDrawRest { nx := T, rt := View Q } [some (.ref p), some (.int many), none, some (.lst (ns.map D.int)), some (.int a), some (.int c), none] (mput M p (penO ns (a + 1) l)) := by
      intro c
      have abs0 : 0 ≤ (if c < 0 then -c else c) := by split <;> lia
      have tail : tDrawTail { nx := T, rt := View Q } [some (.ref p), some (.int many), none, some (.lst (ns.map D.int)), some (.int a), some (.int c), none] (mput M p (penO ns (a + 1) l)) := by
        unfold tDrawTail
        walk_at "rd"
        refine rd_I (by decide) ?_
        walk_at "rd"
        refine rd_I (.inl (.inl ⟨by decide, by decide⟩)) ?_
        walk_at "rd"
        refine rd_I (mix1 ha0 (by lia)) ?_
        walk_at "rd"
        refine rd_I (by decide) ?_
        walk_at "rd"
        refine rd_I (.inl (.inl ⟨by decide, by decide⟩)) ?_
        walk_at "rd"
        have z1 := Int.emod_nonneg ((c % 2147483587 + 50021 * a + 29) ^ Int.toNat 5) (show (2147483629 : Int) ≠ 0 by decide)
        have z2 := Int.emod_lt_of_pos ((c % 2147483587 + 50021 * a + 29) ^ Int.toNat 5) (show (0 : Int) < 2147483629 by decide)
        refine rd_I (.inl (.inl ⟨by lia, by lia⟩)) ?_
        walk_at "rd"
        refine rd_I (mix2 ha0 (by lia) z1 z2) ?_
        walk_at "rd"
        refine rd_I (by decide) ?_
        walk_at "rd"
        refine rd_I ⟨by decide, by decide +kernel⟩ ?_
        walk_at "rd"
        refine rd_I hm0 ?_
        walk_at "rd"
        exact View.of (q _ _ (Int.emod_nonneg _ (by lia)) (Int.emod_lt_of_pos _ hm0) ⟨ns, a + 1, _, mput_same, hl, by lia, by lia, hl0⟩ fun _ h => mput_ne h)
      unfold tDrawRest
      walk_at "rd"
      refine rd_dec (fun hlt => ?_) (fun hge => ?_)
      · walk_at "rd"
        refine rd_I ⟨by decide, by decide, by decide⟩ ?_
        walk_at "rd"
        refine rd_dec (fun h18 => ?_) (fun h18 => ?_)
        · walk_at "rd"
          refine rd_dp ?_
          walk_at "rd"
          refine rd_I (hdv _) ?_
          walk_at "rd"
          refine dput_left hM1 ?_
          walk_at "rd"
          refine rd_I hm0 ?_
          walk_at "rd"
          rw [mput_mput]
          exact View.of (q _ _ (Int.emod_nonneg _ (by lia)) (Int.emod_lt_of_pos _ hm0) ⟨ns, a + 1, _, mput_same, hl, by lia, by lia, Int.ediv_nonneg abs0 (by lia)⟩ fun _ h => mput_ne h)
        · exact tail
      · exact tail
    cases ns with
    | nil =>
      refine rd_bl (show if (!true) = true then _ else _ from ?_)
      exact rd_iteF (rest _)
    | cons n ns =>
      refine rd_bl (show if (!false) = true then _ else _ from ?_)
      refine rd_iteT ?_
      walk_at "rd"
      have hlen : (0 : Int) < ((List.map D.int (n :: ns)).length : Int) := by rw [List.length_map, List.length_cons]; lia
      refine rd_I hlen ?_
      obtain ⟨c, hc⟩ := at_ints (ns := n :: ns) (a := a % ((List.map D.int (n :: ns)).length : Int)) (Int.emod_nonneg _ (by lia)) (by have := Int.emod_lt_of_pos a hlen; simpa using this)
      refine rd_ixL hc ?_
      exact rest c
end L3
namespace L3
open PySem L2
section
variable {t u : TS3} {T : Ends3} {σ : Lo} {M : Mem} {Q : DK} {QB : Bool → Mem → Prop} {QA : List D → Mem → Prop} {c tA tB : TT3} {te ta tb tc to : TE3} {tas : TA3} {i : Nat} {d x y : D} {r r' : R3} {g : TG3} {ti : TI3} {tt : TT3} {slots : List Nat} {n : Nat}
theorem rd_gName {QG : Lo → Mem → Prop} (h : QG (σ.set i (some d)) M) : gName3 i d σ M QG := h
theorem rd_gTup {is : List Nat} {ds : List D} {QG : Lo → Mem → Prop} (hl : ds.length = is.length) (h : QG (setAll σ is ds) M) : gTup3 is (.tup ds) σ M QG := ⟨ds, rfl, hl, h⟩
theorem rd_true (h : QB true M) : tTrue3 σ M QB := h
theorem rd_bm {ty : String} {rm : M3} (h : to σ M fun x M1 => tyD ty M1 x ∧ tas σ M1 fun xs M2 => rm x xs M2 Q) : tBM3 ty rm to tas σ M Q := h
theorem rd_bm0 {ty : String} {rm : M3} (h : to σ M fun x M1 => tyD ty M1 x ∧ rm x [] M1 Q) : tBM03 ty rm to σ M Q := h
theorem rd_append {a : Addr} {ds : List D} (hm : M a = some (.lst ds)) (hl : ds.length < sizeLine) (h : Q .non (mput M a (.lst (ds ++ [y])))) : rAppend3 (.ref a) [y] M Q := ⟨a, ds, y, rfl, rfl, hm, hl, h⟩
theorem rd_frz {a : Addr} {ds : List D} (e : σ[i]? = some (some (.ref a))) (hm : M a = some (.lst ds)) (h : t T (σ.set i (some (.lst ds))) (mdel M a)) : tFrz3 i t T σ M := ⟨a, ds, e, hm, h⟩
def CompB (g : TG3) (tt : TT3) (te : TE3) (σ0 : Lo) (ds : List D) (M1 : Mem) (Q : DK) : Prop := ∀ p, M1 p = none → ∃ Pv : Nat → List D → Mem → Prop, Pv 0 [] (mput M1 p (.lst [])) ∧
  (∀ k d acc M, ds[k]? = some d → Pv k acc M → g d σ0 M fun σ' M0 => tt σ' M0 fun b M' =>
    if b = true then te σ' M' fun e M'' => M'' p = some (.lst acc) ∧ acc.length < sizeLine ∧ Pv (k + 1) (acc ++ [e]) (mput M'' p (.lst (acc ++ [e]))) else Pv (k + 1) acc M') ∧
  ∀ acc M, Pv ds.length acc M → M p = some (.lst acc) ∧ Q (.lst acc) (mdel M p)
theorem rd_comp (h : ti σ M fun ds M1 => CompB g tt te (List.replicate n none ++ slots.map fun j => (σ[j]?).getD none) ds M1 Q) : tComp3 ti n slots g tt te σ M Q := h
def onStr (R : List D → Mem → Prop) : DK := fun d M1 => match d with | .str z => R (z.cps.toList.map fun c => D.str ⟨#[c]⟩) M1 | _ => False
def onTup (R : List D → Mem → Prop) : DK := fun d M1 => match d with | .tup ds => R ds M1 | _ => False
def onLst (R : List D → Mem → Prop) : DK := fun d M1 => match d with | .lst ds => R ds M1 | _ => False
theorem rd_iStr {R : List D → Mem → Prop} (h : te σ M (onStr R)) : iStr3 te σ M R := h
theorem rd_iTup {R : List D → Mem → Prop} (h : te σ M (onTup R)) : iTup3 te σ M R := h
theorem rd_iList {R : List D → Mem → Prop} (h : te σ M (onLst R)) : iList3 te σ M R := h
theorem rd_onStr {R : List D → Mem → Prop} {z : Str} (h : R (z.cps.toList.map fun c => D.str ⟨#[c]⟩) M) : onStr R (.str z) M := h
theorem rd_onTup {R : List D → Mem → Prop} {ds : List D} (h : R ds M) : onTup R (.tup ds) M := h
theorem rd_onLst {R : List D → Mem → Prop} {ds : List D} (h : R ds M) : onLst R (.lst ds) M := h
end
theorem rd_iteTe {b : Bool} {P R : Prop} (e : b = true) (h : P) : if b = true then P else R := by rw [if_pos e]; exact h
theorem rd_iteFe {b : Bool} {P R : Prop} (e : b = false) (h : R) : if b = true then P else R := by rw [if_neg (by rw [e]; exact Bool.false_ne_true)]; exact h
theorem rd_eqv {x y : D} {b : Bool} {M : Mem} {Q : DK} (hx : dOk x) (hy : dOk y) (e : PyData.eqv (pyD x) (pyD y) = b) (h : Q (.bl b) M) : rEq3 x y M Q := .inl ⟨hx, hy, by rw [e]; exact h⟩
theorem rd_nev {x y : D} {b : Bool} {M : Mem} {Q : DK} (hx : dOk x) (hy : dOk y) (e : PyData.eqv (pyD x) (pyD y) = b) (h : Q (.bl (!b)) M) : rNe3 x y M Q := .inl ⟨hx, hy, by rw [e]; exact h⟩
theorem eqvB (x y : Bool) : PyData.eqv (pyD (.bl x)) (pyD (.bl y)) = (x == y) := by cases x <;> cases y <;> decide +kernel
theorem rd_neB {x y : Bool} {M : Mem} {Q : DK} (h : Q (.bl (!(x == y))) M) : rNe3 (.bl x) (.bl y) M Q := rd_nev blOkD blOkD (eqvB x y) h
theorem pen_same {M M' : Mem} {p q : Addr} {b : Nat} (h : Pen M q b) (s : Same3 p M M') (hn : q ≠ p) : Pen M' q b := by
  obtain ⟨ns, a, l, h1, h2⟩ := h
  exact ⟨ns, a, l, by rw [s q hn]; exact h1, h2⟩
theorem pen_put {M : Mem} {p q : Addr} {b : Nat} {o : MO} (h : Pen M q b) (hn : q ≠ p) : Pen (mput M p o) q b := pen_same h (fun a ha => mput_ne ha) hn
theorem pen_ne {M : Mem} {p q : Addr} {b : Nat} (h : Pen M q b) (hp : M p = none) : q ≠ p := by
  rintro rfl
  obtain ⟨ns, a, l, h1, _⟩ := h
  rw [hp] at h1; cases h1
theorem mdel_ne {M : Mem} {a b : Addr} (h : b ≠ a) : mdel M a b = M b := by unfold mdel; rw [if_neg h]
theorem mdel_same {M : Mem} {a : Addr} : mdel M a a = none := by unfold mdel; rw [if_pos rfl]
theorem comp_pen {g : TG3} {tt : TT3} {te : TE3} {σ0 : Lo} {M1 : Mem} {Q : DK} {ds : List D} {q : Addr} {b : Nat} (c : Nat) (P : Nat → D → D → Prop) (hP : Pen M1 q b) (hl : ds.length < sizeLine)
    (turn : ∀ k d p acc M2 (R : D → Mem → Prop) (F : Mem → Prop), ds[k]? = some d → Pen M2 q (b + c * k) → M2 p = some (.lst acc) → q ≠ p → (∀ a, a ≠ q → a ≠ p → M2 a = M1 a) → (∀ e M5, P k d e → Pen M5 q (b + c * (k + 1)) → Same3 q M2 M5 → R e M5) →
      g d σ0 M2 fun σ' M3 => tt σ' M3 fun bb M4 => if bb = true then te σ' M4 R else F M4)
    (done : ∀ acc M2, acc.length = ds.length → (∀ k d e, ds[k]? = some d → acc[k]? = some e → P k d e) → Pen M2 q (b + c * ds.length) → Same3 q M1 M2 → Q (.lst acc) M2) :
    CompB g tt te σ0 ds M1 Q := by
  intro p hp
  have hqp := pen_ne hP hp
  refine ⟨fun k acc M2 => acc.length = k ∧ (∀ j d e, ds[j]? = some d → acc[j]? = some e → P j d e) ∧ Pen M2 q (b + c * k) ∧ M2 p = some (.lst acc) ∧ ∀ a, a ≠ q → a ≠ p → M2 a = M1 a, ⟨rfl, fun j d e _ h => by simp at h, by rw [Nat.mul_zero, Nat.add_zero]; exact pen_put hP hqp, mput_same, fun a _ ha => mput_ne ha⟩, ?_, ?_⟩
  · rintro k d acc M2 hd ⟨hk, hall, hpen, hacc, hsame⟩
    have hkl : k < ds.length := (List.getElem?_eq_some_iff.mp hd).1
    refine turn k d p acc M2 _ _ hd hpen hacc hqp hsame fun e M5 he hp5 hs5 => ?_
    refine ⟨by rw [hs5 p (Ne.symm hqp)]; exact hacc, by lia, by simp [hk], fun j d' e' hd' he' => ?_, pen_put hp5 hqp, mput_same, fun a ha1 ha2 => ?_⟩
    · rcases Nat.lt_or_ge j acc.length with hj | hj
      · rw [List.getElem?_append_left hj] at he'
        exact hall j d' e' hd' he'
      · rw [List.getElem?_append_right hj] at he'
        have hj0 : j - acc.length = 0 := by
          rcases Nat.eq_zero_or_pos (j - acc.length) with z | z
          · exact z
          · rw [List.getElem?_eq_none (by simp; lia)] at he'; cases he'
        rw [hj0] at he'
        cases he'
        have : j = k := by lia
        subst this
        rw [hd] at hd'; cases hd'
        exact he
    · rw [mput_ne ha2, hs5 a ha1]; exact hsame a ha1 ha2
  · rintro acc M2 ⟨hk, hall, hpen, hacc, hsame⟩
    refine ⟨hacc, done acc (mdel M2 p) hk hall ?_ fun a ha => ?_⟩
    · exact pen_same hpen (p := p) (fun a ha => mdel_ne ha) hqp
    · by_cases hap : a = p
      · subst hap; rw [mdel_same, hp]
      · rw [mdel_ne hap]; exact hsame a ha hap
end L3
namespace L3
open PySem PySem.Spec PyProof.Rows L2
section
variable {X : Cx} {a b e : Expr} {ta tb te : TE3} {pos : Pos}
def rMin3 : C3 := fun ds M Q => match ds with
  | [.int i, .int j] => Q (.int (if j < i then j else i)) M
  | _ => False
def rTuple3 : C3 := fun ds M Q => match ds with
  | [.lst xs] => Q (.tup xs) M
  | [.tup xs] => Q (.tup xs) M
  | [.ref a] => ∃ xs, M a = some (.lst xs) ∧ Q (.tup xs) M
  | _ => False
theorem c3_tuple : CallR3 X (.type "tuple") rTuple3 := CallR3.of call_tuple_of fun H M xs xvs Q m px q => by
  rcases px with _ | ⟨pd, ps⟩; (exact (q : False).elim); rcases ps with _ | ⟨p2, ps2⟩; rotate_left; (first | exact (q : False).elim | (cases pd <;> exact (q : False).elim))
  cases pd with
  | lst h r => exact ⟨_, _, rfl, .inl ⟨SqL.of3 h, fun l hl => ⟨_, M, Step.lay hl, m.lay hl, .tup (.inl ⟨.inl upd_same, m.free hl⟩) (r.mono (Step.lay hl)), q⟩⟩⟩
  | tup h r => exact ⟨_, _, rfl, .inr ⟨SqT.of3 h, _, M, .refl, m, .tup h r, q⟩⟩
  | ref =>
    obtain ⟨ds, hm, q⟩ := q
    obtain ⟨ho, e1, r⟩ := m _ _ hm
    cases ho <;> first | exact r.elim | skip
    have r' : Reps X.K M H ds _ := r
    exact ⟨_, _, rfl, .inl ⟨.inl (.inl e1), fun l hl => ⟨_, M, Step.lay hl, m.lay hl, .tup (.inl ⟨.inl upd_same, m.free hl⟩) (r'.mono (Step.lay hl)), q⟩⟩⟩
  | _ => exact (q : False).elim
def rAll3 : C3 := fun ds M Q => ∃ bs : List Bool, ds = [.lst (bs.map D.bl)] ∧ Q (.bl (bs.all id)) M
theorem bools_of {K : PySem.W.Frag} {M : Mem} {H : Hp} : ∀ {bs : List Bool} {vs : List V} {its : List Value}, Reps K M H (bs.map D.bl) vs → Vals vs its → its = bs.map Value.bool
  | [], _, _, r, v => by cases r; cases v; rfl
  | b :: bs, _, _, .cons p1 p2, v => by
    cases p1
    cases v with
    | cons i1 i2 =>
      cases i1
      rw [bools_of p2 i2]; rfl
theorem range_all (bs : List Bool) : (List.range (bs.map Value.bool).toArray.size).all (fun i => bs.getD i false) = bs.all id := by
  rw [List.size_toArray, List.length_map, Bool.eq_iff_iff, List.all_eq_true, List.all_eq_true]
  constructor
  · intro h x hx
    obtain ⟨i, hi, rfl⟩ := List.getElem_of_mem hx
    simpa [List.getD, hi] using h i (by simpa using hi)
  · intro h i hi
    have hi' : i < bs.length := by simpa using hi
    simpa [List.getD, hi'] using h bs[i] (List.getElem_mem hi')
theorem truth_bools {P : Program} {w : World} {A : Around} (bs : List Bool) : TruthOf P w A (fun i v => (bs.map Value.bool).toArray[i]? = some v) (fun i => bs.getD i false) := by
  intro i v s Q E hv hq
  simp only [List.getElem?_toArray, List.getElem?_map] at hv
  cases e : bs[i]? with
  | none => rw [e] at hv; cases hv
  | some b =>
    rw [e] at hv
    cases hv
    have e2 : bs.getD i false = b := by simp [List.getD, e]
    have hq' : Q (bs.getD i false) s := hq
    rw [e2] at hq'
    exact wpAny_truthy_bool hq'
theorem c3_all (hc : X.calm = true) : CallR3 X (.builtin "all") rAll3 := by
  rintro pins s σv H M xs xvs us Q I m rv px ⟨bs, rfl, q⟩
  obtain ⟨xv, rfl, p1⟩ := reps1 px
  obtain ⟨u, rfl, ru⟩ := vals1 rv
  cases p1 with
  | lst h1 r1 =>
    cases ru
    obtain ⟨its, ri, pl, hz⟩ := I.list (SqL.of3 h1)
    have key := bools_of r1 ri
    subst key
    obtain ⟨o, ho, hcl, n, hd⟩ := id pl.isList
    have hlt := Heap.lt_size ho
    refine call_all_walk (wpAny_pyIter_list pl.isList ?_)
    refine ⟨s.heap.objs.size, _, _, _, _, _, _, rfl, Walks.list (A := X.A.in1) (by exact I.ok.hd hc) s.heap.objs.size _ (Nat.ne_of_lt hlt) _, ⟨⟨_, Heap.get?_push_size _ rfl, rfl, rfl⟩, ⟨o, Heap.get?_push_of_some _ ho, hcl, n, hd⟩⟩, truth_bools bs, fun h' tk k => ?_⟩
    rw [range_all]
    exact ⟨_, .bl _, M, H, I.kept (t' := tk) fun b ob e => k b ob (by simp; exact Nat.ne_of_lt (Heap.lt_size e)) (Heap.get?_push_of_some _ e), .refl, m, rfl, .bl, q⟩
def joinOk (x : Str) (ys : List Str) : Prop := (ys.map fun y => y.length).sum + ys.length * x.length ≤ 16777216
def rJoin3 : M3 := fun x xs M Q => ∃ z, ∃ ys : List Str, x = .str z ∧ xs = [.lst (ys.map D.str)] ∧ joinOk z ys ∧ Q (.str (Txt.join z ys)) M
theorem strs_of {K : PySem.W.Frag} {M : Mem} {H : Hp} : ∀ {ys : List Str} {vs : List V} {its : List Value}, Reps K M H (ys.map D.str) vs → Vals vs its → StrsAre its ys
  | [], _, _, r, v => by cases r; cases v; exact .nil
  | y :: ys, _, _, .cons p1 p2, v => by
    cases p1
    cases v with
    | cons i1 i2 =>
      obtain ⟨t, rfl⟩ := i1
      exact .cons y t (strs_of p2 i2)
theorem m3_join : MtR3 X "str.join" rJoin3 := by
  rintro pins s σv H M x xs xv xvs v us Q I m rv rvs px pxs ⟨z, ys, rfl, rfl, hj, q⟩
  obtain ⟨yv, rfl, py⟩ := reps1 pxs
  obtain ⟨u, rfl, ru⟩ := vals1 rvs
  cases px
  obtain ⟨t, rfl⟩ := rv
  cases py with
  | lst h1 r1 =>
    cases ru
    obtain ⟨its, ri, pl, hz⟩ := I.list (SqL.of3 h1)
    exact join_list pl.isList (by simpa using strs_of r1 ri) hj fun t' k => ⟨_, .str _, M, H, I.tok k, .refl, m, ⟨_, rfl⟩, .str, q⟩
def subIn (z w : Str) : Bool := !(Builtin.Str.occurrences w z 0 w.length 1).isEmpty
def seqD (M : Mem) : D → Option (List D)
  | .lst ds => some ds
  | .tup ds => some ds
  | .ref a => match M a with | some (.lst ds) => some ds | _ => none
  | _ => none
def rIn3 (neg : Bool) : R3 := fun x y M Q => (∃ z w, x = .str z ∧ y = .str w ∧ Q (.bl (neg ^^ subIn z w)) M) ∨ ∃ z, ∃ ys : List Str, x = .str z ∧ seqD M y = some (ys.map D.str) ∧ Q (.bl (neg ^^ ys.any (· == z))) M
theorem strsV_of {K : PySem.W.Frag} {M : Mem} {H : Hp} : ∀ {ys : List Str} {vs : List V}, Reps K M H (ys.map D.str) vs → vs = ys.map V.str
  | [], _, r => by cases r; rfl
  | y :: ys, _, .cons p1 p2 => by
    cases p1
    rw [strsV_of p2]; rfl
theorem seqD_sq {K : PySem.W.Frag} {M : Mem} {H : Hp} {y : D} {yv : V} {ds : List D} (m : MRel K M H) (r : Rep K M H y yv) (e : seqD M y = some ds) : ∃ p vs, yv = .ref p ∧ (SqL K H p vs ∨ SqT K H p vs) ∧ Reps K M H ds vs := by
  cases r with
  | tup h r => cases e; exact ⟨_, _, rfl, .inr (SqT.of3 h), r⟩
  | lst h r => cases e; exact ⟨_, _, rfl, .inl (SqL.of3 h), r⟩
  | @ref a =>
    unfold seqD at e
    dsimp only at e
    cases hm : M a with
    | none => rw [hm] at e; cases e
    | some o =>
      rw [hm] at e
      cases o with
      | dct _ => cases e
      | dt _ => cases e
      | lst xs =>
        cases e
        obtain ⟨ho, e1, r⟩ := m _ _ hm
        cases ho <;> first | exact (r : False).elim | skip
        exact ⟨_, _, rfl, .inl (.inl (.inl e1)), r⟩
  | _ => cases e
theorem in_strs {z : Str} {ys : List Str} : inV (.str z) (ys.map V.str) = ys.any (· == z) := by
  unfold inV
  rw [List.any_map]
  rfl
theorem flat_strs (ys : List Str) : (ys.map V.str).all flatV = true := by
  rw [List.all_map, List.all_eq_true]
  intro _ _; rfl
theorem o3_in : OpR3 X (compareOp .In) (rIn3 false) := by
  rintro pins s σv H M x y xv yv v u Q I m rx ry px py (⟨z, w, rfl, rfl, q⟩ | ⟨z, ys, rfl, hy, q⟩)
  · cases px; cases py
    exact thn (op_in_str pins s σv H _ _ v u _ I rx ry ⟨z, w, rfl, rfl, up0 m .bl (by rw [Bool.false_xor] at q; exact q)⟩) fun _ _ h => ep_up h
  · cases px
    obtain ⟨p, vs, rfl, sq, r⟩ := seqD_sq m py hy
    have e := strsV_of r
    subst e
    exact thn (op_in_seq pins s σv H _ _ v u _ I rx ry ⟨p, _, rfl, sq, rfl, flat_strs ys, up0 m .bl (by rw [in_strs]; rw [Bool.false_xor] at q; exact q)⟩) fun _ _ h => ep_up h
theorem o3_notin : OpR3 X (compareOp .NotIn) (rIn3 true) := by
  rintro pins s σv H M x y xv yv v u Q I m rx ry px py (⟨z, w, rfl, rfl, q⟩ | ⟨z, ys, rfl, hy, q⟩)
  · cases px; cases py
    exact thn (op_notin_str pins s σv H _ _ v u _ I rx ry ⟨z, w, rfl, rfl, up0 m .bl (by rw [Bool.true_xor] at q; exact q)⟩) fun _ _ h => ep_up h
  · cases px
    obtain ⟨p, vs, rfl, sq, r⟩ := seqD_sq m py hy
    have e := strsV_of r
    subst e
    exact thn (op_notIn_seq pins s σv H _ _ v u _ I rx ry ⟨p, _, rfl, sq, rfl, flat_strs ys, up0 m .bl (by rw [in_strs]; rw [Bool.true_xor] at q; exact q)⟩) fun _ _ h => ep_up h
end
end L3
namespace L3
open PySem PySem.Spec PyProof.Rows L2
section
variable {X : Cx} {e : Expr} {te : TE3} {pos : Pos}
def rSlS : V → Option Int → Option Int → Hp → VK → Prop := fun x lo hi H Q => ∃ z, x = .str z ∧ z.length ≤ sizeLine ∧ Q (.str (Txt.slice z lo hi)) H
theorem sl_str : SlR X rSlS := by
  intro pins s σ H x v vl vu lo hi sl Q I rx hs pl pu h
  obtain ⟨z, rfl, hz, q⟩ := h
  obtain ⟨t, rfl⟩ := rx
  refine ⟨"str", _, PyProof.Rows.slot_str_getitem.lookup, typeIs_str _ _ _, ?_⟩
  obtain ⟨l, rfl, el⟩ : ∃ l : Option (Int × Tok), vl = partValue l ∧ lo = l.map (·.1) := by
    cases pl with
    | none => exact ⟨none, rfl, rfl⟩
    | int i t => exact ⟨some (i, t), rfl, rfl⟩
  obtain ⟨u, rfl, eu⟩ : ∃ u : Option (Int × Tok), vu = partValue u ∧ hi = u.map (·.1) := by
    cases pu with
    | none => exact ⟨none, rfl, rfl⟩
    | int i t => exact ⟨some (i, t), rfl, rfl⟩
  subst el eu
  refine wpAny_getItem_str_slice (st := none) (l := l) (u := u) hs rfl ?_
  have hle : (Txt.slice z (l.map (·.1)) (u.map (·.1))).length ≤ sizeLine := Nat.le_trans (Txt.slice_le _ _ _) hz
  unfold sliceMade slicePicked
  unfold Txt.slice at q hle
  split
  · rename_i hc
    split at q
    · exact ⟨.str _, H, I, ⟨_, rfl⟩, q⟩
    · rename_i hn
      exact absurd hc hn
  · rename_i hc
    split at hle
    · rename_i hn
      exact absurd hn hc
    · rename_i hn
      rw [if_neg hn] at q
      exact ⟨hle, .str _, H, I.tok _, ⟨_, rfl⟩, q⟩
end
theorem b3_all : bootBuiltins "all" = some (.builtin "all") := by decide +kernel
end L3
namespace L3
open PySem PySem.Spec PyProof.Rows L2
def tI (n : Int) : Str := Str.ofString (toString n)
def dg (m : Nat) : List Nat := (Nat.toDigits 10 m).map Char.toNat
theorem cps_nat (m : Nat) : (tI (m : Int)).cps.toList = dg m := W.KIN.signs_num m
theorem dg_len {m k : Nat} (hk : 0 < k) (h : m < 10 ^ k) : (dg m).length ≤ k := by
  unfold dg
  rw [List.length_map]
  exact (Nat.length_toDigits_le_iff (by decide) hk).mpr h
theorem cps_app (x y : Str) : (x ++ y).cps.toList = x.cps.toList ++ y.cps.toList := by
  show (x.cps ++ y.cps).toList = _
  simp
theorem cps_neg (m : Nat) : (tI (Int.negSucc m)).cps.toList = 45 :: dg (m + 1) := by
  have e : toString (Int.negSucc m) = "-" ++ toString ((m + 1 : Nat) : Int) := rfl
  unfold tI
  rw [e, Str.ofString_eq_toList]
  have h := cps_nat (m + 1)
  unfold tI at h
  rw [Str.ofString_eq_toList] at h
  simp only [String.toList_append, List.map_append] at h ⊢
  rw [h]
  rfl
theorem len_cps (x : Str) : x.length = x.cps.toList.length := by
  show x.cps.size = _
  simp
theorem rd_iteNT {P R : Prop} (h : R) : if (!true) = true then P else R := h
theorem rd_iteNF {P R : Prop} (h : P) : if (!false) = true then P else R := h
theorem rd_inS {z w : Str} {neg b : Bool} {M : Mem} {Q : DK} (e : subIn z w = b) (h : Q (.bl (neg ^^ b)) M) : rIn3 neg (.str z) (.str w) M Q := .inl ⟨z, w, rfl, rfl, by rw [e]; exact h⟩
theorem rd_all {bs : List Bool} {M : Mem} {Q : DK} (h : Q (.bl (bs.all id)) M) : rAll3 [.lst (bs.map D.bl)] M Q := ⟨bs, rfl, h⟩
theorem rd_lstM {tas : TA3} {σ : Lo} {M : Mem} {Q : DK} (h : tas σ M fun xs M1 => xs.length ≤ sizeLine ∧ ∀ p, M1 p = none → Q (.ref p) (mput M1 p (.lst xs))) : tLstM3 tas σ M Q := h
end L3
namespace L3
open PySem PySem.Spec PyProof.Rows L2
section
variable {X : Cx} {a b e : Expr} {ta tb te : TE3} {t : TA3} {pos p : Pos}
def rSplit3 : M3 := fun x xs M Q => ∃ z c, x = .str z ∧ xs = [.str ⟨#[c]⟩] ∧ c < 128 ∧ (1 ≤ z.length ∧ z.length ≤ 100000) ∧ (∀ c ∈ z.cps.toList, c < 128) ∧ (Builtin.Str.occurrences z ⟨#[c]⟩ 0 z.length (z.length + 1)).isEmpty = false ∧
  (Builtin.Str.partsBetween z (Builtin.Str.occurrences z ⟨#[c]⟩ 0 z.length (z.length + 1)) 1).length ≤ sizeLine ∧ Q (.lst ((Builtin.Str.partsBetween z (Builtin.Str.occurrences z ⟨#[c]⟩ 0 z.length (z.length + 1)) 1).map D.str)) M
theorem strsFrom_vals : ∀ (n : Nat) (l : List Str), Vals (l.map V.str) (strsFrom n l)
  | _, [] => .nil
  | n, x :: l => .cons ⟨n, rfl⟩ (strsFrom_vals (n + 1) l)
theorem strs_reps {K : PySem.W.Frag} {M : Mem} {H : Hp} : ∀ l : List Str, Reps K M H (l.map D.str) (l.map V.str)
  | [] => .nil
  | x :: l => .cons .str (strs_reps l)
theorem m3_split : MtR3 X "str.split" rSplit3 := by
  rintro pins s σv H M x xs xv xvs v us Q I m rv rvs px pxs ⟨z, c, rfl, rfl, hc, ⟨h1l, hl⟩, hz, ho, hp, q⟩
  obtain ⟨yv, rfl, py⟩ := reps1 pxs
  obtain ⟨u, rfl, ru⟩ := vals1 rvs
  cases px
  cases py
  obtain ⟨t, rfl⟩ := rv
  obtain ⟨t', rfl⟩ := ru
  have k1 : Builtin.Str.strKind z = 1 := by
    unfold Builtin.Str.strKind
    rw [if_pos]
    rw [Array.all_eq_true']
    intro c hc
    have := hz c (Array.mem_toList_iff.mpr hc)
    simp; lia
  have k2 : Builtin.Str.strKind ⟨#[c]⟩ = 1 := by
    unfold Builtin.Str.strKind
    rw [if_pos]
    simp; lia
  have hlen : (decide (z.length < (⟨#[c]⟩ : Str).length) || decide (Builtin.Str.strKind z < Builtin.Str.strKind ⟨#[c]⟩)) = false := by
    rw [k1, k2]
    simp [show (⟨#[c]⟩ : Str).length = 1 from rfl]
    lia
  refine call_meets F.slot_str_split (typeIs_str _ _ _) F.entry_str_split (F.args_str_split_2 _ _) (meets_str_split_sep z ⟨#[c]⟩ t t' hlen rfl ho (by rw [sizeLine_eq]; lia) hp) ?_
  have hf := I.fresh
  exact ⟨_, .ref _, M, _, I.lnew (strsFrom_vals _ _) (by rw [List.length_map]; exact hp), Step.lay hf, m.lay hf, rfl, .lst (.inl ⟨.inl upd_same, m.free hf⟩) (strs_reps _), q⟩
end
theorem b3_enumerate : bootBuiltins "enumerate" = some (.type "enumerate") := by decide +kernel
end L3
namespace L3
open PySem PySem.Spec PyProof.Rows L2
section
variable {T : Ends3} {σ : Lo} {M : Mem} {Q : DK} {QB : Bool → Mem → Prop} {d x y : D}
theorem rd_tupL {ds : List D} (h : Q (.tup ds) M) : rTuple3 [.lst ds] M Q := h
theorem rd_lenR {a : Addr} {ds : List D} (hm : M a = some (.lst ds)) (h : Q (.int ds.length) M) : rLen3 [.ref a] M Q := ⟨ds, hm, h⟩
theorem rd_inL {z : Str} {y : D} {ys : List Str} {neg : Bool} (e : seqD M y = some (ys.map D.str)) (h : Q (.bl (neg ^^ ys.any (· == z))) M) : rIn3 neg (.str z) y M Q := .inr ⟨z, ys, rfl, e, h⟩
end
theorem pen_del {M : Mem} {p a : Addr} {b : Nat} (h : Pen M p b) (hn : p ≠ a) : Pen (mdel M a) p b := pen_same h (p := a) (fun _ hb => mdel_ne hb) hn
theorem comp_all {ds acc : List D} {P : Nat → D → D → Prop} (hl : acc.length = ds.length) (h : ∀ (k : Nat) d e, ds[k]? = some d → acc[k]? = some e → P k d e) : ∀ e ∈ acc, ∃ (k : Nat) (d : D), ds[k]? = some d ∧ P k d e := fun e he => by
  obtain ⟨k, hk, rfl⟩ := List.getElem_of_mem he
  have hk' : k < ds.length := by rw [← hl]; exact hk
  exact ⟨k, ds[k], by simp, h k ds[k] _ (by simp) (by simp)⟩
theorem exists_map {α : Type} {f : α → D} {P : α → Prop} : ∀ {l : List D}, (∀ e ∈ l, ∃ c, e = f c ∧ P c) → ∃ cs : List α, l = cs.map f ∧ ∀ c ∈ cs, P c
  | [], _ => ⟨[], rfl, fun _ h => by cases h⟩
  | e :: l, h => by
    obtain ⟨c, rfl, hc⟩ := h e List.mem_cons_self
    obtain ⟨cs, rfl, hcs⟩ := exists_map fun x hx => h x (List.mem_cons_of_mem _ hx)
    exact ⟨c :: cs, rfl, fun x hx => by
      rcases List.mem_cons.mp hx with rfl | hx
      · exact hc
      · exact hcs x hx⟩
theorem rd_joinL {z : Str} {ys : List Str} {M : Mem} {Q : DK} (hj : joinOk z ys) (h : Q (.str (Txt.join z ys)) M) : rJoin3 (.str z) [.lst (ys.map D.str)] M Q := ⟨z, ys, rfl, rfl, hj, h⟩
theorem strs_ok : ∀ {ys : List Str}, (∀ y ∈ ys, PyData.strOk y = true) → plains (ys.map D.str) = true ∧ PyData.canLayAll0 (pyDs (ys.map D.str)) = true ∧ PyData.depthAll (pyDs (ys.map D.str)) = 0
  | [], _ => ⟨rfl, rfl, rfl⟩
  | y :: ys, h => by
    obtain ⟨h1, h2, h3⟩ := strs_ok fun x hx => h x (List.mem_cons_of_mem _ hx)
    refine ⟨by simpa [plains, plain] using h1, ?_, ?_⟩
    · simp only [List.map_cons, pyDs, pyD, PyData.canLayAll0, PyData.canLay0, Bool.and_eq_true]
      exact ⟨h y List.mem_cons_self, h2⟩
    · simp only [List.map_cons, pyDs, pyD, PyData.depthAll, PyData.depth, h3]; rfl
theorem dOk_strsL {ys : List Str} (h : ∀ y ∈ ys, PyData.strOk y = true) : dOk (.lst (ys.map D.str)) := by
  obtain ⟨h1, h2, h3⟩ := strs_ok h
  refine ⟨by simpa [plain] using h1, by simpa [pyD, PyData.canLay0] using h2, ?_⟩
  simp [pyD, PyData.depth, h3]
theorem eqv_nilL {ds : List D} : PyData.eqv (pyD (.lst ds)) (pyD (.lst [])) = ds.isEmpty := by
  cases ds <;> simp [pyD, pyDs, PyData.eqv, PyData.eqvAll]
theorem nilL_ok : dOk (.lst []) := ⟨rfl, rfl, by decide⟩
theorem comp_penN {g : TG3} {tt : TT3} {te : TE3} {σ0 : Lo} {M1 : Mem} {Q : DK} {ds : List D} {q : Addr} {b : Nat} (c : Nat) (P : Nat → D → D → Prop) (hP : Pen M1 q b) (hl : ds.length < sizeLine)
    (turn : ∀ (k : Nat) d M2 (R : D → Mem → Prop) (F : Mem → Prop), ds[k]? = some d → Pen M2 q (b + c * k) → (∀ a, M1 a ≠ none → a ≠ q → M2 a = M1 a) → (∀ e M5, P k d e → Pen M5 q (b + c * (k + 1)) → Same3 q M2 M5 → R e M5) →
      g d σ0 M2 fun σ' M3 => tt σ' M3 fun bb M4 => if bb = true then te σ' M4 R else F M4)
    (done : ∀ (acc : List D) M2, acc.length = ds.length → (∀ (k : Nat) d e, ds[k]? = some d → acc[k]? = some e → P k d e) → Pen M2 q (b + c * ds.length) → Same3 q M1 M2 → Q (.lst acc) M2) : CompB g tt te σ0 ds M1 Q := by
  intro p hp
  have hqp := pen_ne hP hp
  refine ⟨fun k acc M2 => acc.length = k ∧ (∀ (j : Nat) d e, ds[j]? = some d → acc[j]? = some e → P j d e) ∧ Pen M2 q (b + c * k) ∧ M2 p = some (.lst acc) ∧ ∀ a, a ≠ q → a ≠ p → M2 a = M1 a, ⟨rfl, fun j d e _ h => by simp at h, by rw [Nat.mul_zero, Nat.add_zero]; exact pen_put hP hqp, mput_same, fun a _ ha => mput_ne ha⟩, ?_, ?_⟩
  · rintro k d acc M2 hd ⟨hk, hall, hpen, hacc, hsame⟩
    have hkl : k < ds.length := (List.getElem?_eq_some_iff.mp hd).1
    refine turn k d M2 _ _ hd hpen (fun a ha hq => hsame a hq (by rintro rfl; exact ha hp)) fun e M5 he hp5 hs5 => ?_
    refine ⟨by rw [hs5 p (Ne.symm hqp)]; exact hacc, by lia, by simp [hk], fun j d' e' hd' he' => ?_, pen_put hp5 hqp, mput_same, fun a ha1 ha2 => ?_⟩
    · rcases Nat.lt_or_ge j acc.length with hj | hj
      · rw [List.getElem?_append_left hj] at he'
        exact hall j d' e' hd' he'
      · rw [List.getElem?_append_right hj] at he'
        have hj0 : j - acc.length = 0 := by
          rcases Nat.eq_zero_or_pos (j - acc.length) with z | z
          · exact z
          · rw [List.getElem?_eq_none (by simp; lia)] at he'; cases he'
        rw [hj0] at he'
        cases he'
        have : j = k := by lia
        subst this
        rw [hd] at hd'; cases hd'
        exact he
    · rw [mput_ne ha2, hs5 a ha1]; exact hsame a ha1 ha2
  · rintro acc M2 ⟨hk, hall, hpen, hacc, hsame⟩
    refine ⟨hacc, done acc (mdel M2 p) hk hall ?_ fun a ha => ?_⟩
    · exact pen_same hpen (p := p) (fun a ha => mdel_ne ha) hqp
    · by_cases hap : a = p
      · subst hap; rw [mdel_same, hp]
      · rw [mdel_ne hap]; exact hsame a ha hap
theorem comp_map {α : Type} {gt : TG3} {tt : TT3} {te : TE3} {σ0 : Lo} {M1 : Mem} {Q : DK} (l : List α) (f g : α → D) (hl : l.length < sizeLine)
    (turn : ∀ a ∈ l, ∀ M2 (R : D → Mem → Prop) (F : Mem → Prop), (∀ x, M1 x ≠ none → M2 x = M1 x) → R (g a) M2 → gt (f a) σ0 M2 fun σ' M3 => tt σ' M3 fun bb M4 => if bb = true then te σ' M4 R else F M4)
    (done : Q (.lst (l.map g)) M1) : CompB gt tt te σ0 (l.map f) M1 Q := by
  intro p hp
  refine ⟨fun k acc M2 => acc = (l.take k).map g ∧ M2 p = some (.lst acc) ∧ ∀ a, a ≠ p → M2 a = M1 a, ⟨rfl, mput_same, fun a ha => mput_ne ha⟩, ?_, ?_⟩
  · rintro k d acc M2 hd ⟨rfl, hacc, hsame⟩
    have hk : k < l.length := by simpa using (List.getElem?_eq_some_iff.mp hd).1
    have hdk : d = f l[k] := by
      rw [List.getElem?_map, List.getElem?_eq_getElem hk] at hd
      exact (Option.some.inj hd).symm
    subst hdk
    refine turn l[k] (List.getElem_mem hk) M2 _ _ (fun a ha => hsame a (by rintro rfl; exact ha hp)) ⟨hacc, by simp; lia, ?_, mput_same, fun a ha => by rw [mput_ne ha]; exact hsame a ha⟩
    rw [List.take_succ, List.getElem?_eq_getElem hk, List.map_append]
    rfl
  · rintro acc M2 ⟨rfl, hacc, hsame⟩
    have hlen : (l.map f).length = l.length := by simp
    rw [hlen, List.take_length] at hacc ⊢
    have : mdel M2 p = M1 := funext fun a => by
      by_cases ha : a = p
      · subst ha; rw [mdel_same, hp]
      · rw [mdel_ne ha]; exact hsame a ha
    rw [this]
    exact ⟨hacc, done⟩
end L3
namespace L3
open PySem PySem.Spec PyProof.Rows L2
def isStar : Expr → Bool
  | .Starred .. => true
  | _ => false
theorem star_cons {e : Expr} (h : isStar e = false) (es : List Expr) (env : Env) : starEach (e :: es) env = (false, eval e env) :: starEach es env := by
  cases e <;> first | rfl | cases h
theorem pa3_k {X : Cx} {e : Expr} {es : List Expr} {te : TE3} {t : TA3} (ha : PE3 X e te) (hr : PA3 X es t) (hs : isStar e = false := by rfl) : PA3 X (e :: es) (tCons3 te t) := pa3_cons ha hr (star_cons hs es _)
theorem pa3_s {X : Cx} {x : Str} {j : Nat} {pos : Pos} {es : List Expr} {t : TA3} (hr : PA3 X es t) : PA3 X (.Constant (.str x) j pos :: es) (tCons3 (tC3 (.str x)) t) := pa3_k pe3_str hr
theorem pa3_i {X : Cx} {i : Int} {j : Nat} {pos : Pos} {es : List Expr} {t : TA3} (hr : PA3 X es t) : PA3 X (.Constant (.int i) j pos :: es) (tCons3 (tC3 (.int i)) t) := pa3_k pe3_int hr
end L3
namespace L3
open PySem PySem.Spec PyProof.Rows L2
theorem meets_tupNext (it t : Addr) (i : Nat) (items : Array Value) (x : Value) : Meets (Builtin.«tuple_iterator.__next__» { pos := [.ref it] }) fun A R s =>
    s.heap.IsTupleIter it t i ∧ s.heap.IsTuple t items ∧ items[i]? = some x ∧ ∀ h', h'.IsTupleIter it t (i + 1) → Heap.SameBut it s.heap h' → R (.ok (.ret x)) { s with heap := h' } := by
  rintro prog w A R s ⟨⟨⟨cls, dct, data, sl⟩, ho, hc, hd⟩, ⟨ot, hto, htc, n, htd⟩, hx, k⟩
  simp only at hc hd
  subst hc hd
  refine wpAny_bind (wpAny_pure ?_)
  refine wpAny_bind (wpAny_field ho rfl rfl ?_)
  rw [if_neg (by simp)]
  refine wpAny_bind (wpAny_field ho rfl rfl ?_)
  refine wpAny_bind (wpAny_seqItems hto htd ?_)
  have e : (↑i : Int).toNat = i := by simp
  simp only [e, hx]
  refine wpAny_bind (wpAny_setField ho rfl (by simp) ?_)
  refine wpAny_pure (k _ ?_ ?_)
  · exact ⟨_, Heap.get?_update_self _ ho rfl, rfl, rfl⟩
  · exact ⟨by simp [Heap.update], fun b hb => Heap.get?_update_other _ _ (Ne.symm hb)⟩
theorem meets_tupEnd (it t : Addr) (i : Nat) (items : Array Value) : Meets (Builtin.«tuple_iterator.__next__» { pos := [.ref it] }) fun A R s =>
    A.handled = none ∧ s.heap.IsTupleIter it t i ∧ s.heap.IsTuple t items ∧ items[i]? = none ∧ ∀ h' e, Heap.ExtBut it s.heap h' → (∃ o, h'.get? e = some o ∧ o.cls = .type "StopIteration") → R (.error (.ref e)) { s with heap := h' } := by
  rintro prog w A R s ⟨hA, ⟨⟨cls, dct, data, sl⟩, ho, hc, hd⟩, ⟨ot, hto, htc, n, htd⟩, hx, k⟩
  simp only at hc hd
  subst hc hd
  refine wpAny_bind (wpAny_pure ?_)
  refine wpAny_bind (wpAny_field ho rfl rfl ?_)
  rw [if_neg (by simp)]
  refine wpAny_bind (wpAny_field ho rfl rfl ?_)
  refine wpAny_bind (wpAny_seqItems hto htd ?_)
  have e : (↑i : Int).toNat = i := by simp
  simp only [e, hx]
  refine wpAny_bind (wpAny_rule ?_)
  refine wpAny_bind (wpAny_setField ho rfl (by simp) ?_)
  unfold Builtin.SmallTypes.stopIteration
  refine wpAny_bind (wpAny_bind (wpAny_newObj_type ?_))
  refine wpAny_bind (wpAny_bind (wpAny_pure (wpAny_pure ?_)))
  refine wpAny_newObj_type ?_ (by first | decide | (unfold sizeOk; simp [ownMembersOf, sizeLine_eq]))
  refine wpAny_raiseNew_none hA (k _ _ (fun b ob hb hob => ?_) ⟨_, Heap.get?_push_size _ rfl, rfl⟩)
  exact Heap.get?_push_of_some _ (Heap.get?_push_of_some _ ((Heap.get?_update_other _ _ (Ne.symm hb)).trans hob))
theorem nextOf_tupItem {prog : Program} {w : World} {A : Around} {E : Value → Shared → Prop} {s : Shared} {it t : Addr} {i : Nat} {items : Array Value} {x : Value} {Q : Value → Shared → Prop} (hi : s.heap.IsTupleIter it t i) (ht : s.heap.IsTuple t items) (hx : items[i]? = some x)
    (k : ∀ h', h'.IsTupleIter it t (i + 1) → Heap.SameBut it s.heap h' → Q x { s with heap := h' }) : wpAny (model prog w) A (Builtin.SmallTypes.nextOf (.ref it)) Q E s := by
  obtain ⟨o, ho, hc, hd⟩ := id hi
  refine wpAny_bind (wpAny_callSpecial?_slot ⟨o, ho, hc⟩ slot_tupleiter_next ?_)
  refine call_meets slot_tupleiter_next ⟨o, ho, hc⟩ entry_tupleiter_next (F.args_tuple_iterator_next_1 _) (meets_tupNext it t i items x) ⟨hi, ht, hx, fun h' a b => ?_⟩
  exact wpAny_pure (k h' a b)
theorem nextOf_tupEnd {prog : Program} {w : World} {A : Around} {E : Value → Shared → Prop} {s : Shared} {it t : Addr} {i : Nat} {items : Array Value} {Q : Value → Shared → Prop} (hA : A.handled = none) (hi : s.heap.IsTupleIter it t i) (ht : s.heap.IsTuple t items) (hx : items[i]? = none)
    (k : ∀ h' e, Heap.ExtBut it s.heap h' → (∃ o, h'.get? e = some o ∧ o.cls = .type "StopIteration") → E (.ref e) { s with heap := h' }) : wpAny (model prog w) A (Builtin.SmallTypes.nextOf (.ref it)) Q E s := by
  obtain ⟨o, ho, hc, hd⟩ := id hi
  refine wpAny_bind (wpAny_callSpecial?_slot ⟨o, ho, hc⟩ slot_tupleiter_next ?_)
  exact call_meets slot_tupleiter_next ⟨o, ho, hc⟩ entry_tupleiter_next (F.args_tuple_iterator_next_1 _) (meets_tupEnd it t i items) ⟨hA, hi, ht, hx, fun h' e a b => k h' e a b⟩
theorem draws_tuple {prog : Program} {w : World} {A : Around} (hA : A.handled = none) (it t : Addr) (hne : t ≠ it) (items : Array Value) : Draws prog w A it [it, t] items.size (fun i v => items[i]? = some v) fun i h => h.IsTupleIter it t i ∧ h.IsTuple t items where
  live := fun i h ⟨⟨o, ho, _⟩, _⟩ => ⟨o, ho⟩
  frame := fun i h h' ⟨⟨o, ho, r⟩, ⟨o2, ho2, r2⟩⟩ k => ⟨⟨o, k it (by simp) o ho, r⟩, ⟨o2, k t (by simp) o2 ho2, r2⟩⟩
  item := fun i s Q E hi ⟨h1, h2⟩ k => nextOf_tupItem h1 h2 (x := items[i]) (by simp [hi]) fun h' a b => k _ h' s.toks (by simp [hi]) ⟨a, by
    obtain ⟨o, ho, r⟩ := h2
    exact ⟨o, (b.2 t hne).trans ho, r⟩⟩ b
  done := fun s Q E ⟨h1, h2⟩ k => nextOf_tupEnd hA h1 h2 (by simp) k
theorem wpAny_pureB {M : Model} {A : Around} {E : Value → Shared → Prop} {s : Shared} {b : Bool} {Q : Bool → Shared → Prop} (h : ∀ b, Q b s) : wpAny M A (pure b) Q E s := wpAny_pure (h b)
theorem meets_enumT (t : Addr) (items : Array Value) : Meets (Builtin.«enumerate.__new__» { pos := [.type "enumerate", .ref t] }) fun A R s =>
    s.heap.IsTuple t items ∧ R (.ok (.ret (.ref (s.heap.push { cls := .type "tuple_iterator", data := .fields #[.ref t, .int 0 0] }).objs.size)))
      { s with heap := (s.heap.push { cls := .type "tuple_iterator", data := .fields #[.ref t, .int 0 0] }).push { cls := .type "enumerate", data := .fields #[.none, .bool false, .ref s.heap.objs.size, rawInt 0, .none, .none] } } := by
  rintro prog w A R s ⟨ht, k⟩
  refine wpAny_bind ?_
  refine wpAny_bind (wpAny_pure ?_)
  refine wpAny_bind ?_
  rw [sub_enumerate]
  refine wpAny_pure (wpAny_pure ?_)
  refine wpAny_bind ?_
  refine wpAny_bind (wpAny_stack fun st _ _ _ => wpAny_pureB fun short => ?_)
  cases short with
  | true =>
    refine wpAny_bind (wpAny_pure ?_)
    refine wpAny_bind (wpAny_pyIter_tuple ht ?_)
    refine wpAny_bind (wpAny_newObj_type (data := .fields #[.none, .bool false, .ref s.heap.objs.size, rawInt 0, .none, .none]) ?_)
    exact wpAny_pure k
  | false =>
    refine wpAny_bind (wpAny_pure ?_)
    refine wpAny_bind (wpAny_pyIter_tuple ht ?_)
    refine wpAny_bind (wpAny_newObj_type (data := .fields #[.none, .bool false, .ref s.heap.objs.size, rawInt 0, .none, .none]) ?_)
    exact wpAny_pure k
theorem call_enumT {prog : Program} {w : World} {A : Around} {E : Value → Shared → Prop} {s : Shared} {t : Addr} {items : Array Value} {Q : Value → Shared → Prop} (ht : s.heap.IsTuple t items)
    (k : Q (.ref (s.heap.objs.size + 1)) { s with heap := (s.heap.push { cls := .type "tuple_iterator", data := .fields #[.ref t, .int 0 0] }).push { cls := .type "enumerate", data := .fields #[.none, .bool false, .ref s.heap.objs.size, rawInt 0, .none, .none] } }) :
    wpAny (model prog w) A (call (.type "enumerate") [.ref t]) Q E s := by
  refine callType_new F.called_enumerate (by decide) (F.typeCall_enumerate_1 _) (F.newCall_enumerate_1 _) (fun obj => F.args_object_init_2 _ _) F.entry_enumerate_new (meets_enumT t items) ⟨ht, ?_⟩
  have e : (s.heap.push { cls := .type "tuple_iterator", data := .fields #[.ref t, .int 0 0] }).objs.size = s.heap.objs.size + 1 := by simp [Heap.push]
  rw [e]
  refine ⟨⟨{ cls := .type "enumerate", data := .fields #[.none, .bool false, .ref s.heap.objs.size, rawInt 0, .none, .none] }, ?_, rfl⟩, k⟩
  rw [← e]
  exact Heap.get?_push_size _ rfl
end L3
namespace L3
open PySem PySem.Spec PyProof.Rows L2
def IteT (K : PySem.W.Frag) (a : Addr) : It :=
  ⟨fun i H => ∃ xs x, SqT K H a xs ∧ xs[i]? = some x, fun i H x H' => ∃ T v, H T = none ∧ (∀ xs, SqT K H a xs → xs[i]? = some v) ∧ x = .ref T ∧ H' = upd H T (.tup [.int (i : Nat), v]), fun i H => ∃ xs, SqT K H a xs ∧ xs.length = i⟩
def IteL (K : PySem.W.Frag) (a : Addr) : It :=
  ⟨fun i H => ∃ xs x, SqL K H a xs ∧ xs[i]? = some x, fun i H x H' => ∃ T v, H T = none ∧ (∀ xs, SqL K H a xs → xs[i]? = some v) ∧ x = .ref T ∧ H' = upd H T (.tup [.int (i : Nat), v]), fun i H => ∃ xs, SqL K H a xs ∧ xs.length = i⟩
theorem Inv.pair {X : Cx} {pins : List (Addr × Obj)} {σ : L2.St} {H : Hp} {s : Shared} {e it : Addr} {h' : Heap} {tk : Nat} {i : Nat} {v : V} {u : Value} {t0 : Tok} (I : Inv X pins σ H s) (fe : FpOk X pins H e) (fi : FpOk X pins H it)
    (le : e < s.heap.objs.size) (li : it < s.heap.objs.size) (ru : RelV v u) (hnew : h'.get? s.heap.objs.size = some { cls := .type "tuple", data := .seq #[.int (i : Nat) t0, u] })
    (hk : ∀ b o, b ≠ e → b ≠ it → s.heap.get? b = some o → h'.get? b = some o) : Inv X pins σ (upd H s.heap.objs.size (.tup [.int (i : Nat), v])) { s with heap := h', toks := tk } := by
  have hf := I.fresh
  have nT : ∀ b u, H b = some u → b ≠ s.heap.objs.size := fun b u q => by rintro rfl; rw [hf] at q; cases q
  have ne : ∀ b u, H b = some u → b ≠ e ∧ b ≠ it := fun b u q => ⟨(by rintro rfl; rw [fe.1] at q; cases q), (by rintro rfl; rw [fi.1] at q; cases q)⟩
  refine I.call' (s' := { s with heap := h', toks := tk }) (ch := [e, it]) rfl ⟨fun b o q n _ hx => ?_, fun b o q n _ hx => ?_, fun b o q n hx => ?_, fun b o q hx => ?_, fun b xs q => ?_, fun b o u q => ?_, fun b ps q => ?_⟩ (fun b o q => ?_) I.bare (fun b hb => ?_)
  · simp only [List.mem_cons, List.not_mem_nil, or_false, not_or] at hx
    exact hk b o hx.1 hx.2 q
  · simp only [List.mem_cons, List.not_mem_nil, or_false, not_or] at hx
    exact ⟨o.slots, hk b o hx.1 hx.2 q⟩
  · rw [upd_ne (Nat.ne_of_lt (Heap.lt_size q))]; exact n
  · simp only [List.mem_cons, List.not_mem_nil, or_false, not_or] at hx
    exact ⟨o, hk b o hx.1 hx.2 q⟩
  · rw [upd_ne (nT b _ q)]; exact q
  · rw [upd_ne (nT b _ q)]; exact q
  · exact ⟨#[], by rw [upd_ne (nT b _ q), q]; simp⟩
  · by_cases hb : b = s.heap.objs.size
    · subst hb
      rw [upd_same] at q
      cases q
      exact ⟨by rw [sizeLine_eq]; show 2 ≤ _; lia, [.int (i : Nat) t0, u], .cons ⟨t0, rfl⟩ (.cons ru .nil), ⟨_, hnew, rfl, _, rfl⟩⟩
    · rw [upd_ne hb] at q
      refine (I.hok b o q).stay (fun c w hc r => ?_) (fun c r => by rw [upd_ne (nT c _ r)]; exact r) fun c xs r => by rw [upd_ne (nT c _ r)]; exact r
      rcases hc with rfl | hc
      · exact hk c w (ne c o q).1 (ne c o q).2 r
      · exact hk c w (ne c _ hc).1 (ne c _ hc).2 r
  · simp only [List.mem_cons, List.not_mem_nil, or_false] at hb
    rcases hb with rfl | rfl
    · exact ⟨fe.2.2.2.1, fe.2.1, fe.2.2.2.2.1, fe.2.2.2.2.2⟩
    · exact ⟨fi.2.2.2.1, fi.2.1, fi.2.2.2.2.1, fi.2.2.2.2.2⟩
theorem turn_enumT {P : Program} {w : World} {K : PySem.W.Frag} {elts : List Expr} {k : Nat} {pos : Pos} (a it e : Addr) (h1 : e ≠ it) (h2 : a ≠ it) (h3 : a ≠ e) :
    Turn P w K (.Tuple elts k pos) (IteT K a) [e, it] e (fun i h => (∃ old, IsEnum h e it (i : Nat) old) ∧ h.IsTupleIter it a i) where
  mem := by simp
  obj := fun i h st b hb => by
    obtain ⟨⟨old, he⟩, ⟨o, ho, c, d⟩⟩ := st
    simp only [List.mem_cons, List.not_mem_nil, or_false] at hb
    rcases hb with rfl | rfl
    · exact ⟨_, he, fun v z => by cases z⟩
    · exact ⟨o, ho, fun v z => by rw [d] at z; cases z⟩
  keep := fun i h h' st kk => by
    obtain ⟨⟨old, he⟩, ⟨o, ho, r⟩⟩ := st
    exact ⟨⟨old, kk e (by simp) _ he⟩, ⟨o, kk it (by simp) o ho, r⟩⟩
  item := by
    intro X hP hw hK hc i pins s σ H E I hf st hg
    subst hP hw hK
    obtain ⟨xs, x, hq, hx⟩ := hg
    obtain ⟨its, rv, p, hz⟩ := I.tuple hq
    obtain ⟨u, hu, ru⟩ := rv.get hx
    have hi : i < its.length := (List.getElem?_eq_some_iff.mp hu).1
    obtain ⟨⟨old, he⟩, hit⟩ := st
    have le := Heap.lt_size he
    have li : it < s.heap.objs.size := by obtain ⟨o, ho, _⟩ := hit; exact Heap.lt_size ho
    refine wpAny_pyNext_enum_itemD (draws_tuple (A := X.A.in1) (by exact I.ok.hd hc) it a h2 its.toArray) he ⟨hit, p⟩ (by simpa using hi) h1 (by simp; exact ⟨h1, Ne.symm h3⟩) fun y h' tk hy hout hst hnew hsz hkeep => ?_
    have ey : y = u := by
      have : its[i]? = some y := by simpa using hy
      rw [hu] at this; exact (Option.some.inj this).symm
    subst ey
    refine ⟨_, rfl, wpAny_letOwnedTupleGo_enum hout fun h'' hen hsb => ?_⟩
    have hk2 : ∀ b o, b ≠ e → b ≠ it → s.heap.get? b = some o → h''.get? b = some o := fun b o hb1 hb2 q => (hsb.2 b hb1).trans (hkeep b o hb1 hb2 q)
    refine ⟨.ref s.heap.objs.size, _, Inv.pair (s := s) (tk := tk + 1) (i := i) (t0 := tk) I (hf e (by simp)) (hf it (by simp)) le li ru ((hsb.2 _ (Nat.ne_of_gt le)).trans hnew) hk2, rfl, ⟨s.heap.objs.size, x, I.fresh, fun ys hys => by rw [I.tuple_inj hys hq]; exact hx, rfl, rfl⟩, ⟨⟨_, hen⟩, ?_⟩, fun b hb => ?_⟩
    · obtain ⟨o, ho, r⟩ := hst.1
      exact ⟨o, (hsb.2 it (Ne.symm h1)).trans ho, r⟩
    · simp only [List.mem_cons, List.not_mem_nil, or_false] at hb
      rcases hb with rfl | rfl
      · rw [upd_ne (Nat.ne_of_lt le)]; exact (hf b (by simp)).1
      · rw [upd_ne (Nat.ne_of_lt li)]; exact (hf b (by simp)).1
  done := by
    intro X hP hw hK hc i pins s σ H E I hf st hg
    subst hP hw hK
    obtain ⟨xs, hq, hx⟩ := hg
    obtain ⟨its, rv, p, hz⟩ := I.tuple hq
    obtain ⟨⟨old, he⟩, hit⟩ := st
    have hl := rv.length
    obtain ⟨f0, f1, f2, f3, f4, f5⟩ := hf it (by simp)
    have en : its.toArray.size = i := by simp; lia
    exact wpAny_pyNext_enum_endD (draws_tuple (A := X.A.in1) (by exact I.ok.hd hc) it a h2 its.toArray) he ⟨by rw [en]; exact hit, p⟩ fun h' eb => ⟨rfl, I.turned (t' := s.toks) (fun b o hb e => eb b o hb e) f0 f1 f3 f4 f5⟩
  self := fun _ _ _ _ _ st h => by
    obtain ⟨⟨old, he⟩, _⟩ := st
    exact wpAny_pyIter_enum he h
theorem turn_enumL {P : Program} {w : World} {K : PySem.W.Frag} {elts : List Expr} {k : Nat} {pos : Pos} (a it e : Addr) (h1 : e ≠ it) (h2 : a ≠ it) (h3 : a ≠ e) :
    Turn P w K (.Tuple elts k pos) (IteL K a) [e, it] e (fun i h => (∃ old, IsEnum h e it (i : Nat) old) ∧ h.IsListIter it a i) where
  mem := by simp
  obj := fun i h st b hb => by
    obtain ⟨⟨old, he⟩, ⟨o, ho, c, d⟩⟩ := st
    simp only [List.mem_cons, List.not_mem_nil, or_false] at hb
    rcases hb with rfl | rfl
    · exact ⟨_, he, fun v z => by cases z⟩
    · exact ⟨o, ho, fun v z => by rw [d] at z; cases z⟩
  keep := fun i h h' st kk => by
    obtain ⟨⟨old, he⟩, ⟨o, ho, r⟩⟩ := st
    exact ⟨⟨old, kk e (by simp) _ he⟩, ⟨o, kk it (by simp) o ho, r⟩⟩
  item := by
    intro X hP hw hK hc i pins s σ H E I hf st hg
    subst hP hw hK
    obtain ⟨xs, x, hq, hx⟩ := hg
    obtain ⟨its, rv, p, hz⟩ := I.list hq
    obtain ⟨u, hu, ru⟩ := rv.get hx
    have hi : i < its.length := (List.getElem?_eq_some_iff.mp hu).1
    obtain ⟨⟨old, he⟩, hit⟩ := st
    have le := Heap.lt_size he
    have li : it < s.heap.objs.size := by obtain ⟨o, ho, _⟩ := hit; exact Heap.lt_size ho
    refine wpAny_pyNext_enum_itemD (Draws.list (prog := X.prog) (w := X.w) (A := X.A.in1) (by exact I.ok.hd hc) it a h2 its.toArray) he ⟨hit, p.isList⟩ (by simpa using hi) h1 (by simp; exact ⟨h1, Ne.symm h3⟩) fun y h' tk hy hout hst hnew hsz hkeep => ?_
    have ey : y = u := by
      have : its[i]? = some y := by simpa using hy
      rw [hu] at this; exact (Option.some.inj this).symm
    subst ey
    refine ⟨_, rfl, wpAny_letOwnedTupleGo_enum hout fun h'' hen hsb => ?_⟩
    have hk2 : ∀ b o, b ≠ e → b ≠ it → s.heap.get? b = some o → h''.get? b = some o := fun b o hb1 hb2 q => (hsb.2 b hb1).trans (hkeep b o hb1 hb2 q)
    refine ⟨.ref s.heap.objs.size, _, Inv.pair (s := s) (tk := tk + 1) (i := i) (t0 := tk) I (hf e (by simp)) (hf it (by simp)) le li ru ((hsb.2 _ (Nat.ne_of_gt le)).trans hnew) hk2, rfl, ⟨s.heap.objs.size, x, I.fresh, fun ys hys => by rw [I.list_inj hys hq]; exact hx, rfl, rfl⟩, ⟨⟨_, hen⟩, ?_⟩, fun b hb => ?_⟩
    · obtain ⟨o, ho, r⟩ := hst.1
      exact ⟨o, (hsb.2 it (Ne.symm h1)).trans ho, r⟩
    · simp only [List.mem_cons, List.not_mem_nil, or_false] at hb
      rcases hb with rfl | rfl
      · rw [upd_ne (Nat.ne_of_lt le)]; exact (hf b (by simp)).1
      · rw [upd_ne (Nat.ne_of_lt li)]; exact (hf b (by simp)).1
  done := by
    intro X hP hw hK hc i pins s σ H E I hf st hg
    subst hP hw hK
    obtain ⟨xs, hq, hx⟩ := hg
    obtain ⟨its, rv, p, hz⟩ := I.list hq
    obtain ⟨⟨old, he⟩, hit⟩ := st
    have hl := rv.length
    obtain ⟨f0, f1, f2, f3, f4, f5⟩ := hf it (by simp)
    have en : its.toArray.size = i := by simp; lia
    exact wpAny_pyNext_enum_endD (Draws.list (prog := X.prog) (w := X.w) (A := X.A.in1) (by exact I.ok.hd hc) it a h2 its.toArray) he ⟨by rw [en]; exact hit, p.isList⟩ fun h' eb => ⟨rfl, I.turned (t' := s.toks) (fun b o hb e => eb b o hb e) f0 f1 f3 f4 f5⟩
  self := fun _ _ _ _ _ st h => by
    obtain ⟨⟨old, he⟩, _⟩ := st
    exact wpAny_pyIter_enum he h
theorem call_enumL {prog : Program} {w : World} {A : Around} {E : Value → Shared → Prop} {s : Shared} {t : Addr} {items : Array Value} {Q : Value → Shared → Prop} (ht : s.heap.IsList t items)
    (k : Q (.ref (s.heap.objs.size + 1)) { s with heap := (s.heap.push { cls := .type "list_iterator", data := .fields #[.ref t, .int 0 0] }).push { cls := .type "enumerate", data := .fields #[.none, .bool false, .ref s.heap.objs.size, rawInt 0, .none, .none] } }) :
    wpAny (model prog w) A (call (.type "enumerate") [.ref t]) Q E s := by
  obtain ⟨⟨cls, dct, data, sl⟩, ho, hc, n, hd⟩ := ht
  simp only at hc hd
  subst hc hd
  refine callType_new F.called_enumerate (by decide) (F.typeCall_enumerate_1 _) (F.newCall_enumerate_1 _) (fun obj => F.args_object_init_2 _ _) F.entry_enumerate_new (meets_enumerate_newL t items n dct sl) ⟨ho, ?_⟩
  have e : (s.heap.push { cls := .type "list_iterator", data := .fields #[.ref t, .int 0 0] }).objs.size = s.heap.objs.size + 1 := by simp [Heap.push]
  rw [e]
  refine ⟨⟨{ cls := .type "enumerate", data := .fields #[.none, .bool false, .ref s.heap.objs.size, rawInt 0, .none, .none] }, ?_, rfl⟩, k⟩
  rw [← e]
  exact Heap.get?_push_size _ rfl
def prs : Nat → List D → List D
  | _, [] => []
  | n, d :: r => .tup [.int (n : Nat), d] :: prs (n + 1) r
theorem prs_get : ∀ (ds : List D) (n i : Nat) (d : D), (prs n ds)[i]? = some d → ∃ x, ds[i]? = some x ∧ d = .tup [.int ((n + i : Nat) : Int), x]
  | [], n, i, d, h => by simp [prs] at h
  | x :: r, n, 0, d, h => by simp [prs] at h; exact ⟨x, rfl, by rw [← h]; rfl⟩
  | x :: r, n, i + 1, d, h => by
    have h' : (prs (n + 1) r)[i]? = some d := by simpa [prs] using h
    obtain ⟨y, h1, h2⟩ := prs_get r (n + 1) i d h'
    exact ⟨y, by simpa using h1, by rw [h2]; congr 3; lia⟩
theorem prs_len : ∀ (ds : List D) (n : Nat), (prs n ds).length = ds.length
  | [], n => rfl
  | x :: r, n => by show (prs (n + 1) r).length + 1 = r.length + 1; rw [prs_len r]
def onEnum (R : List D → Mem → Prop) : DK := fun d M1 => match d with
  | .tup ds => R (prs 0 ds) M1
  | .lst ds => R (prs 0 ds) M1
  | _ => False
def iEnum3 (te : TE3) : TI3 := fun σ M R => te σ M (onEnum R)
theorem rd_iEnum {te : TE3} {σ : Lo} {M : Mem} {R : List D → Mem → Prop} (h : te σ M (onEnum R)) : iEnum3 te σ M R := h
theorem rd_onEnumL {ds : List D} {M : Mem} {R : List D → Mem → Prop} (h : R (prs 0 ds) M) : onEnum R (.lst ds) M := h
theorem wkE_of {K : PySem.W.Frag} {M1 : Mem} {H1 : Hp} {J : It} {ds : List D} (Sq : Hp → List V → Prop) (hgo : ∀ i H xs x, Sq H xs → xs[i]? = some x → J.go i H) (hy : ∀ i H x H', J.yld i H x H' → ∃ T v, H T = none ∧ (∀ xs, Sq H xs → xs[i]? = some v) ∧ x = .ref T ∧ H' = upd H T (.tup [.int (i : Nat), v]))
    (hst : ∀ i H xs, Sq H xs → xs.length = i → J.stop i H) (hs : ∀ M' H', Step M1 H1 M' H' → ∃ vs, Sq H' vs ∧ Reps K M' H' ds vs) : WkE K J (prs 0 ds) M1 H1 := by
  intro M' H' st m'
  obtain ⟨vs, sq, r⟩ := hs M' H' st
  refine ⟨fun i hi => ?_, fun i d x H'' hd hyy => ?_, ?_⟩
  · rw [prs_len] at hi
    obtain ⟨v, hv, _⟩ := r.get (i := i) (d := ds[i]) (by simp [hi])
    exact hgo i H' vs v sq hv
  · obtain ⟨T, v, hT, hv, rfl, rfl⟩ := hy i H' x H'' hyy
    obtain ⟨y, h1, rfl⟩ := prs_get ds 0 i d hd
    obtain ⟨v', hv', rv⟩ := r.get h1
    rw [hv vs sq] at hv'
    cases hv'
    refine ⟨Step.lay hT, m'.lay hT, .tup (.inl ⟨.inl upd_same, m'.free hT⟩) (.cons ?_ (.cons (rv.mono (Step.lay hT)) .nil))⟩
    rw [Nat.zero_add]; exact .int
  · rw [prs_len]
    exact hst _ H' vs sq r.length.symm
theorem pi3_enum {X : Cx} {a : Expr} {te : TE3} {elts : List Expr} {k : Nat} {tpos p pos : Pos} (hg : Gl X "enumerate") (hm : X.mg "enumerate" = none) (ha : PE3 X a te) (he : starEach [a] X.env = (false, eval a X.env) :: starEach [] X.env := by rfl) (hpl : (backTo pos (starEach [] X.env)).any (·.1) = false := by rfl) :
    PI3E X (.Tuple elts k tpos) (.Call (.Name "enumerate" p) [a] [] pos) (iEnum3 te) := by
  rintro pins s σv H R2 I ⟨σ, M, R, hS, hM, h, kk⟩
  refine wpAny_Call_Name_kw (ld_blt I hg hm b3_enumerate ?_ (by decide) (by decide))
  have hx : PA3 X [a] (tCons3 te tNil3) := pa3_cons ha pa3_nil he
  refine PyProof.Rows.callWith_type1 (thn (hx pos pins s σv H σ M (fun ds M1 => match ds with | [d] => onEnum R d M1 | _ => False) I hS hM h) fun us s1 ⟨ds, vs, M1, H1, I1, st1, m1, rv1, p1, q1⟩ => ?_) he hpl
  match ds, p1, q1 with
  | [d], p1, q1 =>
    obtain ⟨xv, rfl, pd⟩ := reps1 p1
    obtain ⟨u, rfl, ru⟩ := vals1 rv1
    cases pd with
    | @tup aT xs vs h1 r1 =>
      cases ru
      obtain ⟨its, ri, pl, hz⟩ := I1.tuple (SqT.of3 h1)
      have hlt : aT < s1.heap.objs.size := by obtain ⟨o, ho, _⟩ := id pl; exact Heap.lt_size ho
      refine call_enumT (show s1.heap.IsTuple aT its.toArray from pl) ?_
      have kp : ∀ b o, s1.heap.get? b = some o → ((s1.heap.push { cls := .type "tuple_iterator", data := .fields #[.ref aT, .int 0 0] }).push { cls := .type "enumerate", data := .fields #[.none, .bool false, .ref s1.heap.objs.size, rawInt 0, .none, .none] }).get? b = some o := fun b o e => Heap.get?_push_of_some _ (Heap.get?_push_of_some _ e)
      have es : (s1.heap.push { cls := .type "tuple_iterator", data := .fields #[.ref aT, .int 0 0] }).objs.size = s1.heap.objs.size + 1 := by simp [Heap.push]
      have hen : ((s1.heap.push { cls := .type "tuple_iterator", data := .fields #[.ref aT, .int 0 0] }).push { cls := .type "enumerate", data := .fields #[.none, .bool false, .ref s1.heap.objs.size, rawInt 0, .none, .none] }).get? (s1.heap.objs.size + 1) = some { cls := .type "enumerate", data := .fields #[.none, .bool false, .ref s1.heap.objs.size, rawInt 0, .none, .none] } := by rw [← es]; exact Heap.get?_push_size _ rfl
      refine wpAny_pyIter_enum (it := s1.heap.objs.size) (i := 0) (old := .none) hen ?_
      refine ⟨s1.heap.objs.size + 1, [s1.heap.objs.size + 1, s1.heap.objs.size], _, IteT X.K aT, H1, rfl, I1.kept (t' := s1.toks) kp, turn_enumT aT s1.heap.objs.size (s1.heap.objs.size + 1) (Nat.succ_ne_self _) (Nat.ne_of_lt hlt) (Nat.ne_of_lt (Nat.lt_succ_of_lt hlt)), ⟨⟨.none, hen⟩, ⟨_, Heap.get?_push_of_some _ (Heap.get?_push_size _ rfl), rfl, rfl⟩⟩, fun b hb => ?_, ?_⟩
      · have hb' : s1.heap.objs.size ≤ b := by
          simp only [List.mem_cons, List.not_mem_nil, or_false] at hb
          rcases hb with rfl | rfl
          · exact Nat.le_succ _
          · exact Nat.le_refl _
        exact I1.fpOk hb' (I1.hok.fresh hb')
      · refine kk (prs 0 xs) _ M1 H1 st1 m1 (wkE_of (fun H xs => SqT X.K H aT xs) (fun i H xs x hq hx => ⟨xs, x, hq, hx⟩) (fun i H x H' hy => hy) (fun i H xs hq hl => ⟨xs, hq, hl⟩) fun M' H' st => ⟨vs, SqT.of3 (h1.imp (Fix.mono st) id), r1.mono st⟩) q1
    | @lst aT xs vs h1 r1 =>
      cases ru
      obtain ⟨its, ri, pl, hz⟩ := I1.list (SqL.of3 h1)
      have hlt : aT < s1.heap.objs.size := by obtain ⟨o, ho, _⟩ := id pl.isList; exact Heap.lt_size ho
      refine call_enumL pl.isList ?_
      have kp : ∀ b o, s1.heap.get? b = some o → ((s1.heap.push { cls := .type "list_iterator", data := .fields #[.ref aT, .int 0 0] }).push { cls := .type "enumerate", data := .fields #[.none, .bool false, .ref s1.heap.objs.size, rawInt 0, .none, .none] }).get? b = some o := fun b o e => Heap.get?_push_of_some _ (Heap.get?_push_of_some _ e)
      have es : (s1.heap.push { cls := .type "list_iterator", data := .fields #[.ref aT, .int 0 0] }).objs.size = s1.heap.objs.size + 1 := by simp [Heap.push]
      have hen : ((s1.heap.push { cls := .type "list_iterator", data := .fields #[.ref aT, .int 0 0] }).push { cls := .type "enumerate", data := .fields #[.none, .bool false, .ref s1.heap.objs.size, rawInt 0, .none, .none] }).get? (s1.heap.objs.size + 1) = some { cls := .type "enumerate", data := .fields #[.none, .bool false, .ref s1.heap.objs.size, rawInt 0, .none, .none] } := by rw [← es]; exact Heap.get?_push_size _ rfl
      refine wpAny_pyIter_enum (it := s1.heap.objs.size) (i := 0) (old := .none) hen ?_
      refine ⟨s1.heap.objs.size + 1, [s1.heap.objs.size + 1, s1.heap.objs.size], _, IteL X.K aT, H1, rfl, I1.kept (t' := s1.toks) kp, turn_enumL aT s1.heap.objs.size (s1.heap.objs.size + 1) (Nat.succ_ne_self _) (Nat.ne_of_lt hlt) (Nat.ne_of_lt (Nat.lt_succ_of_lt hlt)), ⟨⟨.none, hen⟩, ⟨_, Heap.get?_push_of_some _ (Heap.get?_push_size _ rfl), rfl, rfl⟩⟩, fun b hb => ?_, ?_⟩
      · have hb' : s1.heap.objs.size ≤ b := by
          simp only [List.mem_cons, List.not_mem_nil, or_false] at hb
          rcases hb with rfl | rfl
          · exact Nat.le_succ _
          · exact Nat.le_refl _
        exact I1.fpOk hb' (I1.hok.fresh hb')
      · refine kk (prs 0 xs) _ M1 H1 st1 m1 (wkE_of (fun H xs => SqL X.K H aT xs) (fun i H xs x hq hx => ⟨xs, x, hq, hx⟩) (fun i H x H' hy => hy) (fun i H xs hq hl => ⟨xs, hq, hl⟩) fun M' H' st => ⟨vs, SqL.of3 (h1.imp (Fix.mono st) id), r1.mono st⟩) q1
    | _ => exact (q1 : False).elim
end L3
namespace L3
open PySem PySem.Spec PyProof.Rows L2
section
variable {X : Cx} {o i e : Expr} {to ti te : TE3} {pos p : Pos}
end
end L3
namespace L3
open PySem PySem.Spec PyProof.Rows L2
theorem ps3_setC {y : Str} {py spos : Pos} {iy : Nat} {X : Cx} {elt tg iter : Expr} {pos : Pos} {ifs : List Expr} {scope : Scope} {tns caps : List Str} {slots : List Nat} {ti : TI3} {g : TG3} {tt : TT3} {te : TE3}
    (hc : X.calm = true) (hi : PI3E X tg iter ti) (hkind : scope.kind = .function) (hcell : ∀ y ∈ scope.names, y.2 ≠ .cell)
    (hnames : ∀ y ∈ scope.names, y.2 = .local → scope.names.lookup y.1 = some .local)
    (hfree : ∀ y ∈ scope.names, y.2 = .free → X.env.kindOf y.1 = some .cell ∨ X.env.kindOf y.1 = some .free)
    (hcf : ∀ y ∈ caps, scope.names.lookup y = some .free) (hcaps : slots.map (fun j => X.N[j]?) = caps.map some)
    (hgk : ∀ d M Q (cs : Lo), g d (List.replicate tns.length none ++ cs) M Q → g d (List.replicate tns.length none ++ cs) M (fun σ' M' => σ'.drop tns.length = cs ∧ Q σ' M'))
    (hg : ∀ cl s₀ H₀ ex, PG3 (compCx X scope cl s₀ H₀ ex (tns ++ caps)) tg g)
    (ht : ∀ cl s₀ H₀ ex, PIfs (compCx X scope cl s₀ H₀ ex (tns ++ caps)) ifs tt) (he : ∀ cl s₀ H₀ ex, PE3 (compCx X scope cl s₀ H₀ ex (tns ++ caps)) elt te)
    (hN : X.N.Nodup) (hiy : X.N[iy]? = some y) (hy : Loc X.env.scope y) (hsw : swapsWith (.ListComp elt [⟨tg, iter, ifs, 0⟩] scope pos) (some (.Name y py)) spos.line X.env = pure true) (hf : X.fn y = true ∨ X.env.scope.names.lookup y = some .local)
    (hs : ∀ y, foldedSetIterable iter X.env y = pure y := by intro _; rfl) :
    PS3 X (.Assign [.Name y py] (.ListComp elt [⟨tg, iter, ifs, 0⟩] scope pos) spos) (tSet3 iy (tComp3 ti tns.length slots g tt te)) := by
  intro pins s σv H σ M T0 I hS hM h
  rw [exec_Assign_Name_used _ _ _ _ hsw]
  refine wpAny_bind (wpAny_standAt (wpAny_bind ?_))
  rw [arm_evalThenUse_ListComp]
  refine wpAny_bind ?_
  refine comp_core hc hi hkind hcell hnames hfree hcf hcaps hgk hg ht he hs (use := some (assign (.Name y py) X.env)) (F := fun p acc M => T0.nx (σ.set iy (some (.lst acc))) (mdel M p)) I hS hM h fun D C acc H5 M5 s6 m hn I7 c1 c2 c3 c4 c5 c6 st m5 hp hq => ?_
  obtain ⟨mF, rF, sF⟩ := Vs.frzL hp X.K H5 (.ref D) m5 .ref
  obtain ⟨oC, es, ep, hoC, hdC, rC⟩ := hn
  have pinC : Inv X (pins ++ [(C, oC)]) σv H5 s6 := I7.pins_of fun p hp => by
    rcases List.mem_append.mp hp with z | z
    · exact I7.pin p (List.mem_append_right _ z)
    · cases List.mem_singleton.mp z
      exact ⟨hoC, c1, c2, c3, fun v z => by rw [hdC] at z; cases z⟩
  show wpAny (model X.prog X.w) X.A (assign (.Name y py) X.env (.ref D)) _ X.xe s6
  refine wpAny_assign_Name (store_ok pinC hN hiy hy (v := .ref D) rfl (fun s7 I8 => ?_) hf)
  have hp8 := (I8.pin (C, oC) (List.mem_append_right _ (List.mem_append_right _ List.mem_cons_self))).1
  refine ⟨m, ⟨oC, es, ep, hp8, hdC, rC⟩, fun h' sb => wpAny_pure (wpAny_pure ?_)⟩
  have I9 : Inv X pins (σv.set iy (some (.ref D))) H5 { s7 with heap := h', toks := s7.toks } := I8.unpinned.turned (it := C) (fun b o hb e => (sb.2 b hb).trans e) c1 c2 (.inr c4) c5 c6
  exact ⟨_, _, mdel M5 D, H5, I9, st.less sF, mF, ((hS.mono st).mono ⟨fun _ _ h _ => h, fun b h => .inl (sF b h)⟩).set rF iy, hq⟩
theorem ps3_setCBE {X : Cx} {elt tg iter : Expr} {pos py spos : Pos} {y : Str} {ifs : List Expr} {scope : Scope} (iy : Nat) (tns caps : List Str) (slots : List Nat) {ti : TI3} {g : TG3} {tt : TT3} {te : TE3}
    (hc : X.calm = true) (hi : PI3E X tg iter ti) (hkind : scope.kind = .function) (hok : compOk X.env scope caps = true) (hcaps : slots.map (fun j => X.N[j]?) = caps.map some)
    (hgk : ∀ d M Q (cs : Lo), g d (List.replicate tns.length none ++ cs) M Q → g d (List.replicate tns.length none ++ cs) M (fun σ' M' => σ'.drop tns.length = cs ∧ Q σ' M'))
    (hg : ∀ cl s₀ H₀ ex, PG3 (compCx X scope cl s₀ H₀ ex (tns ++ caps)) tg g)
    (ht : ∀ cl s₀ H₀ ex, PIfs (compCx X scope cl s₀ H₀ ex (tns ++ caps)) ifs tt) (he : ∀ cl s₀ H₀ ex, PE3 (compCx X scope cl s₀ H₀ ex (tns ++ caps)) elt te)
    (hN : X.N.Nodup) (hiy : X.N[iy]? = some y) (hy : Loc X.env.scope y) (hf : X.fn y = true ∨ X.env.scope.names.lookup y = some .local)
    (hsw : swapsWith (.ListComp elt [⟨tg, iter, ifs, 0⟩] scope pos) (some (.Name y py)) spos.line X.env = pure true := by rfl)
    (hs : ∀ y, foldedSetIterable iter X.env y = pure y := by intro _; rfl) :
    PS3 X (.Assign [.Name y py] (.ListComp elt [⟨tg, iter, ifs, 0⟩] scope pos) spos) (tSet3 iy (tComp3 ti tns.length slots g tt te)) := by
  unfold compOk at hok
  rw [Bool.and_eq_true, List.all_eq_true, List.all_eq_true] at hok
  obtain ⟨h1, h2⟩ := hok
  refine ps3_setC hc hi hkind (fun y hy e => ?_) (fun y hy e => ?_) (fun y hy e => ?_) (fun y hy => ?_) hcaps hgk hg ht he hN hiy hy hsw hf hs
  · have := h1 y hy; rw [e] at this; cases this
  · have := h1 y hy
    rw [e] at this
    dsimp only at this
    split at this
    · assumption
    · cases this
  · have := h1 y hy
    rw [e] at this
    dsimp only at this
    split at this
    · exact .inl (by assumption)
    · exact .inr (by assumption)
    · cases this
  · have := h2 y hy
    split at this
    · assumption
    · cases this
theorem ps3_setCB {X : Cx} {elt tg iter : Expr} {pos py spos : Pos} {y : Str} {ifs : List Expr} {scope : Scope} (iy : Nat) (tns caps : List Str) (slots : List Nat) {ti : TI3} {g : TG3} {tt : TT3} {te : TE3}
    (hc : X.calm = true) (hi : PI3 X tg iter ti) (hkind : scope.kind = .function) (hok : compOk X.env scope caps = true) (hcaps : slots.map (fun j => X.N[j]?) = caps.map some)
    (hgk : ∀ d M Q (cs : Lo), g d (List.replicate tns.length none ++ cs) M Q → g d (List.replicate tns.length none ++ cs) M (fun σ' M' => σ'.drop tns.length = cs ∧ Q σ' M'))
    (hg : ∀ cl s₀ H₀ ex, PG3 (compCx X scope cl s₀ H₀ ex (tns ++ caps)) tg g)
    (ht : ∀ cl s₀ H₀ ex, PIfs (compCx X scope cl s₀ H₀ ex (tns ++ caps)) ifs tt) (he : ∀ cl s₀ H₀ ex, PE3 (compCx X scope cl s₀ H₀ ex (tns ++ caps)) elt te)
    (hN : X.N.Nodup) (hiy : X.N[iy]? = some y) (hy : Loc X.env.scope y) (hf : X.fn y = true ∨ X.env.scope.names.lookup y = some .local)
    (hsw : swapsWith (.ListComp elt [⟨tg, iter, ifs, 0⟩] scope pos) (some (.Name y py)) spos.line X.env = pure true := by rfl)
    (hs : ∀ y, foldedSetIterable iter X.env y = pure y := by intro _; rfl) :
    PS3 X (.Assign [.Name y py] (.ListComp elt [⟨tg, iter, ifs, 0⟩] scope pos) spos) (tSet3 iy (tComp3 ti tns.length slots g tt te)) :=
  ps3_setCBE iy tns caps slots hc hi.toE hkind hok hcaps hgk hg ht he hN hiy hy hf hsw hs
end L3
namespace L2
open PySem PySem.Spec PyProof.Rows
section
variable {X : Cx} {tg : Expr}
end
end L2
namespace L3
open PySem PySem.Spec PyProof.Rows L2
section
variable {X : Cx} {a b c e : Expr} {t : TA3} {te : TE3} {p pos : Pos}
end
end L3
namespace L3
open PySem PySem.Spec PyProof.Rows L2
section
variable {X : Cx} {e i : Expr} {te ti : TE3} {pos : Pos}
theorem pe3_globT {x : Str} {xs : List Str} (hg : Gl X x) (hm : ∃ a, X.mg x = some (.ref a) ∧ KTup X.K a (xs.map V.str)) (hd : (x == ("__debug__" : Str)) = false := by decide) : PE3 X (.Name x pos) (tC3 (.tup (xs.map D.str))) := by
  obtain ⟨a, hm, k⟩ := hm
  exact pe3_glob (v := .ref a) hg hm rfl (fun _ _ => .tup (.inr k) (strs_reps xs)) hd
end
end L3
namespace L3
open PySem PySem.Spec PyProof.Rows L2
end L3
namespace HT
open PySem PySem.Spec PyProof.Rows
section
variable {prog : Program} {w : World} {A : Around} {E : Value → Shared → Prop} {s : Shared}
end
end HT
namespace L3
open PySem PySem.Spec PyProof.Rows L2
section
variable {X : Cx} {e st : Expr} {te : TE3} {ts : TO3} {pos p2 : Pos}
end
end L3
namespace PySem.SeqAt
open AutoSeq1 (wpAny_loadPart')
open MeetsSeq
theorem dict_eq_declines_str (l : Addr) (es : Array DictEntry) (n : Nat) (dd : Option Addr) (sl : Array (Option Value)) (b : Str) (u : Tok) :
    Meets (Builtin.«dict.__eq__» ⟨[.ref l, .str b u], []⟩) (fun _ R s => s.heap.get? l = some { cls := .type "dict", dict := dd, data := .dict es n, slots := sl } ∧ R (.ok (.ret .notImplemented)) s) :=
  .of_wp fun prog w A R s h => by obtain ⟨hp, g, d, tk, os⟩ := s; obtain ⟨hl, h⟩ := h; have f1 := F.sub_str_dict; wp_walk using wpAny_loadPart' hl, wpAny_load hl; exact ⟨_, rfl, h⟩
theorem str_eq_declines_dict (b : Str) (u : Tok) (l : Addr) (es : Array DictEntry) (n : Nat) (dd : Option Addr) (sl : Array (Option Value)) :
    Meets (Builtin.«str.__eq__» ⟨[.str b u, .ref l], []⟩) (fun _ R s => s.heap.get? l = some { cls := .type "dict", dict := dd, data := .dict es n, slots := sl } ∧ R (.ok (.ret .notImplemented)) s) :=
  .of_wp fun prog w A R s h => by obtain ⟨hp, g, d, tk, os⟩ := s; obtain ⟨hl, h⟩ := h; wp_walk using wpAny_loadPart' hl, wpAny_load hl; exact ⟨_, rfl, h⟩
theorem RcAt.dict_str {A : Around} {s : Shared} {l : Addr} {o : Obj} {es : Array DictEntry} {n : Nat} (b : Str) (u : Tok) (ho : s.heap.get? l = some o) (hc : o.cls = .type "dict") (hd : o.data = .dict es n) (hu : A.units < cLine) : RcAt A s (.ref l) (.str b u) false := fun prog w E Q h => by
  obtain ⟨cls, dd, data, sl⟩ := o
  simp only at hc hd
  subst hc hd
  exact rc_eq_decline_or (k := false) ⟨_, ho, rfl⟩ (typeIs_str s b u) (by decide) F.sub_str_dict F.slot_dict_eq F.slot_str_eq_refl
    (fun _ hq => call_meets F.slot_dict_eq ⟨_, ho, rfl⟩ F.entry_dict_eq (F.args_dict_eq_2 _ _) (dict_eq_declines_str l es n dd sl b u) ⟨ho, hq⟩)
    (fun _ hq => call_meets F.slot_str_eq_refl (typeIs_str s b u) F.entry_str_eq (F.args_str_eq_2 _ _) (str_eq_declines_dict b u l es n dd sl) ⟨ho, hq⟩)
    (fun _ hq => wpAny_of_eq (rfl : isSame (.ref l) (.str b u) = pure false) hq) (.inr hu) h
end PySem.SeqAt
namespace HT
open PySem PySem.Spec PyProof.Rows L2
theorem getItem_tuple_whole {prog : Program} {w : World} {A : Around} {E : Value → Shared → Prop} {s : Shared} {t sl : Addr} {items : Array Value} {vl vu : Value} {lo hi : Option Int} {Q : Value → Shared → Prop} (ht : IsTup s.heap t items) (hs : s.heap.IsSliceOf sl vl vu .none) (pl : IsPart vl lo) (pu : IsPart vu hi)
    (hw : sIx items.size 0 lo = 0 ∧ sIx items.size items.size hi = items.size) (h : Q (.ref t) s) : wpAny (model prog w) A (getItem (.ref t) (.ref sl)) Q E s := by
  obtain ⟨os, hos, hcs, hds⟩ := id hs
  have hTs : s.TypeIs (.ref sl) "slice" := ⟨os, hos, hcs⟩
  obtain ⟨o, ho, hc, n, hd⟩ := id ht
  unfold getItem
  try with_reducible refine wpAny_holding ?_
  first | refine wpAny_bind (wpAny_pure ?_) | skip
  refine wpAny_bind (wpAny_sequenceKey ht.typeIs (by decide) ?_)
  refine wpAny_bind (wpAny_callSpecial?_slot (name := Str.ofString "__getitem__") ht.typeIs PyProof.Rows.slot_tuple_getitem
    (wpAny_call_entry PyProof.Rows.slot_tuple_getitem ht.typeIs entry_tuple_getitem ?_ (args_tuple_getitem _ _)))
  show wpAny _ _ (Builtin.Tuple.tupleItemsOf (.ref t) >>= _) _ _ s
  refine wpAny_bind (tupleItemsOf_ ht ?_)
  refine wpAny_bind (wpAny_typeOf hTs ?_)
  rw [if_pos (by decide)]
  refine wpAny_bind (sliceApplied_gen hs pl pu ?_)
  have hyes : (((sIx items.size 0 lo : Nat) : Int) == 0 && (1 : Int) == 1 && (sIx items.size items.size hi - sIx items.size 0 lo) == items.size) = true := by
    rw [hw.1, hw.2]; simp
  show wpAny _ _ (if (((sIx items.size 0 lo : Nat) : Int) == 0 && (1 : Int) == 1 && (sIx items.size items.size hi - sIx items.size 0 lo) == items.size) = true then _ else _) _ _ s
  rw [if_pos hyes]
  unfold Builtin.Tuple.tupleIsExact
  refine wpAny_bind ?_
  first
    | exact wpAny_typeOf ht.typeIs (by rw [if_pos (by decide)]; exact wpAny_bind (wpAny_rule (wpAny_pure ⟨_, rfl, wpAny_pure h⟩)))
    | exact wpAny_bind (wpAny_typeOf ht.typeIs (wpAny_pure (by rw [if_pos (by decide)]; exact wpAny_bind (wpAny_rule (wpAny_pure ⟨_, rfl, wpAny_pure h⟩)))))
end HT
namespace L3
open PySem PySem.Spec PyProof.Rows L2
def pyA : D → PyData
  | .non => .none | .bl b => .bool b | .int i => .int i | .str x => .str x | _ => .none
def atomD : D → Bool
  | .non | .bl _ | .int _ | .str _ => true
  | _ => false
def pyK (kvs : List (Key × D)) : List (PyData × PyData) := kvs.map fun kd => (pyA (kD kd.1), pyA kd.2)
mutual
def pyE : D → PyData
  | .non => .none | .bl b => .bool b | .int i => .int i | .str x => .str x
  | .tup xs => .tuple (pyEs xs) | .lst xs => .list (pyEs xs)
  | .dct kvs => .dict (pyK kvs) | .ty _ => .none | .ref _ => .none
def pyEs : List D → List PyData
  | [] => [] | d :: ds => pyE d :: pyEs ds
end
mutual
def plainE : D → Bool
  | .non | .bl _ | .int _ | .str _ => true
  | .tup xs | .lst xs => plainEs xs
  | .dct kvs => kvs.all fun kd => atomD kd.2
  | .ty _ | .ref _ => false
def plainEs : List D → Bool
  | [] => true | d :: ds => plainE d && plainEs ds
end
mutual
def noLst : D → Bool
  | .tup xs => noLsts xs
  | .lst _ => false
  | _ => true
def noLsts : List D → Bool
  | [] => true | d :: ds => noLst d && noLsts ds
end
section
variable {X : Cx} {pins : List (Addr × Obj)} {σv : L2.St} {M : Mem} {H : Hp} {s : Shared}
theorem reads_atom {h : Heap} {K : PySem.W.Frag} {d : D} {v : V} {u : Value} (ha : atomD d = true) (p : Rep K M H d v) (r : RelV v u) : Reads h u (pyA d) [] := by
  cases d with
  | non => cases p; cases r; exact .none
  | bl b => cases p; cases r; exact .bool b
  | int i => cases p; obtain ⟨t, rfl⟩ := r; exact .int i t
  | str x => cases p; obtain ⟨t, rfl⟩ := r; exact .str x t
  | _ => cases ha
theorem reads_key {h : Heap} {k : Key} {v : Value} (e : keyIs k v = true) : Reads h v (pyA (kD k)) [] := by
  rcases keyIs_shape e with ⟨i, t, rfl, rfl⟩ | ⟨x, t, rfl, rfl⟩
  · exact .int i t
  · exact .str x t
theorem reads_kvs {h : Heap} {P : Program} {w : World} {K : PySem.W.Frag} : ∀ {ds : List (Key × D)} {vs : List (Key × V)} {us : List (Key × Value)} {es : List DictEntry}, (ds.all fun kd => atomD kd.2) = true → RepK K M H ds vs → KV vs us → Pairs (mixKind P w) es us →
    ReadsAll h (es.map (·.key)) ((pyK ds).map (·.1)) [] ∧ ReadsAll h (es.map (·.val)) ((pyK ds).map (·.2)) []
  | [], _, _, _, _, .nil, kv, pr => by cases kv; cases pr; exact ⟨.nil, .nil⟩
  | (k, d) :: ds, _, _, _, ha, .cons p ps, kv, pr => by
    rw [List.all_cons, Bool.and_eq_true] at ha
    cases kv with
    | cons q qs =>
    cases pr with
    | cons e1 e2 prs =>
      obtain ⟨r1, r2⟩ := reads_kvs (h := h) ha.2 ps qs prs
      have hk := reads_key (h := h) e1
      rw [← q.1] at hk
      have hv := reads_atom (h := h) ha.1 p q.2
      rw [← e2] at hv
      exact ⟨.cons (as := []) (bs := []) hk r1, .cons (as := []) (bs := []) hv r2⟩
mutual
theorem rep_readsE (I : Inv X pins σv H s) (d : D) {v : V} {u : Value} (hp : plainE d = true) (p : Rep X.K M H d v) (r : RelV v u) : ∃ as, Reads s.heap u (pyE d) as ∧ (noLst d = true → sysModules ∉ as) := by
  cases d with
  | non => cases p; cases r; exact ⟨[], .none, fun _ => List.not_mem_nil⟩
  | bl b => cases p; cases r; exact ⟨[], .bool b, fun _ => List.not_mem_nil⟩
  | int i => cases p; obtain ⟨t, rfl⟩ := r; exact ⟨[], .int i t, fun _ => List.not_mem_nil⟩
  | str x => cases p; obtain ⟨t, rfl⟩ := r; exact ⟨[], .str x t, fun _ => List.not_mem_nil⟩
  | tup xs =>
    cases p with
    | tup h q =>
    cases r
    obtain ⟨its, rv, ⟨o, e1, e2, n, e3⟩, _⟩ := I.tuple (SqT.of3 h)
    obtain ⟨as, ra, hn⟩ := rep_readsEs I xs (by simpa [plainE] using hp) q rv
    exact ⟨as, by rw [pyE]; exact .tuple e1 e2 e3 (by simpa using ra), fun z => hn (by simpa [noLst] using z)⟩
  | lst xs =>
    cases p with
    | @lst a _ _ h q =>
    cases r
    obtain ⟨its, rv, ⟨o, n, e1, e2, _, e3⟩, _⟩ := I.list (SqL.of3 h)
    obtain ⟨as, ra, hn⟩ := rep_readsEs I xs (by simpa [plainE] using hp) q rv
    exact ⟨a :: as, by rw [pyE]; exact .list e1 e2 e3 (by simpa using ra), fun z => absurd z (by simp [noLst])⟩
  | dct kvs =>
    cases p with
    | @dct a _ _ h q =>
    cases r
    obtain ⟨_, hsys, us, kv, o, es, ep, h1, h2, h3, _, pr, _⟩ := dk_rd I.hok h.1
    obtain ⟨r1, r2⟩ := reads_kvs (h := s.heap) (by simpa [plainE] using hp) q kv pr
    refine ⟨a :: [] ++ [], by rw [pyE]; exact .dict h1 h2.1 h3 r1 r2, fun _ hm => ?_⟩
    have e : sysModules = a := by simpa using hm
    rw [e] at hsys
    simp at hsys
  | ty _ => cases hp
  | ref _ => cases hp
theorem rep_readsEs (I : Inv X pins σv H s) (ds : List D) {vs : List V} {us : List Value} (hp : plainEs ds = true) (p : Reps X.K M H ds vs) (r : Vals vs us) : ∃ as, ReadsAll s.heap us (pyEs ds) as ∧ (noLsts ds = true → sysModules ∉ as) := by
  cases ds with
  | nil => cases p; cases r; exact ⟨[], .nil, fun _ => List.not_mem_nil⟩
  | cons d ds =>
    cases p with
    | cons q qs =>
    cases r with
    | cons r rs =>
      have hp' : plainE d = true ∧ plainEs ds = true := by simpa [plainEs] using hp
      obtain ⟨as, h1, n1⟩ := rep_readsE I d hp'.1 q r
      obtain ⟨bs, h2, n2⟩ := rep_readsEs I ds hp'.2 qs rs
      refine ⟨as ++ bs, by rw [pyEs]; exact .cons h1 h2, fun z hm => ?_⟩
      have z' : noLst d = true ∧ noLsts ds = true := by simpa [noLsts] using z
      rcases List.mem_append.mp hm with hm | hm
      · exact n1 z'.1 hm
      · exact n2 z'.2 hm
end
end
section
variable {X : Cx} {e : Expr} {te : TE3} {pos : Pos}
def shE (d : D) : Prop := plainE d = true ∧ (pyE d).showable = true ∧ ((pyE d).hasDict = true → noLst d = true) ∧ (pyE d).depth ≤ 60 ∧ (pyE d).shown.length ≤ sizeLine
def rReprE3 : C3 := fun ds M Q => match ds with
  | [d] => shE d ∧ Q (.str (pyE d).shown) M
  | _ => False
theorem c3_reprE {k : Nat} (hr : Room k X.A) : CallR3 X (.builtin "repr") rReprE3 := by
  intro pins s σv H M xs xvs us Q I m rv px q
  rcases px with _ | ⟨pd, ps⟩; (exact (q : False).elim); rcases ps with _ | ⟨p2, ps2⟩; rotate_left; (first | exact (q : False).elim | (cases pd <;> exact (q : False).elim))
  · rename_i d _
    obtain ⟨⟨h1, h2, h3, h4, h5⟩, q⟩ := q
    obtain ⟨u, rfl, ru⟩ := vals1 rv
    have hz : sizeLine = 16777216 := sizeLine_eq
    have gen : ∀ (a : Addr), u = .ref a → (∃ as, Reads s.heap u (pyE d) as ∧ (noLst d = true → sysModules ∉ as)) → wpAny (model X.prog X.w) X.A (call (.builtin "repr") [u]) (EP3 X pins σv M H Q) X.xe s := by
      rintro a rfl ⟨as, rd, hn⟩
      refine PySem.repr_of_reads' rd h2 (fun z => hn (h3 z)) hr.gd (by have := hr.units; lia) (fun b o e => e) (fun h' u tk kp => ?_) h5
      exact ⟨_, .str _, M, H, I.kept (t' := tk) kp, .refl, m, ⟨_, rfl⟩, .str, q⟩
    cases pd with
    | non => cases ru; exact PySem.P.repr_of_none ⟨_, .str _, M, H, I.tok _, .refl, m, ⟨_, rfl⟩, .str, q⟩
    | bl => cases ru; exact PySem.P.repr_of_bool ⟨_, .str _, M, H, I.tok _, .refl, m, ⟨_, rfl⟩, .str, q⟩
    | @int i =>
      obtain ⟨t, rfl⟩ := ru
      exact PySem.P.repr_of_int (by simpa [pyE, PyData.showable] using h2) ⟨_, .str _, M, H, I.tok _, .refl, m, ⟨_, rfl⟩, .str, q⟩
    | @str z =>
      obtain ⟨t, rfl⟩ := ru
      exact PySem.P.repr_of_str ⟨_, .str _, M, H, I.tok _, .refl, m, ⟨_, rfl⟩, .str, q⟩ (by simpa [pyE, PyData.shown] using h5)
    | @tup a ds vs h r =>
      cases ru
      exact gen _ rfl (rep_readsE I _ h1 (.tup h r) rfl)
    | @lst a ds vs h r =>
      cases ru
      exact gen _ rfl (rep_readsE I _ h1 (.lst h r) rfl)
    | @dct a ds vs h r =>
      cases ru
      exact gen _ rfl (rep_readsE I _ h1 (.dct h r) rfl)
    | ty => exact absurd h1 (by simp [plainE])
    | ref => exact absurd h1 (by simp [plainE])
def rEqE3 : R3 := fun x y M Q => rEq3 x y M Q ∨ ∃ kvs z, x = .dct kvs ∧ y = .str z ∧ Q (.bl false) M
theorem o3_eqE {k : Nat} (hr : Room k X.A) : OpR3 X (compareOp .Eq) rEqE3 := by
  intro pins s σv H M x y xv yv v u Q I m rx ry px py h
  rcases h with h | ⟨kvs, z, rfl, rfl, q⟩
  · exact o3_eq hr pins s σv H M x y xv yv v u Q I m rx ry px py h
  · cases py
    obtain ⟨t, rfl⟩ := ry
    cases px with
    | dct hx r =>
      cases rx
      obtain ⟨_, _, us, _, o, es, ep, h1, h2, h3, _⟩ := dk_rd I.hok hx.1
      exact SeqAt.RcAt.dict_str z t h1 h2.1 h3 (by have := hr.units; lia) X.prog X.w X.xe _ ⟨_, .bl _, M, H, I, .refl, m, rfl, .bl, q⟩
theorem PE3.wk {t t' : TE3} (h : PE3 X e t) (hw : ∀ σ M Q, t' σ M Q → t σ M Q) : PE3 X e t' := fun pins s σv H σ M Q I hS hM ht => h pins s σv H σ M Q I hS hM (hw σ M Q ht)
theorem pe3_d0 : PE3 X (.Dict [] [] pos) (tC3 (.dct [])) := PE3.of pe_dnewK fun pins s σv H σ M Q I hS hM h => fun p hp =>
  ⟨.dct [], M, Step.lay hp, hM.lay hp, .dct ⟨.inl upd_same, hM.free hp⟩ .nil, h⟩
def tFrzD3 (te : TE3) : TE3 := fun σ M Q => te σ M fun d M1 => ∃ p xs, d = .ref p ∧ M1 p = some (.dct xs) ∧ Q (.dct xs) (mdel M1 p)
theorem pe3_frzD (h : PE3 X e te) : PE3 X e (tFrzD3 te) := by
  intro pins s σv H σ M Q I hS hM hw
  refine thn (h pins s σv H σ M _ I hS hM hw) fun u s1 hx0 => ?_
  obtain ⟨x, xv, M1, H1, I1, st1, m1, rv1, p1, q1⟩ := hx0
  obtain ⟨p, xs, rfl, hp, q⟩ := q1
  obtain ⟨mF, rF, sF⟩ := Vs.frzD hp X.K H1 xv m1 p1
  exact ⟨.dct xs, xv, mdel M1 p, H1, I1, st1.less sF, mF, rv1, rF, q⟩
theorem pe3_d1 {k v : Expr} {z : Str} {i : Int} (hk : PE3 X k (tC3 (.str z))) (hv : PE3 X v (tC3 (.int i))) : PE3 X (.Dict [some k] [v] pos) (tC3 (.dct [(.inr z, .int i)])) :=
  (pe3_frzD (pe3_dispM (pps3_cons hk hv pps3_nil) rfl rfl (by simp) (show (1 : Nat) ≤ 15 by decide))).wk fun σ M Q h p hp => by
    refine ⟨mput_same, [(.inr z, .int i)], rfl, (show (1 : Nat) ≤ 15 by decide), p, _, rfl, mput_same, ?_⟩
    rw [mput_mput, mdel_put hp]
    exact h
def rSlTW (K : PySem.W.Frag) : V → Option Int → Option Int → Hp → VK → Prop := fun x lo hi H Q => ∃ a xs, x = .ref a ∧ SqT K H a xs ∧
  (HT.sIx xs.length 0 lo = 0 ∧ HT.sIx xs.length xs.length hi = xs.length) ∧ Q (.ref a) H
theorem sl_tupW : SlR X (rSlTW X.K) := by
  intro pins s σ H x v vl vu lo hi sl Q I rx hs pl pu h
  obtain ⟨a, xs, rfl, hx, hw, q⟩ := h
  cases rx
  obtain ⟨its, r, ht, hz⟩ := I.tuple hx
  have hlen : its.toArray.size = xs.length := by rw [List.size_toArray]; exact r.length.symm
  refine ⟨"tuple", _, PyProof.Rows.slot_tuple_getitem.lookup, ht.typeIs, ?_⟩
  exact HT.getItem_tuple_whole ht hs pl pu (by rw [hlen]; exact hw) ⟨.ref a, H, I, rfl, q⟩
def rSlW3 : D → Option Int → Option Int → Mem → DK → Prop := fun x lo hi M Q => match x with
  | .lst ds => Q (.lst (cutD ds lo hi)) M
  | .tup ds => Q (.tup (cutD ds lo hi)) M
  | .str z => z.length ≤ sizeLine ∧ Q (.str (Txt.slice z lo hi)) M
  | _ => False
def tSlW3 (te : TE3) (tl th : TO3) : TE3 := fun σ M Q => te σ M fun x M1 => tl σ M1 fun l M2 => th σ M2 fun u M3 => rSlW3 x l u M3 Q
theorem cut_whole {ds : List D} {lo hi : Option Int} (h : HT.sIx ds.length 0 lo = 0 ∧ HT.sIx ds.length ds.length hi = ds.length) : cutD ds lo hi = ds := by
  unfold cutD
  rw [h.1, h.2]
  simp
theorem pe3_slW {lo hi : Option Expr} {tl th : TO3} {p2 : Pos} (he : PE3 X e te) (hl : PO3 X lo tl) (hu : PO3 X hi th) :
    PE3 X (.Subscript e (.Slice lo hi none p2) pos) (tSlW3 te tl th) := by
  intro pins s σv H σ M Q I hS hM h
  refine Subscript_ (thn (he pins s σv H σ M _ I hS hM h) fun v s1 ⟨x, xv, M1, H1, I1, st1, m1, rv1, p1, q1⟩ => ?_)
  refine wpAny_Slice (thn (hl pins s1 σv H1 σ M1 _ I1 (hS.mono st1) m1 q1) fun vl s2 ⟨l, M2, H2, I2, st2, m2, pl, q2⟩ => thn (hu pins s2 σv H2 σ M2 _ I2 (hS.mono (st1.trans st2)) m2 q2) fun vu s3 ⟨u, M3, H3, I3, st3, m3, pu, q3⟩ => ?_)
  rw [evalPart_none]
  refine wpAny_pure ?_
  have I4 : Inv X pins σv H3 { s3 with heap := s3.heap.push { cls := .type "slice", data := .fields #[vl, vu, .none] } } := I3.kept (t' := s3.toks) fun b ob q => Heap.get?_push_of_some _ q
  have p3 := p1.mono (st2.trans st3)
  have fin : ((rSlL X.K xv l u H3 (Up X.K M3 H3 Q) ∨ rSlT X.K xv l u H3 (Up X.K M3 H3 Q)) ∨ rSlS xv l u H3 (Up X.K M3 H3 Q)) ∨ rSlTW X.K xv l u H3 (Up X.K M3 H3 Q) := by
    cases x with
    | str z =>
      cases p3
      exact .inl (.inr ⟨_, rfl, q3.1, up0 m3 .str q3.2⟩)
    | tup ds =>
      cases p3 with | tup h1 r =>
      by_cases hw : HT.sIx ds.length 0 l = 0 ∧ HT.sIx ds.length ds.length u = ds.length
      · have q3 : Q (.tup (cutD ds l u)) M3 := q3
        rw [cut_whole hw] at q3
        exact .inr ⟨_, _, rfl, SqT.of3 h1, by rw [← r.length]; exact hw, up0 m3 (.tup h1 r) q3⟩
      · rw [r.length] at hw
        exact .inl (.inl (.inr ⟨_, _, rfl, SqT.of3 h1, hw, fun p hp => ⟨_, M3, Step.lay hp, m3.lay hp, .tup (.inl ⟨.inl upd_same, m3.free hp⟩) ((r.cut l u).mono (Step.lay hp)), q3⟩⟩))
    | lst ds =>
      cases p3 with | lst h1 r =>
      refine .inl (.inl (.inl ⟨_, _, rfl, SqL.of3 h1, fun p hp => ?_⟩))
      exact ⟨_, M3, Step.lay hp, m3.lay hp, .lst (.inl ⟨.inl upd_same, m3.free hp⟩) ((r.cut l u).mono (Step.lay hp)), q3⟩
    | _ => exact (q3 : False).elim
  obtain ⟨T, id, hT, ht, hg⟩ := (((sl_list.or sl_tup).or sl_str).or sl_tupW) pins { s3 with heap := s3.heap.push { cls := .type "slice", data := .fields #[vl, vu, .none] } } σv H3 xv v vl vu l u s3.heap.objs.size _ I4 rv1 (Heap.IsSliceOf.new ..) pl pu fin
  show wpAny (model X.prog X.w) X.A (subscriptTail e (.Slice lo hi none p2) v (.ref s3.heap.objs.size)) (EP3 X pins σv M H Q) X.xe { s3 with heap := s3.heap.push { cls := .type "slice", data := .fields #[vl, vu, .none] } }
  exact tail_any (ops := [.ref s3.heap.objs.size, v]) ht hT (thn hg fun _ _ z => (ep_up z).trans ((st1.trans st2).trans st3)) (by with_unfolding_all rfl)
end
end L3
namespace L2
open PySem PySem.Spec PyProof.Rows
def CXE (P : Program) (w : World) : CXT := fun outer H s E e s' =>
  ∃ (ea : Addr) (cls a0 : Value) (H' : Hp) (B : Heap), e = .ref ea ∧ s'.os = s.os ∧ AllBare s'.gens ∧ Heap.FlyingW B outer ea cls a0 s'.heap ∧ Un (frs outer) [] H H' s.heap s'.heap ∧
    (∀ b o, s.heap.get? b = some o → b ∉ frs outer → ∃ o', B.get? b = some o' ∧ (H b = none → o' = o)) ∧ HOk P w H' B ∧ E cls none H'
theorem frame_data {h base : Heap} {l : List Env} (f : h.FunFrames base l) {b : Addr} (hb : b ∈ frs l) : ∃ o, h.get? b = some o ∧ ∀ vs, o.data ≠ .fields vs := (f.mem hb).2
theorem leave_made {P : Program} {w : World} {K : PySem.W.Frag} {mg : Str → Option Value} {base : Heap} {N : List Str} {qual : Str} {scope : Scope} {f : Addr} {cdv : Value} {A : Around} {outer : List Env} {s s1 s2 : Shared} {H H1 : Hp} {E : XK}
    {pins : List (Addr × Obj)} {σ : St} {ea : Addr} {cls : Value} {vs : List Value} (I : Inv (cxOf (CXE P w) P w K mg base N qual scope f cdv A outer s H E) pins σ H1 s1)
    (hx : Heap.MadeExcOf s1.heap s2.heap ea cls vs) (ho : s2.os = s1.os) (hg : s2.gens = s1.gens) (hE : E cls none H1) : (cxOf (CXE P w) P w K mg base N qual scope f cdv A outer s H E).xe (.ref ea) s2 := by
  have fsE : frs (envOfC qual scope s.heap.objs.size f cdv :: outer) = s.heap.objs.size :: frs outer := rfl
  have hin : ∀ env ∈ (envOfC qual scope s.heap.objs.size f cdv :: outer), ∀ b, env.frame = some b → b ∈ frs (envOfC qual scope s.heap.objs.size f cdv :: outer) := fun env he b hb => List.mem_filterMap.mpr ⟨env, he, hb⟩
  have hB : ∀ b o, s1.heap.get? b = some o → b ∉ frs (envOfC qual scope s.heap.objs.size f cdv :: outer) → (PySem.W.hideAll s1.heap (frs (envOfC qual scope s.heap.objs.size f cdv :: outer))).get? b = some o := fun b o e n => PySem.W.hideAll_get _ e n
  have old : ∀ b o, s.heap.get? b = some o → b ∉ frs outer → b ∉ frs (envOfC qual scope s.heap.objs.size f cdv :: outer) := fun b o e n z => by
    rw [fsE] at z
    rcases List.mem_cons.mp z with z | z
    · rw [z] at e; exact absurd (Heap.lt_size e) (Nat.lt_irrefl _)
    · exact n z
  have ib := I.base
  have fr := I.funs
  have fr0 := I.ok.frf
  refine wpAny_leaves_madeW (base := PySem.W.hideAll s1.heap (frs (envOfC qual scope s.heap.objs.size f cdv :: outer))) (L := s.heap.objs.size) I.ok.frames rfl (fun b o q => PySem.W.of_hideAll _ q) (PySem.W.funFrames_hide I.stack hin) hx fun h' t x1 x2 x3 x4 => ?_
  have st : ∀ b o, s1.heap.get? b = some o → b ∉ frs (envOfC qual scope s.heap.objs.size f cdv :: outer) → h'.get? b = some o := fun b o e n => x1.1 b o (hB b o e n)
  have sl : ∀ b ∈ frs outer, ∀ o, s1.heap.get? b = some o → ∃ sl, h'.get? b = some { o with slots := sl } := fun b hb o e => by
    obtain ⟨o', e', hd⟩ := frame_data fr hb
    rw [e] at e'; cases e'
    exact x4 b o (hx.keeps b o e) hd
  refine ⟨ea, cls, .ref t, H1, _, rfl, ho.trans I.os, by show AllBare s2.gens; rw [hg]; exact I.bare, x1, ⟨?_, ?_, ?_, ?_, ib.tups, ib.frzs, ib.tbls⟩, ?_, ?_, hE⟩
  · exact fun b o e n hb _ => st b o (ib.keep b o e n hb (by exact List.not_mem_nil)) (old b o e hb)
  · intro b o e n hb _
    obtain ⟨s0, e1⟩ := ib.slot b o e n hb List.not_mem_nil
    obtain ⟨s0', e2⟩ := sl b hb _ e1
    exact ⟨s0', e2⟩
  · exact fun b o e n _ => ib.free b o e n List.not_mem_nil
  · intro b o e _
    obtain ⟨o', e1⟩ := ib.there b o e List.not_mem_nil
    by_cases hb : b ∈ frs outer
    · obtain ⟨s0, e2⟩ := sl b hb o' e1
      exact ⟨_, e2⟩
    · exact ⟨o', st b o' e1 (old b o e hb)⟩
  · intro b o e hb
    obtain ⟨o', e1⟩ := ib.there b o e List.not_mem_nil
    refine ⟨o', hB b o' e1 (old b o e hb), fun n => ?_⟩
    have := ib.keep b o e n hb List.not_mem_nil
    rw [this] at e1; cases e1; rfl
  · intro a o e
    have stk := I.stkFree
    refine (I.hok a o e).stay (fun b u hb q => hB b u q fun z => ?_) (fun _ q => q) fun _ _ q => q
    have n := stk b z
    rcases hb with rfl | hb
    · rw [n] at e; cases e
    · rw [n] at hb; cases hb
end L2
namespace L3
open PySem PySem.Spec PyProof.Rows L2
abbrev XEnd := Value → Mem → Prop
abbrev TX3 := Ends3 → XEnd → Lo → Mem → Prop
def XP3 (X : Cx) (M : Mem) (H : Hp) (xs : XEnd) (e : Value) (s' : Shared) : Prop :=
  ∃ (pins : List (Addr × Obj)) (σv : L2.St) (M1 : Mem) (H1 : Hp) (s1 : Shared) (ea : Addr) (cls : Value) (vs : List Value), Inv X pins σv H1 s1 ∧ Step M H M1 H1 ∧ MRel X.K M1 H1 ∧ e = .ref ea ∧ Heap.MadeExcOf s1.heap s'.heap ea cls vs ∧ s'.os = s1.os ∧ s'.gens = s1.gens ∧ xs cls M1
theorem XP3.trans {X : Cx} {M M1 : Mem} {H H1 : Hp} {xs : XEnd} {e : Value} {s' : Shared} (st : Step M H M1 H1) (h : XP3 X M1 H1 xs e s') : XP3 X M H xs e s' := by
  obtain ⟨pins, σv, M2, H2, s1, ea, cls, vs, I, st', r⟩ := h
  exact ⟨pins, σv, M2, H2, s1, ea, cls, vs, I, st.trans st', r⟩
def PX (X : Cx) (st : Stmt) (t : TX3) : Prop := ∀ (pins : List (Addr × Obj)) (s : Shared) (σv : L2.St) (H : Hp) (σ : Lo) (M : Mem) (T : Ends3) (xs : XEnd), Inv X pins σv H s → SRel X.K M H σ σv → MRel X.K M H → t T xs σ M →
  wpAny (model X.prog X.w) X.A (exec st X.env) (SP3 X pins M H T) (XP3 X M H xs) s
def PXs (X : Cx) (sts : List Stmt) (t : TX3) : Prop := ∀ (pins : List (Addr × Obj)) (s : Shared) (σv : L2.St) (H : Hp) (σ : Lo) (M : Mem) (T : Ends3) (xs : XEnd), Inv X pins σv H s → SRel X.K M H σ σv → MRel X.K M H → t T xs σ M →
  wpAny (model X.prog X.w) X.A (execs sts X.env) (SP3 X pins M H T) (XP3 X M H xs) s
section
variable {X : Cx} {st : Stmt} {rest : List Stmt} {t u : TX3} {pos np cpos : Pos}
theorem SP3.unwish {E : Value → Shared → Prop} {pins : List (Addr × Obj)} {M : Mem} {H : Hp} {T : Ends3} {f : Flow} {s' : Shared} (h : SP3 (X.wish E) pins M H T f s') : SP3 X pins M H T f s' := by
  cases f with
  | next => obtain ⟨σ', σv', M', H', I, r⟩ := h; exact ⟨σ', σv', M', H', I.unwish, r⟩
  | brk => obtain ⟨σ', σv', M', H', I, r⟩ := h; exact ⟨σ', σv', M', H', I.unwish, r⟩
  | cont => obtain ⟨σ', σv', M', H', I, r⟩ := h; exact ⟨σ', σv', M', H', I.unwish, r⟩
  | ret u => obtain ⟨d, v, σv', M', H', I, r⟩ := h; exact ⟨d, v, σv', M', H', I.unwish, r⟩
theorem px_of {t : TS3} (h : PS3 X.nox st t) : PX X st (fun T _ σ M => t T σ M) := fun pins s σv H σ M T xs I hS hM ht =>
  wpAny_mono (h pins s σv H σ M T (I.wish _) hS hM ht) (fun _ _ q => q.unwish) fun _ _ z => z.elim
def tXSeq (t u : TX3) : TX3 := fun T xs σ M => t { T with nx := u T xs } xs σ M
theorem pxs_cons (h1 : PX X st t) (h2 : PXs X rest u) : PXs X (st :: rest) (tXSeq t u) := by
  intro pins s σv H σ M T xs I hS hM h
  refine wpAny_execs_cons (thn (h1 pins s σv H σ M { T with nx := u T xs } xs I hS hM h) fun f s1 q => ?_)
  cases f with
  | next =>
    obtain ⟨σ', σv', M', H', I', st, m', r', q⟩ := q
    exact wpAny_mono (h2 pins s1 σv' H' σ' M' T xs I' r' m' q) (fun _ _ z => z.trans st) fun _ _ z => z.trans st
  | ret v => exact q
  | brk => exact q
  | cont => exact q
theorem pxs_one (h1 : PX X st t) : PXs X [st] t := by
  intro pins s σv H σ M T xs I hS hM h
  refine wpAny_execs_cons (thn (h1 pins s σv H σ M T xs I hS hM h) fun f s1 q => ?_)
  cases f with
  | next => exact wpAny_execs_nil q
  | ret v => exact q
  | brk => exact q
  | cont => exact q
theorem own_obj {K : PySem.W.Frag} {h : Heap} {C : Addr} {bmB : List Value} {newId : String} (X : K.In h) (q : PySem.W.excIn K C bmB newId = true) :
    ∃ bm N nm qn bs hdct sn sub ab col dd k0 k1 k2 k3 k5 mN, h.get? C = some (excClassObj nm qn C N bs bm hdct sn sub ab col dd k0 k1 k2 k3 k5 newId) ∧ h.Ns N mN ∧ mN "__init__" = none ∧ OwnTail h bmB bm := by
  unfold PySem.W.excIn at q
  split at q
  · rename_i dd cd sl ho
    split at q
    · rename_i C' bm k0 k1 k2 k3 n k5 hm hs
      simp only [Bool.and_eq_true, beq_iff_eq, Bool.not_eq_true'] at q
      obtain ⟨⟨⟨⟨⟨rfl, rfl⟩, hdel⟩, ht⟩, hok⟩, hni⟩ := q
      obtain ⟨nm, bs, mro, ns, qn, hd, sn, sub, ab, col, del⟩ := cd
      dsimp only at hm hdel hok hni
      subst hm hdel
      have hsl : sl = #[k0, k1, k2, k3, some (.builtin n), k5] := by
        obtain ⟨l⟩ := sl
        simp only at hs
        rw [hs]
      subst hsl
      exact ⟨bm, ns, nm, qn, bs, hd, sn, sub, ab, col, dd, k0, k1, k2, k3, k5, _, X _ _ ho, .of_isNs (PySem.W.isNs_of_in X hok), PySem.W.nsMap_none_of_in X hok hni, PySem.W.tail_of_in X ht⟩
    · cases q
  · cases q
def bmV : List Value := [.type "ValueError", .type "Exception", .type "BaseException", .type "object"]
def tXRaise (C : Addr) (ta : TA3) : TX3 := fun _ xs σ M => ta σ M fun ds M1 => ds.length ≤ 10 ∧ xs (.ref C) M1
theorem px_raise {x : Str} {C : Addr} {e : Expr} {es : List Expr} {ta : TA3} (hcalm : X.calm = true) (hg : Gl X x) (hm : X.mg x = some (.ref C)) (hq : PySem.W.excIn X.K C bmV "ValueError.__new__" = true) (ha : PA3 X.nox (e :: es) ta)
    (hdb : (x == ("__debug__" : Str)) = false := by decide) (he : starEach (e :: es) X.env = (false, eval e X.env) :: starEach es X.env := by rfl) (hpl : (backTo cpos (starEach es X.env)).any (·.1) = false := by rfl) :
    PX X (.Raise (some (.Call (.Name x np) (e :: es) [] cpos)) none pos) (tXRaise C ta) := by
  intro pins s σv H σ M T xs I hS hM h
  obtain ⟨tl, N, nm, q, bs, hdct, sn, sub, ab, col, dd, k0, k1, k2, k3, k5, mN, hC, hN, hni, TT⟩ := own_obj I.mod.kin hq
  refine wpAny_Raise_call_subT (C := C) (nm := nm) (q := q) (N := N) (bs := bs) (bm := tl) (hdct := hdct) (sn := sn) (sub := sub) (ab := ab) (col := col) (dd := dd) (k0 := k0) (k1 := k1) (k2 := k2) (k3 := k3) (k5 := k5)
    PySem.F.excBase_ValueError (mN := mN) (TT.hasType (by decide)) (I.ok.hd hcalm) (by rw [he]; show (false || (backTo cpos (starEach es X.env)).any (·.1)) = false; rw [hpl]; rfl) hni (ld_glob I hg hm ⟨rfl, ?_⟩ hdb)
  have ha' := ha cpos pins s σv H σ M _ (I.wish _) hS hM h
  rw [he] at ha' ⊢
  refine Calls.evalArgs_plain (wpAny_mono ha' (fun us s₂ h₂ => ?_) fun _ _ z => z.elim)
  obtain ⟨ds, vs, M1, H1, I1, st1, m1, r1, p1, hl, hx⟩ := h₂
  have I2 := I1.unwish
  have l1 := p1.length
  have l2 := r1.length
  refine ⟨rfl, ?_, I2.bk _ _ hC, hN.keeps I2.bk, TT.keeps I2.bk, fun h' ea hm' => ⟨pins, σv, M1, H1, s₂, ea, _, us, I2, st1, m1, rfl, hm', rfl, rfl, hx⟩⟩
  show us.length ≤ sizeLine
  have : (10 : Nat) ≤ sizeLine := by decide
  lia
end
abbrev SpX3 := List D → Mem → DK → XEnd → Prop
def dnSpX (K : PySem.W.Frag) (sp : SpX3) : Sp := fun vs H Q E => ∃ ds M Q3 E3, Reps K M H ds vs ∧ MRel K M H ∧ sp ds M Q3 E3 ∧ (∀ d v M' H', Step M H M' H' → MRel K M' H' → Rep K M' H' d v → Q3 d M' → Q v H') ∧ ∀ cls M' H', Step M H M' H' → MRel K M' H' → E3 cls M' → E cls none H'
section
variable {P : Program} {w : World} {K : PySem.W.Frag} {mg : Str → Option Value} {base : Heap}
theorem Fun.okX {x qual : Str} {st : Stmt} {f : Addr} {fd : FuncData} {N ps : List Str} {k : Nat} {sp : SpX3} (F : Fun K x qual st f fd) (S : FnScope N ps (defScope st)) (len : ∀ ds M Q E, sp ds M Q E → ds.length = ps.length)
    (hbody : ∀ (cdv : Value) (A : Around) (outer : List Env) (s : Shared) (H : Hp) (E : XK), Room k (A.deeper (envOfC qual (defScope st) s.heap.objs.size f cdv)) →
      ∃ t, PXs (cxOf (CXE P w) P w K mg base N qual (defScope st) f cdv A outer s H E) (defBody st) t ∧ ∀ ds M Q E3, sp ds M Q E3 → t { nx := fun _ M' => View Q .non M', rt := View Q } E3 (start3 N ds) M) :
    FnOk P w K mg base (CXE P w) (k + 1) f fd ps (dnSpX K sp) := by
  obtain ⟨oc, od, kV, doc, pm, an, cdv, ct, osl, rfl, lk, hcd⟩ := F.ex
  refine fn_of lk hcd S (fun vs H Q E ⟨ds, M, Q3, E3, r, _, h, _⟩ => by rw [← r.length]; exact len _ _ _ _ h) fun A outer s H vs Q E hr hx0 => ?_
  obtain ⟨ds, M, Q3, E3, r, m, h, q, qe⟩ := hx0
  obtain ⟨t, ht, hs⟩ := hbody cdv A outer s H E hr
  have fin : ∀ d v M' H', Step M H M' H' → MRel K M' H' → Rep K M' H' d v → View Q3 d M' → Q v H' := fun d v M' H' st m' r' hx0 => by
    obtain ⟨d2, M2, vs2, q2⟩ := hx0
    obtain ⟨m2, r2, s2⟩ := vs2 K H' v m' r'
    exact q d2 v M2 H' (st.less s2) m2 r2 q2
  refine ⟨fun D σ0 H0 => D = { nx := fun _ H' => Q .non H', rt := Q } ∧ σ0 = L2.start N vs ∧ H0 = H, ?_, rfl, rfl, rfl⟩
  rintro pins s1 _ _ _ I ⟨rfl, rfl, rfl⟩
  refine wpAny_mono (ht pins s1 _ _ (start3 N ds) M _ E3 I (start_rel r) m (hs ds M Q3 E3 h)) (fun f s' hq => ?_) fun e s' hq => ?_
  · cases f with
    | next => obtain ⟨σ', σv', M', H', I', st, m', _, z⟩ := hq; exact ⟨σv', H', I', fin .non .non M' H' st m' .non z⟩
    | brk => obtain ⟨_, _, _, _, _, _, _, _, z⟩ := hq; exact z.elim
    | cont => obtain ⟨_, _, _, _, _, _, _, _, z⟩ := hq; exact z.elim
    | ret u => obtain ⟨d, v, σv', M', H', I', st, m', rv, rp, z⟩ := hq; exact ⟨v, σv', H', I', rv, fin d v M' H' st m' rp z⟩
  · obtain ⟨pins', σv, M1, H1, s2, ea, cls, us, I', st', m', rfl, hx, ho, hg, z⟩ := hq
    exact leave_made I' hx ho hg (qe cls M1 H1 st' m' z)
end
end L3
namespace L2
open PySem PySem.Spec PyProof.Rows
theorem ObjOk.get {P : Program} {w : World} {H : Hp} {h : Heap} {a : Addr} {o : HO} (x : ObjOk P w H h a o) : ∃ u, h.get? a = some u := by
  cases o with
  | lst xs => obtain ⟨_, _, _, _, e⟩ := x; exact ⟨_, e⟩
  | tup xs => obtain ⟨_, _, _, u, e, _⟩ := x; exact ⟨u, e⟩
  | dK kvs => obtain ⟨_, _, _, _, o, _, _, e, _⟩ := x; exact ⟨_, e⟩
  | dT kvs => obtain ⟨_, _, _, _, o, _, _, e, _⟩ := x; exact ⟨_, e⟩
  | set S n => obtain ⟨o, _, _, _, e, _⟩ := x; exact ⟨_, e⟩
  | ins C dx fs => obtain ⟨_, _, _, e, _⟩ := x; exact ⟨_, e⟩
  | own y => exact x
  | xd fs => obtain ⟨_, ⟨_, _, _, e, _⟩, _⟩ := x; exact ⟨_, e⟩
  | rng lo hi => obtain ⟨_, _, _, e⟩ := x; exact ⟨_, e⟩
  | frz ob u => obtain ⟨e, _⟩ := x; exact ⟨_, e⟩
  | tbl ps => exact ⟨_, (show h.get? a = some _ from x)⟩
  | met f y => exact ⟨_, (show h.get? a = some _ from x)⟩
  | ext φ => exact x.2.1
section
variable {X : Cx} {pins : List (Addr × Obj)} {σ : St} {H H2 : Hp} {s s1 : Shared} {ea : Addr} {cls a0 : Value} {B h6 : Heap}
theorem Inv.caught (I : Inv X pins σ H s) (ho : s1.os = s.os) (hg : AllBare s1.gens) (fl : Heap.FlyingW B X.stack ea cls a0 s1.heap) (un : Un (frs X.stack) [] H H2 s.heap s1.heap)
    (hB : ∀ b o, s.heap.get? b = some o → b ∉ frs X.stack → ∃ o', B.get? b = some o' ∧ (H b = none → o' = o)) (hok : HOk X.prog X.w H2 B) (st : B.StaysIn h6) (sm : s1.heap.UpToSlots h6) (t : Nat) : Inv X pins σ H2 { s1 with heap := h6, toks := t } := by
  have sl : ∀ b ∈ frs X.stack, ∀ o, s1.heap.get? b = some o → ∃ sl, h6.get? b = some { o with slots := sl } := fun b hb o e => by
    obtain ⟨o', e', hd⟩ := frame_data fl.2.2.1 hb
    rw [e] at e'; cases e'
    exact sm b o e hd
  have un' : Un (frs X.stack) [] H H2 s.heap h6 := by
    refine ⟨fun b o e n hb _ => ?_, fun b o e n hb hx => ?_, un.free, fun b o e hx => ?_, un.tups, un.frzs, un.tbls⟩
    · obtain ⟨o', e', q⟩ := hB b o e hb
      rw [q n] at e'
      exact st b o e'
    · obtain ⟨s0, e1⟩ := un.slot b o e n hb hx
      obtain ⟨s0', e2⟩ := sl b hb _ e1
      exact ⟨s0', e2⟩
    · by_cases hb : b ∈ frs X.stack
      · obtain ⟨o', e1⟩ := un.there b o e hx
        obtain ⟨s0, e2⟩ := sl b hb o' e1
        exact ⟨_, e2⟩
      · obtain ⟨o', e', _⟩ := hB b o e hb
        exact ⟨o', st b o' e'⟩
  exact I.call' (s' := { s1 with heap := h6, toks := t }) (ch := []) ho un' (hok.kept st) hg fun _ z => nomatch z
theorem free_of (hok : HOk X.prog X.w H2 B) (hn : B.get? ea = none) : H2 ea = none := by
  cases e : H2 ea with
  | none => rfl
  | some o =>
    obtain ⟨u, e'⟩ := (hok ea o e).get
    rw [hn] at e'; cases e'
theorem unbind_ok {M : Model} {A : Around} {E : Value → Shared → Prop} {i : Nat} {x : Str} {pos : Pos} {Q : Unit → Shared → Prop} (I : Inv X pins σ H s) (hN : X.N.Nodup) (hi : X.N[i]? = some x) (hk : X.env.scope.names.lookup x = some .local)
    (h : ∀ s', Inv X pins (σ.set i none) H s' → Q () s') : wpAny M A (do bindName X.env x .none; unbindBehindTheSuite X.env x pos) Q E s := by
  have hcls : (X.env.scope.kind == .class || (X.env.scope.kind == .module && X.env.locals != X.env.globals)) = false := by rw [I.ok.kind]; rfl
  refine wpAny_bind (wpAny_bindName (store_ok I hN hi (.inl hk) (v := .non) rfl (fun s1 I1 => ?_) (.inr hk)))
  unfold unbindBehindTheSuite
  refine wpAny_onRaise ?_
  obtain ⟨m, hn, hl⟩ := id I1.loc
  have hiσ : i < σ.length := by rw [I.len]; exact (List.getElem?_eq_some_iff.mp hi).1
  have hm : ∃ u, m x = some u := by
    obtain ⟨u, _, q⟩ := hl i x .non hi (by rw [List.getElem?_set_self hiσ]) (.inl hk)
    rcases q with ⟨_, q⟩ | ⟨q, _⟩
    · exact ⟨u, q⟩
    · exfalso
      have e1 : X.env.kindOf x = some .local := hk
      rcases q with q | q <;> rw [e1] at q <;> cases q
  obtain ⟨u0, hu⟩ := hm
  refine wpAny_unbindName_local hk hn hu hcls fun h' u hn' hs => ?_
  have cne := I1.cne
  obtain ⟨oL, _, _, hoL, _⟩ := id hn
  refine h _ ⟨I1.ok, I1.os, I1.bare, ⟨fun b o e n hb hx => ?_, fun b o e n hb hx => ?_, I1.base.free, fun b o e hx => ?_, I1.base.tups, I1.base.frzs, I1.base.tbls⟩, ⟨_, hn', fun j y v' e1 e2 e3 => ?_⟩, fun y c e => ?_, I1.free, I1.freeC, fun p hp => ?_, fun b ob e => ?_, by simpa using I.len⟩
  · exact (hs.2 b (Nat.ne_of_lt (Nat.lt_of_lt_of_le (Heap.lt_size e) I1.ok.above))).trans (I1.base.keep b o e n hb hx)
  · obtain ⟨sl, e1⟩ := I1.base.slot b o e n hb hx
    exact ⟨sl, (hs.2 b (Nat.ne_of_lt (Nat.lt_of_lt_of_le (Heap.lt_size e) I1.ok.above))).trans e1⟩
  · obtain ⟨o', e1⟩ := I1.base.there b o e hx
    exact ⟨o', (hs.2 b (Nat.ne_of_lt (Nat.lt_of_lt_of_le (Heap.lt_size e) I1.ok.above))).trans e1⟩
  · by_cases hj : j = i
    · subst hj
      rw [List.getElem?_set_self hiσ] at e2
      cases e2
    · rw [List.getElem?_set_ne (Ne.symm hj)] at e2
      obtain ⟨u', r', q⟩ := hl j y v' e1 (by rw [List.getElem?_set_ne (Ne.symm hj)]; exact e2) e3
      refine ⟨u', r', ?_⟩
      rcases q with ⟨k, e⟩ | ⟨k, c, e, z⟩
      · refine .inl ⟨k, ?_⟩
        have : y ≠ x := fun e => hj (nodup_ix hN e1 (e ▸ hi))
        simp [this, e]
      · exact .inr ⟨k, c, e, z.sameBut hs (cne y c e)⟩
  · obtain ⟨w', z⟩ := I1.cell y c e
    exact ⟨w', z.sameBut hs (cne y c e)⟩
  · obtain ⟨e, n, ne, nf, d⟩ := I1.pin p hp
    exact ⟨(hs.2 p.1 ne).trans e, n, ne, nf, d⟩
  · have hfree := I1.free
    refine (I1.hok b ob e).stay (fun c w' hc q => (hs.2 c ?_).trans q) (fun _ q => q) fun _ _ q => q
    rintro rfl
    rcases hc with rfl | hc
    · rw [hfree] at e; cases e
    · rw [hfree] at hc; cases hc
end
end L2
namespace PySem.W
open PySem PySem.Spec PySem.Calls PyProof.Rows
section
variable {prog : Program} {w : World} {A : Around} {E : Value → Shared → Prop} {h : Heap} {g : Array GenState} {d : Drawn} {t : Nat} {os : OsState} {a C : Addr} {o : Obj} {K : Frag}
structure ExcK (K : Frag) (C : Addr) : Prop where
  ga : findIn K (.ref C) "__getattribute__" = some (some (.builtin "BaseException.__getattribute__"))
  gt : findIn K (.ref C) "__getattr__" = some none
  cl : findIn K (.ref C) "__class__" = some (some (.builtin "object.__class__"))
  sb : subIn K (.ref C) (.type "BaseException") = some true
  so : subIn K (.ref C) (.type "object") = some true
theorem class_get_exc {R : Result → Shared → Prop} (Z : ExcK K C) (X : K.In h) (hx : h.get? a = some o) (hc : o.cls = .ref C) (hq : R (.ok (.ret (.ref C))) ⟨h, g, d, t, os⟩) :
    codeAny (model prog w) A (.call (.builtin "getset_descriptor.__get__") ⟨[.builtin "object.__class__", .ref a, .ref C], []⟩) R ⟨h, g, d, t, os⟩ := by
  have hT5 : (⟨h, g, d, t, os⟩ : Shared).TypeIs (.builtin "object.__class__") "getset_descriptor" := F.typeOf_object_class
  have LS : Looks (model prog w) h (isSubtype (.ref C) (.type (".".intercalate ("object.__class__".cutAt '.').dropLast))) true := by
    rw [F.owner_object_class]; exact looks_subIn X Z.so
  refine codeAny_call_builtin F.slot_gs_get.plain F.entry_gs_get (F.slot_gs_get.check _ _ _ _ _ _ _ _ hT5 (F.args_gs_get _ _ _) ?_)
  repeat (any_goals (first | assumption | (with_reducible refine wpAny_loadPart_at hx ?_; rw [hc]) | with_reducible refine LS.at ?_ | wp_step))
  refine ⟨Code.quiet_builtin _ (by decide +kernel), codeAny_builtin F.entry_object_class ?_⟩
  repeat (any_goals (first | assumption | (with_reducible refine wpAny_loadPart_at hx ?_; rw [hc]) | wp_step))
theorem check_ga_exc {M : Model} {nameV : Value} {Q : Unit → Shared → Prop} (Z : ExcK K C) (X : K.In h) (hx : h.get? a = some o) (hc : o.cls = .ref C) (hq : Q () ⟨h, g, d, t, os⟩) : wpAny M A (checkBuiltinCall "BaseException.__getattribute__" ⟨[.ref a, nameV], []⟩) Q E ⟨h, g, d, t, os⟩ := by
  have hk : builtinKind "BaseException.__getattribute__" = some .slot := by decide +kernel
  have hsplit : splitId "BaseException.__getattribute__" = some ("BaseException", "__getattribute__") := by decide +kernel
  have LS : Looks M h (isSubtype (.ref C) (.type "BaseException")) true := looks_subIn X Z.sb
  have ha := F.args_bexc_ga (.ref a) nameV
  simp only [checkBuiltinCall, hk, hsplit]
  refine wpAny_bind ?_
  · unfold isInstance
    repeat (first | (with_reducible refine wpAny_loadPart_at hx ?_; rw [hc]) | with_reducible refine LS.at ?_ | wp_step)
    exact hq
theorem class_entry_exc {tk : Tok} {Q : Fin → Shared → Prop} (Z : ExcK K C) (X : K.In h) (hx : h.get? a = some o) (hc : o.cls = .ref C) (hq : Q (.done (.ret (.ref C))) ⟨h, g, d, t, os⟩) :
    wpAny (model prog w) A (Builtin.«object.__getattribute__» ⟨[.ref a, .str "__class__" tk], []⟩) Q E ⟨h, g, d, t, os⟩ := by
  have hT5 : (⟨h, g, d, t, os⟩ : Shared).TypeIs (.builtin "object.__class__") "getset_descriptor" := F.typeOf_object_class
  have f5 := F.typeOf_object_class
  have f6 := F.slot_gs_get.lookup
  have f7 := F.slot_gs_set.lookup
  have LC : Looks (model prog w) h (typeLookup (.ref C) "__class__") (some (.builtin "object.__class__")) := looks_findIn X Z.cl
  repeat (any_goals (first | assumption | (with_reducible refine wpAny_loadPart_at hx ?_; rw [hc]) | with_reducible refine LC.at ?_ | wp_step))
  refine class_get_exc Z X hx hc ?_
  repeat (any_goals (first | assumption | wp_step))
theorem class_call_exc {tk : Tok} {R : Result → Shared → Prop} (Z : ExcK K C) (X : K.In h) (hx : h.get? a = some o) (hc : o.cls = .ref C) (hq : R (.ok (.ret (.ref C))) ⟨h, g, d, t, os⟩) :
    codeAny (model prog w) A (.call (.builtin "BaseException.__getattribute__") ⟨[.ref a, .str "__class__" tk], []⟩) R ⟨h, g, d, t, os⟩ :=
  codeAny_call_builtin (by decide +kernel) F.entry_bexc_ga (check_ga_exc Z X hx hc (class_entry_exc Z X hx hc hq))
theorem class_by_exc {tk : Tok} {Q : Value → Shared → Prop} (Z : ExcK K C) (X : K.In h) (hx : h.get? a = some o) (hc : o.cls = .ref C) (f3 : bindSpecial (.builtin "BaseException.__getattribute__") (.ref a) = pure (.builtin "BaseException.__getattribute__", [.ref a])) (hq : Q (.ref C) ⟨h, g, d, t, os⟩) : wpAny (model prog w) A (getAttrBy (.ref a) (.str "__class__" tk) false) Q E ⟨h, g, d, t, os⟩ := by
  have hx2 : (Value.builtin "BaseException.__getattribute__" == Value.builtin "object.__getattribute__") = false := by decide +kernel
  have hx1 : (onTheHeap (Value.ref C) && Value.builtin "BaseException.__getattribute__" == Value.builtin "object.__getattribute__") = false := by rw [hx2]; rfl
  have L1 : Looks (model prog w) h (typeLookup (.ref C) "__getattribute__") (some (.builtin "BaseException.__getattribute__")) := looks_findIn X Z.ga
  have L2 : Looks (model prog w) h (typeLookup (.ref C) "__getattr__") none := looks_findIn X Z.gt
  repeat (any_goals (first | assumption | (with_reducible refine wpAny_loadPart_at hx ?_; rw [hc]) | with_reducible refine L1.at ?_ | with_reducible refine L2.at ?_ | wp_step))
  refine class_call_exc Z X hx hc ?_
  repeat (any_goals (first | assumption | wp_step))
theorem class_attr_exc {Q : Option Value → Shared → Prop} (Z : ExcK K C) (X : K.In h) (hx : h.get? a = some o) (hc : o.cls = .ref C) (hq : Q (some (.ref C)) ⟨h, g, d, t + 1, os⟩) : wpAny (model prog w) A (getAttr? (.ref a) "__class__") Q E ⟨h, g, d, t, os⟩ := by
  have f3 : bindSpecial (.builtin "BaseException.__getattribute__") (.ref a) = pure (.builtin "BaseException.__getattribute__", [.ref a]) := PySem.F.attr_ValueError.ga.bind (.ref a)
  unfold getAttr? getAttrBy?
  repeat (any_goals (first | assumption | with_reducible apply class_by_exc Z X hx hc f3 | wp_step))
theorem kitx_exc (Z : ExcK K C) (hcl : (clsIn K C).isSome = true) : KitX K (.ref a) (.ref C) (fun h => ∃ o, h.get? a = some o ∧ o.cls = .ref C) where
  ty := fun M h _ p => by obtain ⟨o, h1, h2⟩ := p; exact h2 ▸ (Looks.ld h1).andThen .now
  it := fun _ _ X _ => by
    unfold clsIn at hcl
    split at hcl
    · rename_i c' d' cd' sl' ho
      intro A' Q' E' s' k q
      unfold isType loadHead
      exact wpAny_bind (wpAny_loadPart (k _ _ (X _ _ ho)) (wpAny_pure q))
    · cases hcl
  ne := fun h tp dd its n sl X htp => by
    refine Bool.eq_false_iff.mpr fun q => ?_
    have e : C = tp := Value.ref.inj (beq_iff_eq.mp q)
    subst e
    unfold clsIn at hcl
    split at hcl
    · rename_i c' d' cd' sl' ho
      have z := (X _ _ ho).symm.trans htp
      cases z
    · cases hcl
  ca := fun {prog w A E Q s} X p k => by
    obtain ⟨o, h1, h2⟩ := p
    obtain ⟨h, g, d, t, os⟩ := s
    exact class_attr_exc Z X h1 h2 k
end
end PySem.W
namespace L2
open PySem PySem.Spec PyProof.Rows
abbrev Cx.pin1 (X : Cx) (p : Addr × Obj) : Cx := { X with pn := p :: X.pn }
section
variable {X : Cx} {pins : List (Addr × Obj)} {σ : St} {H : Hp} {s : Shared} {p : Addr × Obj}
theorem Cx.Ok.pin1 (ok : X.Ok) (p : Addr × Obj) : (X.pin1 p).Ok := ⟨ok.mod, ok.kind, ok.glob, ok.blt, ok.above, ok.inj, ok.has, ok.cab, ok.hd, ok.frames, ok.stk, ok.exf, ok.bs, ok.bsz, ok.noex, ok.exfs, ok.funs, ok.frf⟩
theorem Cx.Ok.unpin (ok : (X.pin1 p).Ok) : X.Ok := ⟨ok.mod, ok.kind, ok.glob, ok.blt, ok.above, ok.inj, ok.has, ok.cab, ok.hd, ok.frames, ok.stk, ok.exf, ok.bs, ok.bsz, ok.noex, ok.exfs, ok.funs, ok.frf⟩
theorem Inv.pin1 (I : Inv X pins σ H s) (hp : s.heap.get? p.1 = some p.2 ∧ H p.1 = none ∧ p.1 ≠ X.env.locals ∧ p.1 ∉ X.fs ∧ ∀ v, p.2.data ≠ .cell v) : Inv (X.pin1 p) pins σ H s :=
  ⟨I.ok.pin1 p, I.os, I.bare, I.base, I.loc, I.cell, I.free, I.freeC, fun q hq => by
    rcases List.mem_cons.mp (show q ∈ p :: (X.pn ++ pins) from hq) with rfl | hq
    · exact hp
    · exact I.pin q hq, I.hok, I.len⟩
theorem Inv.unpin (I : Inv (X.pin1 p) pins σ H s) : Inv X pins σ H s := ⟨I.ok.unpin, I.os, I.bare, I.base, I.loc, I.cell, I.free, I.freeC, fun q hq => I.pin q (List.mem_cons_of_mem _ hq), I.hok, I.len⟩
end
theorem ld_local {X : Cx} {A : Around} {pins : List (Addr × Obj)} {σ : St} {H : Hp} {s : Shared} {E : Value → Shared → Prop} {Q : Value → Shared → Prop} {i : Nat} {x : Str} {pos : Pos} {v : V} (I : Inv X pins σ H s) (hN : X.N[i]? = some x) (hk : X.env.scope.names.lookup x = some .local)
    (e : σ[i]? = some (some v)) (h : ∀ u, RelV v u → Q u s) (hd : (x == ("__debug__" : Str)) = false := by decide) : wpAny (model X.prog X.w) A (eval (.Name x pos) X.env) Q E s := by
  obtain ⟨m, hn, hl⟩ := I.loc
  obtain ⟨u, r, l⟩ := hl i x v hN e (.inl hk)
  rcases l with ⟨hk', hm⟩ | ⟨q, _⟩
  · exact wpAny_Name (wpAny_loadName_local I.ok.kind hk' hn hm (h u r)) hd
  · exfalso
    have e1 : X.env.kindOf x = some .local := hk
    rcases q with q | q <;> rw [e1] at q <;> cases q
theorem ld_globA {X : Cx} {A : Around} {E : Value → Shared → Prop} {pins : List (Addr × Obj)} {s : Shared} {σ : St} {H : Hp} {x : Str} {u : Value} {pos : Pos} {Q : Value → Shared → Prop} (I : Inv X pins σ H s) (hg : Gl X x) (hm : X.mg x = some u) (h : Q u s)
    (hd : (x == ("__debug__" : Str)) = false := by decide) : wpAny (model X.prog X.w) A (eval (.Name x pos) X.env) Q E s :=
  Calls.Name_function_global I.ok.kind hg (Calls.loadGlobal_global (by rw [I.ok.glob]; exact I.mod.glob.keeps I.bk) hm h) hd
end L2
namespace L3
open PySem PySem.Spec PyProof.Rows L2
theorem SRel.unset {K : PySem.W.Frag} {M : Mem} {H : Hp} {σ : Lo} {σv : L2.St} (r : SRel K M H σ σv) (i : Nat) : SRel K M H (σ.set i none) (σv.set i none) := by
  refine ⟨by simp [r.len], fun j d h => ?_⟩
  by_cases hij : i = j
  · subst hij
    rw [List.getElem?_set] at h
    rw [if_pos rfl] at h
    split at h <;> cases h
  · rw [List.getElem?_set_ne hij] at h ⊢
    exact r.get j d h
def TryEnd (X : Cx) (pins : List (Addr × Obj)) (σ : Lo) (M : Mem) (H : Hp) (j l : Nat) (T : Lo → Mem → Prop) (EX : Value → Mem → Prop) (s' : Shared) : Prop :=
  (∃ σ' σv' M' H', Inv X pins σv' H' s' ∧ Step M H M' H' ∧ MRel X.K M' H' ∧ SRel X.K M' H' σ' σv' ∧ T σ' M') ∨
  ∃ (ea : Addr) (oe : Obj) (σv' : L2.St) (M' : Mem) (H' : Hp), Inv (X.pin1 (ea, oe)) pins σv' H' s' ∧ Step M H M' H' ∧ MRel X.K M' H' ∧ SRel X.K M' H' ((σ.set j (some (.ref ea))).set l none) σv' ∧ EX oe.cls M'
section
variable {X : Cx} {k : Nat} {f C : Addr} {fd : FuncData} {ps : List Str} {sp : SpX3} {fx cx xi xj xl : Str} {i j l : Nat} {e : Expr} {es : List Expr} {ta : TA3} {p cp ap tp np hp pi pj pl ap2 : Pos}
theorem try_ok (hstk : X.stack = X.env :: X.outer) (hfr : X.env.frame = some X.env.locals)
    (F : FnOk X.prog X.w X.K X.mg X.base (CXE X.prog X.w) k f fd ps (dnSpX X.K sp)) (hr : Room k X.A) (hgf : Gl X fx) (hmf : X.mg fx = some (.ref f)) (hkf : PySem.W.keepIn X.K (.ref f) = true) (hb : Binds X.K fd ps [])
    (ha : PA3 X.nox (e :: es) ta) (hN : X.N.Nodup) (hi : X.N[i]? = some xi) (hxi : X.env.scope.names.lookup xi = some .local) (hj : X.N[j]? = some xj) (hxj : X.env.scope.names.lookup xj = some .local) (hl : X.N[l]? = some xl) (hxl : X.env.scope.names.lookup xl = some .local) (hjl : j ≠ l)
    (hgc : Gl X cx) (hmc : X.mg cx = some (.ref C)) (hdf : (fx == ("__debug__" : Str)) = false) (hdc : (cx == ("__debug__" : Str)) = false) (hdl : (xl == ("__debug__" : Str)) = false)
    (hst : starEach (e :: es) X.env = (false, eval e X.env) :: starEach es X.env) (hpl : (backTo cp (starEach es X.env)).any (·.1) = false)
    (hs1 : swapsWith (.Call (.Name fx p) (e :: es) [] cp) (some (.Name xi pi)) ap.line X.env = pure false) (hs2 : swapsWith (.Name xl pl) (some (.Name xj pj)) ap2.line X.env = pure false)
    {pins : List (Addr × Obj)} {s : Shared} {σv : L2.St} {H : Hp} {σ : Lo} {M : Mem} {T : Lo → Mem → Prop} {EX : Value → Mem → Prop} {E : Value → Shared → Prop} (I : Inv X pins σv H s) (hS : SRel X.K M H σ σv) (hM : MRel X.K M H)
    (h : ta σ M fun ds M1 => sp ds M1 (fun d M2 => T (σ.set i (some d)) M2) fun cls M2 => PySem.W.exmOne X.K cls (.ref C) = some true ∧ EX cls M2) :
    wpAny (model X.prog X.w) X.A (exec (.Try [.Assign [.Name xi pi] (.Call (.Name fx p) (e :: es) [] cp) ap] [.ExceptHandler (some (.Name cx np)) (some xl) [.Assign [.Name xj pj] (.Name xl pl) ap2] hp] [] [] tp) X.env)
      (fun fl s' => fl = .next ∧ TryEnd X pins σ M H j l T EX s') E s := by
  refine wpAny_Try_except (wpAny_execs_cons ?_)
  refine wpAny_Assign_Name (wpAny_Call_Name_kw (ld_glob I hgf hmf ?_ hdf)) hs1
  refine PySem.W.callWith_K (h₀ := X.base) I.ok.mod.kin hkf (wpAny_mono (ha cp pins s σv H σ M _ (I.wish _) hS hM h) (fun us s1 hx => ?_) fun _ _ z => z.elim) hst hpl
  obtain ⟨ds, vs, M1, H1, I1', st1, m1, r1, p1, q⟩ := hx
  have I1 := I1'.unwish
  refine ⟨I1.kIn, ?_⟩
  have hsp : dnSpX X.K sp vs H1 (fun v H2 => ∃ d M2, Step M H M2 H2 ∧ MRel X.K M2 H2 ∧ Rep X.K M2 H2 d v ∧ T (σ.set i (some d)) M2) (fun cls _ H2 => ∃ M2, Step M H M2 H2 ∧ MRel X.K M2 H2 ∧ PySem.W.exmOne X.K cls (.ref C) = some true ∧ EX cls M2) :=
    ⟨ds, M1, _, _, p1, m1, q, fun d v M' H' st m r q => ⟨d, M', st1.trans st, m, r, q⟩, fun cls M' H' st m q => ⟨M', st1.trans st, m, q⟩⟩
  have hlen : us.length = ps.length := by rw [← r1.length]; exact F.len _ _ _ _ hsp
  refine wpAny_call (codeAny_mono (F.run X.A X.stack s1 H1 ⟨us, []⟩ us vs _ _ hr I1.env0 (by have := hb s1 us I1.kIn (by simpa using hlen); simpa using this) r1 hsp) fun r s2 hq => ?_)
  cases r with
  | ok fl =>
    cases fl with
    | ret u =>
      obtain ⟨v, H2, I2, rv, d, M2, st2, m2, rp, t⟩ := I1.after hq
      refine store_ok I2 hN hi (.inl hxi) rv (fun s3 I3 => ?_) (.inr hxi)
      refine wpAny_execs_nil (wpAny_execs_nil ⟨rfl, .inl ⟨_, _, M2, H2, I3, st2, m2, (hS.mono st2).set rp i, t⟩⟩)
    | next => exact False.elim hq
    | brk => exact False.elim hq
    | cont => exact False.elim hq
  | error ex =>
    obtain ⟨ea, cls, a0, H2, B, rfl, ho, hg, fl, un, hB, hok, M2, st2, m2, hx, hex⟩ := hq
    have fl' := fl
    rw [hstk] at fl'
    have frm := I1.ok.frames
    rw [hstk] at frm
    refine wpAny_looks_onW frm hfr fl' fun h4 held4 sm4 => ?_
    refine wpAny_landsW held4 fun h5 fl5 sm5' => ?_
    have sm5 := sm4.trans sm5'
    have kin5 : X.K.In h5 := I1.caught ho hg fl un hB hok fl5.1 sm5 s2.toks |>.kIn
    obtain ⟨ob, hob, hobc⟩ := fl5.there
    refine wpAny_handleBy_cons (codeAny_handlers_test ?_) (by intro q; cases q)
    have I5 : Inv X pins σv H2 { s2 with heap := h5, toks := s2.toks } := I1.caught ho hg fl un hB hok fl5.1 sm5 s2.toks
    refine ld_globA (A := X.A.mark (some (.ref ea))) I5 hgc hmc ?_ hdc
    have LT : PySem.W.Looks (model X.prog X.w) h5 (typeOf (.ref ea)) cls := hobc ▸ (PySem.W.Looks.ld hob).andThen .now
    refine (PySem.W.exm_one kin5 LT hx).at ?_
    refine codeAny_handlers_suite_as ?_
    refine lands_againW fl5 fun h6 fl6 sm6' => ?_
    have sm6 := sm5.trans sm6'
    have I6 : Inv X pins σv H2 { s2 with heap := h6, toks := s2.toks } := I1.caught ho hg fl un hB hok fl6.1 sm6 s2.toks
    obtain ⟨oe, ws, hoe, hoec, hoed, _⟩ := fl6.first
    have nfr : ea ∉ frs X.stack := fun z => by
      obtain ⟨o', e', hd⟩ := frame_data fl6.2.2.1 (by rw [← hstk]; exact z)
      rw [hoe] at e'; cases e'
      exact hd ws hoed
    have hpin : h6.get? ea = some oe ∧ H2 ea = none ∧ ea ≠ X.env.locals ∧ ea ∉ X.fs ∧ ∀ v, oe.data ≠ .cell v := by
      refine ⟨hoe, free_of hok fl6.2.1, fun z => nfr ?_, fun z => nfr ?_, fun v z => ?_⟩
      · rw [hstk]; unfold frs; rw [List.filterMap_cons, hfr, z]; exact List.mem_cons_self
      · rw [hstk]; unfold frs; rw [List.filterMap_cons, hfr]; exact List.mem_cons_of_mem _ z
      · rw [hoed] at z; cases z
    have I7 := I6.pin1 (p := (ea, oe)) hpin
    refine store_ok (X := X.pin1 (ea, oe)) I7 hN hl (.inl hxl) (v := .ref ea) rfl (fun s8 I8 => ?_) (.inr hxl)
    have hlσ : l < σv.length := by rw [I.len]; exact (List.getElem?_eq_some_iff.mp hl).1
    refine wpAny_execs_cons (wpAny_Assign_Name (ld_local (X := X.pin1 (ea, oe)) I8 hl hxl (v := .ref ea) (by rw [List.getElem?_set_self hlσ]) (fun u ru => ?_) hdl) hs2)
    refine store_ok (X := X.pin1 (ea, oe)) I8 hN hj (.inl hxj) ru (fun s9 I9 => ?_) (.inr hxj)
    refine wpAny_execs_nil ?_
    refine unbind_ok (X := X.pin1 (ea, oe)) I9 hN hl hxl fun s10 I10 => ?_
    refine ⟨rfl, .inr ⟨ea, oe, _, M2, H2, I10, st2, m2, ?_, by rw [hoec]; exact hex⟩⟩
    have e1 : ((σv.set l (some (.ref ea))).set j (some (.ref ea))).set l none = (σv.set j (some (.ref ea))).set l none := by
      apply List.ext_getElem?
      intro n
      by_cases hn : l = n
      · subst hn; simp [List.getElem?_set]
      · rw [List.getElem?_set_ne hn, List.getElem?_set_ne hn]
        by_cases hn2 : j = n
        · subst hn2; simp [List.getElem?_set]
        · rw [List.getElem?_set_ne hn2, List.getElem?_set_ne hn2, List.getElem?_set_ne hn]
    rw [e1]
    exact ((hS.mono st2).set .ref j).unset l
end
end L3
namespace PySem.SeqAt
theorem RcAt.str_dict {A : Around} {s : Shared} {l : Addr} {o : Obj} {es : Array DictEntry} {n : Nat} (b : Str) (u : Tok) (ho : s.heap.get? l = some o) (hc : o.cls = .type "dict") (hd : o.data = .dict es n) (hu : A.units < cLine) : RcAt A s (.str b u) (.ref l) false := fun prog w E Q h => by
  obtain ⟨cls, dd, data, sl⟩ := o
  simp only at hc hd
  subst hc hd
  exact rc_eq_decline_or (k := false) (typeIs_str s b u) ⟨_, ho, rfl⟩ (by decide) F.sub_dict_str F.slot_str_eq F.slot_dict_eq_refl
    (fun _ hq => call_meets F.slot_str_eq (typeIs_str s b u) F.entry_str_eq (F.args_str_eq_2 _ _) (str_eq_declines_dict b u l es n dd sl) ⟨ho, hq⟩)
    (fun _ hq => call_meets F.slot_dict_eq_refl ⟨_, ho, rfl⟩ F.entry_dict_eq (F.args_dict_eq_2 _ _) (dict_eq_declines_str l es n dd sl b u) ⟨ho, hq⟩)
    (fun _ hq => wpAny_of_eq (rfl : isSame (.str b u) (.ref l) = pure false) hq) (.inr hu) h
end PySem.SeqAt
namespace L3
open PySem PySem.Spec PyProof.Rows L2
section
variable {X : Cx} {pos : Pos}
def rEqF3 : R3 := fun x y M Q => rEqE3 x y M Q ∨ ∃ kvs z, x = .str z ∧ y = .dct kvs ∧ Q (.bl false) M
theorem o3_eqF {k : Nat} (hr : Room k X.A) : OpR3 X (compareOp .Eq) rEqF3 := by
  intro pins s σv H M x y xv yv v u Q I m rx ry px py h
  rcases h with h | ⟨kvs, z, rfl, rfl, q⟩
  · exact o3_eqE hr pins s σv H M x y xv yv v u Q I m rx ry px py h
  · cases px
    obtain ⟨t, rfl⟩ := rx
    cases py with
    | dct hx r =>
      cases ry
      obtain ⟨_, _, us, _, o, es, ep, h1, h2, h3, _⟩ := dk_rd I.hok hx.1
      exact SeqAt.RcAt.str_dict z t h1 h2.1 h3 (by have := hr.units; lia) X.prog X.w X.xe _ ⟨_, .bl _, M, H, I, .refl, m, rfl, .bl, q⟩
def clsV : D → Option Value
  | .ref a => some (.ref a)
  | .ty n => some (.type n)
  | _ => none
theorem rep_cls {K : PySem.W.Frag} {M : Mem} {H : Hp} {d : D} {v : V} {u c : Value} (e : clsV d = some c) (p : Rep K M H d v) (r : RelV v u) : u = c := by
  cases d <;> first | cases e | skip
  · cases p; exact r
  · cases p; exact r
theorem reps_cls {K : PySem.W.Frag} {M : Mem} {H : Hp} : ∀ {ds : List D} {vs : List V} {us cs : List Value}, ds.map clsV = cs.map some → Reps K M H ds vs → Vals vs us → us = cs
  | [], _, _, cs, e, .nil, r => by cases r; cases cs with | nil => rfl | cons _ _ => cases e
  | d :: ds, _, _, cs, e, .cons p ps, r => by
    cases r with
    | cons r rs =>
      cases cs with
      | nil => cases e
      | cons c cs =>
        rw [List.map_cons, List.map_cons, List.cons.injEq] at e
        rw [rep_cls e.1 p r, reps_cls e.2 ps rs]
def rIsiP (K : PySem.W.Frag) (ea : Addr) (oe : Obj) : C3 := fun ds M Q => ∃ (C : Addr) (b : Bool), oe.cls = .ref C ∧ PySem.W.ExcK K C ∧ (PySem.W.clsIn K C).isSome = true ∧
  ((∃ c u, ds = [.ref ea, c] ∧ clsV c = some u ∧ PySem.W.kitOne K (.ref C) u = some b) ∨ ∃ cs us, ds = [.ref ea, .tup cs] ∧ cs.map clsV = us.map some ∧ PySem.W.kitAny K (.ref C) us = some b) ∧ Q (.bl b) M
theorem c3_isiP {ea : Addr} {oe : Obj} (hp : (ea, oe) ∈ X.pn) : CallR3 X (.builtin "isinstance") (rIsiP X.K ea oe) := by
  rintro pins s σv H M xs xvs us Q I m rv px ⟨C, b, hc, Z, hcl, h, q⟩
  have pin := (I.pin (ea, oe) (List.mem_append_left _ hp)).1
  have kx : PySem.W.KitX X.K (.ref ea) (.ref C) (fun h => ∃ o, h.get? ea = some o ∧ o.cls = .ref C) := PySem.W.kitx_exc Z hcl
  rcases h with ⟨c, u, rfl, e, hk⟩ | ⟨cs, us', rfl, e, hk⟩
  · obtain ⟨u1, u2, rfl, r1, r2⟩ : ∃ u1 u2, us = [u1, u2] ∧ u1 = .ref ea ∧ u2 = u := by
      rcases px with _ | ⟨p1, ps⟩
      rcases ps with _ | ⟨p2, ps2⟩
      cases ps2
      obtain ⟨u1, u2, rfl, ra, rb⟩ := vals2 rv
      cases p1
      exact ⟨u1, u2, rfl, ra, rep_cls e p2 rb⟩
    subst r1 r2
    exact PySem.W.kia_one kx I.kIn ⟨oe, pin, hc⟩ hk (fun z => nomatch z) fun tk => ⟨_, .bl _, M, H, I.tok tk, .refl, m, rfl, .bl, q⟩
  · rcases px with _ | ⟨p1, ps⟩
    rcases ps with _ | ⟨p2, ps2⟩
    cases ps2
    obtain ⟨u1, u2, rfl, ra, rb⟩ := vals2 rv
    cases p1
    obtain rfl : u1 = .ref ea := ra
    cases p2 with
    | tup h1 r1 =>
      cases rb
      obtain ⟨its, ri, ⟨⟨c0, dd, dt, sl⟩, ho, hcls, n, hd⟩, hz⟩ := I.tuple (SqT.of3 h1)
      simp only at hcls hd
      subst hcls hd
      have e2 := reps_cls e r1 ri
      subst e2
      exact PySem.W.kia_tup kx I.kIn ⟨oe, pin, hc⟩ ho hk (fun z => nomatch z) fun tk => ⟨_, .bl _, M, H, I.tok tk, .refl, m, rfl, .bl, q⟩
def rUpper3 : M3 := fun x xs M Q => ∃ z, x = .str z ∧ xs = [] ∧ z.length ≤ 1000 ∧ Q (.str (Txt.upper z)) M
theorem m3_upper : MtR3 X "str.upper" rUpper3 := by
  rintro pins s σv H M x xs xv xvs v us Q I m rv rvs px pxs ⟨z, rfl, rfl, hz, q⟩
  cases pxs
  cases rvs
  cases px
  obtain ⟨t, rfl⟩ := rv
  have hl := len_upper z
  exact SC.upper (show decide ((Txt.upper z).length > sizeLine) = false from decide_eq_false (by rw [sizeLine_eq]; lia)) ⟨_, .str _, M, H, I.tok _, .refl, m, ⟨_, rfl⟩, .str, q⟩
theorem SP3.unpin {p : Addr × Obj} {pins : List (Addr × Obj)} {M : Mem} {H : Hp} {T : Ends3} {f : Flow} {s' : Shared} (h : SP3 (X.pin1 p) pins M H T f s') : SP3 X pins M H T f s' := by
  cases f with
  | next => obtain ⟨σ', σv', M', H', I, r⟩ := h; exact ⟨σ', σv', M', H', I.unpin, r⟩
  | brk => obtain ⟨σ', σv', M', H', I, r⟩ := h; exact ⟨σ', σv', M', H', I.unpin, r⟩
  | cont => obtain ⟨σ', σv', M', H', I, r⟩ := h; exact ⟨σ', σv', M', H', I.unpin, r⟩
  | ret u => obtain ⟨d, v, σv', M', H', I, r⟩ := h; exact ⟨d, v, σv', M', H', I.unpin, r⟩
def tTry (K : PySem.W.Frag) (C : Addr) (sp : SpX3) (ta : TA3) (i j l : Nat) (tN : TS3) (tE : Addr → Obj → TS3) : TS3 := fun T σ M => ta σ M fun ds M1 => sp ds M1 (fun d M2 => tN T (σ.set i (some d)) M2) fun cls M2 => PySem.W.exmOne K cls (.ref C) = some true ∧ ∀ (ea : Addr) (oe : Obj), oe.cls = cls → tE ea oe T ((σ.set j (some (.ref ea))).set l none) M2
theorem pss3_try {k : Nat} {f C : Addr} {fd : FuncData} {ps : List Str} {sp : SpX3} {fx cx xi xj xl : Str} {i j l : Nat} {e : Expr} {es : List Expr} {ta : TA3} {p cp ap tp np hp pi pj pl ap2 : Pos} {rest : List Stmt} {tN : TS3} {tE : Addr → Obj → TS3}
    (hstk : X.stack = X.env :: X.outer) (hfr : X.env.frame = some X.env.locals)
    (F : FnOk X.prog X.w X.K X.mg X.base (CXE X.prog X.w) k f fd ps (dnSpX X.K sp)) (hr : Room k X.A) (hgf : Gl X fx) (hmf : X.mg fx = some (.ref f)) (hkf : PySem.W.keepIn X.K (.ref f) = true) (hb : Binds X.K fd ps [])
    (ha : PA3 X.nox (e :: es) ta) (hN : X.N.Nodup) (hi : X.N[i]? = some xi) (hxi : X.env.scope.names.lookup xi = some .local) (hj : X.N[j]? = some xj) (hxj : X.env.scope.names.lookup xj = some .local) (hl : X.N[l]? = some xl) (hxl : X.env.scope.names.lookup xl = some .local) (hjl : j ≠ l)
    (hgc : Gl X cx) (hmc : X.mg cx = some (.ref C)) (hRN : PSs3 X rest tN) (hRE : ∀ ea oe, PSs3 (X.pin1 (ea, oe)) rest (tE ea oe)) (hdf : (fx == ("__debug__" : Str)) = false := by decide) (hdc : (cx == ("__debug__" : Str)) = false := by decide) (hdl : (xl == ("__debug__" : Str)) = false := by decide)
    (hst : starEach (e :: es) X.env = (false, eval e X.env) :: starEach es X.env := by rfl) (hpl : (backTo cp (starEach es X.env)).any (·.1) = false := by rfl)
    (hs1 : swapsWith (.Call (.Name fx p) (e :: es) [] cp) (some (.Name xi pi)) ap.line X.env = pure false := by rfl) (hs2 : swapsWith (.Name xl pl) (some (.Name xj pj)) ap2.line X.env = pure false := by rfl) :
    PSs3 X (.Try [.Assign [.Name xi pi] (.Call (.Name fx p) (e :: es) [] cp) ap] [.ExceptHandler (some (.Name cx np)) (some xl) [.Assign [.Name xj pj] (.Name xl pl) ap2] hp] [] [] tp :: rest) (tTry X.K C sp ta i j l tN tE) := by
  intro pins s σv H σ M T I hS hM h
  refine wpAny_execs_cons (wpAny_mono (try_ok hstk hfr F hr hgf hmf hkf hb ha hN hi hxi hj hxj hl hxl hjl hgc hmc hdf hdc hdl hst hpl hs1 hs2 (T := fun σ' M' => tN T σ' M') (EX := fun cls M2 => ∀ (ea : Addr) (oe : Obj), oe.cls = cls → tE ea oe T ((σ.set j (some (.ref ea))).set l none) M2) (E := X.xe) I hS hM h) (fun fl s1 hq => ?_) fun _ _ z => z)
  obtain ⟨rfl, hq | hq⟩ := hq
  · obtain ⟨σ', σv', M', H', I', st, m', r', q⟩ := hq
    exact thn (hRN pins s1 σv' H' σ' M' T I' r' m' q) fun _ _ z => z.trans st
  · obtain ⟨ea, oe, σv', M', H', I', st, m', r', q⟩ := hq
    exact thn (hRE ea oe pins s1 σv' H' _ M' T I' r' m' (q ea oe rfl)) fun _ _ z => (SP3.unpin z).trans st
def tStop3 : TS3 := fun _ _ _ => False
theorem pss3_stop {sts : List Stmt} : PSs3 X sts tStop3 := fun _ _ _ _ _ _ _ _ _ _ h => h.elim
theorem pe3_cls {x : Str} {C : Addr} (hg : Gl X x) (hm : X.mg x = some (.ref C)) (hd : (x == ("__debug__" : Str)) = false := by decide) : PE3 X (.Name x pos) (tC3 (.ref C)) := pe3_c (pe_glob hg hm (v := .ref C) rfl hd) fun _ _ _ => .ref
theorem pe3_compBE {elt tg iter : Expr} {ifs : List Expr} {scope : Scope} (tns caps : List Str) (slots : List Nat) {ti : TI3} {g : TG3} {tt : TT3} {te : TE3}
    (hc : X.calm = true) (hi : PI3E X tg iter ti) (hkind : scope.kind = .function) (hok : compOk X.env scope caps = true) (hcaps : slots.map (fun j => X.N[j]?) = caps.map some)
    (hgk : ∀ d M Q (cs : Lo), g d (List.replicate tns.length none ++ cs) M Q → g d (List.replicate tns.length none ++ cs) M (fun σ' M' => σ'.drop tns.length = cs ∧ Q σ' M'))
    (hg : ∀ cl s₀ H₀ ex, PG3 (compCx X scope cl s₀ H₀ ex (tns ++ caps)) tg g)
    (ht : ∀ cl s₀ H₀ ex, PIfs (compCx X scope cl s₀ H₀ ex (tns ++ caps)) ifs tt) (he : ∀ cl s₀ H₀ ex, PE3 (compCx X scope cl s₀ H₀ ex (tns ++ caps)) elt te)
    (hs : ∀ y, foldedSetIterable iter X.env y = pure y := by intro _; rfl) :
    PE3 X (.ListComp elt [⟨tg, iter, ifs, 0⟩] scope pos) (tComp3 ti tns.length slots g tt te) := by
  unfold compOk at hok
  rw [Bool.and_eq_true, List.all_eq_true, List.all_eq_true] at hok
  obtain ⟨h1, h2⟩ := hok
  refine pe3_compE hc hi hkind (fun y hy e => ?_) (fun y hy e => ?_) (fun y hy e => ?_) (fun y hy => ?_) hcaps hgk hg ht he hs
  · have := h1 y hy; rw [e] at this; cases this
  · have := h1 y hy
    rw [e] at this
    dsimp only at this
    split at this
    · assumption
    · cases this
  · have := h1 y hy
    rw [e] at this
    dsimp only at this
    split at this
    · exact .inl (by assumption)
    · exact .inr (by assumption)
    · cases this
  · have := h2 y hy
    split at this
    · assumption
    · cases this
end
end L3
namespace MK
open PySem L2 L3
def ltr (x : Str) : Prop := ∀ c ∈ x.cps.toList, 97 ≤ c ∧ c ≤ 122
def spLetters : Sp3 := fun ds M Q => ∃ p b, ∃ n : Int, ds = [.ref p, .int n] ∧ Pen M p b ∧ b + 12 < 2 ^ 30 ∧ 0 ≤ n ∧ n ≤ 10 ∧ ∀ x M', ltr x → (x.length : Int) = n → Pen M' p (b + 10) → Same3 p M M' → Q (.str x) M'
end MK
namespace MK
open PySem L2 L3
abbrev N__law_pen : List Str := ["_law_script"]
def t__law_pen : TS3 :=
    (tRet3 (tDispM3 [((tC3 (.str "cells")), (tCB3 rList3 (tCons3 (tSl3 (tVar3 0) tNoPart3 (tPart3 (tC3 (.int 63)))) tNil3))), ((tC3 (.str "at")), (tC3 (.int 0))), ((tC3 (.str "left")), (tC3 (.int 0)))]))
abbrev N__law_draw : List Str := ["_law_pen_here", "_law_many", "_law_digit", "_law_cells", "_law_at", "_law_cell", "_law_number"]
def t__law_draw : TS3 :=
    (tSeq3 (tIfS3 (tTest3 (tOp3 rGt3 (tOp3 rDGet3 (tVar3 0) (tC3 (.str "left"))) (tC3 (.int 0)))) (tSeq3 (tSet3 2 (tOp3 rMod3 (tOp3 rDGet3 (tVar3 0) (tC3 (.str "left"))) (tVar3 1)))
    (tSeq3 (tDPut3 (tVar3 0) (tC3 (.str "left")) (tOp3 rFdiv3 (tOp3 rDGet3 (tVar3 0) (tC3 (.str "left"))) (tVar3 1)))
    (tRet3 (tVar3 2)))) tNext3)
    (tSeq3 (tSet3 3 (tOp3 rDGet3 (tVar3 0) (tC3 (.str "cells"))))
    (tSeq3 (tSet3 4 (tOp3 rDGet3 (tVar3 0) (tC3 (.str "at"))))
    (tSeq3 (tDPut3 (tVar3 0) (tC3 (.str "at")) (tOp3 rAdd3 (tVar3 4) (tC3 (.int 1))))
    (tSeq3 (tSet3 5 (tOp3 rAdd3 (tOp3 rMul3 (tC3 (.int 30011)) (tVar3 4)) (tC3 (.int 77))))
    (tSeq3 (tIfS3 (tTest3 (tOp3 rNe3 (tVar3 3) (tLst3 tNil3))) (tSet3 5 (tOp3 rIx3 (tVar3 3) (tOp3 rMod3 (tVar3 4) (tCB3 rLen3 (tCons3 (tVar3 3) tNil3))))) tNext3)
    (tSeq3 (tIfS3 (tAnd3 (tTest3 (tOp3 rLt3 (tVar3 4) (tCB3 rLen3 (tCons3 (tVar3 3) tNil3)))) (tTest3 (tOp3 rGe3 (tCB3 rAbs3 (tCons3 (tVar3 5) tNil3)) (tOp3 rPow3 (tC3 (.int 10)) (tC3 (.int 18)))))) (tSeq3 (tDPut3 (tVar3 0) (tC3 (.str "left")) (tOp3 rFdiv3 (tCB3 rAbs3 (tCons3 (tVar3 5) tNil3)) (tVar3 1)))
    (tRet3 (tOp3 rMod3 (tCB3 rAbs3 (tCons3 (tVar3 5) tNil3)) (tVar3 1)))) tNext3)
    (tSeq3 (tSet3 6 (tOp3 rMod3 (tOp3 rPow3 (tOp3 rAdd3 (tOp3 rAdd3 (tOp3 rMod3 (tVar3 5) (tC3 (.int 2147483587))) (tOp3 rMul3 (tC3 (.int 50021)) (tVar3 4))) (tC3 (.int 29))) (tC3 (.int 5))) (tC3 (.int 2147483629))))
    (tSeq3 (tSet3 6 (tOp3 rMod3 (tOp3 rPow3 (tOp3 rAdd3 (tOp3 rMul3 (tVar3 6) (tOp3 rAdd3 (tOp3 rMul3 (tC3 (.int 2)) (tVar3 4)) (tC3 (.int 5)))) (tC3 (.int 81799))) (tC3 (.int 3))) (tC3 (.int 2147483647))))
    (tRet3 (tOp3 rMod3 (tOp3 rFdiv3 (tVar3 6) (tC3 (.int 16))) (tVar3 1))))))))))))
abbrev N__law_letters : List Str := ["_law_pen_here", "_law_size"]
def t__law_letters : TS3 :=
    (tRet3 (tBM3 "str" rJoin3 (tC3 (.str "")) (tCons3 (tComp3 (iRng3 (tCons3 (tVar3 1) tNil3)) 1 [0] (gName3 0) tTrue3 (tOp3 rIx3 (tC3 (.str "abcdefghijklmnopqrstuvwxyz")) (tCall3 spDraw (tCons3 (tVar3 1) (tCons3 (tC3 (.int 26)) tNil3))))) tNil3)))
theorem st__law_letters (d0 d1 : D) : start3 N__law_letters [d0, d1] = [some d0, some d1] := rfl
end MK
open L3
local macro_rules | `(tactic| walk_at "rd") => `(tactic| repeat (first | with_reducible refine rd_seq ?_ | with_reducible refine rd_ifs ?_ | with_reducible refine rd_test ?_ | with_reducible refine rd_op ?_ | with_reducible refine rd_un ?_ | with_reducible refine rd_c ?_ | with_reducible refine rd_ret ?_ | with_reducible refine rd_set ?_ | with_reducible refine rd_drop ?_ | with_reducible refine rd_next ?_ | with_reducible refine rd_call ?_ | with_reducible refine rd_cb ?_ | with_reducible refine rd_nil ?_ | with_reducible refine rd_cons ?_ | with_reducible refine rd_tupE ?_ | with_reducible refine rd_lstE ?_ | with_reducible refine rd_and ?_ | with_reducible refine rd_or ?_ | with_reducible refine rd_not ?_ | with_reducible refine rd_andV ?_ | with_reducible refine rd_orV ?_ | with_reducible refine rd_notV ?_ | with_reducible refine rd_if3 ?_ | with_reducible refine rd_chain ?_ | with_reducible refine rd_sl ?_ | with_reducible refine rd_np ?_ | with_reducible refine rd_part ?_ | with_reducible refine rd_bl ?_ | with_reducible refine rd_iteT ?_ | with_reducible refine rd_iteF ?_ | with_reducible refine rd_iteNT ?_ | with_reducible refine rd_iteNF ?_ | with_reducible refine rd_I0 ?_ | with_reducible refine rd_U ?_ | with_reducible refine rd_addI ?_ | with_reducible refine rd_lenL ?_ | with_reducible refine rd_lenT ?_ | with_reducible refine rd_abs ?_ | with_reducible refine rd_intI ?_ | with_reducible refine rd_intB ?_ | with_reducible refine rd_listL ?_ | with_reducible refine rd_listT ?_ | with_reducible refine rd_slL ?_ | with_reducible refine rd_isN ?_ | with_reducible refine rd_isntN ?_ | with_reducible refine rd_asg ?_ | with_reducible refine rd_gName ?_ | with_reducible refine rd_true ?_ | with_reducible refine rd_bm ?_ | with_reducible refine rd_slA ?_ | with_reducible refine rd_slAL ?_ | with_reducible refine rd_intTI ?_ | with_reducible refine rd_intTB ?_ | with_reducible refine rd_join3 ?_ | with_reducible refine rd_parts ?_ | with_reducible refine rd_fmt ?_ | with_reducible refine rd_lstM ?_ | with_reducible refine rd_minI ?_ | with_reducible refine rd_tupL ?_ | with_reducible refine rd_tupT ?_ | with_reducible refine rd_addI ?_ | with_reducible refine rd_comp ?_ | with_reducible refine rd_forG ?_ | with_reducible refine rd_iStr ?_ | with_reducible refine rd_iTup ?_ | with_reducible refine rd_iList ?_ | with_reducible refine rd_onStr ?_ | with_reducible refine rd_onTup ?_ | with_reducible refine rd_onLst ?_ | with_reducible refine rd_eqI ?_ | with_reducible refine rd_neI ?_ | with_reducible refine rd_eqB ?_ | with_reducible refine rd_neB ?_ | with_reducible refine rd_eqS ?_ | with_reducible refine rd_neS ?_ | with_reducible refine rd_for ?_ | with_reducible refine rd_rng ?_ | ((with_reducible show tVar3 _ _ _ _); refine rd_var rfl ?_) | ((with_reducible show _ ∧ _); refine ⟨(by first | decide | (simp only [List.length_cons, List.length_nil]; decide)), ?_⟩)))
namespace MK
open PySem L2 L3
theorem len__law_pen : ∀ ds M Q, spPen ds M Q → ds.length = 1 := by rintro _ _ _ ⟨_, rfl, _⟩; rfl
theorem rd__law_pen : ∀ ds M Q, spPen ds M Q → t__law_pen { nx := fun _ M' => View Q .non M', rt := View Q } (start3 N__law_pen ds) M := by
  intro ds M Q h
  obtain ⟨d, rfl⟩ : ∃ d, ds = [d] := by obtain ⟨ns, rfl, _⟩ := h; exact ⟨_, rfl⟩
  exact rd_pen h d rfl _
theorem len__law_draw : ∀ ds M Q, spDraw ds M Q → ds.length = 2 := by rintro _ _ _ ⟨_, _, _, rfl, _⟩; rfl
theorem rd__law_draw : ∀ ds M Q, spDraw ds M Q → t__law_draw { nx := fun _ M' => View Q .non M', rt := View Q } (start3 N__law_draw ds) M := by
  intro ds M Q h
  obtain ⟨d0, d1, rfl⟩ : ∃ d0 d1, ds = [d0, d1] := by obtain ⟨_, _, _, rfl, _⟩ := h; exact ⟨_, _, rfl⟩
  exact rd_draw h d0 d1 rfl _
def abc : Str := "abcdefghijklmnopqrstuvwxyz"
theorem abc_at {n : Int} (h0 : 0 ≤ n) (h1 : n < 26) : ∃ c, atI abc.cps.toList n = some c ∧ 97 ≤ c ∧ c ≤ 122 := by
  have e : abc.cps.toList = (List.range 26).map (· + 97) := by decide +kernel
  obtain ⟨c, hc, hm⟩ := atI_mem (ds := abc.cps.toList) h0 (by rw [e]; simpa using h1)
  refine ⟨c, hc, ?_⟩
  rw [e] at hm
  obtain ⟨k, hk, rfl⟩ := List.mem_map.mp hm
  have := List.mem_range.mp hk
  lia
def one (c : Nat) : Str := ⟨#[c]⟩
theorem glue_fold : ∀ (cs : List Nat) (a : Array Nat), (List.foldl (fun acc (p : Str) => acc ++ (("" : Str)).cps ++ p.cps) a (cs.map one)).toList = a.toList ++ cs
  | [], a => by simp
  | c :: cs, a => by
    rw [List.map_cons, List.foldl_cons, glue_fold cs]
    have : (("" : Str)).cps = #[] := by decide +kernel
    rw [this]
    simp [one]
theorem glue_ones (cs : List Nat) : (Txt.join "" (cs.map one)).cps.toList = cs := by
  show (List.foldl _ (((cs.map one).headD Str.empty).cps) (List.drop 1 (cs.map one))).toList = cs
  cases cs with
  | nil => rfl
  | cons c cs =>
    rw [List.map_cons, List.drop_one, List.tail_cons]
    refine (glue_fold cs _).trans ?_
    simp [one]
theorem len__law_letters : ∀ ds M Q, spLetters ds M Q → ds.length = 2 := by rintro _ _ _ ⟨_, _, _, rfl, _⟩; rfl
theorem rd__law_letters : ∀ ds M Q, spLetters ds M Q → t__law_letters { nx := fun _ M' => View Q .non M', rt := View Q } (start3 N__law_letters ds) M := by
  rintro _ M Q ⟨p, b, n, rfl, hP, hb, h0, h1, q⟩
  rw [st__law_letters]
  unfold t__law_letters
  walk_at "rd"
  refine ⟨rfl, ?_⟩
  walk_at "rd"
  refine ⟨by lia, by lia, ?_⟩
  walk_at "rd"
  refine comp_pen 1 (fun _ _ e => ∃ c, e = .str ⟨#[c]⟩ ∧ 97 ≤ c ∧ c ≤ 122) hP ?_ ?_ ?_
  · rw [List.length_map, List.length_range, sizeLine_eq]; lia
  · intro k2 d2 p2 acc M2 R F hd2 hP2 hacc hne hsame hR
    have hk2 : k2 < n.toNat := by simpa using (List.getElem?_eq_some_iff.mp hd2).1
    walk_at "rd"
    refine draw hP2 (by lia) (by decide) (by decide) fun m M3 m0 m1 hP3 e3 => ?_
    obtain ⟨c, hc, hc1⟩ := abc_at m0 m1
    refine rd_ixS (by decide +kernel) hc ?_
    exact hR _ _ ⟨c, rfl, hc1⟩ (pen_mono hP3 (by lia)) e3
  intro acc M2 hlen hall hP2 hs2
  obtain ⟨cs, rfl, hcs⟩ := exists_map (f := fun c => D.str (one c)) (P := fun c => 97 ≤ c ∧ c ≤ 122) fun e he => by
    obtain ⟨_, _, _, c, hc, h2⟩ := comp_all hlen hall e he
    exact ⟨c, hc, h2⟩
  have hl2 : cs.length = n.toNat := by simpa using hlen
  have e2 : cs.map (fun c => D.str (one c)) = (cs.map one).map D.str := by rw [List.map_map]; rfl
  rw [e2]
  walk_at "rd"
  refine rd_joinL ?_ ?_
  · have : ((cs.map one).map fun y => y.length).sum = cs.length := by
      clear hall hlen hl2 e2 hcs
      induction cs with
      | nil => rfl
      | cons c cs ih =>
        rw [List.map_cons, List.map_cons, List.sum_cons, ih]
        show 1 + cs.length = cs.length + 1
        lia
    unfold joinOk
    rw [this, List.length_map, show (("" : Str)).length = 0 by decide +kernel]
    lia
  refine View.of (q _ M2 (fun c hc => hcs c (by rw [glue_ones] at hc; exact hc)) ?_ (pen_mono hP2 (by rw [List.length_map, List.length_range]; lia)) hs2)
  rw [len_cps, glue_ones, hl2]; lia
theorem len_app (x y : Str) : (x ++ y).length = x.length + y.length := by rw [len_cps, cps_app, List.length_append, ← len_cps, ← len_cps]
end MK
namespace K01
open PySem L2 L3
def isStr (x : D) (z : Str) : Bool := match x with | .str w => w == z | _ => false
def abc : Str := "abcdefghijklmnopqrstuvwxyz"
def eqOk (x : D) : Prop := dOk x ∨ ∃ kvs, x = .dct kvs
def txOk (z : Str) : Prop := z.length ≤ 1000 ∧ ∀ c ∈ z.cps.toList, c < 128
def only (z : Str) : Bool := z.cps.toList.all fun c => subIn ⟨#[c]⟩ abc
def isL (d : D) : Bool := match d with
  | .str z => decide (1 ≤ z.length) && (decide (z.length ≤ 8) && only z)
  | _ => false
def thOk (d : D) : Prop := okTy d ∧ ∀ xs, d = .tup xs → ∀ x ∈ xs, okTy x ∧ eqOk x
def wdOk (d : D) : Prop := okTy d ∧ ∀ z, d = .str z → txOk z
def iOk (n : Int) : Prop := n.natAbs < 2 ^ 140
def Thing (d : D) : Prop := shE d ∧ thOk d ∧ wdOk d
def spOnly : Sp3 := fun ds M Q => ∃ z, ds = [.str z, .str abc] ∧ txOk z ∧ Q (.bl (only z)) M
def spLetters : Sp3 := fun ds M Q => ∃ d, ds = [d] ∧ wdOk d ∧ Q (.bl (isL d)) M
end K01
namespace K01
open PySem L2 L3
abbrev N_has_only : List Str := ["text", "signs"]
def t_has_only : TS3 :=
    (tRet3 (tCB3 rAll3 (tCons3 (tComp3 (iStr3 (tVar3 0)) 1 [1] (gName3 0) tTrue3 (tOp3 (rIn3 false) (tVar3 0) (tVar3 1))) tNil3)))
theorem st_has_only (d0 d1 : D) : start3 N_has_only [d0, d1] = [some d0, some d1] := rfl
abbrev N_is_letters : List Str := ["thing"]
def t_is_letters : TS3 :=
    (tRet3 (tAndV3 (tCB3 rIsi3 (tCons3 (tVar3 0) (tCons3 (tC3 (.ty "str")) tNil3))) (tAndV3 (tChain3 rLe3 rLe3 (tC3 (.int 1)) (tCB3 rLen3 (tCons3 (tVar3 0) tNil3)) (tC3 (.int 8))) (tCall3 spOnly (tCons3 (tVar3 0) (tCons3 (tC3 (.str "abcdefghijklmnopqrstuvwxyz")) tNil3))))))
theorem st_is_letters (d0 : D) : start3 N_is_letters [d0] = [some d0] := rfl
end K01
namespace K01
open PySem L2 L3
def okB : D → Bool
  | .ref _ | .ty _ => false
  | _ => true
theorem okB_ty {d : D} (h : okB d = true) : okTy d := by cases d <;> first | trivial | cases h
def eqB (x : D) : Bool := (plain x && ((pyD x).canLay0 && decide ((pyD x).depth ≤ 60))) || (match x with | .dct _ => true | _ => false)
theorem eqB_ok {x : D} (h : eqB x = true) : eqOk x := by
  unfold eqB at h
  rw [Bool.or_eq_true] at h
  rcases h with h | h
  · rw [Bool.and_eq_true, Bool.and_eq_true, decide_eq_true_eq] at h
    exact .inl h
  · cases x <;> first | exact .inr ⟨_, rfl⟩ | cases h
def elB (x : D) : Bool := okB x && (eqB x && (plainE x && ((pyE x).showable && (decide ((pyE x).depth ≤ 5) && ((pyE x).leavesShort 200 && decide ((pyE x).weight ≤ 400))))))
structure El (x : D) : Prop where
  ok : okTy x
  eq : eqOk x
  pl : plainE x = true
  sh : (pyE x).showable = true
  dp : (pyE x).depth ≤ 5
  lf : (pyE x).leavesShort 200 = true
  wt : (pyE x).weight ≤ 400
theorem elB_el {x : D} (h : elB x = true) : El x := by
  unfold elB at h
  simp only [Bool.and_eq_true, decide_eq_true_eq] at h
  obtain ⟨h1, h2, h3, h4, h5, h6, h7⟩ := h
  exact ⟨okB_ty h1, eqB_ok h2, h3, h4, h5, h6, h7⟩
structure Els (xs : List D) : Prop where
  pl : plainEs xs = true
  sh : PyData.showableAll (pyEs xs) = true
  dp : PyData.depthAll (pyEs xs) ≤ 5
  lf : PyData.leavesShortAll 200 (pyEs xs) = true
  wt : PyData.weightAll (pyEs xs) ≤ 401 * xs.length
theorem els : ∀ {xs : List D}, (∀ x ∈ xs, El x) → Els xs
  | [], _ => ⟨rfl, rfl, Nat.zero_le _, rfl, Nat.le_refl _⟩
  | x :: xs, h => by
    have a := h x List.mem_cons_self
    have b := els fun y hy => h y (List.mem_cons_of_mem _ hy)
    refine ⟨?_, ?_, ?_, ?_, ?_⟩
    · simp only [plainEs, Bool.and_eq_true]; exact ⟨a.pl, b.pl⟩
    · simp only [pyEs, PyData.showableAll, Bool.and_eq_true]; exact ⟨a.sh, b.sh⟩
    · simp only [pyEs, PyData.depthAll]; exact Nat.max_le.mpr ⟨a.dp, b.dp⟩
    · simp only [pyEs, PyData.leavesShortAll, Bool.and_eq_true]; exact ⟨a.lf, b.lf⟩
    · simp only [pyEs, PyData.weightAll, List.length_cons]
      have := a.wt
      have := b.wt
      lia
theorem sh_of {d : D} (pl : plainE d = true) (sh : (pyE d).showable = true) (hd : (pyE d).hasDict = true → noLst d = true) (dp : (pyE d).depth ≤ 10) (lf : (pyE d).leavesShort 200 = true) (wt : (pyE d).weight ≤ 4000) : shE d := by
  refine ⟨pl, sh, hd, by lia, ?_⟩
  have h1 := PyData.shown_le 200 (by decide) _ lf
  have h3 : (200 + 2) * (pyE d).weight ≤ 202 * 4000 := Nat.mul_le_mul (by decide) wt
  rw [sizeLine_eq]
  lia
theorem sh_lst {xs : List D} (h : ∀ x ∈ xs, El x) (hl : xs.length ≤ 8) (hd : PyData.hasDictAll (pyEs xs) = false) : shE (.lst xs) := by
  have a := els h
  have hw := a.wt
  have hdp := a.dp
  refine sh_of (by simpa [plainE] using a.pl) (by simpa [pyE, PyData.showable] using a.sh) (fun z => ?_) ?_ (by simpa [pyE, PyData.leavesShort] using a.lf) ?_
  · simp only [pyE, PyData.hasDict, hd] at z; cases z
  · simp only [pyE, PyData.depth]; lia
  · simp only [pyE, PyData.weight]; lia
theorem dict_none : ∀ {xs : List D}, (∀ x ∈ xs, (pyE x).hasDict = false) → PyData.hasDictAll (pyEs xs) = false
  | [], _ => rfl
  | x :: xs, h => by
    simp only [pyEs, PyData.hasDictAll, h x List.mem_cons_self, dict_none fun y hy => h y (List.mem_cons_of_mem _ hy)]; rfl
def thB (d : D) : Bool := elB d && ((!(pyE d).hasDict || noLst d) && (match d with
  | .tup xs => xs.all fun x => okB x && eqB x
  | .str z => decide (z.length ≤ 1000) && z.cps.toList.all fun c => decide (c < 128)
  | _ => true))
theorem thB_thing {d : D} (h : thB d = true) : Thing d ∧ El d ∧ ((pyE d).hasDict = true → noLst d = true) := by
  unfold thB at h
  rw [Bool.and_eq_true, Bool.and_eq_true] at h
  obtain ⟨h1, h2, h3⟩ := h
  have e := elB_el h1
  have hd : (pyE d).hasDict = true → noLst d = true := fun z => by
    rw [z] at h2; simpa using h2
  refine ⟨⟨sh_of e.pl e.sh hd (Nat.le_trans e.dp (by decide)) e.lf (Nat.le_trans e.wt (by decide)), ⟨e.ok, fun xs ed x hx => ?_⟩, e.ok, fun z ed => ?_⟩, e, hd⟩
  · subst ed
    have := List.all_eq_true.mp h3 x hx
    rw [Bool.and_eq_true] at this
    exact ⟨okB_ty this.1, eqB_ok this.2⟩
  · subst ed
    simp only [Bool.and_eq_true, decide_eq_true_eq, List.all_eq_true] at h3
    exact h3
theorem log_small {n : Int} {k : Nat} (hk : 0 < k) (h : n.natAbs < 2 ^ k) : n.natAbs.log2 < k := by
  by_cases h0 : n.natAbs = 0
  · rw [h0]; exact hk
  · exact (Nat.log2_lt h0).mpr h
theorem tI_len {n : Int} (h : iOk n) : (tI n).length ≤ 60 := by
  unfold iOk at h
  have h43 : n.natAbs < 10 ^ 43 := Nat.lt_trans h (by decide)
  rw [len_cps]
  cases n with
  | ofNat m =>
    show (tI (m : Int)).cps.toList.length ≤ 60
    rw [cps_nat]
    exact Nat.le_trans (dg_len (k := 43) (by decide) h43) (by decide)
  | negSucc m =>
    rw [cps_neg]
    have := dg_len (m := m + 1) (k := 43) (by decide) h43
    rw [List.length_cons]; lia
theorem asc_ok {z : Str} (h : ∀ c ∈ z.cps.toList, c < 128) : PyData.strOk z = true := by
  unfold PyData.strOk
  rw [Array.all_eq_true_iff_forall_mem]
  intro c hc
  have := h c (Array.mem_toList_iff.mpr hc)
  simp only [decide_eq_true_eq]
  lia
theorem el_str {z : Str} (hl : z.length ≤ 100) (h : ∀ c ∈ z.cps.toList, c < 128) : El (.str z) ∧ (pyE (.str z)).hasDict = false ∧ noLst (.str z) = true := by
  refine ⟨⟨trivial, .inl (strOkD (asc_ok h)), rfl, rfl, Nat.zero_le _, ?_, ?_⟩, rfl, rfl⟩
  · simp only [pyE, PyData.leavesShort, List.all_eq_true, decide_eq_true_eq]
    intro c hc
    have := h c hc
    have e : (16 : Nat) ^ 8 = 4294967296 := by decide
    lia
  · simp only [pyE, PyData.weight]
    have : z.cps.size ≤ 100 := hl
    lia
theorem el_int {n : Int} (h : iOk n) : El (.int n) ∧ (pyE (.int n)).hasDict = false ∧ noLst (.int n) = true := by
  have hl := log_small (by decide) h
  refine ⟨⟨trivial, .inl intOkD, rfl, ?_, Nat.zero_le _, ?_, ?_⟩, rfl, rfl⟩
  · simp only [pyE, PyData.showable, decide_eq_true_eq]; lia
  · simp only [pyE, PyData.leavesShort, decide_eq_true_eq, PyData.shown]
    exact decide_eq_true (Nat.le_trans (tI_len h) (show (60 : Nat) ≤ 200 by decide))
  · simp only [pyE, PyData.weight]
    split <;> lia
theorem slice_mem {z : Str} {l u : Option Int} {c : Nat} (h : c ∈ (Txt.slice z l u).cps.toList) : c ∈ z.cps.toList := by
  unfold Txt.slice at h
  split at h
  · exact h
  · obtain ⟨i, _, hi⟩ := List.mem_filterMap.mp (by simpa using h)
    rw [Array.mem_toList_iff]
    exact Array.mem_of_getElem? hi
end K01
namespace L3
open PySem L2
theorem rd_slW {te : TE3} {tl th : TO3} {σ : Lo} {M : Mem} {Q : DK} (h : te σ M fun x M1 => tl σ M1 fun l M2 => th σ M2 fun u M3 => rSlW3 x l u M3 Q) : tSlW3 te tl th σ M Q := h
theorem rd_slWS {z : Str} {l u : Option Int} {M : Mem} {Q : DK} (hz : z.length ≤ sizeLine) (h : Q (.str (Txt.slice z l u)) M) : rSlW3 (.str z) l u M Q := ⟨hz, h⟩
theorem rd_eqES {x y : Str} {M : Mem} {Q : DK} (h : Q (.bl (x == y)) M) : rEqE3 (.str x) (.str y) M Q := .inl (rd_eqS h)
theorem rd_eqEv {x y : D} {b : Bool} {M : Mem} {Q : DK} (hx : dOk x) (hy : dOk y) (e : PyData.eqv (pyD x) (pyD y) = b) (h : Q (.bl b) M) : rEqE3 x y M Q := .inl (rd_eqv hx hy e h)
theorem rd_reprE {d : D} {M : Mem} {Q : DK} (hd : shE d) (h : Q (.str (pyE d).shown) M) : rReprE3 [d] M Q := ⟨hd, h⟩
end L3
open L3
local macro_rules | `(tactic| walk_at "rd") => `(tactic| repeat (first | with_reducible refine rd_seq ?_ | with_reducible refine rd_ifs ?_ | with_reducible refine rd_test ?_ | with_reducible refine rd_op ?_ | with_reducible refine rd_un ?_ | with_reducible refine rd_c ?_ | with_reducible refine rd_ret ?_ | with_reducible refine rd_set ?_ | with_reducible refine rd_drop ?_ | with_reducible refine rd_next ?_ | with_reducible refine rd_call ?_ | with_reducible refine rd_cb ?_ | with_reducible refine rd_nil ?_ | with_reducible refine rd_cons ?_ | with_reducible refine rd_tupE ?_ | with_reducible refine rd_lstE ?_ | with_reducible refine rd_and ?_ | with_reducible refine rd_or ?_ | with_reducible refine rd_not ?_ | with_reducible refine rd_andV ?_ | with_reducible refine rd_orV ?_ | with_reducible refine rd_notV ?_ | with_reducible refine rd_if3 ?_ | with_reducible refine rd_chain ?_ | with_reducible refine rd_sl ?_ | with_reducible refine rd_np ?_ | with_reducible refine rd_part ?_ | with_reducible refine rd_bl ?_ | with_reducible refine rd_iteT ?_ | with_reducible refine rd_iteF ?_ | with_reducible refine rd_iteNT ?_ | with_reducible refine rd_iteNF ?_ | with_reducible refine rd_I0 ?_ | with_reducible refine rd_U ?_ | with_reducible refine rd_addI ?_ | with_reducible refine rd_lenL ?_ | with_reducible refine rd_lenT ?_ | with_reducible refine rd_abs ?_ | with_reducible refine rd_intI ?_ | with_reducible refine rd_intB ?_ | with_reducible refine rd_listL ?_ | with_reducible refine rd_listT ?_ | with_reducible refine rd_slL ?_ | with_reducible refine rd_isN ?_ | with_reducible refine rd_isntN ?_ | with_reducible refine rd_asg ?_ | with_reducible refine rd_gName ?_ | with_reducible refine rd_true ?_ | with_reducible refine rd_bm ?_ | with_reducible refine rd_slW ?_ | with_reducible refine rd_slWL ?_ | with_reducible refine rd_slWT ?_ | with_reducible refine rd_eqEI ?_ | with_reducible refine rd_eqEB ?_ | with_reducible refine rd_eqES ?_ | with_reducible refine rd_revE ?_ | with_reducible refine rd_intTI ?_ | with_reducible refine rd_intTB ?_ | with_reducible refine rd_join3 ?_ | with_reducible refine rd_parts ?_ | with_reducible refine rd_fmt ?_ | with_reducible refine rd_lstM ?_ | with_reducible refine rd_minI ?_ | with_reducible refine rd_tupL ?_ | with_reducible refine rd_tupT ?_ | with_reducible refine rd_addI ?_ | with_reducible refine rd_comp ?_ | with_reducible refine rd_forG ?_ | with_reducible refine rd_iStr ?_ | with_reducible refine rd_iTup ?_ | with_reducible refine rd_iList ?_ | with_reducible refine rd_onStr ?_ | with_reducible refine rd_onTup ?_ | with_reducible refine rd_onLst ?_ | with_reducible refine rd_eqI ?_ | with_reducible refine rd_neI ?_ | with_reducible refine rd_eqB ?_ | with_reducible refine rd_neB ?_ | with_reducible refine rd_eqS ?_ | with_reducible refine rd_neS ?_ | with_reducible refine rd_for ?_ | with_reducible refine rd_rng ?_ | ((with_reducible show tVar3 _ _ _ _); refine rd_var rfl ?_) | ((with_reducible show _ ∧ _); refine ⟨(by first | decide | (simp only [List.length_cons, List.length_nil]; decide)), ?_⟩)))
namespace K01
open PySem L2 L3
def isTru : D → Bool
  | .bl _ => true | _ => false
def isTxt : D → Bool
  | .str _ => true | _ => false
theorem isin_bool (x : D) : isIn (tyN x) "bool" = isTru x ∨ ¬ okTy x := by
  cases x <;> first | exact .inr id | (left; simp only [tyN, isTru, isTxt]; decide +kernel)
theorem isin_str (x : D) : isIn (tyN x) "str" = isTxt x ∨ ¬ okTy x := by
  cases x <;> first | exact .inr id | (left; simp only [tyN, isTru, isTxt]; decide +kernel)
theorem rd_isBool {x : D} {M : Mem} {Q : DK} (h : okTy x) (q : Q (.bl (isTru x)) M) : rIsi3 [x, .ty "bool"] M Q :=
  rd_isi h (.inl rfl) (by rw [(isin_bool x).resolve_right fun z => z h]; exact q)
theorem rd_isText {x : D} {M : Mem} {Q : DK} (h : okTy x) (q : Q (.bl (isTxt x)) M) : rIsi3 [x, .ty "str"] M Q :=
  rd_isi h (.inr (.inr (.inl rfl))) (by rw [(isin_str x).resolve_right fun z => z h]; exact q)
theorem len_has_only : ∀ ds M Q, spOnly ds M Q → ds.length = 2 := by rintro _ _ _ ⟨_, rfl, _⟩; rfl
theorem rd_has_only : ∀ ds M Q, spOnly ds M Q → t_has_only { nx := fun _ M' => View Q .non M', rt := View Q } (start3 N_has_only ds) M := by
  rintro _ M Q ⟨z, rfl, ⟨hl, _⟩, q⟩
  rw [st_has_only]
  unfold t_has_only
  walk_at "rd"
  refine comp_map z.cps.toList (fun c => D.str ⟨#[c]⟩) (fun c => D.bl (subIn ⟨#[c]⟩ abc)) ?_ ?_ ?_
  · rw [← len_cps, sizeLine_eq]; lia
  · intro c hc M2 R F _ hR
    walk_at "rd"
    exact rd_inS rfl (by rw [Bool.false_xor]; exact hR)
  · walk_at "rd"
    have e : z.cps.toList.map (fun c => D.bl (subIn ⟨#[c]⟩ abc)) = (z.cps.toList.map fun c => subIn ⟨#[c]⟩ abc).map D.bl := by rw [List.map_map]; rfl
    rw [e]
    refine rd_all ?_
    rw [List.all_map]
    exact View.of q
theorem len_is_letters : ∀ ds M Q, spLetters ds M Q → ds.length = 1 := by rintro _ _ _ ⟨_, rfl, _⟩; rfl
theorem rd_is_letters : ∀ ds M Q, spLetters ds M Q → t_is_letters { nx := fun _ M' => View Q .non M', rt := View Q } (start3 N_is_letters ds) M := by
  rintro _ M Q ⟨d, rfl, ⟨hd, hz⟩, q⟩
  rw [st_is_letters]
  unfold t_is_letters
  walk_at "rd"
  refine rd_isText hd ?_
  refine rd_bl ?_
  cases d with
  | str z =>
    have h := hz z rfl
    refine rd_iteT ?_
    walk_at "rd"
    refine rd_lenS (by have := h.1; rw [sizeLine_eq]; lia) ?_
    walk_at "rd"
    have q : Q (.bl (decide (1 ≤ z.length) && (decide (z.length ≤ 8) && only z))) M := q
    refine rd_dec (fun h1 => ?_) (fun h1 => ?_)
    · walk_at "rd"
      refine rd_dec (fun h2 => ?_) (fun h2 => ?_)
      · walk_at "rd"
        refine ⟨z, rfl, h, View.of ?_⟩
        rw [decide_eq_true (show 1 ≤ z.length by lia), decide_eq_true (show z.length ≤ 8 by lia)] at q
        exact q
      · rw [decide_eq_false (show ¬ z.length ≤ 8 by lia), Bool.false_and, Bool.and_false] at q
        exact View.of q
    · walk_at "rd"
      rw [decide_eq_false (show ¬ 1 ≤ z.length by lia), Bool.false_and] at q
      exact View.of q
  | ref _ => exact hd.elim
  | ty _ => exact hd.elim
  | _ => exact rd_iteF (View.of q)
theorem at0 {x : D} {xs : List D} : atI (x :: xs) 0 = some x := atI_nat (j := 0) rfl
end K01
open L3
namespace K01
open PySem L2 L3
theorem comp_filtX {α : Type} {gt : TG3} {tt : TT3} {te : TE3} {σ0 : Lo} {M1 : Mem} {Q : DK} (l : List α) (f g : α → D) (c : α → Bool) (hl : l.length < sizeLine)
    (turn : ∀ a ∈ l, ∀ M2 (R : D → Mem → Prop) (F : Mem → Prop), (∀ x, M1 x ≠ none → M2 x = M1 x) → (c a = true → R (g a) M2) → (c a = false → F M2) → gt (f a) σ0 M2 fun σ' M3 => tt σ' M3 fun bb M4 => if bb = true then te σ' M4 R else F M4)
    (done : Q (.lst ((l.filter c).map g)) M1) : CompB gt tt te σ0 (l.map f) M1 Q := by
  intro p hp
  refine ⟨fun k acc M2 => acc = ((l.take k).filter c).map g ∧ M2 p = some (.lst acc) ∧ ∀ a, a ≠ p → M2 a = M1 a, ⟨rfl, mput_same, fun a ha => mput_ne ha⟩, ?_, ?_⟩
  · rintro k d acc M2 hd ⟨rfl, hacc, hsame⟩
    have hk : k < l.length := by simpa using (List.getElem?_eq_some_iff.mp hd).1
    have hdk : d = f l[k] := by
      rw [List.getElem?_map, List.getElem?_eq_getElem hk] at hd
      exact (Option.some.inj hd).symm
    subst hdk
    have hlen : (((l.take k).filter c).map g).length ≤ k := by
      rw [List.length_map]
      exact Nat.le_trans (List.length_filter_le _ _) (by simp; lia)
    have e1 : l.take (k + 1) = l.take k ++ [l[k]] := by rw [List.take_succ, List.getElem?_eq_getElem hk]; rfl
    refine turn l[k] (List.getElem_mem hk) M2 _ _ (fun a ha => hsame a (by rintro rfl; exact ha hp)) (fun hc => ⟨hacc, by lia, ?_, mput_same, fun a ha => by rw [mput_ne ha]; exact hsame a ha⟩) (fun hc => ⟨?_, hacc, hsame⟩)
    · rw [e1, List.filter_append, List.filter_cons_of_pos hc, List.map_append]; rfl
    · rw [e1, List.filter_append, List.filter_cons_of_neg (by rw [hc]; simp), List.map_append]; simp
  · rintro acc M2 ⟨rfl, hacc, hsame⟩
    have hlen : (l.map f).length = l.length := by simp
    rw [hlen, List.take_length] at hacc ⊢
    have : mdel M2 p = M1 := funext fun a => by
      by_cases ha : a = p
      · subst ha; rw [mdel_same, hp]
      · rw [mdel_ne ha]; exact hsame a ha
    rw [this]
    exact ⟨hacc, done⟩
theorem only_filt (cs : List Nat) : ((cs.filter fun c => true ^^ subIn ⟨#[c]⟩ abc).map fun c => (⟨#[c]⟩ : Str)).isEmpty = cs.all fun c => subIn ⟨#[c]⟩ abc := by
  induction cs with
  | nil => rfl
  | cons c cs ih =>
    cases e : subIn ⟨#[c]⟩ abc with
    | true => simp only [List.filter_cons, e, List.all_cons, Bool.true_and, Bool.xor_self, Bool.false_eq_true, if_false]; exact ih
    | false => simp [List.filter_cons, e]
end K01
open L3
namespace K01
open PySem L2 L3
def signs : Str := " !\"#$&'()*+,-./0123456789:;<=>?@ABCDEFGHIJKLMNOPQRSTUVWXYZ[\\]^_`abcdefghijklmnopqrstuvwxyz{|}~\n"
theorem signs_len : signs.length = 95 - 1 + 0 ∨ signs.length = 95 ∨ signs.length = 93 ∨ signs.length = 96 := by decide +kernel
theorem signs_asc : (signs.cps.toList.all fun c => decide (c < 128)) = true := by decide +kernel
end K01
namespace K06
open PySem L2 L3
def shutL : List Str := ["any", "ask", "cast", "catch", "close", "else", "end", "fault", "give", "if", "last", "leave", "make", "none", "note", "on", "rule", "try", "while"]
def isShut (d : D) : Bool := match d with | .str z => shutL.any (· == z) | _ => false
def isNm (d : D) : Bool := K01.isL d && !isShut d
def sameT (z : Str) (nm : D) : Bool := match nm with | .str w => z == w | _ => false
def dR (r : Str × Int) : D := .tup [.str r.1, .tup [], .tup [.tup [.str "note", .tup [.str "number", .int r.2]]]]
def mkR (ns : List Str) : List (Str × Int) := ns.zipIdx.map fun p => (p.1, (p.2 : Int))
def hit (rs : List (Str × Int)) (nm : D) : List D := ((rs.find? fun r => sameT r.1 nm).map dR).toList
def nmsOk (ns : List Str) : Prop := ns.Nodup ∧ ns.length ≤ 8 ∧ ∀ z ∈ ns, z.length ≤ 8 ∧ ∀ c ∈ z.cps.toList, c < 128
def rsOk (rs : List (Str × Int)) : Prop := rs.length ≤ 8 ∧ ∀ r ∈ rs, PyData.strOk r.1 = true
def spIsName : Sp3 := fun ds M Q => ∃ d, ds = [d] ∧ K01.wdOk d ∧ Q (.bl (isNm d)) M
def spRule (cN : Addr) : SpX3 := fun ds M Q E => ∃ rs nm, ds = [.tup (rs.map dR), nm] ∧ rsOk rs ∧ K01.eqOk nm ∧ (match rs.find? (fun r => sameT r.1 nm) with | some r => Q (dR r) M | none => E (.ref cN) M)
def spShut : Sp3 := fun ds M Q => ds = [] ∧ Q (.lst (shutL.map D.str)) M
def spSign : Sp3 := fun ds M Q => ∃ p b, ds = [.ref p] ∧ Pen M p b ∧ b + 1 < 2 ^ 30 ∧ ∀ c M', c < 128 → Pen M' p (b + 1) → Same3 p M M' → Q (.str ⟨#[c]⟩) M'
def spBent : Sp3 := fun ds M Q => ∃ p b z, ds = [.ref p, .str z] ∧ z.length ≤ 10 ∧ (∀ c ∈ z.cps.toList, c < 128) ∧ Pen M p b ∧ b + 20 < 2 ^ 30 ∧ ∀ x M', x.length ≤ 40 → (∀ c ∈ x.cps.toList, c < 128) → Pen M' p (b + 20) → Same3 p M M' → Q (.str x) M'
def spTold : Sp3 := fun ds M Q => ∃ rs nm, ds = [.tup (rs.map dR), nm] ∧ rsOk rs ∧ K01.eqOk nm ∧ Q (.lst (hit rs nm)) M
def spMade : Sp3 := fun ds M Q => ∃ ns : List Str, ds = [.lst (ns.map D.str)] ∧ ns.length ≤ 8 ∧ Q (.tup ((mkR ns).map dR)) M
structure CK (K : PySem.W.Frag) (cG cN c1 c2 c3 c4 c5 c6 c7 c8 c9 c10 : Addr) : Prop where
  zk : PySem.W.ExcK K cN
  cl : (PySem.W.clsIn K cN).isSome = true
  ex : PySem.W.exmOne K (.ref cN) (.ref cG) = some true
  v : PySem.W.kitOne K (.ref cN) (.type "ValueError") = some true
  o : PySem.W.kitAny K (.ref cN) [.ref c1, .ref c2, .ref c3, .ref c4, .ref c5, .ref c6, .ref c7, .ref c8, .ref c9, .ref c10] = some false
theorem cls_of {K : PySem.W.Frag} {C : Addr} {bm : List Value} {n : String} (q : PySem.W.excIn K C bm n = true) : (PySem.W.clsIn K C).isSome = true := by
  unfold PySem.W.excIn at q
  unfold PySem.W.clsIn
  split at q
  · rename_i ho
    rw [ho]; rfl
  · cases q
theorem CK.mk' {K : PySem.W.Frag} {cG cN c1 c2 c3 c4 c5 c6 c7 c8 c9 c10 : Addr} (zk : PySem.W.ExcK K cN) (f0 : PySem.W.excIn K cN bmV "ValueError.__new__" = true) (f6 : PySem.W.excIn K cG bmV "ValueError.__new__" = true)
    (f7 : PySem.W.subIn K (.ref cG) (.type "BaseException") = some true) (g7 : PySem.W.typeIn K (.ref cG) = some (.type "type")) (h7 : PySem.W.subIn K (.ref cN) (.ref cG) = some true)
    (v : PySem.W.kitOne K (.ref cN) (.type "ValueError") = some true) (o : PySem.W.kitAny K (.ref cN) [.ref c1, .ref c2, .ref c3, .ref c4, .ref c5, .ref c6, .ref c7, .ref c8, .ref c9, .ref c10] = some false) : CK K cG cN c1 c2 c3 c4 c5 c6 c7 c8 c9 c10 := by
  refine ⟨zk, cls_of f0, ?_, v, o⟩
  unfold PySem.W.exmOne
  rw [f7, if_pos (by rfl)]
  show (if ((PySem.W.clsIn K cG).isSome && PySem.W.typeIn K (.ref cG) == some (.type "type")) = true then PySem.W.subIn K (.ref cN) (.ref cG) else none) = some true
  rw [cls_of f6, g7, if_pos (by rfl)]
  exact h7
theorem b3_ValueError : bootBuiltins "ValueError" = some (.type "ValueError") := by decide +kernel
end K06
namespace K06
open PySem L2 L3
abbrev N_is_name : List Str := ["thing"]
def t_is_name : TS3 :=
    (tRet3 (tAndV3 (tCall3 K01.spLetters (tCons3 (tVar3 0) tNil3)) (tOp3 (rIn3 true) (tVar3 0) (tC3 (.tup ((["any", "ask", "cast", "catch", "close", "else", "end", "fault", "give", "if", "last", "leave", "make", "none", "note", "on", "rule", "try", "while"] : List Str).map D.str))))))
theorem st_is_name (d0 : D) : start3 N_is_name [d0] = [some d0] := rfl
abbrev N_rule_of : List Str := ["book", "name", "rule"]
def t_rule_of (c_NoRule : Addr) : TX3 :=
    (tXSeq (fun T _ σ M => (tFor3 (iTup3 (tVar3 0)) 2 (tIfS3 (tTest3 (tOp3 rEqF3 (tOp3 rIx3 (tVar3 2) (tC3 (.int 0))) (tVar3 1))) (tRet3 (tVar3 2)) tNext3)) T σ M)
    (tXRaise c_NoRule (tCons3 (tC3 (.str "no rule of this name")) tNil3)))
theorem st_rule_of (d0 d1 : D) : start3 N_rule_of [d0, d1] = [some d0, some d1, none] := rfl
abbrev N__law_shut : List Str := ["_law_words"]
def t__law_shut : TS3 :=
    (tSeq3 (tSet3 0 (tC3 (.str "any ask cast catch close else end fault give if last leave make none note on rule try while")))
    (tRet3 (tBM3 "str" rSplit3 (tVar3 0) (tCons3 (tC3 (.str " ")) tNil3))))
theorem st__law_shut : start3 N__law_shut [] = [none] := rfl
abbrev N__law_sign : List Str := ["_law_pen_here", "_law_signs"]
def t__law_sign : TS3 :=
    (tSeq3 (tSet3 1 (tC3 (.str " !\"#$&'()*+,-./0123456789:;<=>?@ABCDEFGHIJKLMNOPQRSTUVWXYZ[\\]^_`abcdefghijklmnopqrstuvwxyz{|}~\n")))
    (tRet3 (tOp3 rIx3 (tVar3 1) (tCall3 spDraw (tCons3 (tVar3 0) (tCons3 (tCB3 rLen3 (tCons3 (tVar3 1) tNil3)) tNil3))))))
theorem st__law_sign (d0 : D) : start3 N__law_sign [d0] = [some d0, none] := rfl
abbrev N__law_bent : List Str := ["_law_pen_here", "_law_text", "_law_way", "_law_at", "_law_sign_here", "_law_some"]
def t__law_bent : TS3 :=
    (tSeq3 (tSet3 2 (tCall3 spDraw (tCons3 (tVar3 0) (tCons3 (tC3 (.int 6)) tNil3))))
    (tSeq3 (tSet3 3 (tCall3 spDraw (tCons3 (tVar3 0) (tCons3 (tOp3 rAdd3 (tCB3 rLen3 (tCons3 (tVar3 1) tNil3)) (tC3 (.int 1))) tNil3))))
    (tSeq3 (tSet3 4 (tOp3 rIx3 (tLst3 (tCons3 (tCall3 spSign (tCons3 (tVar3 0) tNil3)) (tCons3 (tCall3 MK.spLetters (tCons3 (tVar3 0) (tCons3 (tC3 (.int 1)) tNil3))) tNil3))) (tCall3 spDraw (tCons3 (tVar3 0) (tCons3 (tC3 (.int 2)) tNil3)))))
    (tSeq3 (tSet3 5 (tLst3 (tCons3 (tOp3 rAdd3 (tOp3 rAdd3 (tSlW3 (tVar3 1) tNoPart3 (tPart3 (tVar3 3))) (tVar3 4)) (tSlW3 (tVar3 1) (tPart3 (tVar3 3)) tNoPart3)) (tCons3 (tOp3 rAdd3 (tSlW3 (tVar3 1) tNoPart3 (tPart3 (tVar3 3))) (tSlW3 (tVar3 1) (tPart3 (tOp3 rAdd3 (tVar3 3) (tC3 (.int 1)))) tNoPart3)) (tCons3 (tOp3 rAdd3 (tOp3 rAdd3 (tSlW3 (tVar3 1) tNoPart3 (tPart3 (tVar3 3))) (tVar3 4)) (tSlW3 (tVar3 1) (tPart3 (tOp3 rAdd3 (tVar3 3) (tC3 (.int 1)))) tNoPart3)) (tCons3 (tBM03 "str" rUpper3 (tVar3 1)) tNil3))))))
    (tRet3 (tOp3 rIx3 (tOp3 rAdd3 (tVar3 5) (tLst3 (tCons3 (tOp3 rAdd3 (tVar3 1) (tC3 (.str " "))) (tCons3 (tOp3 rAdd3 (tVar3 1) (tVar3 1)) tNil3)))) (tVar3 2)))))))
theorem st__law_bent (d0 d1 : D) : start3 N__law_bent [d0, d1] = [some d0, some d1, none, none, none, none] := rfl
abbrev N__law_is_name : List Str := ["_law_thing"]
def t__law_is_name : TS3 :=
    (tSeq3 (tIfS3 (tOr3 (tNot3 (tTest3 (tCB3 rIsi3 (tCons3 (tVar3 0) (tCons3 (tC3 (.ty "str")) tNil3))))) (tOr3 (tNot3 (tTest3 (tChain3 rLe3 rLe3 (tC3 (.int 1)) (tCB3 rLen3 (tCons3 (tVar3 0) tNil3)) (tC3 (.int 8))))) (tTest3 (tOp3 (rIn3 false) (tVar3 0) (tCall3 spShut tNil3))))) (tRet3 (tC3 (.bl false))) tNext3)
    (tRet3 (tOp3 rEqF3 (tComp3 (iStr3 (tVar3 0)) 1 [] (gName3 0) (tTest3 (tOp3 (rIn3 true) (tVar3 0) (tC3 (.str "abcdefghijklmnopqrstuvwxyz")))) (tVar3 0)) (tLst3 tNil3))))
theorem st__law_is_name (d0 : D) : start3 N__law_is_name [d0] = [some d0] := rfl
abbrev N__law_told : List Str := ["_law_book", "_law_name", "_law_caught", "_law_found", "e"]
def t__law_told (K : PySem.W.Frag) (sp : SpX3) (c_GiverError c_NoRule c_Full c_NoAsk c_NoBook c_NoCode c_NoGiver c_NoKept c_NoMost c_NoRow c_NoText c_NoWorth : Addr) : TS3 :=
    (tSeq3 (tSet3 2 (tC3 .non))
    (tSeq3 (tSet3 3 (tC3 .non))
    (tTry K c_GiverError sp (tCons3 (tVar3 0) (tCons3 (tVar3 1) tNil3)) 3 2 4
    (tSeq3 (tIfS3 (tTest3 (tOp3 rIs3 (tVar3 2) (tC3 .non))) (tRet3 (tLst3 (tCons3 (tVar3 3) tNil3))) tNext3) tStop3)
    fun ea oe => (tSeq3 (tIfS3 (tTest3 (tOp3 rIs3 (tVar3 2) (tC3 .non))) (tRet3 (tLst3 (tCons3 (tVar3 3) tNil3))) tNext3)
    (tSeq3 (tIfS3 (tOr3 (tNot3 (tTest3 (tCB3 (rIsiP K ea oe) (tCons3 (tVar3 2) (tCons3 (tC3 (.ref c_NoRule)) tNil3))))) (tNot3 (tTest3 (tCB3 (rIsiP K ea oe) (tCons3 (tVar3 2) (tCons3 (tC3 (.ty "ValueError")) tNil3)))))) (tRet3 (tLst3 (tCons3 (tC3 (.str "another refusal")) tNil3))) tNext3)
    (tSeq3 (tIfS3 (tTest3 (tCB3 (rIsiP K ea oe) (tCons3 (tVar3 2) (tCons3 (tTup3 (tCons3 (tC3 (.ref c_Full)) (tCons3 (tC3 (.ref c_NoAsk)) (tCons3 (tC3 (.ref c_NoBook)) (tCons3 (tC3 (.ref c_NoCode)) (tCons3 (tC3 (.ref c_NoGiver)) (tCons3 (tC3 (.ref c_NoKept)) (tCons3 (tC3 (.ref c_NoMost)) (tCons3 (tC3 (.ref c_NoRow)) (tCons3 (tC3 (.ref c_NoText)) (tCons3 (tC3 (.ref c_NoWorth)) tNil3))))))))))) tNil3)))) (tRet3 (tLst3 (tCons3 (tC3 (.str "more than one refusal")) tNil3))) tNext3)
    (tRet3 (tLst3 tNil3))))))))
theorem st__law_told (d0 d1 : D) : start3 N__law_told [d0, d1] = [some d0, some d1, none, none, none] := rfl
abbrev N__law_made : List Str := ["_law_names"]
def t__law_made : TS3 :=
    (tRet3 (tCB3 rTuple3 (tCons3 (tComp3 (iEnum3 (tVar3 0)) 2 [] (gTup3 [0, 1]) tTrue3 (tTup3 (tCons3 (tVar3 1) (tCons3 (tTup3 tNil3) (tCons3 (tTup3 (tCons3 (tTup3 (tCons3 (tC3 (.str "note")) (tCons3 (tTup3 (tCons3 (tC3 (.str "number")) (tCons3 (tVar3 0) tNil3))) tNil3))) tNil3)) tNil3))))) tNil3)))
theorem st__law_made (d0 : D) : start3 N__law_made [d0] = [some d0] := rfl
abbrev N_law : List Str := ["_law_script", "_law_pen_here", "_law_odd", "_law_names", "_law_turn", "_law_way", "_law_word", "_law_bent_here", "_law_thing", "_law_found", "_law_book", "_law_asked", "_law_name", "_law_due"]
def t_law : TS3 :=
    (tSeq3 (tSet3 1 (tCall3 spPen (tCons3 (tVar3 0) tNil3)))
    (tSeq3 (tSet3 2 (tLst3 (tCons3 (tC3 .non) (tCons3 (tC3 (.bl true)) (tCons3 (tC3 (.int 0)) (tCons3 (tTup3 tNil3) (tCons3 (tLst3 tNil3) (tCons3 (tC3 (.dct [])) (tCons3 (tTup3 (tCons3 (tC3 (.str "x")) tNil3)) (tCons3 (tLst3 (tCons3 (tC3 (.str "x")) tNil3)) (tCons3 (tC3 (.int 7)) (tCons3 (tC3 (.dct [(.inr "x", .int 1)])) (tCons3 (tOp3 rPow3 (tC3 (.int 10)) (tC3 (.int 39))) (tCons3 (tTup3 (tCons3 (tC3 (.str "rule")) (tCons3 (tTup3 tNil3) (tCons3 (tTup3 tNil3) tNil3)))) tNil3))))))))))))))
    (tSeq3 (tSet3 3 (tLstM3 tNil3))
    (tSeq3 (tFor3 (iRng3 (tCons3 (tC3 (.int 10)) tNil3)) 4 (tSeq3 (tSet3 5 (tCall3 spDraw (tCons3 (tVar3 1) (tCons3 (tC3 (.int 3)) tNil3))))
    (tSeq3 (tSet3 6 (tOp3 rIx3 (tLst3 (tCons3 (tCall3 MK.spLetters (tCons3 (tVar3 1) (tCons3 (tOp3 rAdd3 (tC3 (.int 1)) (tCall3 spDraw (tCons3 (tVar3 1) (tCons3 (tC3 (.int 9)) tNil3)))) tNil3))) (tCons3 (tOp3 rIx3 (tCall3 spShut tNil3) (tCall3 spDraw (tCons3 (tVar3 1) (tCons3 (tC3 (.int 19)) tNil3)))) (tCons3 (tC3 (.str "let")) tNil3)))) (tVar3 5)))
    (tSeq3 (tSet3 7 (tCall3 spBent (tCons3 (tVar3 1) (tCons3 (tVar3 6) tNil3))))
    (tFor3 (iTup3 (tTup3 (tCons3 (tVar3 6) (tCons3 (tVar3 7) (tCons3 (tOp3 rIx3 (tVar3 2) (tCall3 spDraw (tCons3 (tVar3 1) (tCons3 (tC3 (.int 12)) tNil3)))) (tCons3 (tVar3 6) tNil3)))))) 8 (tSeq3 (tSet3 9 (tCall3 spIsName (tCons3 (tVar3 8) tNil3)))
    (tSeq3 (tIfS3 (tOr3 (tNot3 (tTest3 (tCB3 rIsi3 (tCons3 (tVar3 9) (tCons3 (tC3 (.ty "bool")) tNil3))))) (tTest3 (tOp3 rNe3 (tVar3 9) (tCall3 spIsName (tCons3 (tVar3 8) tNil3))))) (tRet3 (tC3 (.bl false))) tNext3)
    (tIfS3 (tAnd3 (tTest3 (tCB3 rIsi3 (tCons3 (tVar3 8) (tCons3 (tC3 (.ty "str")) tNil3)))) (tAnd3 (tTest3 (tVar3 9)) (tAnd3 (tTest3 (tOp3 (rIn3 true) (tVar3 8) (tVar3 3))) (tTest3 (tOp3 rLt3 (tCB3 rLen3 (tCons3 (tVar3 3) tNil3)) (tC3 (.int 8))))))) (tDrop3 (tBM3 "list" rAppend3 (tVar3 3) (tCons3 (tVar3 8) tNil3))) tNext3))))))))
    (tFrz3 3 (tSeq3 (tIfS3 (tTest3 (tOp3 rEqF3 (tVar3 3) (tLst3 tNil3))) (tSet3 3 (tLst3 (tCons3 (tC3 (.str "a")) tNil3))) tNext3)
    (tSeq3 (tSet3 10 (tCall3 spMade (tCons3 (tVar3 3) tNil3)))
    (tSeq3 (tSet3 11 (tOp3 rAdd3 (tOp3 rAdd3 (tOp3 rAdd3 (tCB3 rList3 (tCons3 (tVar3 3) tNil3)) (tComp3 (iRng3 (tCons3 (tC3 (.int 3)) tNil3)) 1 [1, 3] (gName3 0) tTrue3 (tCall3 spBent (tCons3 (tVar3 1) (tCons3 (tOp3 rIx3 (tVar3 2) (tCall3 spDraw (tCons3 (tVar3 1) (tCons3 (tCB3 rLen3 (tCons3 (tVar3 2) tNil3)) tNil3)))) tNil3))))) (tVar3 2)) (tCB3 rList3 (tCons3 (tVar3 3) tNil3))))
    (tSeq3 (tFor3 (iList3 (tVar3 11)) 12 (tSeq3 (tSet3 13 (tComp3 (iTup3 (tVar3 10)) 1 [12] (gName3 0) (tAnd3 (tTest3 (tCB3 rIsi3 (tCons3 (tVar3 1) (tCons3 (tC3 (.ty "str")) tNil3)))) (tTest3 (tOp3 rEqF3 (tOp3 rIx3 (tVar3 0) (tC3 (.int 0))) (tVar3 1)))) (tVar3 0)))
    (tIfS3 (tTest3 (tOp3 rNe3 (tCB3 rReprE3 (tCons3 (tCall3 spTold (tCons3 (tVar3 10) (tCons3 (tVar3 12) tNil3))) tNil3)) (tCB3 rReprE3 (tCons3 (tVar3 13) tNil3)))) (tRet3 (tC3 (.bl false))) tNext3)))
    (tRet3 (tOp3 rEqF3 (tVar3 10) (tCall3 spMade (tCons3 (tVar3 3) tNil3)))))))))))))
theorem st_law (d0 : D) : start3 N_law [d0] = [some d0, none, none, none, none, none, none, none, none, none, none, none, none, none] := rfl
end K06
namespace L3
open PySem L2
theorem rd_eqFS {x y : Str} {M : Mem} {Q : DK} (h : Q (.bl (x == y)) M) : rEqF3 (.str x) (.str y) M Q := .inl (rd_eqES h)
theorem rd_xraise {C : Addr} {ta : TA3} {T : Ends3} {xs : XEnd} {σ : Lo} {M : Mem} (h : ta σ M fun ds M1 => ds.length ≤ 10 ∧ xs (.ref C) M1) : tXRaise C ta T xs σ M := h
theorem rd_try {K : PySem.W.Frag} {C : Addr} {sp : SpX3} {ta : TA3} {i j l : Nat} {tN : TS3} {tE : Addr → Obj → TS3} {T : Ends3} {σ : Lo} {M : Mem}
    (h : ta σ M fun ds M1 => sp ds M1 (fun d M2 => tN T (σ.set i (some d)) M2) fun cls M2 => PySem.W.exmOne K cls (.ref C) = some true ∧ ∀ (ea : Addr) (oe : Obj), oe.cls = cls → tE ea oe T ((σ.set j (some (.ref ea))).set l none) M2) : tTry K C sp ta i j l tN tE T σ M := h
theorem rd_eqFv {x y : D} {b : Bool} {M : Mem} {Q : DK} (hx : dOk x) (hy : dOk y) (e : PyData.eqv (pyD x) (pyD y) = b) (h : Q (.bl b) M) : rEqF3 x y M Q := .inl (rd_eqEv hx hy e h)
end L3
open L3
local macro_rules | `(tactic| walk_at "rd") => `(tactic| repeat (first | with_reducible refine rd_seq ?_ | with_reducible refine rd_ifs ?_ | with_reducible refine rd_test ?_ | with_reducible refine rd_op ?_ | with_reducible refine rd_un ?_ | with_reducible refine rd_c ?_ | with_reducible refine rd_ret ?_ | with_reducible refine rd_set ?_ | with_reducible refine rd_drop ?_ | with_reducible refine rd_next ?_ | with_reducible refine rd_call ?_ | with_reducible refine rd_cb ?_ | with_reducible refine rd_nil ?_ | with_reducible refine rd_cons ?_ | with_reducible refine rd_tupE ?_ | with_reducible refine rd_lstE ?_ | with_reducible refine rd_and ?_ | with_reducible refine rd_or ?_ | with_reducible refine rd_not ?_ | with_reducible refine rd_andV ?_ | with_reducible refine rd_orV ?_ | with_reducible refine rd_notV ?_ | with_reducible refine rd_if3 ?_ | with_reducible refine rd_chain ?_ | with_reducible refine rd_sl ?_ | with_reducible refine rd_np ?_ | with_reducible refine rd_part ?_ | with_reducible refine rd_bl ?_ | with_reducible refine rd_iteT ?_ | with_reducible refine rd_iteF ?_ | with_reducible refine rd_iteNT ?_ | with_reducible refine rd_iteNF ?_ | with_reducible refine rd_I0 ?_ | with_reducible refine rd_U ?_ | with_reducible refine rd_addI ?_ | with_reducible refine rd_lenL ?_ | with_reducible refine rd_lenT ?_ | with_reducible refine rd_abs ?_ | with_reducible refine rd_intI ?_ | with_reducible refine rd_intB ?_ | with_reducible refine rd_listL ?_ | with_reducible refine rd_listT ?_ | with_reducible refine rd_slL ?_ | with_reducible refine rd_isN ?_ | with_reducible refine rd_isntN ?_ | with_reducible refine rd_asg ?_ | with_reducible refine rd_gName ?_ | with_reducible refine rd_true ?_ | with_reducible refine rd_bm ?_ | with_reducible refine rd_slW ?_ | with_reducible refine rd_slWL ?_ | with_reducible refine rd_slWT ?_ | with_reducible refine rd_eqFI ?_ | with_reducible refine rd_eqFS ?_ | with_reducible refine rd_revE ?_ | with_reducible refine rd_intTI ?_ | with_reducible refine rd_intTB ?_ | with_reducible refine rd_join3 ?_ | with_reducible refine rd_parts ?_ | with_reducible refine rd_fmt ?_ | with_reducible refine rd_lstM ?_ | with_reducible refine rd_minI ?_ | with_reducible refine rd_tupL ?_ | with_reducible refine rd_tupT ?_ | with_reducible refine rd_addI ?_ | with_reducible refine rd_comp ?_ | with_reducible refine rd_bm0 ?_ | with_reducible refine rd_iEnum ?_ | with_reducible refine rd_onEnumL ?_ | with_reducible refine rd_forG ?_ | with_reducible refine rd_iStr ?_ | with_reducible refine rd_iTup ?_ | with_reducible refine rd_iList ?_ | with_reducible refine rd_onStr ?_ | with_reducible refine rd_onTup ?_ | with_reducible refine rd_onLst ?_ | with_reducible refine rd_eqI ?_ | with_reducible refine rd_neI ?_ | with_reducible refine rd_eqB ?_ | with_reducible refine rd_neB ?_ | with_reducible refine rd_eqS ?_ | with_reducible refine rd_neS ?_ | with_reducible refine rd_for ?_ | with_reducible refine rd_rng ?_ | ((with_reducible show tVar3 _ _ _ _); refine rd_var rfl ?_) | ((with_reducible show _ ∧ _); refine ⟨(by first | decide | (simp only [List.length_cons, List.length_nil]; decide)), ?_⟩)))
namespace K06
open PySem L2 L3
open K01 (rd_isText rd_isBool isTxt eqOk wdOk txOk isL only abc asc_ok only_filt comp_filtX)
theorem rd_same {z : Str} {nm : D} {M : Mem} {Q : DK} (hn : eqOk nm) (hz : PyData.strOk z = true) (h : Q (.bl (sameT z nm)) M) : rEqF3 (.str z) nm M Q := by
  rcases hn with hx | ⟨kvs, rfl⟩
  · cases nm with
    | str w => exact rd_eqFS h
    | non => exact rd_eqFv (strOkD hz) hx (by simp [pyD, PyData.eqv, sameT]) h
    | bl b => exact rd_eqFv (strOkD hz) hx (by simp [pyD, PyData.eqv, sameT]) h
    | int i => exact rd_eqFv (strOkD hz) hx (by simp [pyD, PyData.eqv, sameT]) h
    | tup xs => exact rd_eqFv (strOkD hz) hx (by simp [pyD, PyData.eqv, sameT]) h
    | lst xs => exact rd_eqFv (strOkD hz) hx (by simp [pyD, PyData.eqv, sameT]) h
    | dct _ => cases hx.1
    | ty _ => cases hx.1
    | ref _ => cases hx.1
  · exact .inr ⟨kvs, z, rfl, rfl, h⟩
theorem len_rule_of (c : Addr) : ∀ ds M Q E, spRule c ds M Q E → ds.length = 2 := by rintro _ _ _ _ ⟨_, _, rfl, _⟩; rfl
theorem dR_ok (r : Str × Int) : ∃ ds, dR r = .tup (.str r.1 :: ds) := ⟨_, rfl⟩
theorem rd_rule_of (c : Addr) : ∀ ds M Q E3, spRule c ds M Q E3 → t_rule_of c { nx := fun _ M' => View Q .non M', rt := View Q } E3 (start3 N_rule_of ds) M := by
  rintro _ M Q E3 ⟨rs, nm, rfl, hrs, hn, q⟩
  rw [st_rule_of]
  unfold t_rule_of
  show tFor3 _ _ _ _ _ _
  refine rd_for (rd_iTup (rd_var rfl (rd_onTup ?_)))
  refine ⟨fun k σ M' => (∃ x2, σ = [some (.tup (rs.map dR)), some nm, x2]) ∧ M' = M ∧ ∀ j r, j < k → rs[j]? = some r → sameT r.1 nm = false, ⟨⟨none, rfl⟩, rfl, fun j r hj => absurd hj (Nat.not_lt_zero _)⟩, ?_, ?_⟩
  · rintro k d σ M' hd ⟨⟨x2, rfl⟩, rfl, hall⟩
    rw [List.getElem?_map] at hd
    cases hk : rs[k]? with
    | none => rw [hk] at hd; cases hd
    | some r =>
      rw [hk] at hd
      cases hd
      obtain ⟨ds', e⟩ := dR_ok r
      walk_at "rd"
      rw [e]
      refine rd_ixT K01.at0 ?_
      walk_at "rd"
      refine rd_same hn (hrs.2 r (List.mem_of_getElem? hk)) ?_
      refine rd_bl ?_
      cases es : sameT r.1 nm with
      | true =>
        refine rd_iteT ?_
        walk_at "rd"
        have hf : rs.find? (fun r => sameT r.1 nm) = some r := by
          rw [List.find?_eq_some_iff_getElem]
          refine ⟨es, k, (List.getElem?_eq_some_iff.mp hk).1, (List.getElem?_eq_some_iff.mp hk).2, fun j hj => ?_⟩
          have hjl : j < rs.length := Nat.lt_trans hj (List.getElem?_eq_some_iff.mp hk).1
          have := hall j rs[j] hj (List.getElem?_eq_getElem hjl)
          simp [this]
        rw [hf] at q
        rw [← e]
        exact View.of q
      | false =>
        refine rd_iteF ?_
        walk_at "rd"
        refine ⟨⟨_, rfl⟩, rfl, fun j r' hj hr' => ?_⟩
        rcases Nat.lt_succ_iff_lt_or_eq.mp hj with hj | rfl
        · exact hall j r' hj hr'
        · rw [hk] at hr'; cases hr'; exact es
  · rintro σ M' ⟨⟨x2, rfl⟩, rfl, hall⟩
    have hf : rs.find? (fun r => sameT r.1 nm) = none := by
      rw [List.find?_eq_none]
      intro r hr
      obtain ⟨j, hj, rfl⟩ := List.getElem_of_mem hr
      have := hall j rs[j] (by rw [List.length_map]; exact hj) (List.getElem?_eq_getElem hj)
      simp [this]
    rw [hf] at q
    with_reducible refine rd_xraise ?_
    walk_at "rd"
    exact q
theorem len__law_told : ∀ ds M Q, spTold ds M Q → ds.length = 2 := by rintro _ _ _ ⟨_, _, rfl, _⟩; rfl
theorem rd__law_told {K : PySem.W.Frag} {cG cN c1 c2 c3 c4 c5 c6 c7 c8 c9 c10 : Addr} (Z : CK K cG cN c1 c2 c3 c4 c5 c6 c7 c8 c9 c10) : ∀ ds M Q, spTold ds M Q → t__law_told K (spRule cN) cG cN c1 c2 c3 c4 c5 c6 c7 c8 c9 c10 { nx := fun _ M' => View Q .non M', rt := View Q } (start3 N__law_told ds) M := by
  rintro _ M Q ⟨rs, nm, rfl, hrs, hn, q⟩
  rw [st__law_told]
  unfold t__law_told
  walk_at "rd"
  with_reducible refine rd_try ?_
  walk_at "rd"
  refine ⟨rs, nm, rfl, hrs, hn, ?_⟩
  unfold hit at q
  cases e : rs.find? fun r => sameT r.1 nm with
  | some r =>
    rw [e] at q
    show tSeq3 _ _ _ _ _
    walk_at "rd"
    exact View.of q
  | none =>
    rw [e] at q
    refine ⟨Z.ex, fun ea oe ho => ?_⟩
    walk_at "rd"
    have two : ∀ {c : D} {u : Value} {Q' : DK} {b : Bool}, clsV c = some u → PySem.W.kitOne K (.ref cN) u = some b → Q' (.bl b) M → rIsiP K ea oe [.ref ea, c] M Q' := fun {c u Q' b} h1 h2 h3 => ⟨cN, b, ho, Z.zk, Z.cl, .inl ⟨c, u, rfl, h1, h2⟩, h3⟩
    have self : PySem.W.kitOne K (.ref cN) (.ref cN) = some true := by unfold PySem.W.kitOne; rw [if_pos (by simp)]
    refine two rfl self ?_
    walk_at "rd"
    refine two rfl Z.v ?_
    walk_at "rd"
    refine ⟨cN, false, ho, Z.zk, Z.cl, .inr ⟨_, _, rfl, rfl, Z.o⟩, ?_⟩
    walk_at "rd"
    exact View.of q
end K06
open L3
namespace K06
open PySem L2 L3
open K01 (rd_isText rd_isBool isTxt eqOk wdOk txOk isL only abc asc_ok only_filt comp_filtX slice_mem)
theorem len_is_name : ∀ ds M Q, spIsName ds M Q → ds.length = 1 := by rintro _ _ _ ⟨_, rfl, _⟩; rfl
theorem rd_is_name : ∀ ds M Q, spIsName ds M Q → t_is_name { nx := fun _ M' => View Q .non M', rt := View Q } (start3 N_is_name ds) M := by
  rintro _ M Q ⟨d, rfl, hd, q⟩
  rw [st_is_name]
  unfold t_is_name
  walk_at "rd"
  refine ⟨d, rfl, hd, ?_⟩
  refine rd_bl ?_
  unfold isNm at q
  cases e : isL d with
  | false => rw [e] at q; exact rd_iteF (View.of q)
  | true =>
    rw [e, Bool.true_and] at q
    cases d with
    | str z =>
      refine rd_iteT ?_
      walk_at "rd"
      refine .inr ⟨z, shutL, rfl, rfl, ?_⟩
      rw [Bool.true_xor]
      exact View.of q
    | _ => cases e
theorem len__law_shut : ∀ ds M Q, spShut ds M Q → ds.length = 0 := by rintro _ _ _ ⟨rfl, _⟩; rfl
def shutT : Str := "any ask cast catch close else end fault give if last leave make none note on rule try while"
theorem rd__law_shut : ∀ ds M Q, spShut ds M Q → t__law_shut { nx := fun _ M' => View Q .non M', rt := View Q } (start3 N__law_shut ds) M := by
  rintro _ M Q ⟨rfl, q⟩
  rw [st__law_shut]
  unfold t__law_shut
  walk_at "rd"
  refine ⟨rfl, ?_⟩
  walk_at "rd"
  have e : Builtin.Str.partsBetween shutT (Builtin.Str.occurrences shutT ⟨#[32]⟩ 0 shutT.length (shutT.length + 1)) 1 = shutL := by decide +kernel
  refine ⟨shutT, 32, rfl, rfl, by decide, by decide +kernel, by decide +kernel, by decide +kernel, by rw [e]; decide +kernel, ?_⟩
  rw [e]
  exact View.of q
theorem len__law_is_name : ∀ ds M Q, spIsName ds M Q → ds.length = 1 := by rintro _ _ _ ⟨_, rfl, _⟩; rfl
theorem rd__law_is_name : ∀ ds M Q, spIsName ds M Q → t__law_is_name { nx := fun _ M' => View Q .non M', rt := View Q } (start3 N__law_is_name ds) M := by
  rintro _ M Q ⟨d, rfl, ⟨hd, hz⟩, q⟩
  rw [st__law_is_name]
  unfold t__law_is_name
  walk_at "rd"
  refine rd_isText hd ?_
  refine rd_bl ?_
  cases d with
  | str z =>
    have h := hz z rfl
    have hs : z.length ≤ sizeLine := by have := h.1; rw [sizeLine_eq]; lia
    have q : Q (.bl ((decide (1 ≤ z.length) && (decide (z.length ≤ 8) && only z)) && !(shutL.any (· == z)))) M := q
    refine rd_iteFe rfl ?_
    walk_at "rd"
    refine rd_lenS hs ?_
    walk_at "rd"
    refine rd_dec (fun h1 => ?_) (fun h1 => ?_)
    · rw [decide_eq_true (show 1 ≤ z.length by lia), Bool.true_and] at q
      walk_at "rd"
      by_cases h2 : z.length ≤ 8
      · rw [decide_eq_true h2, Bool.true_and] at q
        refine rd_iteFe (by rw [decide_eq_true (show (z.length : Int) ≤ 8 by lia)]; rfl) ?_
        walk_at "rd"
        refine ⟨rfl, ?_⟩
        refine .inr ⟨z, shutL, rfl, rfl, ?_⟩
        rw [Bool.false_xor]
        refine rd_bl ?_
        cases es : shutL.any (· == z) with
        | true =>
          rw [es, Bool.not_true, Bool.and_false] at q
          refine rd_iteT ?_
          walk_at "rd"
          exact View.of q
        | false =>
          rw [es, Bool.not_false, Bool.and_true] at q
          refine rd_iteF ?_
          walk_at "rd"
          refine comp_filtX z.cps.toList (fun c => D.str ⟨#[c]⟩) (fun c => D.str ⟨#[c]⟩) (fun c => true ^^ subIn ⟨#[c]⟩ abc) ?_ ?_ ?_
          · rw [← len_cps, sizeLine_eq]; lia
          · intro c hc M2 R F _ hR hF
            walk_at "rd"
            refine rd_inS rfl ?_
            refine rd_bl ?_
            cases e : (true ^^ subIn ⟨#[c]⟩ abc) with
            | true => exact rd_iteTe e (rd_var rfl (hR e))
            | false => exact rd_iteFe e (hF e)
          · walk_at "rd"
            have e : (z.cps.toList.filter fun c => true ^^ subIn ⟨#[c]⟩ abc).map (fun c => D.str ⟨#[c]⟩) = ((z.cps.toList.filter fun c => true ^^ subIn ⟨#[c]⟩ abc).map fun c => (⟨#[c]⟩ : Str)).map D.str := by rw [List.map_map]; rfl
            rw [e]
            refine rd_eqFv (dOk_strsL fun y hy => ?_) nilL_ok eqv_nilL ?_
            · obtain ⟨c, hc, rfl⟩ := List.mem_map.mp hy
              have := h.2 c (List.mem_filter.mp hc).1
              refine asc_ok fun x hx => ?_
              have : x = c := by simpa using hx
              lia
            · have e2 : (((z.cps.toList.filter fun c => true ^^ subIn ⟨#[c]⟩ abc).map fun c => (⟨#[c]⟩ : Str)).map D.str).isEmpty = only z := by
                rw [List.isEmpty_map]
                exact only_filt _
              rw [e2]
              exact View.of q
      · rw [decide_eq_false h2, Bool.false_and, Bool.false_and] at q
        refine rd_iteTe (by rw [decide_eq_false (show ¬ (z.length : Int) ≤ 8 by lia)]; rfl) ?_
        walk_at "rd"
        exact View.of q
    · rw [decide_eq_false (show ¬ 1 ≤ z.length by lia), Bool.false_and, Bool.false_and] at q
      walk_at "rd"
      exact View.of q
  | ref _ => exact hd.elim
  | ty _ => exact hd.elim
  | _ => refine rd_iteTe rfl ?_; walk_at "rd"; exact View.of q
theorem prs_names : ∀ (ns : List Str) (k : Nat), prs k (ns.map D.str) = (ns.zipIdx k).map fun p => D.tup [.int (p.2 : Nat), .str p.1]
  | [], k => rfl
  | z :: ns, k => by
    show D.tup [.int (k : Nat), .str z] :: prs (k + 1) (ns.map D.str) = _
    rw [prs_names ns (k + 1)]
    rfl
theorem len__law_made : ∀ ds M Q, spMade ds M Q → ds.length = 1 := by rintro _ _ _ ⟨_, rfl, _⟩; rfl
theorem rd__law_made : ∀ ds M Q, spMade ds M Q → t__law_made { nx := fun _ M' => View Q .non M', rt := View Q } (start3 N__law_made ds) M := by
  rintro _ M Q ⟨ns, rfl, hl, q⟩
  rw [st__law_made]
  unfold t__law_made
  walk_at "rd"
  rw [prs_names]
  refine comp_map ns.zipIdx (fun p => D.tup [.int (p.2 : Nat), .str p.1]) (fun p => dR (p.1, (p.2 : Int))) (by rw [List.length_zipIdx, sizeLine_eq]; lia) ?_ ?_
  · intro p hp M2 R F _ hR
    refine rd_gTup (by rfl) ?_
    walk_at "rd"
    exact hR
  · walk_at "rd"
    have e : ns.zipIdx.map (fun p => dR (p.1, (p.2 : Int))) = (mkR ns).map dR := by unfold mkR; rw [List.map_map]; rfl
    rw [e]
    exact View.of q
end K06
open L3
namespace K06
open PySem L2 L3
open K01 (rd_isText rd_isBool isTxt eqOk wdOk txOk isL only abc asc_ok slice_mem)
theorem up_asc {z : Str} (h : ∀ c ∈ z.cps.toList, c < 128) : (Txt.upper z).length = z.length ∧ ∀ c ∈ (Txt.upper z).cps.toList, c < 128 := by
  rw [PyProof.Rows.upper_ascii h]
  refine ⟨by rw [len_cps, len_cps]; simp, fun c hc => ?_⟩
  have hc' : c ∈ z.cps.toList.map PyProof.Rows.up1 := by simpa using hc
  obtain ⟨x, hx, rfl⟩ := List.mem_map.mp hc'
  have := h x hx
  unfold PyProof.Rows.up1
  split <;> lia
theorem len__law_sign : ∀ ds M Q, spSign ds M Q → ds.length = 1 := by rintro _ _ _ ⟨_, _, rfl, _⟩; rfl
theorem rd__law_sign : ∀ ds M Q, spSign ds M Q → t__law_sign { nx := fun _ M' => View Q .non M', rt := View Q } (start3 N__law_sign ds) M := by
  rintro _ M Q ⟨p, b, rfl, hP, hb, q⟩
  rw [st__law_sign]
  unfold t__law_sign
  walk_at "rd"
  have hl : 0 < K01.signs.length ∧ K01.signs.length < 200 := by rcases K01.signs_len with h | h | h | h <;> rw [h] <;> decide
  have hz : K01.signs.length ≤ sizeLine := by rw [sizeLine_eq]; lia
  refine rd_lenS hz ?_
  walk_at "rd"
  refine draw hP (by lia) (show (0 : Int) < (K01.signs.length : Int) by lia) (by have : (2 : Int) ^ 200 > 200 := by decide
                                                                                 show (K01.signs.length : Int) < 2 ^ 200
                                                                                 lia) fun n M1 n0 n1 hP1 e1 => ?_
  obtain ⟨c, hc, hm⟩ := atI_mem (ds := K01.signs.cps.toList) n0 (by rw [← len_cps]; exact n1)
  refine rd_ixS hz hc ?_
  exact View.of (q c M1 (by simpa using List.all_eq_true.mp K01.signs_asc c hm) hP1 e1)
theorem len__law_bent : ∀ ds M Q, spBent ds M Q → ds.length = 2 := by rintro _ _ _ ⟨_, _, _, rfl, _⟩; rfl
theorem rd__law_bent : ∀ ds M Q, spBent ds M Q → t__law_bent { nx := fun _ M' => View Q .non M', rt := View Q } (start3 N__law_bent ds) M := by
  rintro _ M Q ⟨p, b, z, rfl, zl, za, hP, hb, q⟩
  have hs : sizeLine = 16777216 := sizeLine_eq
  have h200 : (2 : Int) ^ 200 > 200 := by decide
  rw [st__law_bent]
  unfold t__law_bent
  walk_at "rd"
  refine draw hP (by lia) (by decide) (by decide) fun way M1 w0 w1 hP1 e1 => ?_
  walk_at "rd"
  refine rd_lenS (by lia) ?_
  walk_at "rd"
  refine draw hP1 (by lia) (by lia) (by lia) fun n M2 n0 n1 hP2 e2 => ?_
  walk_at "rd"
  refine ⟨p, _, rfl, hP2, by lia, fun c M3 hc hP3 e3 => ?_⟩
  walk_at "rd"
  refine ⟨p, _, 1, rfl, hP3, by lia, by decide, by decide, fun x M4 xl xn hP4 e4 => ?_⟩
  walk_at "rd"
  refine draw hP4 (by lia) (by decide) (by decide) fun k M5 k0 k1 hP5 e5 => ?_
  obtain ⟨d, hd, hm⟩ := atI_mem (ds := [D.str ⟨#[c]⟩, .str x]) k0 (by simpa using k1)
  refine rd_ixL hd ?_
  obtain ⟨y, rfl, yl, ya⟩ : ∃ y : Str, d = .str y ∧ y.length ≤ 1 ∧ ∀ c ∈ y.cps.toList, c < 128 := by
    simp only [List.mem_cons, List.not_mem_nil, or_false] at hm
    rcases hm with rfl | rfl
    · refine ⟨_, rfl, Nat.le_refl _, fun c' hc' => ?_⟩
      have : c' = c := by simpa using hc'
      lia
    · refine ⟨x, rfl, by lia, fun c' hc' => ?_⟩
      have := xl c' hc'
      lia
  have hz : z.length ≤ sizeLine := by lia
  have l1 := Txt.slice_le z none (some n)
  have l2 := Txt.slice_le z (some n) none
  have l3 := Txt.slice_le z (some (n + 1)) none
  have lt : ∀ a b : Str, (a ++ b).length = a.length + b.length := MK.len_app
  have at3 : ∀ {u v w : Str}, (∀ c ∈ u.cps.toList, c < 128) → (∀ c ∈ v.cps.toList, c < 128) → ∀ c ∈ (u ++ v).cps.toList, c < 128 := fun {u v w} hu hv c hc => by
    rw [cps_app] at hc
    rcases List.mem_append.mp hc with h | h
    · exact hu c h
    · exact hv c h
  have a1 : ∀ c ∈ (Txt.slice z none (some n)).cps.toList, c < 128 := fun c hc => za c (slice_mem hc)
  have a2 : ∀ c ∈ (Txt.slice z (some n) none).cps.toList, c < 128 := fun c hc => za c (slice_mem hc)
  have a3 : ∀ c ∈ (Txt.slice z (some (n + 1)) none).cps.toList, c < 128 := fun c hc => za c (slice_mem hc)
  have sp1 : ((" " : Str)).length = 1 := by decide +kernel
  have spa : ∀ c ∈ ((" " : Str)).cps.toList, c < 128 := by decide +kernel
  walk_at "rd"
  refine rd_slWS hz ?_
  walk_at "rd"
  refine rd_addS (by lia) ?_
  walk_at "rd"
  refine rd_slWS hz ?_
  refine rd_addS (by rw [lt]; lia) ?_
  walk_at "rd"
  refine rd_slWS hz ?_
  walk_at "rd"
  refine rd_slWS hz ?_
  refine rd_addS (by lia) ?_
  walk_at "rd"
  refine rd_slWS hz ?_
  walk_at "rd"
  refine rd_addS (by lia) ?_
  walk_at "rd"
  refine rd_slWS hz ?_
  refine rd_addS (by rw [lt]; lia) ?_
  walk_at "rd"
  refine ⟨rfl, ?_⟩
  refine ⟨z, rfl, rfl, by lia, ?_⟩
  walk_at "rd"
  refine rd_addS (by rw [sp1]; lia) ?_
  walk_at "rd"
  refine rd_addS (by lia) ?_
  walk_at "rd"
  refine rd_addL (by simp only [List.length_cons, List.length_nil]; decide) ?_
  walk_at "rd"
  obtain ⟨ul, ua⟩ := up_asc za
  obtain ⟨d, hd, hm⟩ := atI_mem (ds := [D.str (Txt.slice z none (some n) ++ y ++ Txt.slice z (some n) none), .str (Txt.slice z none (some n) ++ Txt.slice z (some (n + 1)) none), .str (Txt.slice z none (some n) ++ y ++ Txt.slice z (some (n + 1)) none), .str (Txt.upper z)] ++ [.str (z ++ " "), .str (z ++ z)]) w0 (by simpa using w1)
  refine rd_ixL hd ?_
  have fin : ∀ x : Str, x.length ≤ 40 → (∀ c ∈ x.cps.toList, c < 128) → View Q (.str x) M5 := fun x h1 h2 => View.of (q x M5 h1 h2 (pen_mono hP5 (by lia)) ((((e1.trans e2).trans e3).trans e4).trans e5))
  simp only [List.cons_append, List.nil_append, List.mem_cons, List.not_mem_nil, or_false] at hm
  rcases hm with rfl | rfl | rfl | rfl | rfl | rfl
  · exact fin _ (by rw [lt, lt]; lia) (at3 (w := z) (at3 (w := z) a1 ya) a2)
  · exact fin _ (by rw [lt]; lia) (at3 (w := z) a1 a3)
  · exact fin _ (by rw [lt, lt]; lia) (at3 (w := z) (at3 (w := z) a1 ya) a3)
  · exact fin _ (by lia) ua
  · exact fin _ (by rw [lt, sp1]; lia) (at3 (w := z) za spa)
  · exact fin _ (by rw [lt]; lia) (at3 (w := z) za za)
end K06
open L3
namespace K06
open PySem L2 L3
open K01 (rd_isText rd_isBool isTxt eqOk wdOk txOk isL only abc asc_ok comp_filtX thB thB_thing El sh_lst dict_none)
theorem len_law : ∀ ds M Q, L3.spLaw3 ds M Q → ds.length = 1 := by rintro _ _ _ ⟨_, rfl, _⟩; rfl
def oddN : List D := [.non, .bl true, .int 0, .tup [], .lst [], .dct [], .tup [.str "x"], .lst [.str "x"], .int 7, .dct [(.inr "x", .int 1)], .int ((10 : Int) ^ (39 : Int).toNat), .tup [.str "rule", .tup [], .tup []]]
theorem odd_all : (oddN.all thB) = true := by decide +kernel
theorem odd_ok {d : D} (h : d ∈ oddN) : wdOk d ∧ eqOk d :=
  have z := thB_thing (List.all_eq_true.mp odd_all d h)
  ⟨z.1.2.2, z.2.1.eq⟩
theorem wd_str {z : Str} (hl : z.length ≤ 1000) (h : ∀ c ∈ z.cps.toList, c < 128) : wdOk (.str z) := ⟨trivial, fun w e => by cases e; exact ⟨hl, h⟩⟩
theorem eq_str {z : Str} (h : ∀ c ∈ z.cps.toList, c < 128) : eqOk (.str z) := .inl (strOkD (asc_ok h))
theorem filt_find {α : Type} (c : α → Bool) : ∀ (l : List α), l.Pairwise (fun x y => ¬ (c x = true ∧ c y = true)) → l.filter c = (l.find? c).toList
  | [], _ => rfl
  | x :: l, h => by
    rw [List.pairwise_cons] at h
    cases e : c x with
    | true =>
      rw [List.filter_cons_of_pos e, List.find?_cons_of_pos e]
      have : l.filter c = [] := List.filter_eq_nil_iff.mpr fun y hy hc => h.1 y hy ⟨e, hc⟩
      rw [this]; rfl
    | false =>
      rw [List.filter_cons_of_neg (by simp [e]), List.find?_cons_of_neg (by simp [e])]
      exact filt_find c l h.2
theorem sameT_both {y z : Str} {nm : D} (h : sameT y nm = true ∧ sameT z nm = true) : y = z := by
  cases nm with
  | str w =>
    have h1 : (y == w) = true := h.1
    have h2 : (z == w) = true := h.2
    rw [eq_of_beq h1, eq_of_beq h2]
  | _ => cases h.1
theorem pw_zip (nm : D) : ∀ (ns : List Str) (k : Nat), ns.Nodup → ((ns.zipIdx k).map fun p => (p.1, (p.2 : Int))).Pairwise fun x y => ¬ (sameT x.1 nm = true ∧ sameT y.1 nm = true)
  | [], _, _ => List.Pairwise.nil
  | z :: ns, k, h => by
    rw [List.nodup_cons] at h
    rw [List.zipIdx_cons, List.map_cons, List.pairwise_cons]
    refine ⟨fun y hy hc => ?_, pw_zip nm ns (k + 1) h.2⟩
    obtain ⟨q, hq, rfl⟩ := List.mem_map.mp hy
    have e := sameT_both hc
    have hm : q.1 ∈ ns := by
      have := List.mem_map_of_mem (f := Prod.fst) hq
      rwa [List.zipIdx_map_fst] at this
    rw [← e] at hm
    exact h.1 hm
theorem hit_filt {ns : List Str} (nm : D) (h : ns.Nodup) : ((mkR ns).filter fun r => sameT r.1 nm).map dR = hit (mkR ns) nm := by
  have e : (mkR ns).filter (fun r => sameT r.1 nm) = ((mkR ns).find? fun r => sameT r.1 nm).toList := filt_find _ _ (pw_zip nm ns 0 h)
  rw [e]
  unfold hit
  cases (mkR ns).find? fun r => sameT r.1 nm <;> rfl
theorem mk_mem {ns : List Str} {r : Str × Int} (h : r ∈ mkR ns) : r.1 ∈ ns ∧ 0 ≤ r.2 ∧ r.2 < ns.length := by
  obtain ⟨q, hq, rfl⟩ := List.mem_map.mp h
  have h1 := List.mem_zipIdx hq
  have hm : q.1 ∈ ns := by
    have := List.mem_map_of_mem (f := Prod.fst) hq
    rwa [List.zipIdx_map_fst] at this
  exact ⟨hm, by lia, by lia⟩
theorem mk_len (ns : List Str) : (mkR ns).length = ns.length := by unfold mkR; rw [List.length_map, List.length_zipIdx]
theorem mk_ok {ns : List Str} (h : nmsOk ns) : rsOk (mkR ns) := ⟨by rw [mk_len]; exact h.2.1, fun r hr => asc_ok (h.2.2 _ (mk_mem hr).1).2⟩
theorem elR {z : Str} {n : Int} (hl : z.length ≤ 8) (ha : ∀ c ∈ z.cps.toList, c < 128) (hn : 0 ≤ n ∧ n < 8) : El (dR (z, n)) ∧ (pyE (dR (z, n))).hasDict = false := by
  have a := (K01.el_str (z := z) (by lia) ha).1
  have b := (K01.el_int (n := n) (by
    obtain ⟨k, rfl⟩ : ∃ k : Nat, n = (k : Int) := ⟨n.toNat, by lia⟩
    unfold K01.iOk
    have : (2 : Nat) ^ 140 > 8 := by decide
    rw [Int.natAbs_natCast]; lia)).1
  have c := (K01.el_str (z := ("note" : Str)) (by decide +kernel) (by decide +kernel)).1
  have d := (K01.el_str (z := ("number" : Str)) (by decide +kernel) (by decide +kernel)).1
  have n1 : PyData.strOk ("note" : Str) = true := by decide +kernel
  have n2 : PyData.strOk ("number" : Str) = true := by decide +kernel
  have sa := a.sh; have sb := b.sh; have sc := c.sh; have sd := d.sh
  have la := a.lf; have lb := b.lf; have lc := c.lf; have ld := d.lf
  have wa := a.wt; have wb := b.wt
  have wc : ("note" : Str).cps.size = 4 := by decide +kernel
  have wd : ("number" : Str).cps.size = 6 := by decide +kernel
  have hl' : z.cps.size ≤ 8 := hl
  refine ⟨⟨trivial, .inl ⟨rfl, ?_, ?_⟩, rfl, ?_, ?_, ?_, ?_⟩, rfl⟩
  · simp only [dR, pyD, pyDs, PyData.canLay0, PyData.canLayAll0, asc_ok ha, n1, n2]; rfl
  · simp only [dR, pyD, pyDs, PyData.depth, PyData.depthAll]; lia
  · simp only [pyE] at sa sb sc sd
    simp only [dR, pyE, pyEs, PyData.showable, PyData.showableAll] at sb ⊢
    rw [sb]; rfl
  · simp only [dR, pyE, pyEs, PyData.depth, PyData.depthAll]; lia
  · simp only [pyE] at la lb lc ld
    simp only [dR, pyE, pyEs, PyData.leavesShort, PyData.leavesShortAll] at la lb lc ld ⊢
    rw [la, lb, lc, ld]; rfl
  · have lg : n.natAbs.log2 < 3 := K01.log_small (by decide) (by
      obtain ⟨k, rfl⟩ : ∃ k : Nat, n = (k : Int) := ⟨n.toNat, by lia⟩
      rw [Int.natAbs_natCast]; lia)
    simp only [dR, pyE, pyEs, PyData.weight, PyData.weightAll, wc, wd]
    split <;> lia
theorem dk_mk {ns : List Str} (h : nmsOk ns) : dOk (.tup ((mkR ns).map dR)) := by
  have one : ∀ r ∈ mkR ns, dOk (dR r) ∧ (pyD (dR r)).depth ≤ 5 := by
    rintro ⟨z, n⟩ hr
    have hm := mk_mem hr
    have hz := h.2.2 z hm.1
    refine ⟨?_, by simp only [dR, pyD, pyDs, PyData.depth, PyData.depthAll]; lia⟩
    rcases (elR hz.1 hz.2 (n := n) ⟨hm.2.1, by have := hm.2.2; have := h.2.1; simp only at *; lia⟩).1.eq with e | ⟨_, e⟩
    · exact e
    · cases e
  have all : ∀ (l : List (Str × Int)), (∀ r ∈ l, dOk (dR r) ∧ (pyD (dR r)).depth ≤ 5) → plains (l.map dR) = true ∧ PyData.canLayAll0 (pyDs (l.map dR)) = true ∧ PyData.depthAll (pyDs (l.map dR)) ≤ 5 := by
    intro l
    induction l with
    | nil => intro _; exact ⟨rfl, rfl, Nat.zero_le _⟩
    | cons r l ih =>
      intro hh
      have a := hh r List.mem_cons_self
      have b := ih fun y hy => hh y (List.mem_cons_of_mem _ hy)
      refine ⟨?_, ?_, ?_⟩
      · simp only [List.map_cons, plains, a.1.1, b.1]; rfl
      · simp only [List.map_cons, pyDs, PyData.canLayAll0, a.1.2.1, b.2.1]; rfl
      · have := a.2; have := b.2.2
        simp only [List.map_cons, pyDs, PyData.depthAll]; lia
  have a := all _ one
  refine ⟨by simpa [L3.plain] using a.1, by simpa [pyD, PyData.canLay0] using a.2.1, ?_⟩
  have := a.2.2
  simp only [pyD, PyData.depth]; lia
theorem sh_hit {ns : List Str} (nm : D) (h : nmsOk ns) : shE (.lst (hit (mkR ns) nm)) := by
  unfold hit
  cases e : (mkR ns).find? fun r => sameT r.1 nm with
  | none => exact sh_lst (fun x hx => nomatch hx) (Nat.zero_le _) rfl
  | some r =>
    obtain ⟨z, n⟩ := r
    have hm := mk_mem (List.mem_of_find?_eq_some e)
    have hz := h.2.2 z hm.1
    have el := elR hz.1 hz.2 (n := n) ⟨hm.2.1, by have := hm.2.2; have := h.2.1; simp only at *; lia⟩
    refine sh_lst (xs := [dR (z, n)]) (fun x hx => ?_) (Nat.le_of_ble_eq_true rfl) (dict_none fun x hx => ?_)
    · obtain rfl : x = dR (z, n) := by simpa using hx
      exact el.1
    · obtain rfl : x = dR (z, n) := by simpa using hx
      exact el.2
theorem rd_law : ∀ ds M Q, L3.spLaw3 ds M Q → t_law { nx := fun _ M' => View Q .non M', rt := View Q } (start3 N_law ds) M := by
  rintro _ M Q ⟨scr, rfl, hl, hM, q⟩
  have hz : sizeLine = 16777216 := sizeLine_eq
  rw [st_law]
  unfold t_law
  walk_at "rd"
  refine ⟨scr, rfl, hl, fun p M1 hp hP0 _ => ?_⟩
  walk_at "rd"
  refine rd_I ⟨by decide, by decide, by decide⟩ ?_
  walk_at "rd"
  intro a ha
  have hpa : p ≠ a := pen_ne hP0 ha
  walk_at "rd"
  refine ⟨fun k σ M => ∃ x4 x5 x6 x7 x8 x9 ns, σ = [some (.lst (scr.map D.int)), some (.ref p), some (.lst oddN), some (.ref a), x4, x5, x6, x7, x8, x9, none, none, none, none] ∧ Pen M p (k * 100) ∧ M a = some (.lst (ns.map D.str)) ∧ nmsOk ns, ⟨none, none, none, none, none, none, [], rfl, pen_put hP0 hpa, mput_same, List.nodup_nil, by decide, fun z hz => nomatch hz⟩, ?_, ?_⟩
  · rintro k d σ M2 hk ⟨x4, x5, x6, x7, x8, x9, ns, rfl, hP, hA, hns⟩
    have hk8 : k < 10 := by
      have h := (List.getElem?_eq_some_iff.mp hk).1
      simpa using h
    walk_at "rd"
    refine draw hP (by lia) (by decide) (by decide) fun way M3 w0 w1 hP3 e3 => ?_
    walk_at "rd"
    refine draw hP3 (by lia) (by decide) (by decide) fun n M4 n0 n1 hP4 e4 => ?_
    walk_at "rd"
    refine ⟨p, _, _, rfl, hP4, by lia, by lia, by lia, fun x M5 xl xn hP5 e5 => ?_⟩
    walk_at "rd"
    refine ⟨rfl, ?_⟩
    walk_at "rd"
    refine draw hP5 (by lia) (by decide) (by decide) fun m M6 m0 m1 hP6 e6 => ?_
    obtain ⟨ds, hds, hdm⟩ := atI_mem (ds := shutL.map D.str) m0 (by simpa [shutL] using m1)
    refine rd_ixL hds ?_
    walk_at "rd"
    obtain ⟨dw, hdw, hwm⟩ := atI_mem (ds := [D.str x, ds, .str "let"]) w0 (by simpa using w1)
    refine rd_ixL hdw ?_
    have shutA : ∀ z ∈ shutL, z.length ≤ 8 ∧ ∀ c ∈ z.cps.toList, c < 128 := by decide +kernel
    obtain ⟨z, rfl, zl, za⟩ : ∃ z : Str, dw = .str z ∧ z.length ≤ 10 ∧ ∀ c ∈ z.cps.toList, c < 128 := by
      simp only [List.mem_cons, List.not_mem_nil, or_false] at hwm
      rcases hwm with rfl | rfl | rfl
      · refine ⟨x, rfl, by lia, fun c hc => ?_⟩
        have := xl c hc
        lia
      · obtain ⟨z, hz', rfl⟩ := List.mem_map.mp hdm
        have := shutA z hz'
        exact ⟨z, rfl, by lia, this.2⟩
      · exact ⟨_, rfl, by decide +kernel, by decide +kernel⟩
    walk_at "rd"
    refine ⟨p, _, z, rfl, zl, za, hP6, by lia, fun y M7 yl ya hP7 e7 => ?_⟩
    walk_at "rd"
    refine draw hP7 (by lia) (by decide) (by decide) fun j M8 j0 j1 hP8 e8 => ?_
    obtain ⟨o, ho, hom⟩ := atI_mem (ds := oddN) j0 (by simpa [oddN] using j1)
    refine rd_ixL ho ?_
    walk_at "rd"
    have hA8 : M8 a = some (.lst (ns.map D.str)) := by
      rw [e8 a hpa.symm, e7 a hpa.symm, e6 a hpa.symm, e5 a hpa.symm, e4 a hpa.symm, e3 a hpa.symm]; exact hA
    have things : ∀ t ∈ [D.str z, .str y, o, .str z], wdOk t := by
      intro t ht
      simp only [List.mem_cons, List.not_mem_nil, or_false] at ht
      rcases ht with rfl | rfl | rfl | rfl
      · exact wd_str (by lia) za
      · exact wd_str (by lia) ya
      · exact (odd_ok hom).1
      · exact wd_str (by lia) za
    refine ⟨fun k' σ M => ∃ y8 y9 ns, σ = [some (.lst (scr.map D.int)), some (.ref p), some (.lst oddN), some (.ref a), some d, some (.int way), some (.str z), some (.str y), y8, y9, none, none, none, none] ∧ Pen M p (k * 100 + 60) ∧ M a = some (.lst (ns.map D.str)) ∧ nmsOk ns, ⟨x8, x9, ns, rfl, pen_mono hP8 (by lia), hA8, hns⟩, ?_, ?_⟩
    · rintro k' t σ M9 ht ⟨y8, y9, ns, rfl, hP9, hA9, hns9⟩
      have th := things t (List.mem_of_getElem? ht)
      walk_at "rd"
      refine ⟨t, rfl, th, ?_⟩
      walk_at "rd"
      refine rd_isBool trivial ?_
      walk_at "rd"
      refine ⟨t, rfl, th, ?_⟩
      walk_at "rd"
      rw [beq_self_eq_true]
      walk_at "rd"
      refine rd_isText th.1 ?_
      refine rd_bl ?_
      cases t with
      | str w =>
        have hw := th.2 w rfl
        refine rd_iteTe rfl ?_
        walk_at "rd"
        cases e : isNm (.str w) with
        | true =>
          refine rd_iteT ?_
          walk_at "rd"
          refine rd_inL (ys := ns) (by simp only [seqD, hA9]) ?_
          refine rd_bl ?_
          cases em : (true ^^ ns.any (· == w)) with
          | true =>
            refine rd_iteTe rfl ?_
            walk_at "rd"
            refine rd_lenR hA9 ?_
            walk_at "rd"
            refine rd_dec (fun h8 => ?_) (fun h8 => ?_)
            · walk_at "rd"
              refine ⟨.inl ⟨rfl, _, hA9⟩, ?_⟩
              walk_at "rd"
              refine rd_append hA9 (by rw [List.length_map] at h8 ⊢; lia) ?_
              rw [List.length_map] at h8
              have hnw : w ∉ ns := by
                rw [Bool.true_xor, Bool.not_eq_true'] at em
                intro hm
                rw [List.any_eq_false] at em
                exact em w hm (beq_self_eq_true w)
              have hle : w.length ≤ 8 := by
                unfold isNm at e
                rw [Bool.and_eq_true] at e
                have h1 : (decide (1 ≤ w.length) && (decide (w.length ≤ 8) && only w)) = true := e.1
                simp only [Bool.and_eq_true, decide_eq_true_eq] at h1
                exact h1.2.1
              refine ⟨_, _, ns ++ [w], rfl, pen_put hP9 hpa, by rw [mput_same, List.map_append]; rfl, ?_, ?_, ?_⟩
              · rw [List.nodup_append]
                refine ⟨hns9.1, by simp, fun u hu v hv => ?_⟩
                obtain rfl : v = w := by simpa using hv
                rintro rfl
                exact hnw hu
              · rw [List.length_append, List.length_singleton]; lia
              · intro u hu
                rcases List.mem_append.mp hu with h | h
                · exact hns9.2.2 u h
                · obtain rfl : u = w := by simpa using h
                  exact ⟨hle, hw.2⟩
            · walk_at "rd"
              exact ⟨_, _, ns, rfl, hP9, hA9, hns9⟩
          | false =>
            refine rd_iteFe rfl ?_
            walk_at "rd"
            exact ⟨_, _, ns, rfl, hP9, hA9, hns9⟩
        | false =>
          refine rd_iteF ?_
          walk_at "rd"
          exact ⟨_, _, ns, rfl, hP9, hA9, hns9⟩
      | ref _ => exact th.1.elim
      | ty _ => exact th.1.elim
      | _ => refine rd_iteFe rfl ?_; walk_at "rd"; exact ⟨_, _, ns, rfl, hP9, hA9, hns9⟩
    · rintro σ M9 ⟨y8, y9, ns, rfl, hP9, hA9, hns9⟩
      exact ⟨_, _, _, _, _, _, ns, rfl, pen_mono hP9 (by lia), hA9, hns9⟩
  · rintro σ M2 ⟨x4, x5, x6, x7, x8, x9, ns, rfl, hP, hA, hns⟩
    with_reducible refine rd_frz rfl hA ?_
    walk_at "rd"
    refine rd_eqFv (dOk_strsL fun z hz => asc_ok (hns.2.2 z hz).2) nilL_ok eqv_nilL ?_
    walk_at "rd"
    have rest : ∀ (ns : List Str), ns ≠ [] → nmsOk ns → ∀ x4 x5 x6 x7 x8 x9 M3, Pen M3 p 1000 → (tSeq3 (tSet3 10 (tCall3 spMade (tCons3 (tVar3 3) tNil3)))
    (tSeq3 (tSet3 11 (tOp3 rAdd3 (tOp3 rAdd3 (tOp3 rAdd3 (tCB3 rList3 (tCons3 (tVar3 3) tNil3)) (tComp3 (iRng3 (tCons3 (tC3 (.int 3)) tNil3)) 1 [1, 3] (gName3 0) tTrue3 (tCall3 spBent (tCons3 (tVar3 1) (tCons3 (tOp3 rIx3 (tVar3 2) (tCall3 spDraw (tCons3 (tVar3 1) (tCons3 (tCB3 rLen3 (tCons3 (tVar3 2) tNil3)) tNil3)))) tNil3))))) (tVar3 2)) (tCB3 rList3 (tCons3 (tVar3 3) tNil3))))
    (tSeq3 (tFor3 (iList3 (tVar3 11)) 12 (tSeq3 (tSet3 13 (tComp3 (iTup3 (tVar3 10)) 1 [12] (gName3 0) (tAnd3 (tTest3 (tCB3 rIsi3 (tCons3 (tVar3 1) (tCons3 (tC3 (.ty "str")) tNil3)))) (tTest3 (tOp3 rEqF3 (tOp3 rIx3 (tVar3 0) (tC3 (.int 0))) (tVar3 1)))) (tVar3 0)))
    (tIfS3 (tTest3 (tOp3 rNe3 (tCB3 rReprE3 (tCons3 (tCall3 spTold (tCons3 (tVar3 10) (tCons3 (tVar3 12) tNil3))) tNil3)) (tCB3 rReprE3 (tCons3 (tVar3 13) tNil3)))) (tRet3 (tC3 (.bl false))) tNext3)))
    (tRet3 (tOp3 rEqF3 (tVar3 10) (tCall3 spMade (tCons3 (tVar3 3) tNil3))))))) { nx := fun _ M' => View Q .non M', rt := View Q } [some (.lst (scr.map D.int)), some (.ref p), some (.lst oddN), some (.lst (ns.map D.str)), x4, x5, x6, x7, x8, x9, none, none, none, none] M3 := by
      intro ns hne hns x4 x5 x6 x7 x8 x9 M3 hP3
      walk_at "rd"
      refine ⟨ns, rfl, hns.2.1, ?_⟩
      walk_at "rd"
      have hlen : 0 < ns.length := List.length_pos_iff.mpr hne
      have h8 := hns.2.1
      have h200 : (2 : Int) ^ 200 > 200 := by decide
      refine comp_penN (q := p) 25 (fun _ _ e => ∃ x : Str, e = .str x ∧ ∀ c ∈ x.cps.toList, c < 128) hP3 (by simp [sizeLine_eq]) ?_ ?_
      · intro k dk M4 R F hk hP4 _ hR
        have hk3 : k < 3 := by
          have h := (List.getElem?_eq_some_iff.mp hk).1
          simpa using h
        walk_at "rd"
        rw [List.length_map]
        refine draw hP4 (by lia) (by lia) (by lia) fun n M5 n0 n1 hP5 e5 => ?_
        obtain ⟨dz, hdz, hzm⟩ := atI_mem (ds := ns.map D.str) n0 (by rw [List.length_map]; exact n1)
        refine rd_ixL hdz ?_
        obtain ⟨z, hzn, rfl⟩ := List.mem_map.mp hzm
        have hzz := hns.2.2 z hzn
        walk_at "rd"
        refine ⟨p, _, z, rfl, by lia, hzz.2, hP5, by lia, fun x M6 xl xa hP6 e6 => ?_⟩
        exact hR _ _ ⟨x, rfl, xa⟩ (pen_mono hP6 (by lia)) (e5.trans e6)
      intro acc M4 hal hacc hP4 _
      have hal3 : acc.length = 3 := by simpa using hal
      have haccS : ∀ e ∈ acc, ∃ x : Str, e = .str x ∧ ∀ c ∈ x.cps.toList, c < 128 := fun e he => by
        obtain ⟨_, _, _, h⟩ := comp_all hal hacc e he
        exact h
      refine rd_addL (by rw [List.length_map]; lia) ?_
      walk_at "rd"
      refine rd_addL (by simp only [List.length_append, List.length_map, oddN, List.length_cons, List.length_nil]; lia) ?_
      walk_at "rd"
      refine rd_addL (by simp only [List.length_append, List.length_map, oddN, List.length_cons, List.length_nil]; lia) ?_
      walk_at "rd"
      have asked : ∀ t ∈ ns.map D.str ++ acc ++ oddN ++ ns.map D.str, okTy t ∧ eqOk t := by
        have nmq : ∀ t ∈ ns.map D.str, okTy t ∧ eqOk t := fun t ht => by
          obtain ⟨z, hzn, rfl⟩ := List.mem_map.mp ht
          exact ⟨trivial, eq_str (hns.2.2 z hzn).2⟩
        intro t ht
        rcases List.mem_append.mp ht with ht | ht
        · rcases List.mem_append.mp ht with ht | ht
          · rcases List.mem_append.mp ht with ht | ht
            · exact nmq t ht
            · obtain ⟨x, rfl, xa⟩ := haccS t ht
              exact ⟨trivial, eq_str xa⟩
          · have := odd_ok ht
            exact ⟨this.1.1, this.2⟩
        · exact nmq t ht
      refine ⟨fun k σ M => ∃ y12 y13, σ = [some (.lst (scr.map D.int)), some (.ref p), some (.lst oddN), some (.lst (ns.map D.str)), x4, x5, x6, x7, x8, x9, some (.tup ((mkR ns).map dR)), some (.lst (ns.map D.str ++ acc ++ oddN ++ ns.map D.str)), y12, y13] ∧ M = M4, ⟨none, none, rfl, rfl⟩, ?_, ?_⟩
      · rintro k nm σ M5 hk ⟨y12, y13, rfl, rfl⟩
        have hnm := asked nm (List.mem_of_getElem? hk)
        walk_at "rd"
        refine comp_filtX (mkR ns) dR dR (fun r => sameT r.1 nm) (by rw [mk_len, sizeLine_eq]; lia) ?_ ?_
        · intro r hr M6 R F _ hR hF
          have hrr := hns.2.2 r.1 (mk_mem hr).1
          walk_at "rd"
          refine rd_isText hnm.1 ?_
          refine rd_bl ?_
          cases et : isTxt nm with
          | true =>
            refine rd_iteTe rfl ?_
            walk_at "rd"
            refine rd_ixT (d := .str r.1) rfl ?_
            walk_at "rd"
            refine rd_same hnm.2 (asc_ok hrr.2) ?_
            refine rd_bl ?_
            cases e : sameT r.1 nm with
            | true => exact rd_iteTe rfl (rd_var rfl (hR e))
            | false => exact rd_iteFe rfl (hF e)
          | false =>
            refine rd_iteFe rfl ?_
            refine rd_iteF ?_
            refine hF ?_
            cases nm <;> first | rfl | cases et
        · rw [hit_filt nm hns.1]
          walk_at "rd"
          refine ⟨mkR ns, nm, rfl, mk_ok hns, hnm.2, ?_⟩
          walk_at "rd"
          refine rd_reprE (sh_hit nm hns) ?_
          walk_at "rd"
          refine rd_reprE (sh_hit nm hns) ?_
          walk_at "rd"
          rw [beq_self_eq_true]
          walk_at "rd"
          exact ⟨_, _, rfl, rfl⟩
      · rintro σ M5 ⟨y12, y13, rfl, rfl⟩
        walk_at "rd"
        refine ⟨ns, rfl, hns.2.1, ?_⟩
        have hdk := dk_mk hns
        refine rd_eqFv hdk hdk (SeqAt.eqv_refl _ hdk.2.1) ?_
        exact View.of (q _)
    have hP2 : Pen (mdel M2 a) p 1000 := pen_del (pen_mono hP (by simp)) hpa
    cases ns with
    | nil =>
      refine rd_iteTe rfl ?_
      walk_at "rd"
      refine rest ["a"] (by simp) ⟨by simp, by decide, ?_⟩ _ _ _ _ _ _ _ hP2
      intro z hz'
      obtain rfl : z = "a" := by simpa using hz'
      exact ⟨by decide +kernel, by decide +kernel⟩
    | cons z ns =>
      refine rd_iteFe rfl ?_
      walk_at "rd"
      exact rest (z :: ns) (by simp) hns _ _ _ _ _ _ _ hP2
end K06
namespace K06
open PySem PySem.Spec PyProof.Rows L2 L3
open L3 renaming pa3_nil → zA, pa3_k → zB, pss3_cons → zC, pe3_int → zD, pss3_one → zE, pe3_op → zF, pe3_callB → zG, pe3_call → zH, pe3_str → zI, ps3_set → zJ, ps3_ret → zK, o3_add → zL, pe3_lst → zM, pss3_nil → zN, pt3_cmp → zO, pe3_tup → zP, pe3_cls → zQ, ps3_if → zR, pe3_ix → zS, po3_none → zT, po3_some → zU, pt3_val → zV, pe3_bltn → zW, c3_len → zX, pe3_callTy → zY, pg3_name → zZ, pe3_dget → yA, pe3_slW → yB, pe3_compB → yC, o3_mod → yD, pw3_and → yE, pt3_not → yF, pe3_non → yG, pifs_nil → yH, pi3_range1 → yI, pps3_cons → yJ, pe3_cmp → yK, c3_isi → yL, ps3_for → yM, o3_eqF → yN, o3_notin → yO, ps3_dput → yP, pw3_and1 → yQ, o3_mul → yR, o3_pow → yS, pw3_or → yT, pe3_bl → yU
def top (i : Nat) : Stmt := PySem.Challenge.pw_handedon_k06_what_is_a_name.main.body.getD i (.Pass ⟨0, 0, 0, 0⟩)
structure Blt (mg : Str → Option Value) : Prop where
  ValueError_ : mg "ValueError" = none
  abs_ : mg "abs" = none
  all_ : mg "all" = none
  bool_ : mg "bool" = none
  enumerate_ : mg "enumerate" = none
  isinstance_ : mg "isinstance" = none
  len_ : mg "len" = none
  list_ : mg "list" = none
  range_ : mg "range" = none
  repr_ : mg "repr" = none
  str_ : mg "str" = none
  tuple_ : mg "tuple" = none
structure Cst (K : PySem.W.Frag) (P : Params) (mg : Str → Option Value) : Prop where
  LETTERS_ : ∃ tk, mg "LETTERS" = some (Value.str "abcdefghijklmnopqrstuvwxyz" tk)
  MOST_LETTERS_ : ∃ tk, mg "MOST_LETTERS" = some (Value.int 8 tk)
  SHUT_NAMES_ : ∃ a, mg "SHUT_NAMES" = some (.ref a) ∧ KTup K a ((["any", "ask", "cast", "catch", "close", "else", "end", "fault", "give", "if", "last", "leave", "make", "none", "note", "on", "rule", "try", "while"] : List Str).map V.str)
section
variable {P : Program} {w : World} {K : PySem.W.Frag} {mg : Str → Option Value} {base : Heap}
abbrev s0x : Stmt := top 16
theorem sc0x : FnScope K01.N_has_only ["text", "signs"] (defScope s0x) := ⟨rfl, rfl, rfl, by decide +kernel, rfl, by decide +kernel, by decide +kernel⟩
set_option maxHeartbeats 4000000 in
theorem dv0x {f : Addr} {cdv : Value} {A : Around} {outer : List Env} {s : Shared} {H : Hp} {E : XK} (B : Blt mg) (C : Cst K w.params mg)
    (hr : Room 0 (A.deeper (envOfC "has_only" (defScope s0x) s.heap.objs.size f cdv))) :
    PSs3 (cxOf CX0 P w K mg base K01.N_has_only "has_only" (defScope s0x) f cdv A outer s H E).nox (defBody s0x) K01.t_has_only := by
    unfold K01.t_has_only
    exact zE (zK (zG (c3_all rfl) rfl B.all_ b3_all (zB (yC ["sign"] ["signs"] [1] rfl (pi3_s (pv3 0)) rfl (by first | rfl | kernel_rfl) rfl (gk_name (by decide)) (fun cl s₀ H₀ ex => (zZ (i := 0) (show List.Nodup (["sign", "signs"] : List Str) by decide +kernel) rfl (Or.inl rfl) (Or.inr rfl))) (fun cl s₀ H₀ ex => yH) (fun cl s₀ H₀ ex => (yK o3_in (pv3 0) (pv3 1) rfl))) zA)))
set_option maxHeartbeats 4000000 in
theorem ok0x {f : Addr} {fd : FuncData} (B : Blt mg) (C : Cst K w.params mg) (F : FnAt K mg "has_only" s0x ["text", "signs"] f fd) : FnOk P w K mg base CX0 1 f fd ["text", "signs"] (dnSp K K01.spOnly) :=
  L3.Fun.ok3 F.fn sc0x K01.len_has_only fun cdv A outer s H E hr => ⟨K01.t_has_only, @dv0x P w K mg base f cdv A outer s H E B C hr, K01.rd_has_only⟩
abbrev s1x : Stmt := top 17
theorem sc1x : FnScope K01.N_is_letters ["thing"] (defScope s1x) := ⟨rfl, rfl, rfl, by decide +kernel, rfl, by decide +kernel, by decide +kernel⟩
set_option maxHeartbeats 4000000 in
theorem dv1x {f : Addr} {cdv : Value} {A : Around} {outer : List Env} {s : Shared} {H : Hp} {E : XK} (B : Blt mg) (C : Cst K w.params mg) {f0x : Addr} {fd0x : FuncData} (A0x : FnAt K mg "has_only" s0x ["text", "signs"] f0x fd0x) (G0x : FnOk P w K mg base CX0 1 f0x fd0x ["text", "signs"] (dnSp K K01.spOnly))
    (hr : Room 1 (A.deeper (envOfC "is_letters" (defScope s1x) s.heap.objs.size f cdv))) :
    PSs3 (cxOf CX0 P w K mg base K01.N_is_letters "is_letters" (defScope s1x) f cdv A outer s H E).nox (defBody s1x) K01.t_is_letters := by
    unfold K01.t_is_letters
    exact zE (zK (pe3_and (zG yL rfl B.isinstance_ b3_isinstance (zB (pv3 0) (zB (zW (d := .ty "str") (v := .ty "str") rfl B.str_ b3_str rfl (fun _ _ _ => .ty)) zA))) (pe3_and (pe3_chain o3_le o3_le zD (zG zX rfl B.len_ b3_len (zB (pv3 0) zA)) (pe3_globI rfl C.MOST_LETTERS_)) (pe3_one (zH G0x (hr.mono (by decide)) rfl A0x.gl A0x.fn.kp A0x.bd (zB (pv3 0) (zB (pe3_globS rfl C.LETTERS_) zA)))))))
set_option maxHeartbeats 4000000 in
theorem ok1x {f : Addr} {fd : FuncData} (B : Blt mg) (C : Cst K w.params mg) {f0x : Addr} {fd0x : FuncData} (A0x : FnAt K mg "has_only" s0x ["text", "signs"] f0x fd0x) (G0x : FnOk P w K mg base CX0 1 f0x fd0x ["text", "signs"] (dnSp K K01.spOnly)) (F : FnAt K mg "is_letters" s1x ["thing"] f fd) : FnOk P w K mg base CX0 2 f fd ["thing"] (dnSp K K01.spLetters) :=
  L3.Fun.ok3 F.fn sc1x K01.len_is_letters fun cdv A outer s H E hr => ⟨K01.t_is_letters, @dv1x P w K mg base f cdv A outer s H E B C f0x fd0x A0x G0x hr, K01.rd_is_letters⟩
abbrev s2x : Stmt := top 20
theorem sc2x : FnScope N_is_name ["thing"] (defScope s2x) := ⟨rfl, rfl, rfl, by decide +kernel, rfl, by decide +kernel, by decide +kernel⟩
set_option maxHeartbeats 4000000 in
theorem dv2x {f : Addr} {cdv : Value} {A : Around} {outer : List Env} {s : Shared} {H : Hp} {E : XK} (B : Blt mg) (C : Cst K w.params mg) {f1x : Addr} {fd1x : FuncData} (A1x : FnAt K mg "is_letters" s1x ["thing"] f1x fd1x) (G1x : FnOk P w K mg base CX0 2 f1x fd1x ["thing"] (dnSp K K01.spLetters))
    (hr : Room 2 (A.deeper (envOfC "is_name" (defScope s2x) s.heap.objs.size f cdv))) :
    PSs3 (cxOf CX0 P w K mg base N_is_name "is_name" (defScope s2x) f cdv A outer s H E).nox (defBody s2x) t_is_name := by
    unfold t_is_name
    exact zE (zK (pe3_and (zH G1x (hr.mono (by decide)) rfl A1x.gl A1x.fn.kp A1x.bd (zB (pv3 0) zA)) (pe3_one (yK yO (pv3 0) (pe3_globT rfl C.SHUT_NAMES_) rfl))))
set_option maxHeartbeats 4000000 in
theorem ok2x {f : Addr} {fd : FuncData} (B : Blt mg) (C : Cst K w.params mg) {f1x : Addr} {fd1x : FuncData} (A1x : FnAt K mg "is_letters" s1x ["thing"] f1x fd1x) (G1x : FnOk P w K mg base CX0 2 f1x fd1x ["thing"] (dnSp K K01.spLetters)) (F : FnAt K mg "is_name" s2x ["thing"] f fd) : FnOk P w K mg base CX0 3 f fd ["thing"] (dnSp K spIsName) :=
  L3.Fun.ok3 F.fn sc2x len_is_name fun cdv A outer s H E hr => ⟨t_is_name, @dv2x P w K mg base f cdv A outer s H E B C f1x fd1x A1x G1x hr, rd_is_name⟩
abbrev s3x : Stmt := top 21
theorem sc3x : FnScope N_rule_of ["book", "name"] (defScope s3x) := ⟨rfl, rfl, rfl, by decide +kernel, rfl, by decide +kernel, by decide +kernel⟩
set_option maxHeartbeats 4000000 in
theorem dv3x {f : Addr} {cdv : Value} {A : Around} {outer : List Env} {s : Shared} {H : Hp} {E : XK} (B : Blt mg) (C : Cst K w.params mg) {c_NoRule : Addr} (h_NoRule : mg "NoRule" = some (.ref c_NoRule)) (q_NoRule : PySem.W.excIn K c_NoRule bmV "ValueError.__new__" = true)
    (hr : Room 0 (A.deeper (envOfC "rule_of" (defScope s3x) s.heap.objs.size f cdv))) :
    PXs (cxOf (CXE P w) P w K mg base N_rule_of "rule_of" (defScope s3x) f cdv A outer s H E) (defBody s3x) (t_rule_of c_NoRule) := by
    unfold t_rule_of
    exact (pxs_cons (px_of (yM PassesOwn.never rfl (pi3_t (pv3 0)) sc3x.nd rfl (Or.inl rfl) (zE (zR (zO (yN hr) (zS (pv3 2) zD (fun _ _ => rfl)) (pv3 1) (nomark _)) (zE (zK (pv3 2))) zN))))
    (pxs_one (px_raise rfl rfl h_NoRule q_NoRule (zB zI zA))))
set_option maxHeartbeats 4000000 in
theorem ok3x {f : Addr} {fd : FuncData} (B : Blt mg) (C : Cst K w.params mg) {c_NoRule : Addr} (h_NoRule : mg "NoRule" = some (.ref c_NoRule)) (q_NoRule : PySem.W.excIn K c_NoRule bmV "ValueError.__new__" = true) (F : FnAt K mg "rule_of" s3x ["book", "name"] f fd) : FnOk P w K mg base (CXE P w) 1 f fd ["book", "name"] (dnSpX K (spRule c_NoRule)) :=
  L3.Fun.okX F.fn sc3x (len_rule_of c_NoRule) fun cdv A outer s H E hr => ⟨t_rule_of c_NoRule, dv3x B C h_NoRule q_NoRule hr, rd_rule_of c_NoRule⟩
abbrev s4x : Stmt := top 23
theorem sc4x : FnScope MK.N__law_pen ["_law_script"] (defScope s4x) := ⟨rfl, rfl, rfl, by decide +kernel, rfl, by decide +kernel, by decide +kernel⟩
set_option maxHeartbeats 4000000 in
theorem dv4x {f : Addr} {cdv : Value} {A : Around} {outer : List Env} {s : Shared} {H : Hp} {E : XK} (B : Blt mg) (C : Cst K w.params mg)
    (hr : Room 0 (A.deeper (envOfC "_law_pen" (defScope s4x) s.heap.objs.size f cdv))) :
    PSs3 (cxOf CX0 P w K mg base MK.N__law_pen "_law_pen" (defScope s4x) f cdv A outer s H E).nox (defBody s4x) MK.t__law_pen := by
    unfold MK.t__law_pen
    exact zE (zK (pe3_dispM (yJ zI (zY c3_list rfl B.list_ b3_list (zB (pe3_sl (pv3 0) zT (zU zD)) zA)) (yJ zI zD (yJ zI zD pps3_nil))) rfl rfl (by simp) (by decide)))
set_option maxHeartbeats 4000000 in
theorem ok4x {f : Addr} {fd : FuncData} (B : Blt mg) (C : Cst K w.params mg) (F : FnAt K mg "_law_pen" s4x ["_law_script"] f fd) : FnOk P w K mg base CX0 1 f fd ["_law_script"] (dnSp K spPen) :=
  L3.Fun.ok3 F.fn sc4x MK.len__law_pen fun cdv A outer s H E hr => ⟨MK.t__law_pen, @dv4x P w K mg base f cdv A outer s H E B C hr, MK.rd__law_pen⟩
abbrev s5x : Stmt := top 24
theorem sc5x : FnScope MK.N__law_draw ["_law_pen_here", "_law_many"] (defScope s5x) := ⟨rfl, rfl, rfl, by decide +kernel, rfl, by decide +kernel, by decide +kernel⟩
set_option maxHeartbeats 4000000 in
theorem dv5x {f : Addr} {cdv : Value} {A : Around} {outer : List Env} {s : Shared} {H : Hp} {E : XK} (B : Blt mg) (C : Cst K w.params mg)
    (hr : Room 0 (A.deeper (envOfC "_law_draw" (defScope s5x) s.heap.objs.size f cdv))) :
    PSs3 (cxOf CX0 P w K mg base MK.N__law_draw "_law_draw" (defScope s5x) f cdv A outer s H E).nox (defBody s5x) MK.t__law_draw := by
    unfold MK.t__law_draw
    refine zC ?_ ?_
    · exact (zR (zO o3_gt (yA (hu3 hr) (pv3 0) zI (fun _ _ => rfl)) zD (nomark _)) (zC (zJ (i := 2) sc5x.nd rfl (Or.inl rfl) (zF yD (yA (hu3 hr) (pv3 0) zI (fun _ _ => rfl)) (pv3 1)))
    (zC (yP (hu3 hr) (pv3 0) zI (zF o3_fdiv (yA (hu3 hr) (pv3 0) zI (fun _ _ => rfl)) (pv3 1)) rfl)
    (zE (zK (pv3 2))))) zN)
    refine zC ?_ ?_
    · exact (zJ (i := 3) sc5x.nd rfl (Or.inl rfl) (yA (hu3 hr) (pv3 0) zI (fun _ _ => rfl)))
    refine zC ?_ ?_
    · exact (zJ (i := 4) sc5x.nd rfl (Or.inl rfl) (yA (hu3 hr) (pv3 0) zI (fun _ _ => rfl)))
    refine zC ?_ ?_
    · exact (yP (hu3 hr) (pv3 0) zI (zF zL (pv3 4) zD) rfl)
    refine zC ?_ ?_
    · exact (zJ (i := 5) sc5x.nd rfl (Or.inl rfl) (zF zL (zF yR zD (pv3 4)) zD))
    refine zC ?_ ?_
    · exact (zR (zO (o3_ne hr) (pv3 3) (zM zA) (nomark _)) (zE (zJ (i := 5) sc5x.nd rfl (Or.inl rfl) (zS (pv3 3) (zF yD (pv3 4) (zG zX rfl B.len_ b3_len (zB (pv3 3) zA))) (fun _ _ => rfl)))) zN)
    refine zC ?_ ?_
    · exact (zR (PW3.pt (yE (zO o3_lt (pv3 4) (zG zX rfl B.len_ b3_len (zB (pv3 3) zA)) (nomark _)) (yQ (zO o3_ge (zG c3_abs rfl B.abs_ b3_abs (zB (pv3 5) zA)) (zF yS zD zD) (nomark _))))) (zC (yP (hu3 hr) (pv3 0) zI (zF o3_fdiv (zG c3_abs rfl B.abs_ b3_abs (zB (pv3 5) zA)) (pv3 1)) rfl)
    (zE (zK (zF yD (zG c3_abs rfl B.abs_ b3_abs (zB (pv3 5) zA)) (pv3 1))))) zN)
    refine zC ?_ ?_
    · exact (zJ (i := 6) sc5x.nd rfl (Or.inl rfl) (zF yD (zF yS (zF zL (zF zL (zF yD (pv3 5) zD) (zF yR zD (pv3 4))) zD) zD) zD))
    refine zC ?_ ?_
    · exact (zJ (i := 6) sc5x.nd rfl (Or.inl rfl) (zF yD (zF yS (zF zL (zF yR (pv3 6) (zF zL (zF yR zD (pv3 4)) zD)) zD) zD) zD))
    exact zE (zK (zF yD (zF o3_fdiv (pv3 6) zD) (pv3 1)))
set_option maxHeartbeats 4000000 in
theorem ok5x {f : Addr} {fd : FuncData} (B : Blt mg) (C : Cst K w.params mg) (F : FnAt K mg "_law_draw" s5x ["_law_pen_here", "_law_many"] f fd) : FnOk P w K mg base CX0 1 f fd ["_law_pen_here", "_law_many"] (dnSp K spDraw) :=
  L3.Fun.ok3 F.fn sc5x MK.len__law_draw fun cdv A outer s H E hr => ⟨MK.t__law_draw, @dv5x P w K mg base f cdv A outer s H E B C hr, MK.rd__law_draw⟩
abbrev s6x : Stmt := top 25
theorem sc6x : FnScope N__law_shut [] (defScope s6x) := ⟨rfl, rfl, rfl, by decide +kernel, rfl, by decide +kernel, by decide +kernel⟩
set_option maxHeartbeats 4000000 in
theorem dv6x {f : Addr} {cdv : Value} {A : Around} {outer : List Env} {s : Shared} {H : Hp} {E : XK} (B : Blt mg) (C : Cst K w.params mg)
    (hr : Room 0 (A.deeper (envOfC "_law_shut" (defScope s6x) s.heap.objs.size f cdv))) :
    PSs3 (cxOf CX0 P w K mg base N__law_shut "_law_shut" (defScope s6x) f cdv A outer s H E).nox (defBody s6x) t__law_shut := by
    unfold t__law_shut
    refine zC ?_ ?_
    · exact (zJ (i := 0) sc6x.nd rfl (Or.inl rfl) zI)
    exact zE (zK (pe3_bm F.plainAttrs_str F.slot_str_split F.type_str_split m3_split (pv3 0) (zB zI zA)))
set_option maxHeartbeats 4000000 in
theorem ok6x {f : Addr} {fd : FuncData} (B : Blt mg) (C : Cst K w.params mg) (F : FnAt K mg "_law_shut" s6x [] f fd) : FnOk P w K mg base CX0 1 f fd [] (dnSp K spShut) :=
  L3.Fun.ok3 F.fn sc6x len__law_shut fun cdv A outer s H E hr => ⟨t__law_shut, @dv6x P w K mg base f cdv A outer s H E B C hr, rd__law_shut⟩
abbrev s7x : Stmt := top 26
theorem sc7x : FnScope MK.N__law_letters ["_law_pen_here", "_law_size"] (defScope s7x) := ⟨rfl, rfl, rfl, by decide +kernel, rfl, by decide +kernel, by decide +kernel⟩
set_option maxHeartbeats 4000000 in
theorem dv7x {f : Addr} {cdv : Value} {A : Around} {outer : List Env} {s : Shared} {H : Hp} {E : XK} (B : Blt mg) (C : Cst K w.params mg) {f5x : Addr} {fd5x : FuncData} (A5x : FnAt K mg "_law_draw" s5x ["_law_pen_here", "_law_many"] f5x fd5x) (G5x : FnOk P w K mg base CX0 1 f5x fd5x ["_law_pen_here", "_law_many"] (dnSp K spDraw))
    (hr : Room 1 (A.deeper (envOfC "_law_letters" (defScope s7x) s.heap.objs.size f cdv))) :
    PSs3 (cxOf CX0 P w K mg base MK.N__law_letters "_law_letters" (defScope s7x) f cdv A outer s H E).nox (defBody s7x) MK.t__law_letters := by
    unfold MK.t__law_letters
    exact zE (zK (pe3_bm F.plainAttrs_str F.slot_str_join F.type_str_join m3_join zI (zB (yC ["_law_k"] ["_law_pen_here"] [0] rfl (yI rfl B.range_ (zB (pv3 1) zA)) rfl (by first | rfl | kernel_rfl) rfl (gk_name (by decide)) (fun cl s₀ H₀ ex => (zZ (i := 0) (show List.Nodup (["_law_k", "_law_pen_here"] : List Str) by decide +kernel) rfl (Or.inl rfl) (Or.inr rfl))) (fun cl s₀ H₀ ex => yH) (fun cl s₀ H₀ ex => (zS zI (zH G5x (hr.mono (by decide)) rfl A5x.gl A5x.fn.kp A5x.bd (zB (pv3 1) (zB zD zA))) (fun _ _ => rfl)))) zA)))
set_option maxHeartbeats 4000000 in
theorem ok7x {f : Addr} {fd : FuncData} (B : Blt mg) (C : Cst K w.params mg) {f5x : Addr} {fd5x : FuncData} (A5x : FnAt K mg "_law_draw" s5x ["_law_pen_here", "_law_many"] f5x fd5x) (G5x : FnOk P w K mg base CX0 1 f5x fd5x ["_law_pen_here", "_law_many"] (dnSp K spDraw)) (F : FnAt K mg "_law_letters" s7x ["_law_pen_here", "_law_size"] f fd) : FnOk P w K mg base CX0 2 f fd ["_law_pen_here", "_law_size"] (dnSp K MK.spLetters) :=
  L3.Fun.ok3 F.fn sc7x MK.len__law_letters fun cdv A outer s H E hr => ⟨MK.t__law_letters, @dv7x P w K mg base f cdv A outer s H E B C f5x fd5x A5x G5x hr, MK.rd__law_letters⟩
abbrev s8x : Stmt := top 27
theorem sc8x : FnScope N__law_sign ["_law_pen_here"] (defScope s8x) := ⟨rfl, rfl, rfl, by decide +kernel, rfl, by decide +kernel, by decide +kernel⟩
set_option maxHeartbeats 4000000 in
theorem dv8x {f : Addr} {cdv : Value} {A : Around} {outer : List Env} {s : Shared} {H : Hp} {E : XK} (B : Blt mg) (C : Cst K w.params mg) {f5x : Addr} {fd5x : FuncData} (A5x : FnAt K mg "_law_draw" s5x ["_law_pen_here", "_law_many"] f5x fd5x) (G5x : FnOk P w K mg base CX0 1 f5x fd5x ["_law_pen_here", "_law_many"] (dnSp K spDraw))
    (hr : Room 1 (A.deeper (envOfC "_law_sign" (defScope s8x) s.heap.objs.size f cdv))) :
    PSs3 (cxOf CX0 P w K mg base N__law_sign "_law_sign" (defScope s8x) f cdv A outer s H E).nox (defBody s8x) t__law_sign := by
    unfold t__law_sign
    refine zC ?_ ?_
    · exact (zJ (i := 1) sc8x.nd rfl (Or.inl rfl) zI)
    exact zE (zK (zS (pv3 1) (zH G5x (hr.mono (by decide)) rfl A5x.gl A5x.fn.kp A5x.bd (zB (pv3 0) (zB (zG zX rfl B.len_ b3_len (zB (pv3 1) zA)) zA))) (fun _ _ => rfl)))
set_option maxHeartbeats 4000000 in
theorem ok8x {f : Addr} {fd : FuncData} (B : Blt mg) (C : Cst K w.params mg) {f5x : Addr} {fd5x : FuncData} (A5x : FnAt K mg "_law_draw" s5x ["_law_pen_here", "_law_many"] f5x fd5x) (G5x : FnOk P w K mg base CX0 1 f5x fd5x ["_law_pen_here", "_law_many"] (dnSp K spDraw)) (F : FnAt K mg "_law_sign" s8x ["_law_pen_here"] f fd) : FnOk P w K mg base CX0 2 f fd ["_law_pen_here"] (dnSp K spSign) :=
  L3.Fun.ok3 F.fn sc8x len__law_sign fun cdv A outer s H E hr => ⟨t__law_sign, @dv8x P w K mg base f cdv A outer s H E B C f5x fd5x A5x G5x hr, rd__law_sign⟩
abbrev s9x : Stmt := top 28
theorem sc9x : FnScope N__law_bent ["_law_pen_here", "_law_text"] (defScope s9x) := ⟨rfl, rfl, rfl, by decide +kernel, rfl, by decide +kernel, by decide +kernel⟩
set_option maxHeartbeats 4000000 in
theorem dv9x {f : Addr} {cdv : Value} {A : Around} {outer : List Env} {s : Shared} {H : Hp} {E : XK} (B : Blt mg) (C : Cst K w.params mg) {f5x : Addr} {fd5x : FuncData} (A5x : FnAt K mg "_law_draw" s5x ["_law_pen_here", "_law_many"] f5x fd5x) (G5x : FnOk P w K mg base CX0 1 f5x fd5x ["_law_pen_here", "_law_many"] (dnSp K spDraw)) {f8x : Addr} {fd8x : FuncData} (A8x : FnAt K mg "_law_sign" s8x ["_law_pen_here"] f8x fd8x) (G8x : FnOk P w K mg base CX0 2 f8x fd8x ["_law_pen_here"] (dnSp K spSign)) {f7x : Addr} {fd7x : FuncData} (A7x : FnAt K mg "_law_letters" s7x ["_law_pen_here", "_law_size"] f7x fd7x) (G7x : FnOk P w K mg base CX0 2 f7x fd7x ["_law_pen_here", "_law_size"] (dnSp K MK.spLetters))
    (hr : Room 2 (A.deeper (envOfC "_law_bent" (defScope s9x) s.heap.objs.size f cdv))) :
    PSs3 (cxOf CX0 P w K mg base N__law_bent "_law_bent" (defScope s9x) f cdv A outer s H E).nox (defBody s9x) t__law_bent := by
    unfold t__law_bent
    refine zC ?_ ?_
    · exact (zJ (i := 2) sc9x.nd rfl (Or.inl rfl) (zH G5x (hr.mono (by decide)) rfl A5x.gl A5x.fn.kp A5x.bd (zB (pv3 0) (zB zD zA))))
    refine zC ?_ ?_
    · exact (zJ (i := 3) sc9x.nd rfl (Or.inl rfl) (zH G5x (hr.mono (by decide)) rfl A5x.gl A5x.fn.kp A5x.bd (zB (pv3 0) (zB (zF zL (zG zX rfl B.len_ b3_len (zB (pv3 1) zA)) zD) zA))))
    refine zC ?_ ?_
    · exact (zJ (i := 4) sc9x.nd rfl (Or.inl rfl) (zS (zM (zB (zH G8x (hr.mono (by decide)) rfl A8x.gl A8x.fn.kp A8x.bd (zB (pv3 0) zA)) (zB (zH G7x (hr.mono (by decide)) rfl A7x.gl A7x.fn.kp A7x.bd (zB (pv3 0) (zB zD zA))) zA))) (zH G5x (hr.mono (by decide)) rfl A5x.gl A5x.fn.kp A5x.bd (zB (pv3 0) (zB zD zA))) (fun _ _ => rfl)))
    refine zC ?_ ?_
    · exact (zJ (i := 5) sc9x.nd rfl (Or.inl rfl) (zM (zB (zF zL (zF zL (yB (pv3 1) zT (zU (pv3 3))) (pv3 4)) (yB (pv3 1) (zU (pv3 3)) zT)) (zB (zF zL (yB (pv3 1) zT (zU (pv3 3))) (yB (pv3 1) (zU (zF zL (pv3 3) zD)) zT)) (zB (zF zL (zF zL (yB (pv3 1) zT (zU (pv3 3))) (pv3 4)) (yB (pv3 1) (zU (zF zL (pv3 3) zD)) zT)) (zB (pe3_bm0 F.plainAttrs_str F.slot_str_upper F.type_str_upper m3_upper (pv3 1)) zA))))))
    exact zE (zK (zS (zF zL (pv3 5) (zM (zB (zF zL (pv3 1) zI) (zB (zF zL (pv3 1) (pv3 1)) zA)))) (pv3 2) (fun _ _ => rfl)))
set_option maxHeartbeats 4000000 in
theorem ok9x {f : Addr} {fd : FuncData} (B : Blt mg) (C : Cst K w.params mg) {f5x : Addr} {fd5x : FuncData} (A5x : FnAt K mg "_law_draw" s5x ["_law_pen_here", "_law_many"] f5x fd5x) (G5x : FnOk P w K mg base CX0 1 f5x fd5x ["_law_pen_here", "_law_many"] (dnSp K spDraw)) {f8x : Addr} {fd8x : FuncData} (A8x : FnAt K mg "_law_sign" s8x ["_law_pen_here"] f8x fd8x) (G8x : FnOk P w K mg base CX0 2 f8x fd8x ["_law_pen_here"] (dnSp K spSign)) {f7x : Addr} {fd7x : FuncData} (A7x : FnAt K mg "_law_letters" s7x ["_law_pen_here", "_law_size"] f7x fd7x) (G7x : FnOk P w K mg base CX0 2 f7x fd7x ["_law_pen_here", "_law_size"] (dnSp K MK.spLetters)) (F : FnAt K mg "_law_bent" s9x ["_law_pen_here", "_law_text"] f fd) : FnOk P w K mg base CX0 3 f fd ["_law_pen_here", "_law_text"] (dnSp K spBent) :=
  L3.Fun.ok3 F.fn sc9x len__law_bent fun cdv A outer s H E hr => ⟨t__law_bent, @dv9x P w K mg base f cdv A outer s H E B C f5x fd5x A5x G5x f8x fd8x A8x G8x f7x fd7x A7x G7x hr, rd__law_bent⟩
abbrev s10x : Stmt := top 29
theorem sc10x : FnScope N__law_is_name ["_law_thing"] (defScope s10x) := ⟨rfl, rfl, rfl, by decide +kernel, rfl, by decide +kernel, by decide +kernel⟩
set_option maxHeartbeats 4000000 in
theorem dv10x {f : Addr} {cdv : Value} {A : Around} {outer : List Env} {s : Shared} {H : Hp} {E : XK} (B : Blt mg) (C : Cst K w.params mg) {f6x : Addr} {fd6x : FuncData} (A6x : FnAt K mg "_law_shut" s6x [] f6x fd6x) (G6x : FnOk P w K mg base CX0 1 f6x fd6x [] (dnSp K spShut))
    (hr : Room 1 (A.deeper (envOfC "_law_is_name" (defScope s10x) s.heap.objs.size f cdv))) :
    PSs3 (cxOf CX0 P w K mg base N__law_is_name "_law_is_name" (defScope s10x) f cdv A outer s H E).nox (defBody s10x) t__law_is_name := by
    unfold t__law_is_name
    refine zC ?_ ?_
    · exact (zR (PW3.pt (yT (yF (zV (zG yL rfl B.isinstance_ b3_isinstance (zB (pv3 0) (zB (zW (d := .ty "str") (v := .ty "str") rfl B.str_ b3_str rfl (fun _ _ _ => .ty)) zA))))) (yT (yF (pt3_chain o3_le o3_le zD (zG zX rfl B.len_ b3_len (zB (pv3 0) zA)) zD)) (pw3_or1 (zO o3_in (pv3 0) (pe3_call0 G6x (hr.mono (by decide)) rfl A6x.gl A6x.fn.kp A6x.bd) rfl))))) (zE (zK yU)) zN)
    exact zE (zK (yK (yN hr) (yC ["_law_sign_here"] [] [] rfl (pi3_s (pv3 0)) rfl (by first | rfl | kernel_rfl) rfl (gk_name (by decide)) (fun cl s₀ H₀ ex => (zZ (i := 0) (show List.Nodup (["_law_sign_here"] : List Str) by decide +kernel) rfl (Or.inl rfl) (Or.inr rfl))) (fun cl s₀ H₀ ex => (pifs_one (zO yO (pv3 0) zI rfl))) (fun cl s₀ H₀ ex => (pv3 0))) (zM zA) (nomark _)))
set_option maxHeartbeats 4000000 in
theorem ok10x {f : Addr} {fd : FuncData} (B : Blt mg) (C : Cst K w.params mg) {f6x : Addr} {fd6x : FuncData} (A6x : FnAt K mg "_law_shut" s6x [] f6x fd6x) (G6x : FnOk P w K mg base CX0 1 f6x fd6x [] (dnSp K spShut)) (F : FnAt K mg "_law_is_name" s10x ["_law_thing"] f fd) : FnOk P w K mg base CX0 2 f fd ["_law_thing"] (dnSp K spIsName) :=
  L3.Fun.ok3 F.fn sc10x len__law_is_name fun cdv A outer s H E hr => ⟨t__law_is_name, @dv10x P w K mg base f cdv A outer s H E B C f6x fd6x A6x G6x hr, rd__law_is_name⟩
abbrev s11x : Stmt := top 30
theorem sc11x : FnScope N__law_told ["_law_book", "_law_name"] (defScope s11x) := ⟨rfl, rfl, rfl, by decide +kernel, rfl, by decide +kernel, by decide +kernel⟩
set_option maxHeartbeats 4000000 in
theorem dv11x {f : Addr} {cdv : Value} {A : Around} {outer : List Env} {s : Shared} {H : Hp} {E : XK} (B : Blt mg) (C : Cst K w.params mg) {c_NoRule : Addr} (h_NoRule : mg "NoRule" = some (.ref c_NoRule)) {c_GiverError : Addr} (h_GiverError : mg "GiverError" = some (.ref c_GiverError)) {c_Full : Addr} (h_Full : mg "Full" = some (.ref c_Full)) {c_NoAsk : Addr} (h_NoAsk : mg "NoAsk" = some (.ref c_NoAsk)) {c_NoBook : Addr} (h_NoBook : mg "NoBook" = some (.ref c_NoBook)) {c_NoCode : Addr} (h_NoCode : mg "NoCode" = some (.ref c_NoCode)) {c_NoGiver : Addr} (h_NoGiver : mg "NoGiver" = some (.ref c_NoGiver)) {c_NoKept : Addr} (h_NoKept : mg "NoKept" = some (.ref c_NoKept)) {c_NoMost : Addr} (h_NoMost : mg "NoMost" = some (.ref c_NoMost)) {c_NoRow : Addr} (h_NoRow : mg "NoRow" = some (.ref c_NoRow)) {c_NoText : Addr} (h_NoText : mg "NoText" = some (.ref c_NoText)) {c_NoWorth : Addr} (h_NoWorth : mg "NoWorth" = some (.ref c_NoWorth)) {f3x : Addr} {fd3x : FuncData} (A3x : FnAt K mg "rule_of" s3x ["book", "name"] f3x fd3x) (G3x : FnOk P w K mg base (CXE P w) 1 f3x fd3x ["book", "name"] (dnSpX K (spRule c_NoRule)))
    (hr : Room 1 (A.deeper (envOfC "_law_told" (defScope s11x) s.heap.objs.size f cdv))) :
    PSs3 (cxOf CX0 P w K mg base N__law_told "_law_told" (defScope s11x) f cdv A outer s H E).nox (defBody s11x) (t__law_told K (spRule c_NoRule) c_GiverError c_NoRule c_Full c_NoAsk c_NoBook c_NoCode c_NoGiver c_NoKept c_NoMost c_NoRow c_NoText c_NoWorth) := by
    unfold t__law_told
    refine zC (zJ (i := 2) sc11x.nd rfl (Or.inl rfl) yG) ?_
    refine zC (zJ (i := 3) sc11x.nd rfl (Or.inl rfl) yG) ?_
    refine pss3_try rfl rfl G3x (hr.mono (by decide)) rfl A3x.gl A3x.fn.kp A3x.bd (zB (pv3 0) (zB (pv3 1) zA)) sc11x.nd rfl rfl rfl rfl rfl rfl (by decide) rfl h_GiverError ?_ fun ea oe => ?_
    · exact zC (zR (zO o3_is (pv3 2) yG (nomark _)) (zE (zK (zM (zB (pv3 3) zA)))) zN) pss3_stop
    · refine zC (zR (zO o3_is (pv3 2) yG (nomark _)) (zE (zK (zM (zB (pv3 3) zA)))) zN) ?_
      refine zC (zR (PW3.pt (yT (yF (zV (zG (c3_isiP List.mem_cons_self) rfl B.isinstance_ b3_isinstance (zB (pv3 2) (zB (zQ rfl h_NoRule) zA))))) (pw3_or1 (yF (zV (zG (c3_isiP List.mem_cons_self) rfl B.isinstance_ b3_isinstance (zB (pv3 2) (zB (zW (d := .ty "ValueError") (v := .ty "ValueError") rfl B.ValueError_ b3_ValueError rfl (fun _ _ _ => .ty)) zA)))))))) (zE (zK (zM (zB zI zA)))) zN) ?_
      refine zC (zR (zV (zG (c3_isiP List.mem_cons_self) rfl B.isinstance_ b3_isinstance (zB (pv3 2) (zB (zP (zB (zQ rfl h_Full) (zB (zQ rfl h_NoAsk) (zB (zQ rfl h_NoBook) (zB (zQ rfl h_NoCode) (zB (zQ rfl h_NoGiver) (zB (zQ rfl h_NoKept) (zB (zQ rfl h_NoMost) (zB (zQ rfl h_NoRow) (zB (zQ rfl h_NoText) (zB (zQ rfl h_NoWorth) zA))))))))))) zA)))) (zE (zK (zM (zB zI zA)))) zN) ?_
      exact zE (zK (zM zA))
set_option maxHeartbeats 4000000 in
theorem ok11x {f : Addr} {fd : FuncData} (B : Blt mg) (C : Cst K w.params mg) {c_NoRule : Addr} (h_NoRule : mg "NoRule" = some (.ref c_NoRule)) {c_GiverError : Addr} (h_GiverError : mg "GiverError" = some (.ref c_GiverError)) {c_Full : Addr} (h_Full : mg "Full" = some (.ref c_Full)) {c_NoAsk : Addr} (h_NoAsk : mg "NoAsk" = some (.ref c_NoAsk)) {c_NoBook : Addr} (h_NoBook : mg "NoBook" = some (.ref c_NoBook)) {c_NoCode : Addr} (h_NoCode : mg "NoCode" = some (.ref c_NoCode)) {c_NoGiver : Addr} (h_NoGiver : mg "NoGiver" = some (.ref c_NoGiver)) {c_NoKept : Addr} (h_NoKept : mg "NoKept" = some (.ref c_NoKept)) {c_NoMost : Addr} (h_NoMost : mg "NoMost" = some (.ref c_NoMost)) {c_NoRow : Addr} (h_NoRow : mg "NoRow" = some (.ref c_NoRow)) {c_NoText : Addr} (h_NoText : mg "NoText" = some (.ref c_NoText)) {c_NoWorth : Addr} (h_NoWorth : mg "NoWorth" = some (.ref c_NoWorth)) {f3x : Addr} {fd3x : FuncData} (A3x : FnAt K mg "rule_of" s3x ["book", "name"] f3x fd3x) (G3x : FnOk P w K mg base (CXE P w) 1 f3x fd3x ["book", "name"] (dnSpX K (spRule c_NoRule))) (Z : CK K c_GiverError c_NoRule c_Full c_NoAsk c_NoBook c_NoCode c_NoGiver c_NoKept c_NoMost c_NoRow c_NoText c_NoWorth) (F : FnAt K mg "_law_told" s11x ["_law_book", "_law_name"] f fd) : FnOk P w K mg base CX0 2 f fd ["_law_book", "_law_name"] (dnSp K spTold) :=
  L3.Fun.ok3 F.fn sc11x len__law_told fun cdv A outer s H E hr => ⟨(t__law_told K (spRule c_NoRule) c_GiverError c_NoRule c_Full c_NoAsk c_NoBook c_NoCode c_NoGiver c_NoKept c_NoMost c_NoRow c_NoText c_NoWorth), dv11x B C h_NoRule h_GiverError h_Full h_NoAsk h_NoBook h_NoCode h_NoGiver h_NoKept h_NoMost h_NoRow h_NoText h_NoWorth A3x G3x hr, rd__law_told Z⟩
abbrev s12x : Stmt := top 31
theorem sc12x : FnScope N__law_made ["_law_names"] (defScope s12x) := ⟨rfl, rfl, rfl, by decide +kernel, rfl, by decide +kernel, by decide +kernel⟩
set_option maxHeartbeats 4000000 in
theorem dv12x {f : Addr} {cdv : Value} {A : Around} {outer : List Env} {s : Shared} {H : Hp} {E : XK} (B : Blt mg) (C : Cst K w.params mg)
    (hr : Room 0 (A.deeper (envOfC "_law_made" (defScope s12x) s.heap.objs.size f cdv))) :
    PSs3 (cxOf CX0 P w K mg base N__law_made "_law_made" (defScope s12x) f cdv A outer s H E).nox (defBody s12x) t__law_made := by
    unfold t__law_made
    exact zE (zK (zY c3_tuple rfl B.tuple_ b3_tuple (zB (pe3_compBE ["_law_k", "_law_name"] [] [] rfl (pi3_enum rfl B.enumerate_ (pv3 0)) rfl (by first | rfl | kernel_rfl) rfl (gk_tup (by decide)) (fun cl s₀ H₀ ex => (pg3_tup rfl (pgs3_cons (i := 0) (show List.Nodup (["_law_k", "_law_name"] : List Str) by decide +kernel) rfl (Or.inl rfl) (pgs3_cons (i := 1) (show List.Nodup (["_law_k", "_law_name"] : List Str) by decide +kernel) rfl (Or.inl rfl) pgs3_nil (Or.inr rfl)) (Or.inr rfl)))) (fun cl s₀ H₀ ex => yH) (fun cl s₀ H₀ ex => (zP (zB (pv3 1) (zB (zP zA) (zB (zP (zB (zP (zB zI (zB (zP (zB zI (zB (pv3 0) zA))) zA))) zA)) zA)))))) zA)))
set_option maxHeartbeats 4000000 in
theorem ok12x {f : Addr} {fd : FuncData} (B : Blt mg) (C : Cst K w.params mg) (F : FnAt K mg "_law_made" s12x ["_law_names"] f fd) : FnOk P w K mg base CX0 1 f fd ["_law_names"] (dnSp K spMade) :=
  L3.Fun.ok3 F.fn sc12x len__law_made fun cdv A outer s H E hr => ⟨t__law_made, @dv12x P w K mg base f cdv A outer s H E B C hr, rd__law_made⟩
abbrev s13x : Stmt := top 32
theorem sc13x : FnScope N_law ["_law_script"] (defScope s13x) := ⟨rfl, rfl, rfl, by decide +kernel, rfl, by decide +kernel, by decide +kernel⟩
set_option maxHeartbeats 4000000 in
theorem dv13x {f : Addr} {cdv : Value} {A : Around} {outer : List Env} {s : Shared} {H : Hp} {E : XK} (B : Blt mg) (C : Cst K w.params mg) {f4x : Addr} {fd4x : FuncData} (A4x : FnAt K mg "_law_pen" s4x ["_law_script"] f4x fd4x) (G4x : FnOk P w K mg base CX0 1 f4x fd4x ["_law_script"] (dnSp K spPen)) {f5x : Addr} {fd5x : FuncData} (A5x : FnAt K mg "_law_draw" s5x ["_law_pen_here", "_law_many"] f5x fd5x) (G5x : FnOk P w K mg base CX0 1 f5x fd5x ["_law_pen_here", "_law_many"] (dnSp K spDraw)) {f7x : Addr} {fd7x : FuncData} (A7x : FnAt K mg "_law_letters" s7x ["_law_pen_here", "_law_size"] f7x fd7x) (G7x : FnOk P w K mg base CX0 2 f7x fd7x ["_law_pen_here", "_law_size"] (dnSp K MK.spLetters)) {f6x : Addr} {fd6x : FuncData} (A6x : FnAt K mg "_law_shut" s6x [] f6x fd6x) (G6x : FnOk P w K mg base CX0 1 f6x fd6x [] (dnSp K spShut)) {f9x : Addr} {fd9x : FuncData} (A9x : FnAt K mg "_law_bent" s9x ["_law_pen_here", "_law_text"] f9x fd9x) (G9x : FnOk P w K mg base CX0 3 f9x fd9x ["_law_pen_here", "_law_text"] (dnSp K spBent)) {f2x : Addr} {fd2x : FuncData} (A2x : FnAt K mg "is_name" s2x ["thing"] f2x fd2x) (G2x : FnOk P w K mg base CX0 3 f2x fd2x ["thing"] (dnSp K spIsName)) {f10x : Addr} {fd10x : FuncData} (A10x : FnAt K mg "_law_is_name" s10x ["_law_thing"] f10x fd10x) (G10x : FnOk P w K mg base CX0 2 f10x fd10x ["_law_thing"] (dnSp K spIsName)) {f12x : Addr} {fd12x : FuncData} (A12x : FnAt K mg "_law_made" s12x ["_law_names"] f12x fd12x) (G12x : FnOk P w K mg base CX0 1 f12x fd12x ["_law_names"] (dnSp K spMade)) {f11x : Addr} {fd11x : FuncData} (A11x : FnAt K mg "_law_told" s11x ["_law_book", "_law_name"] f11x fd11x) (G11x : FnOk P w K mg base CX0 2 f11x fd11x ["_law_book", "_law_name"] (dnSp K spTold))
    (hr : Room 4 (A.deeper (envOfC "law" (defScope s13x) s.heap.objs.size f cdv))) :
    PSs3 (cxOf CX0 P w K mg base N_law "law" (defScope s13x) f cdv A outer s H E).nox (defBody s13x) t_law := by
    unfold t_law
    refine zC ?_ ?_
    · exact (zJ (i := 1) sc13x.nd rfl (Or.inr rfl) (zH G4x (hr.mono (by decide)) rfl A4x.gl A4x.fn.kp A4x.bd (zB (pv3 0) zA)))
    refine zC ?_ ?_
    · refine zJ (i := 2) ?a ?b ?c ?d
      case a => exact sc13x.nd
      case b => exact rfl
      case c => exact (Or.inl rfl)
      case d =>
        refine zM ?_
        refine zB ?_ ?_
        · exact yG
        refine zB ?_ ?_
        · exact yU
        refine pa3_i ?_
        refine zB ?_ ?_
        · refine zP ?_
          exact zA
        refine zB ?_ ?_
        · refine zM ?_
          exact zA
        refine zB ?_ ?_
        · exact pe3_d0
        refine zB ?_ ?_
        · refine zP ?_
          refine pa3_s ?_
          exact zA
        refine zB ?_ ?_
        · refine zM ?_
          refine pa3_s ?_
          exact zA
        refine pa3_i ?_
        refine zB ?_ ?_
        · exact (pe3_d1 zI zD)
        refine zB ?_ ?_
        · refine zF yS ?_ ?_
          · exact zD
          · exact zD
        refine zB ?_ ?_
        · refine zP ?_
          refine pa3_s ?_
          refine zB ?_ ?_
          · refine zP ?_
            exact zA
          refine zB ?_ ?_
          · refine zP ?_
            exact zA
          exact zA
        exact zA
    refine zC ?_ ?_
    · exact (zJ (i := 3) sc13x.nd rfl (Or.inr rfl) (pe3_lstM zA))
    refine zC ?_ ?_
    · exact (yM PassesOwn.never rfl (yI rfl B.range_ (zB zD zA)) sc13x.nd rfl (Or.inl rfl) (zC (zJ (i := 5) sc13x.nd rfl (Or.inl rfl) (zH G5x (hr.mono (by decide)) rfl A5x.gl A5x.fn.kp A5x.bd (zB (pv3 1) (zB zD zA))))
    (zC (zJ (i := 6) sc13x.nd rfl (Or.inl rfl) (zS (zM (zB (zH G7x (hr.mono (by decide)) rfl A7x.gl A7x.fn.kp A7x.bd (zB (pv3 1) (zB (zF zL zD (zH G5x (hr.mono (by decide)) rfl A5x.gl A5x.fn.kp A5x.bd (zB (pv3 1) (zB zD zA)))) zA))) (zB (zS (pe3_call0 G6x (hr.mono (by decide)) rfl A6x.gl A6x.fn.kp A6x.bd) (zH G5x (hr.mono (by decide)) rfl A5x.gl A5x.fn.kp A5x.bd (zB (pv3 1) (zB zD zA))) (fun _ _ => rfl)) (zB zI zA)))) (pv3 5) (fun _ _ => rfl)))
    (zC (zJ (i := 7) sc13x.nd rfl (Or.inl rfl) (zH G9x (hr.mono (by decide)) rfl A9x.gl A9x.fn.kp A9x.bd (zB (pv3 1) (zB (pv3 6) zA))))
    (zE (yM PassesOwn.never rfl (pi3_t (zP (zB (pv3 6) (zB (pv3 7) (zB (zS (pv3 2) (zH G5x (hr.mono (by decide)) rfl A5x.gl A5x.fn.kp A5x.bd (zB (pv3 1) (zB zD zA))) (fun _ _ => rfl)) (zB (pv3 6) zA)))))) sc13x.nd rfl (Or.inl rfl) (zC (zJ (i := 9) sc13x.nd rfl (Or.inl rfl) (zH G2x (hr.mono (by decide)) rfl A2x.gl A2x.fn.kp A2x.bd (zB (pv3 8) zA)))
    (zC (zR (PW3.pt (yT (yF (zV (zG yL rfl B.isinstance_ b3_isinstance (zB (pv3 9) (zB (zW (d := .ty "bool") (v := .ty "bool") rfl B.bool_ b3_bool rfl (fun _ _ _ => .ty)) zA))))) (pw3_or1 (zO (o3_ne hr) (pv3 9) (zH G10x (hr.mono (by decide)) rfl A10x.gl A10x.fn.kp A10x.bd (zB (pv3 8) zA)) (nomark _))))) (zE (zK yU)) zN)
    (zE (zR (PW3.pt (yE (zV (zG yL rfl B.isinstance_ b3_isinstance (zB (pv3 8) (zB (zW (d := .ty "str") (v := .ty "str") rfl B.str_ b3_str rfl (fun _ _ _ => .ty)) zA)))) (yE (zV (pv3 9)) (yE (zO yO (pv3 8) (pv3 3) rfl) (yQ (zO o3_lt (zG zX rfl B.len_ b3_len (zB (pv3 3) zA)) zD (nomark _))))))) (zE (ps3_expr (pe3_bm F.plainAttrs_list F.slot_list_append F.type_list_append m3_append (pv3 3) (zB (pv3 8) zA)))) zN))))))))))
    refine pss3_frz 3 ?_
    refine zC ?_ ?_
    · exact (zR (zO (yN hr) (pv3 3) (zM zA) (nomark _)) (zE (zJ (i := 3) sc13x.nd rfl (Or.inr rfl) (zM (zB zI zA)))) zN)
    refine zC ?_ ?_
    · exact (zJ (i := 10) sc13x.nd rfl (Or.inl rfl) (zH G12x (hr.mono (by decide)) rfl A12x.gl A12x.fn.kp A12x.bd (zB (pv3 3) zA)))
    refine zC ?_ ?_
    · exact (zJ (i := 11) sc13x.nd rfl (Or.inl rfl) (zF zL (zF zL (zF zL (zY c3_list rfl B.list_ b3_list (zB (pv3 3) zA)) (yC ["_law_k"] ["_law_pen_here", "_law_names"] [1, 3] rfl (yI rfl B.range_ (zB zD zA)) rfl (by first | rfl | kernel_rfl) rfl (gk_name (by decide)) (fun cl s₀ H₀ ex => (zZ (i := 0) (show List.Nodup (["_law_k", "_law_pen_here", "_law_names"] : List Str) by decide +kernel) rfl (Or.inl rfl) (Or.inr rfl))) (fun cl s₀ H₀ ex => yH) (fun cl s₀ H₀ ex => (zH G9x (hr.mono (by decide)) rfl A9x.gl A9x.fn.kp A9x.bd (zB (pv3 1) (zB (zS (pv3 2) (zH G5x (hr.mono (by decide)) rfl A5x.gl A5x.fn.kp A5x.bd (zB (pv3 1) (zB (zG zX rfl B.len_ b3_len (zB (pv3 2) zA)) zA))) (fun _ _ => rfl)) zA)))))) (pv3 2)) (zY c3_list rfl B.list_ b3_list (zB (pv3 3) zA))))
    refine zC ?_ ?_
    · exact (yM PassesOwn.never rfl (pi3_l (pv3 11)) sc13x.nd rfl (Or.inr rfl) (zC (ps3_setCB 13 ["_law_rule"] ["_law_name"] [12] rfl (pi3_t (pv3 10)) rfl (by first | rfl | kernel_rfl) rfl (gk_name (by decide)) (fun cl s₀ H₀ ex => (zZ (i := 0) (show List.Nodup (["_law_rule", "_law_name"] : List Str) by decide +kernel) rfl (Or.inl rfl) (Or.inr rfl))) (fun cl s₀ H₀ ex => (pifs_one (PW3.pt (yE (zV (zG yL rfl B.isinstance_ b3_isinstance (zB (pv3 1) (zB (zW (d := .ty "str") (v := .ty "str") rfl B.str_ b3_str rfl (fun _ _ _ => .ty)) zA)))) (yQ (zO (yN hr) (zS (pv3 0) zD (fun _ _ => rfl)) (pv3 1) (nomark _))))))) (fun cl s₀ H₀ ex => (pv3 0)) sc13x.nd rfl (Or.inl rfl) (Or.inl rfl))
    (zE (zR (zO (o3_ne hr) (zG (c3_reprE hr) rfl B.repr_ b3_repr (zB (zH G11x (hr.mono (by decide)) rfl A11x.gl A11x.fn.kp A11x.bd (zB (pv3 10) (zB (pv3 12) zA))) zA)) (zG (c3_reprE hr) rfl B.repr_ b3_repr (zB (pv3 13) zA)) (nomark _)) (zE (zK yU)) zN))))
    exact zE (zK (yK (yN hr) (pv3 10) (zH G12x (hr.mono (by decide)) rfl A12x.gl A12x.fn.kp A12x.bd (zB (pv3 3) zA)) (nomark _)))
set_option maxHeartbeats 4000000 in
theorem ok13x {f : Addr} {fd : FuncData} (B : Blt mg) (C : Cst K w.params mg) {f4x : Addr} {fd4x : FuncData} (A4x : FnAt K mg "_law_pen" s4x ["_law_script"] f4x fd4x) (G4x : FnOk P w K mg base CX0 1 f4x fd4x ["_law_script"] (dnSp K spPen)) {f5x : Addr} {fd5x : FuncData} (A5x : FnAt K mg "_law_draw" s5x ["_law_pen_here", "_law_many"] f5x fd5x) (G5x : FnOk P w K mg base CX0 1 f5x fd5x ["_law_pen_here", "_law_many"] (dnSp K spDraw)) {f7x : Addr} {fd7x : FuncData} (A7x : FnAt K mg "_law_letters" s7x ["_law_pen_here", "_law_size"] f7x fd7x) (G7x : FnOk P w K mg base CX0 2 f7x fd7x ["_law_pen_here", "_law_size"] (dnSp K MK.spLetters)) {f6x : Addr} {fd6x : FuncData} (A6x : FnAt K mg "_law_shut" s6x [] f6x fd6x) (G6x : FnOk P w K mg base CX0 1 f6x fd6x [] (dnSp K spShut)) {f9x : Addr} {fd9x : FuncData} (A9x : FnAt K mg "_law_bent" s9x ["_law_pen_here", "_law_text"] f9x fd9x) (G9x : FnOk P w K mg base CX0 3 f9x fd9x ["_law_pen_here", "_law_text"] (dnSp K spBent)) {f2x : Addr} {fd2x : FuncData} (A2x : FnAt K mg "is_name" s2x ["thing"] f2x fd2x) (G2x : FnOk P w K mg base CX0 3 f2x fd2x ["thing"] (dnSp K spIsName)) {f10x : Addr} {fd10x : FuncData} (A10x : FnAt K mg "_law_is_name" s10x ["_law_thing"] f10x fd10x) (G10x : FnOk P w K mg base CX0 2 f10x fd10x ["_law_thing"] (dnSp K spIsName)) {f12x : Addr} {fd12x : FuncData} (A12x : FnAt K mg "_law_made" s12x ["_law_names"] f12x fd12x) (G12x : FnOk P w K mg base CX0 1 f12x fd12x ["_law_names"] (dnSp K spMade)) {f11x : Addr} {fd11x : FuncData} (A11x : FnAt K mg "_law_told" s11x ["_law_book", "_law_name"] f11x fd11x) (G11x : FnOk P w K mg base CX0 2 f11x fd11x ["_law_book", "_law_name"] (dnSp K spTold)) (F : FnAt K mg "law" s13x ["_law_script"] f fd) : FnOk P w K mg base CX0 5 f fd ["_law_script"] (dnSp K L3.spLaw3) :=
  L3.Fun.ok3 F.fn sc13x len_law fun cdv A outer s H E hr => ⟨t_law, @dv13x P w K mg base f cdv A outer s H E B C f4x fd4x A4x G4x f5x fd5x A5x G5x f7x fd7x A7x G7x f6x fd6x A6x G6x f9x fd9x A9x G9x f2x fd2x A2x G2x f10x fd10x A10x G10x f12x fd12x A12x G12x f11x fd11x A11x G11x hr, rd_law⟩
end
theorem all_mk {l : PySem.W.OpenLaw} {w : World} {K : PySem.W.Frag} {h : Heap} {mg : Str → Option Value} {fa : Addr} (X : K.In h) (G : h.Ns mainGlobals mg) (hfa : mg "law" = some (.ref fa))
    {f0x : Addr} {od0x an0x : Option Addr} {sl0x : Array (Option Value)} {oc0x kV0x dc0x pm0x cd0x ct0x : Value}
    {f1x : Addr} {od1x an1x : Option Addr} {sl1x : Array (Option Value)} {oc1x kV1x dc1x pm1x cd1x ct1x : Value}
    {f2x : Addr} {od2x an2x : Option Addr} {sl2x : Array (Option Value)} {oc2x kV2x dc2x pm2x cd2x ct2x : Value}
    {f3x : Addr} {od3x an3x : Option Addr} {sl3x : Array (Option Value)} {oc3x kV3x dc3x pm3x cd3x ct3x : Value}
    {f4x : Addr} {od4x an4x : Option Addr} {sl4x : Array (Option Value)} {oc4x kV4x dc4x pm4x cd4x ct4x : Value}
    {f5x : Addr} {od5x an5x : Option Addr} {sl5x : Array (Option Value)} {oc5x kV5x dc5x pm5x cd5x ct5x : Value}
    {f6x : Addr} {od6x an6x : Option Addr} {sl6x : Array (Option Value)} {oc6x kV6x dc6x pm6x cd6x ct6x : Value}
    {f7x : Addr} {od7x an7x : Option Addr} {sl7x : Array (Option Value)} {oc7x kV7x dc7x pm7x cd7x ct7x : Value}
    {f8x : Addr} {od8x an8x : Option Addr} {sl8x : Array (Option Value)} {oc8x kV8x dc8x pm8x cd8x ct8x : Value}
    {f9x : Addr} {od9x an9x : Option Addr} {sl9x : Array (Option Value)} {oc9x kV9x dc9x pm9x cd9x ct9x : Value}
    {f10x : Addr} {od10x an10x : Option Addr} {sl10x : Array (Option Value)} {oc10x kV10x dc10x pm10x cd10x ct10x : Value}
    {f11x : Addr} {od11x an11x : Option Addr} {sl11x : Array (Option Value)} {oc11x kV11x dc11x pm11x cd11x ct11x : Value}
    {f12x : Addr} {od12x an12x : Option Addr} {sl12x : Array (Option Value)} {oc12x kV12x dc12x pm12x cd12x ct12x : Value}
    {f13x : Addr} {od13x an13x : Option Addr} {sl13x : Array (Option Value)} {oc13x kV13x dc13x pm13x cd13x ct13x : Value}
    {tk_LETTERS : Tok}
    {tk_MOST_LETTERS : Tok}
    {a_SHUT_NAMES : Addr}
    {tk_SHUT_NAMES_0 tk_SHUT_NAMES_1 tk_SHUT_NAMES_2 tk_SHUT_NAMES_3 tk_SHUT_NAMES_4 tk_SHUT_NAMES_5 tk_SHUT_NAMES_6 tk_SHUT_NAMES_7 tk_SHUT_NAMES_8 tk_SHUT_NAMES_9 tk_SHUT_NAMES_10 tk_SHUT_NAMES_11 tk_SHUT_NAMES_12 tk_SHUT_NAMES_13 tk_SHUT_NAMES_14 tk_SHUT_NAMES_15 tk_SHUT_NAMES_16 tk_SHUT_NAMES_17 tk_SHUT_NAMES_18 : Tok} {od_SHUT_NAMES : Option Addr} {n_SHUT_NAMES : Nat} {sl_SHUT_NAMES : Array (Option Value)}
    {c_NoRule : Addr}
    {c_GiverError : Addr}
    {c_Full : Addr}
    {c_NoAsk : Addr}
    {c_NoBook : Addr}
    {c_NoCode : Addr}
    {c_NoGiver : Addr}
    {c_NoKept : Addr}
    {c_NoMost : Addr}
    {c_NoRow : Addr}
    {c_NoText : Addr}
    {c_NoWorth : Addr}
    (a0x : PySem.W.nsIn K mainGlobals "has_only" = some (some (.ref f0x))) (l0x : K.lookup f0x = some ⟨oc0x, od0x, .func (PySem.W.fnOf "has_only" "has_only" (defArgs s0x) (defBody s0x) (defScope s0x) .none kV0x dc0x pm0x an0x cd0x ct0x), sl0x⟩) (c0x : PySem.W.codeIn K cd0x "has_only" = true) (k0x : PySem.W.keepIn K (.ref f0x) = true)
    (a1x : PySem.W.nsIn K mainGlobals "is_letters" = some (some (.ref f1x))) (l1x : K.lookup f1x = some ⟨oc1x, od1x, .func (PySem.W.fnOf "is_letters" "is_letters" (defArgs s1x) (defBody s1x) (defScope s1x) .none kV1x dc1x pm1x an1x cd1x ct1x), sl1x⟩) (c1x : PySem.W.codeIn K cd1x "is_letters" = true) (k1x : PySem.W.keepIn K (.ref f1x) = true)
    (a2x : PySem.W.nsIn K mainGlobals "is_name" = some (some (.ref f2x))) (l2x : K.lookup f2x = some ⟨oc2x, od2x, .func (PySem.W.fnOf "is_name" "is_name" (defArgs s2x) (defBody s2x) (defScope s2x) .none kV2x dc2x pm2x an2x cd2x ct2x), sl2x⟩) (c2x : PySem.W.codeIn K cd2x "is_name" = true) (k2x : PySem.W.keepIn K (.ref f2x) = true)
    (a3x : PySem.W.nsIn K mainGlobals "rule_of" = some (some (.ref f3x))) (l3x : K.lookup f3x = some ⟨oc3x, od3x, .func (PySem.W.fnOf "rule_of" "rule_of" (defArgs s3x) (defBody s3x) (defScope s3x) .none kV3x dc3x pm3x an3x cd3x ct3x), sl3x⟩) (c3x : PySem.W.codeIn K cd3x "rule_of" = true) (k3x : PySem.W.keepIn K (.ref f3x) = true)
    (a4x : PySem.W.nsIn K mainGlobals "_law_pen" = some (some (.ref f4x))) (l4x : K.lookup f4x = some ⟨oc4x, od4x, .func (PySem.W.fnOf "_law_pen" "_law_pen" (defArgs s4x) (defBody s4x) (defScope s4x) .none kV4x dc4x pm4x an4x cd4x ct4x), sl4x⟩) (c4x : PySem.W.codeIn K cd4x "_law_pen" = true) (k4x : PySem.W.keepIn K (.ref f4x) = true)
    (a5x : PySem.W.nsIn K mainGlobals "_law_draw" = some (some (.ref f5x))) (l5x : K.lookup f5x = some ⟨oc5x, od5x, .func (PySem.W.fnOf "_law_draw" "_law_draw" (defArgs s5x) (defBody s5x) (defScope s5x) .none kV5x dc5x pm5x an5x cd5x ct5x), sl5x⟩) (c5x : PySem.W.codeIn K cd5x "_law_draw" = true) (k5x : PySem.W.keepIn K (.ref f5x) = true)
    (a6x : PySem.W.nsIn K mainGlobals "_law_shut" = some (some (.ref f6x))) (l6x : K.lookup f6x = some ⟨oc6x, od6x, .func (PySem.W.fnOf "_law_shut" "_law_shut" (defArgs s6x) (defBody s6x) (defScope s6x) .none kV6x dc6x pm6x an6x cd6x ct6x), sl6x⟩) (c6x : PySem.W.codeIn K cd6x "_law_shut" = true) (k6x : PySem.W.keepIn K (.ref f6x) = true)
    (a7x : PySem.W.nsIn K mainGlobals "_law_letters" = some (some (.ref f7x))) (l7x : K.lookup f7x = some ⟨oc7x, od7x, .func (PySem.W.fnOf "_law_letters" "_law_letters" (defArgs s7x) (defBody s7x) (defScope s7x) .none kV7x dc7x pm7x an7x cd7x ct7x), sl7x⟩) (c7x : PySem.W.codeIn K cd7x "_law_letters" = true) (k7x : PySem.W.keepIn K (.ref f7x) = true)
    (a8x : PySem.W.nsIn K mainGlobals "_law_sign" = some (some (.ref f8x))) (l8x : K.lookup f8x = some ⟨oc8x, od8x, .func (PySem.W.fnOf "_law_sign" "_law_sign" (defArgs s8x) (defBody s8x) (defScope s8x) .none kV8x dc8x pm8x an8x cd8x ct8x), sl8x⟩) (c8x : PySem.W.codeIn K cd8x "_law_sign" = true) (k8x : PySem.W.keepIn K (.ref f8x) = true)
    (a9x : PySem.W.nsIn K mainGlobals "_law_bent" = some (some (.ref f9x))) (l9x : K.lookup f9x = some ⟨oc9x, od9x, .func (PySem.W.fnOf "_law_bent" "_law_bent" (defArgs s9x) (defBody s9x) (defScope s9x) .none kV9x dc9x pm9x an9x cd9x ct9x), sl9x⟩) (c9x : PySem.W.codeIn K cd9x "_law_bent" = true) (k9x : PySem.W.keepIn K (.ref f9x) = true)
    (a10x : PySem.W.nsIn K mainGlobals "_law_is_name" = some (some (.ref f10x))) (l10x : K.lookup f10x = some ⟨oc10x, od10x, .func (PySem.W.fnOf "_law_is_name" "_law_is_name" (defArgs s10x) (defBody s10x) (defScope s10x) .none kV10x dc10x pm10x an10x cd10x ct10x), sl10x⟩) (c10x : PySem.W.codeIn K cd10x "_law_is_name" = true) (k10x : PySem.W.keepIn K (.ref f10x) = true)
    (a11x : PySem.W.nsIn K mainGlobals "_law_told" = some (some (.ref f11x))) (l11x : K.lookup f11x = some ⟨oc11x, od11x, .func (PySem.W.fnOf "_law_told" "_law_told" (defArgs s11x) (defBody s11x) (defScope s11x) .none kV11x dc11x pm11x an11x cd11x ct11x), sl11x⟩) (c11x : PySem.W.codeIn K cd11x "_law_told" = true) (k11x : PySem.W.keepIn K (.ref f11x) = true)
    (a12x : PySem.W.nsIn K mainGlobals "_law_made" = some (some (.ref f12x))) (l12x : K.lookup f12x = some ⟨oc12x, od12x, .func (PySem.W.fnOf "_law_made" "_law_made" (defArgs s12x) (defBody s12x) (defScope s12x) .none kV12x dc12x pm12x an12x cd12x ct12x), sl12x⟩) (c12x : PySem.W.codeIn K cd12x "_law_made" = true) (k12x : PySem.W.keepIn K (.ref f12x) = true)
    (a13x : PySem.W.nsIn K mainGlobals "law" = some (some (.ref f13x))) (l13x : K.lookup f13x = some ⟨oc13x, od13x, .func (PySem.W.fnOf "law" "law" (defArgs s13x) (defBody s13x) (defScope s13x) .none kV13x dc13x pm13x an13x cd13x ct13x), sl13x⟩) (c13x : PySem.W.codeIn K cd13x "law" = true) (k13x : PySem.W.keepIn K (.ref f13x) = true)
    (z_ValueError : PySem.W.nsIn K mainGlobals "ValueError" = some none)
    (z_abs : PySem.W.nsIn K mainGlobals "abs" = some none)
    (z_all : PySem.W.nsIn K mainGlobals "all" = some none)
    (z_bool : PySem.W.nsIn K mainGlobals "bool" = some none)
    (z_enumerate : PySem.W.nsIn K mainGlobals "enumerate" = some none)
    (z_isinstance : PySem.W.nsIn K mainGlobals "isinstance" = some none)
    (z_len : PySem.W.nsIn K mainGlobals "len" = some none)
    (z_list : PySem.W.nsIn K mainGlobals "list" = some none)
    (z_range : PySem.W.nsIn K mainGlobals "range" = some none)
    (z_repr : PySem.W.nsIn K mainGlobals "repr" = some none)
    (z_str : PySem.W.nsIn K mainGlobals "str" = some none)
    (z_tuple : PySem.W.nsIn K mainGlobals "tuple" = some none)
    (u_LETTERS : PySem.W.nsIn K mainGlobals "LETTERS" = some (some (Value.str "abcdefghijklmnopqrstuvwxyz" tk_LETTERS)))
    (u_MOST_LETTERS : PySem.W.nsIn K mainGlobals "MOST_LETTERS" = some (some (Value.int 8 tk_MOST_LETTERS)))
    (u_SHUT_NAMES : PySem.W.nsIn K mainGlobals "SHUT_NAMES" = some (some (.ref a_SHUT_NAMES)))
    (l_SHUT_NAMES : K.lookup a_SHUT_NAMES = some ⟨.type "tuple", od_SHUT_NAMES, .seq #[.str "any" tk_SHUT_NAMES_0, .str "ask" tk_SHUT_NAMES_1, .str "cast" tk_SHUT_NAMES_2, .str "catch" tk_SHUT_NAMES_3, .str "close" tk_SHUT_NAMES_4, .str "else" tk_SHUT_NAMES_5, .str "end" tk_SHUT_NAMES_6, .str "fault" tk_SHUT_NAMES_7, .str "give" tk_SHUT_NAMES_8, .str "if" tk_SHUT_NAMES_9, .str "last" tk_SHUT_NAMES_10, .str "leave" tk_SHUT_NAMES_11, .str "make" tk_SHUT_NAMES_12, .str "none" tk_SHUT_NAMES_13, .str "note" tk_SHUT_NAMES_14, .str "on" tk_SHUT_NAMES_15, .str "rule" tk_SHUT_NAMES_16, .str "try" tk_SHUT_NAMES_17, .str "while" tk_SHUT_NAMES_18] n_SHUT_NAMES, sl_SHUT_NAMES⟩)
    (n_NoRule : PySem.W.nsIn K mainGlobals "NoRule" = some (some (.ref c_NoRule)))
    (n_GiverError : PySem.W.nsIn K mainGlobals "GiverError" = some (some (.ref c_GiverError)))
    (n_Full : PySem.W.nsIn K mainGlobals "Full" = some (some (.ref c_Full)))
    (n_NoAsk : PySem.W.nsIn K mainGlobals "NoAsk" = some (some (.ref c_NoAsk)))
    (n_NoBook : PySem.W.nsIn K mainGlobals "NoBook" = some (some (.ref c_NoBook)))
    (n_NoCode : PySem.W.nsIn K mainGlobals "NoCode" = some (some (.ref c_NoCode)))
    (n_NoGiver : PySem.W.nsIn K mainGlobals "NoGiver" = some (some (.ref c_NoGiver)))
    (n_NoKept : PySem.W.nsIn K mainGlobals "NoKept" = some (some (.ref c_NoKept)))
    (n_NoMost : PySem.W.nsIn K mainGlobals "NoMost" = some (some (.ref c_NoMost)))
    (n_NoRow : PySem.W.nsIn K mainGlobals "NoRow" = some (some (.ref c_NoRow)))
    (n_NoText : PySem.W.nsIn K mainGlobals "NoText" = some (some (.ref c_NoText)))
    (n_NoWorth : PySem.W.nsIn K mainGlobals "NoWorth" = some (some (.ref c_NoWorth)))
    (f0 : PySem.W.excIn K c_NoRule bmV "ValueError.__new__" = true)
    (f6 : PySem.W.excIn K c_GiverError bmV "ValueError.__new__" = true)
    (f1 : PySem.W.findIn K (.ref c_NoRule) "__getattribute__" = some (some (.builtin "BaseException.__getattribute__")))
    (f2 : PySem.W.findIn K (.ref c_NoRule) "__getattr__" = some none)
    (f3 : PySem.W.findIn K (.ref c_NoRule) "__class__" = some (some (.builtin "object.__class__")))
    (f4 : PySem.W.subIn K (.ref c_NoRule) (.type "BaseException") = some true)
    (f5 : PySem.W.subIn K (.ref c_NoRule) (.type "object") = some true)
    (f7 : PySem.W.subIn K (.ref c_GiverError) (.type "BaseException") = some true)
    (g7 : PySem.W.typeIn K (.ref c_GiverError) = some (.type "type"))
    (h7 : PySem.W.subIn K (.ref c_NoRule) (.ref c_GiverError) = some true)
    (f8 : PySem.W.kitOne K (.ref c_NoRule) (.type "ValueError") = some true)
    (f9 : PySem.W.kitAny K (.ref c_NoRule) [.ref c_Full, .ref c_NoAsk, .ref c_NoBook, .ref c_NoCode, .ref c_NoGiver, .ref c_NoKept, .ref c_NoMost, .ref c_NoRow, .ref c_NoText, .ref c_NoWorth] = some false) :
    ∃ fd : FuncData, (∀ (s : Shared) (v : Value), BindsTo s fd ⟨[v], []⟩ [("_law_script", v)]) ∧ ∀ base : Heap, K.In base → base.Ns mainGlobals mg → FnOk l.prog w K mg base CX0 5 fa fd ["_law_script"] (dnSp K L3.spLaw3) := by
  have e := hfa.symm.trans (PySem.W.mg_of X G a13x)
  cases e
  have B : Blt mg := ⟨PySem.W.mg_none_of X G z_ValueError, PySem.W.mg_none_of X G z_abs, PySem.W.mg_none_of X G z_all, PySem.W.mg_none_of X G z_bool, PySem.W.mg_none_of X G z_enumerate, PySem.W.mg_none_of X G z_isinstance, PySem.W.mg_none_of X G z_len, PySem.W.mg_none_of X G z_list, PySem.W.mg_none_of X G z_range, PySem.W.mg_none_of X G z_repr, PySem.W.mg_none_of X G z_str, PySem.W.mg_none_of X G z_tuple⟩
  have C : Cst K w.params mg := ⟨⟨_, PySem.W.mg_of X G u_LETTERS⟩, ⟨_, PySem.W.mg_of X G u_MOST_LETTERS⟩, ⟨_, PySem.W.mg_of X G u_SHUT_NAMES, ⟨_, _, _, l_SHUT_NAMES, rfl, rfl, (show (19 : Nat) ≤ sizeLine by decide), (.cons ⟨_, rfl⟩ (.cons ⟨_, rfl⟩ (.cons ⟨_, rfl⟩ (.cons ⟨_, rfl⟩ (.cons ⟨_, rfl⟩ (.cons ⟨_, rfl⟩ (.cons ⟨_, rfl⟩ (.cons ⟨_, rfl⟩ (.cons ⟨_, rfl⟩ (.cons ⟨_, rfl⟩ (.cons ⟨_, rfl⟩ (.cons ⟨_, rfl⟩ (.cons ⟨_, rfl⟩ (.cons ⟨_, rfl⟩ (.cons ⟨_, rfl⟩ (.cons ⟨_, rfl⟩ (.cons ⟨_, rfl⟩ (.cons ⟨_, rfl⟩ (.cons ⟨_, rfl⟩ .nil)))))))))))))))))))⟩⟩⟩
  have A0x := fnAt_mk (st := s0x) (ps := ["text", "signs"]) X G a0x l0x c0x k0x fun _ _ _ _ _ _ us hl => by obtain ⟨_, _, rfl⟩ := us2 hl; rfl
  have A1x := fnAt_mk (st := s1x) (ps := ["thing"]) X G a1x l1x c1x k1x fun _ _ _ _ _ _ us hl => by obtain ⟨_, rfl⟩ := us1 hl; rfl
  have A2x := fnAt_mk (st := s2x) (ps := ["thing"]) X G a2x l2x c2x k2x fun _ _ _ _ _ _ us hl => by obtain ⟨_, rfl⟩ := us1 hl; rfl
  have A3x := fnAt_mk (st := s3x) (ps := ["book", "name"]) X G a3x l3x c3x k3x fun _ _ _ _ _ _ us hl => by obtain ⟨_, _, rfl⟩ := us2 hl; rfl
  have A4x := fnAt_mk (st := s4x) (ps := ["_law_script"]) X G a4x l4x c4x k4x fun _ _ _ _ _ _ us hl => by obtain ⟨_, rfl⟩ := us1 hl; rfl
  have A5x := fnAt_mk (st := s5x) (ps := ["_law_pen_here", "_law_many"]) X G a5x l5x c5x k5x fun _ _ _ _ _ _ us hl => by obtain ⟨_, _, rfl⟩ := us2 hl; rfl
  have A6x := fnAt_mk (st := s6x) (ps := []) X G a6x l6x c6x k6x fun _ _ _ _ _ _ us hl => by obtain rfl := us0 hl; rfl
  have A7x := fnAt_mk (st := s7x) (ps := ["_law_pen_here", "_law_size"]) X G a7x l7x c7x k7x fun _ _ _ _ _ _ us hl => by obtain ⟨_, _, rfl⟩ := us2 hl; rfl
  have A8x := fnAt_mk (st := s8x) (ps := ["_law_pen_here"]) X G a8x l8x c8x k8x fun _ _ _ _ _ _ us hl => by obtain ⟨_, rfl⟩ := us1 hl; rfl
  have A9x := fnAt_mk (st := s9x) (ps := ["_law_pen_here", "_law_text"]) X G a9x l9x c9x k9x fun _ _ _ _ _ _ us hl => by obtain ⟨_, _, rfl⟩ := us2 hl; rfl
  have A10x := fnAt_mk (st := s10x) (ps := ["_law_thing"]) X G a10x l10x c10x k10x fun _ _ _ _ _ _ us hl => by obtain ⟨_, rfl⟩ := us1 hl; rfl
  have A11x := fnAt_mk (st := s11x) (ps := ["_law_book", "_law_name"]) X G a11x l11x c11x k11x fun _ _ _ _ _ _ us hl => by obtain ⟨_, _, rfl⟩ := us2 hl; rfl
  have A12x := fnAt_mk (st := s12x) (ps := ["_law_names"]) X G a12x l12x c12x k12x fun _ _ _ _ _ _ us hl => by obtain ⟨_, rfl⟩ := us1 hl; rfl
  have A13x := fnAt_mk (st := s13x) (ps := ["_law_script"]) X G a13x l13x c13x k13x fun _ _ _ _ _ _ us hl => by obtain ⟨_, rfl⟩ := us1 hl; rfl
  refine ⟨PySem.W.fnOf "law" "law" (defArgs s13x) (defBody s13x) (defScope s13x) .none kV13x dc13x pm13x an13x cd13x ct13x, fun s v => .of_eq rfl, fun base _ _ => ?_⟩
  have h_NoRule := PySem.W.mg_of X G n_NoRule
  have h_GiverError := PySem.W.mg_of X G n_GiverError
  have h_Full := PySem.W.mg_of X G n_Full
  have h_NoAsk := PySem.W.mg_of X G n_NoAsk
  have h_NoBook := PySem.W.mg_of X G n_NoBook
  have h_NoCode := PySem.W.mg_of X G n_NoCode
  have h_NoGiver := PySem.W.mg_of X G n_NoGiver
  have h_NoKept := PySem.W.mg_of X G n_NoKept
  have h_NoMost := PySem.W.mg_of X G n_NoMost
  have h_NoRow := PySem.W.mg_of X G n_NoRow
  have h_NoText := PySem.W.mg_of X G n_NoText
  have h_NoWorth := PySem.W.mg_of X G n_NoWorth
  have q_NoRule := f0
  have Z : CK K c_GiverError c_NoRule c_Full c_NoAsk c_NoBook c_NoCode c_NoGiver c_NoKept c_NoMost c_NoRow c_NoText c_NoWorth := CK.mk' ⟨f1, f2, f3, f4, f5⟩ f0 f6 f7 g7 h7 f8 f9
  have G0x := ok0x (P := l.prog) (w := w) (base := base) B C A0x
  have G1x := ok1x (P := l.prog) (w := w) (base := base) B C A0x G0x A1x
  have G2x := ok2x (P := l.prog) (w := w) (base := base) B C A1x G1x A2x
  have G3x := ok3x (P := l.prog) (w := w) (base := base) B C h_NoRule q_NoRule A3x
  have G4x := ok4x (P := l.prog) (w := w) (base := base) B C A4x
  have G5x := ok5x (P := l.prog) (w := w) (base := base) B C A5x
  have G6x := ok6x (P := l.prog) (w := w) (base := base) B C A6x
  have G7x := ok7x (P := l.prog) (w := w) (base := base) B C A5x G5x A7x
  have G8x := ok8x (P := l.prog) (w := w) (base := base) B C A5x G5x A8x
  have G9x := ok9x (P := l.prog) (w := w) (base := base) B C A5x G5x A8x G8x A7x G7x A9x
  have G10x := ok10x (P := l.prog) (w := w) (base := base) B C A6x G6x A10x
  have G11x := ok11x (P := l.prog) (w := w) (base := base) B C h_NoRule h_GiverError h_Full h_NoAsk h_NoBook h_NoCode h_NoGiver h_NoKept h_NoMost h_NoRow h_NoText h_NoWorth A3x G3x Z A11x
  have G12x := ok12x (P := l.prog) (w := w) (base := base) B C A12x
  have G13x := ok13x (P := l.prog) (w := w) (base := base) B C A4x G4x A5x G5x A7x G7x A6x G6x A9x G9x A2x G2x A10x G10x A12x G12x A11x G11x A13x
  exact G13x
end K06
open PySem PySem.W PyProof.Rows
set_option maxRecDepth 100000 in
set_option maxHeartbeats 0 in
theorem PySem.Challenge.cw_handedon_k06_what_is_a_name_holds : PySem.Challenge.rw_handedon_k06_what_is_a_name.Holds := by
  w_on; o_law; k_head; (case hw => w_witness2)
  k_fill
  refine L3.walk3 (l := PySem.Challenge.rw_handedon_k06_what_is_a_name) (k := 5) (x := "_law_script") rfl rfl ⟨rfl, by decide, by decide, rfl⟩ (fun w h Y => PySem.W.kIn_of Y) ?F
  case F =>
    intro w mg fa h KX G hmg
    refine' K06.all_mk KX G hmg ?a0x ?l0x ?c0x ?k0x ?a1x ?l1x ?c1x ?k1x ?a2x ?l2x ?c2x ?k2x ?a3x ?l3x ?c3x ?k3x ?a4x ?l4x ?c4x ?k4x ?a5x ?l5x ?c5x ?k5x ?a6x ?l6x ?c6x ?k6x ?a7x ?l7x ?c7x ?k7x ?a8x ?l8x ?c8x ?k8x ?a9x ?l9x ?c9x ?k9x ?a10x ?l10x ?c10x ?k10x ?a11x ?l11x ?c11x ?k11x ?a12x ?l12x ?c12x ?k12x ?a13x ?l13x ?c13x ?k13x ?z_ValueError ?z_abs ?z_all ?z_bool ?z_enumerate ?z_isinstance ?z_len ?z_list ?z_range ?z_repr ?z_str ?z_tuple ?u_LETTERS ?u_MOST_LETTERS ?u_SHUT_NAMES ?l_SHUT_NAMES ?n_NoRule ?n_GiverError ?n_Full ?n_NoAsk ?n_NoBook ?n_NoCode ?n_NoGiver ?n_NoKept ?n_NoMost ?n_NoRow ?n_NoText ?n_NoWorth ?f0 ?f6 ?f1 ?f2 ?f3 ?f4 ?f5 ?f7 ?g7 ?h7 ?f8 ?f9
    (case a0x => k_is)
    (case l0x => k_is)
    (case c0x => k_is)
    (case k0x => k_is)
    (case a1x => k_is)
    (case l1x => k_is)
    (case c1x => k_is)
    (case k1x => k_is)
    (case a2x => k_is)
    (case l2x => k_is)
    (case c2x => k_is)
    (case k2x => k_is)
    (case a3x => k_is)
    (case l3x => k_is)
    (case c3x => k_is)
    (case k3x => k_is)
    (case a4x => k_is)
    (case l4x => k_is)
    (case c4x => k_is)
    (case k4x => k_is)
    (case a5x => k_is)
    (case l5x => k_is)
    (case c5x => k_is)
    (case k5x => k_is)
    (case a6x => k_is)
    (case l6x => k_is)
    (case c6x => k_is)
    (case k6x => k_is)
    (case a7x => k_is)
    (case l7x => k_is)
    (case c7x => k_is)
    (case k7x => k_is)
    (case a8x => k_is)
    (case l8x => k_is)
    (case c8x => k_is)
    (case k8x => k_is)
    (case a9x => k_is)
    (case l9x => k_is)
    (case c9x => k_is)
    (case k9x => k_is)
    (case a10x => k_is)
    (case l10x => k_is)
    (case c10x => k_is)
    (case k10x => k_is)
    (case a11x => k_is)
    (case l11x => k_is)
    (case c11x => k_is)
    (case k11x => k_is)
    (case a12x => k_is)
    (case l12x => k_is)
    (case c12x => k_is)
    (case k12x => k_is)
    (case a13x => k_is)
    (case l13x => k_is)
    (case c13x => k_is)
    (case k13x => k_is)
    (case z_ValueError => k_is)
    (case z_abs => k_is)
    (case z_all => k_is)
    (case z_bool => k_is)
    (case z_enumerate => k_is)
    (case z_isinstance => k_is)
    (case z_len => k_is)
    (case z_list => k_is)
    (case z_range => k_is)
    (case z_repr => k_is)
    (case z_str => k_is)
    (case z_tuple => k_is)
    (case u_LETTERS => k_is)
    (case u_MOST_LETTERS => k_is)
    (case u_SHUT_NAMES => k_is)
    (case l_SHUT_NAMES => k_is)
    (case n_NoRule => k_is)
    (case n_GiverError => k_is)
    (case n_Full => k_is)
    (case n_NoAsk => k_is)
    (case n_NoBook => k_is)
    (case n_NoCode => k_is)
    (case n_NoGiver => k_is)
    (case n_NoKept => k_is)
    (case n_NoMost => k_is)
    (case n_NoRow => k_is)
    (case n_NoText => k_is)
    (case n_NoWorth => k_is)
    (case f0 => k_exc)
    (case f6 => k_exc)
    (case f1 => k_is)
    (case f2 => k_is)
    (case f3 => k_is)
    (case f4 => k_is)
    (case f5 => k_is)
    (case f7 => k_is)
    (case g7 => k_is)
    (case h7 => k_is)
    (case f8 => kit_is)
    (case f9 => kit_is)
