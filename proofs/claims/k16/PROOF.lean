import PyProof.Rows.All
import Wide.All
import OpenK.AllK
import Wide.FinOn
import PyProof.EqAt
import PyProof.EqKinds
import PyProof.TupleCall
import PyProof.NeData
import PyProof.ReprRoads
import PySem.Challenge.RW_handedon_k16_books_written
set_option Elab.async false
set_option linter.all false
set_option maxRecDepth 100000
namespace L2
open PySem PySem.Spec PyProof.Rows
abbrev Key := Sum Int Str
def keyIs : Key → Value → Bool
  | .inl k, v => Value.isInt k v
  | .inr x, v => Value.isStrOf x v
def keyH (w : World) : Key → Int
  | .inl k => hashInt k
  | .inr x => hashStr w x
theorem keyIs_shape : ∀ {k : Key} {v : Value}, keyIs k v = true → (∃ i t, k = Sum.inl i ∧ v = Value.int i t) ∨ (∃ x t, k = Sum.inr x ∧ v = Value.str x t)
  | .inl i, v, h => by
    obtain ⟨t, e⟩ := Value.isInt_shape (k := i) (v := v) h
    exact .inl ⟨i, t, rfl, e⟩
  | .inr x, v, h => by
    obtain ⟨t, e⟩ := Value.isStrOf_shape (x := x) (v := v) h
    exact .inr ⟨x, t, rfl, e⟩
theorem keyIs_int (i : Int) (t : Tok) : keyIs (.inl i) (.int i t) = true := by simp [keyIs, Value.isInt]
theorem keyIs_str (x : Str) (t : Tok) : keyIs (.inr x) (.str x t) = true := by simp [keyIs, Value.isStrOf]
theorem key_ll (a b : Int) : decide ((Sum.inl a : Key) = Sum.inl b) = (a == b) := by
  by_cases e : a = b
  · subst e; simp
  · have h : ¬ (Sum.inl a : Key) = Sum.inl b := fun q => e (Sum.inl.inj q)
    rw [decide_eq_false h]
    exact (beq_eq_false_iff_ne.mpr e).symm
theorem key_rr (a b : Str) : decide ((Sum.inr a : Key) = Sum.inr b) = decide (a = b) := by
  by_cases e : a = b
  · subst e; simp
  · have h : ¬ (Sum.inr a : Key) = Sum.inr b := fun q => e (Sum.inr.inj q)
    rw [decide_eq_false h, decide_eq_false e]
theorem key_lr (a : Int) (b : Str) : decide ((Sum.inl a : Key) = Sum.inr b) = false := decide_eq_false (fun q => nomatch q)
theorem key_rl (a : Str) (b : Int) : decide ((Sum.inr a : Key) = Sum.inl b) = false := decide_eq_false (fun q => nomatch q)
def mixKind (prog : Program) (w : World) : PySem.KeyKind prog w Key where
  is := keyIs
  hash := keyH w
  inj := fun v a b ha hb => by
    rcases keyIs_shape ha with ⟨i, t, rfl, rfl⟩ | ⟨x, t, rfl, rfl⟩
    · rcases keyIs_shape hb with ⟨j, u, rfl, e⟩ | ⟨y, u, rfl, e⟩
      · injection e with e1 _; rw [e1]
      · exact nomatch e
    · rcases keyIs_shape hb with ⟨j, u, rfl, e⟩ | ⟨y, u, rfl, e⟩
      · exact nomatch e
      · injection e with e1 _; rw [e1]
  byValue := fun k v h => by
    rcases keyIs_shape h with ⟨i, t, rfl, rfl⟩ | ⟨x, t, rfl, rfl⟩ <;> rfl
  pyHash := fun hv h => by
    rcases keyIs_shape hv with ⟨i, t, rfl, rfl⟩ | ⟨x, t, rfl, rfl⟩
    · exact wpAny_pyHash_int h
    · exact wpAny_pyHash_str h
  eqBool := fun hu hv h => by
    rcases keyIs_shape hu with ⟨i, t, rfl, rfl⟩ | ⟨x, t, rfl, rfl⟩
    · rcases keyIs_shape hv with ⟨j, u, rfl, rfl⟩ | ⟨y, u, rfl, rfl⟩
      · rw [key_ll] at h; exact wpAny_eqBool_int h
      · rw [key_lr] at h; exact SeqAt.EqAt.int_str i t y u _ _ _ _ h
    · rcases keyIs_shape hv with ⟨j, u, rfl, rfl⟩ | ⟨y, u, rfl, rfl⟩
      · rw [key_rl] at h; exact SeqAt.EqAt.str_int x t j u _ _ _ _ h
      · rw [key_rr] at h; exact wpAny_eqBool_str h
  «strs» := fun k x t v h => by
    rcases keyIs_shape h with ⟨i, u, rfl, e⟩ | ⟨y, u, rfl, e⟩
    · exact nomatch e
    · injection e with e1 _
      subst e1
      cases v <;> rfl
theorem mixKind_int (prog : Program) (w : World) (i : Int) (t : Tok) : (mixKind prog w).is (.inl i) (.int i t) = true := keyIs_int i t
theorem mixKind_str (prog : Program) (w : World) (x : Str) (t : Tok) : (mixKind prog w).is (.inr x) (.str x t) = true := keyIs_str x t
end L2
namespace L2
open PySem PySem.Spec PyProof.Rows
inductive V where
  | non | bl (b : Bool) | int (i : Int) | str (x : Str) | byt (b : Array UInt8) | flt (b : UInt64) | ref (a : Addr) | ty (n : String)
  deriving DecidableEq
def RelV : V → Value → Prop
  | .non, u => u = Value.none
  | .bl b, u => u = Value.bool b
  | .int i, u => ∃ t, u = Value.int i t
  | .str x, u => ∃ t, u = Value.str x t
  | .byt b, u => ∃ t, u = Value.bytes b t
  | .flt b, u => ∃ t, u = Value.float b t
  | .ref a, u => u = Value.ref a
  | .ty n, u => u = Value.type n
abbrev Vals : List V → List Value → Prop := Paired RelV
theorem Vals.length {xs : List V} {us : List Value} (r : Vals xs us) : xs.length = us.length := Paired.length r
theorem Vals.get : ∀ {xs : List V} {us : List Value} {i : Nat} {x : V}, Vals xs us → xs[i]? = some x → ∃ u, us[i]? = some u ∧ RelV x u
  | _, _, _, _, .nil, e => by simp at e
  | _, _, 0, _, .cons r _, e => by simp at e; subst e; exact ⟨_, rfl, r⟩
  | _, _, i + 1, x, .cons _ t, e => by
    obtain ⟨u, h1, h2⟩ := Vals.get (i := i) (x := x) t (by simpa using e)
    exact ⟨u, by simpa using h1, h2⟩
theorem Vals.append : ∀ {xs ys : List V} {us ws : List Value}, Vals xs us → Vals ys ws → Vals (xs ++ ys) (us ++ ws)
  | _, _, _, _, .nil, s => s
  | _, _, _, _, .cons r t, s => .cons r (Vals.append t s)
theorem Vals.take : ∀ {xs : List V} {us : List Value} (n : Nat), Vals xs us → Vals (xs.take n) (us.take n)
  | _, _, 0, _ => .nil
  | _, _, _ + 1, .nil => .nil
  | _, _, n + 1, .cons r t => .cons r (Vals.take n t)
theorem Vals.drop : ∀ {xs : List V} {us : List Value} (n : Nat), Vals xs us → Vals (xs.drop n) (us.drop n)
  | _, _, 0, r => r
  | _, _, _ + 1, .nil => .nil
  | _, _, n + 1, .cons _ t => Vals.drop n t
def RelO : Option V → Option Value → Prop
  | some v, some u => RelV v u
  | none, none => True
  | _, _ => False
def KV {κ : Type} : List (κ × V) → List (κ × Value) → Prop := Paired fun (p : κ × V) (q : κ × Value) => p.1 = q.1 ∧ RelV p.2 q.2
def kV : Key → V
  | .inl i => .int i
  | .inr x => .str x
inductive HO where
  | lst (xs : List V)
  | tup (xs : List V)
  | dK (kvs : List (Key × V)) | dT (kvs : List (List Key × V))
  | set (S : Int → Bool) (n : Nat)
  | ins (C dx : Addr) (fs : List (Str × V))
  | own (x : Addr)
  | xd (fs : List (Str × V))
  | met (f x : Addr)
  | rng (lo hi : Int)
  | frz (o : Obj) (u : HO)
  | tbl (ps : Array Value)
  | ext (φ : Heap → Prop)
abbrev Hp := Addr → Option HO
def upd (H : Hp) (a : Addr) (o : HO) : Hp := fun b => if b = a then some o else H b
theorem upd_same {H : Hp} {a : Addr} {o : HO} : upd H a o a = some o := by unfold upd; rw [if_pos rfl]
theorem upd_ne {H : Hp} {a b : Addr} {o : HO} (h : b ≠ a) : upd H a o b = H b := by unfold upd; rw [if_neg h]
theorem ne_of {H : Hp} {a b : Addr} {o u : HO} (h : H a = some o) (h' : H b = some u) (d : o ≠ u) : a ≠ b := by
  intro e; subst e; rw [h] at h'; exact d (Option.some.inj h')
theorem ne_of_none {H : Hp} {a b : Addr} {o : HO} (h : H a = some o) (h' : H b = none) : a ≠ b := by
  intro e; subst e; rw [h] at h'; cases h'
section
variable (P : Program) (w : World)
def ObjOk (H : Hp) (h : Heap) (a : Addr) : HO → Prop
  | .lst xs => xs.length ≤ sizeLine ∧ ∃ (its : List Value) (n : Nat), Vals xs its ∧ h.get? a = some { cls := .type "list", data := .seq its.toArray n }
  | .tup xs => xs.length ≤ sizeLine ∧ ∃ its : List Value, Vals xs its ∧ IsTup h a its.toArray
  | .dK kvs => kvs.length ≤ sizeLine ∧ (a == sysModules) = false ∧ ∃ vs, KV kvs vs ∧ h.DictOf (mixKind P w) a vs
  | .dT kvs => kvs.length ≤ sizeLine ∧ (a == sysModules) = false ∧ ∃ xs : List (List Key × Addr × Value),
      Paired (fun (p : List Key × V) (q : List Key × Addr × Value) => p.1 = q.1 ∧ H q.2.1 = some (.tup (p.1.map kV)) ∧ RelV p.2 q.2.2) kvs xs ∧
      ∃ o es ep, h.get? a = some o ∧ o.ExactDict ∧ o.data = .dict es ep ∧ es.toList = xs.map (entryOfKey (tupleKind (mixKind P w))) ∧ (xs.map (·.1)).Nodup
  | .set S n => h.SetOf (intKind P w) a S n
  | .ins C dx fs => H dx = some (.own a) ∧ fs.length ≤ 1000 ∧ dx ≠ a ∧ h.get? a = some (PySem.W.instObj C dx) ∧
      ∃ mA, h.Ns1 dx mA ∧ (∀ f, RelO (fs.lookup f) (mA f)) ∧ PySem.Within mA (fs.map (·.1))
  | .own _ => ∃ o, h.get? a = some o
  | .xd fs => ∃ mA, h.Ns1 a mA ∧ ∀ f, RelO (fs.lookup f) (mA f)
  | .rng lo hi => ∃ t u v, h.get? a = some { cls := .type "range", data := .fields #[.int lo t, .int hi u, .int 1 v] }
  | .frz o u => h.get? a = some o ∧ ObjOk H h a u
  | .tbl ps => h.get? a = some { cls := .none, data := .fields ps }
  | .met f x => h.get? a = some (PySem.W.methodObj (.ref f) (.ref x))
  | .ext φ => φ h ∧ (∃ o, h.get? a = some o) ∧ ∀ h1 h2 : Heap, φ h1 → (∀ o, h1.get? a = some o → h2.get? a = some o) → φ h2
def HOk (H : Hp) (h : Heap) : Prop := ∀ a o, H a = some o → ObjOk P w H h a o
end
section
variable {P : Program} {w : World} {H H' : Hp} {h h' : Heap} {a : Addr} {o : HO}
theorem ObjOk.lt (x : ObjOk P w H h a o) : a < h.objs.size := by
  cases o with
  | lst xs => obtain ⟨_, _, _, _, e⟩ := x; exact Heap.lt_size e
  | tup xs => obtain ⟨_, _, _, p⟩ := x; exact p.lt
  | dK kvs => obtain ⟨_, _, _, _, o, _, _, e, _⟩ := x; exact Heap.lt_size e
  | dT kvs => obtain ⟨_, _, _, _, o, _, _, e, _⟩ := x; exact Heap.lt_size e
  | set S n => obtain ⟨o, _, _, _, e, _⟩ := x; exact Heap.lt_size e
  | ins C dx fs => obtain ⟨_, _, _, e, _⟩ := x; exact Heap.lt_size e
  | own y => obtain ⟨_, e⟩ := x; exact Heap.lt_size e
  | xd fs => obtain ⟨_, ⟨_, _, _, e, _⟩, _⟩ := x; exact Heap.lt_size e
  | rng lo hi => obtain ⟨_, _, _, e⟩ := x; exact Heap.lt_size e
  | frz ob u => obtain ⟨e, _⟩ := x; exact Heap.lt_size e
  | tbl ps => exact Heap.lt_size (show h.get? a = some _ from x)
  | met f y => exact Heap.lt_size (show h.get? a = some _ from x)
  | ext φ => obtain ⟨_, ⟨_, e⟩, _⟩ := x; exact Heap.lt_size e
theorem Paired.mapP {α β : Type} {F G : α → β → Prop} : ∀ {l₁ : List α} {l₂ : List β}, Paired F l₁ l₂ → (∀ a b, F a b → G a b) → Paired G l₁ l₂
  | _, _, .nil, _ => .nil
  | _, _, .cons r t, f => .cons (f _ _ r) (Paired.mapP t f)
theorem ObjOk.stay (x : ObjOk P w H h a o) (k : ∀ b u, (b = a ∨ H b = some (.own a)) → h.get? b = some u → h'.get? b = some u)
    (ho : ∀ b, H b = some (.own a) → H' b = some (.own a)) (ht : ∀ b xs, H b = some (.tup xs) → H' b = some (.tup xs)) : ObjOk P w H' h' a o := by
  induction o with
  | lst xs => obtain ⟨z, its, n, r, e⟩ := x; exact ⟨z, its, n, r, k _ _ (.inl rfl) e⟩
  | tup xs => obtain ⟨z, its, r, ob, e, c⟩ := x; exact ⟨z, its, r, ob, k _ _ (.inl rfl) e, c⟩
  | dK kvs => obtain ⟨z, y, vs, r, ob, es, ep, e, c⟩ := x; exact ⟨z, y, vs, r, ob, es, ep, k _ _ (.inl rfl) e, c⟩
  | dT kvs =>
    obtain ⟨z, y, xs, r, ob, es, ep, e, c⟩ := x
    exact ⟨z, y, xs, Paired.mapP r fun p q z => ⟨z.1, ht _ _ z.2.1, z.2.2⟩, ob, es, ep, k _ _ (.inl rfl) e, c⟩
  | set S n => obtain ⟨ob, es, ep, t, e, c⟩ := x; exact ⟨ob, es, ep, t, k _ _ (.inl rfl) e, c⟩
  | ins C dx fs =>
    obtain ⟨d, z, ne, e, mA, ⟨od, es, ep, e2, c⟩, r⟩ := x
    exact ⟨ho _ d, z, ne, k _ _ (.inl rfl) e, mA, ⟨od, es, ep, k _ _ (.inr d) e2, c⟩, r⟩
  | own y => obtain ⟨ob, e⟩ := x; exact ⟨ob, k _ _ (.inl rfl) e⟩
  | xd fs => obtain ⟨mA, ⟨od, es, ep, e, c⟩, r⟩ := x; exact ⟨mA, ⟨od, es, ep, k _ _ (.inl rfl) e, c⟩, r⟩
  | rng lo hi => obtain ⟨t, u, v, e⟩ := x; exact ⟨t, u, v, k _ _ (.inl rfl) e⟩
  | frz ob u ih => obtain ⟨e, q⟩ := x; exact ⟨k _ _ (.inl rfl) e, ih q⟩
  | tbl ps =>
    have e : h.get? a = some { cls := .none, data := .fields ps } := x
    show h'.get? a = some { cls := .none, data := .fields ps }
    exact k a _ (.inl rfl) e
  | met f y =>
    have e : h.get? a = some (PySem.W.methodObj (.ref f) (.ref y)) := x
    show h'.get? a = some (PySem.W.methodObj (.ref f) (.ref y))
    exact k a _ (.inl rfl) e
  | ext φ => obtain ⟨p, ⟨o, e⟩, st⟩ := x; exact ⟨st _ _ p fun o q => k _ _ (.inl rfl) q, ⟨o, k _ _ (.inl rfl) e⟩, st⟩
theorem HOk.lt (x : HOk P w H h) (e : H a = some o) : a < h.objs.size := (x a o e).lt
theorem HOk.fresh (x : HOk P w H h) (e : h.objs.size ≤ a) : H a = none := by
  cases q : H a with
  | none => rfl
  | some u => exact absurd (Nat.lt_of_lt_of_le (x.lt q) e) (Nat.lt_irrefl _)
theorem HOk.kept (x : HOk P w H h) (k : ∀ b u, h.get? b = some u → h'.get? b = some u) : HOk P w H h' := fun a o e =>
  (x a o e).stay (fun b u _ q => k b u q) (fun _ q => q) fun _ _ q => q
theorem HOk.laid (x : HOk P w H h) (k : ∀ b u, h.get? b = some u → h'.get? b = some u) (hp : h.objs.size ≤ a) (new : ObjOk P w (upd H a o) h' a o) : HOk P w (upd H a o) h' := fun b u e => by
  have hn := x.fresh hp
  by_cases hb : b = a
  · subst hb; rw [upd_same] at e; cases e; exact new
  · rw [upd_ne hb] at e
    exact (x b u e).stay (fun c v _ q => k c v q) (fun c q => by rw [upd_ne (ne_of_none q hn)]; exact q) fun c xs q => by rw [upd_ne (ne_of_none q hn)]; exact q
end
def Rd (H : Hp) (a : Addr) (u : HO) : Prop := H a = some u ∨ ∃ o, H a = some (.frz o u)
theorem Rd.ok {P : Program} {w : World} {H : Hp} {h : Heap} {a : Addr} {u : HO} (r : Rd H a u) (x : HOk P w H h) : ObjOk P w H h a u := by
  rcases r with r | ⟨o, r⟩
  · exact x a u r
  · obtain ⟨_, q⟩ := x a _ r
    exact q
def Mut : Option HO → Prop
  | some (.lst _) => True
  | some (.dK _) => True
  | some (.dT _) => True
  | some (.set _ _) => True
  | some (.ins _ _ _) => True
  | some (.ext _) => True
  | _ => False
section
variable {P : Program} {w : World} {H : Hp} {h h' : Heap} {x e : Addr} {o' : HO}
theorem HOk.write (ok : HOk P w H h) (mu : Mut (H x)) (he : e = x ∨ H e = some (.own x)) (k : ∀ b u, b ≠ e → h.get? b = some u → h'.get? b = some u) (heo : ∃ u, h'.get? e = some u)
    (new : ObjOk P w (upd H x o') h' x o') : HOk P w (upd H x o') h' := fun b u q => by
  have nown : ∀ c y, H c = some (.own y) → c ≠ x := fun c y r z => by subst z; rw [r] at mu; exact mu
  have ntup : ∀ c xs, H c = some (.tup xs) → c ≠ x := fun c xs r z => by subst z; rw [r] at mu; exact mu
  by_cases hb : b = x
  · subst hb; rw [upd_same] at q; cases q; exact new
  · rw [upd_ne hb] at q
    by_cases hbe : b = e
    · have q' : H b = some (.own x) := by
        rcases he with z | z
        · exact absurd (hbe.trans z) hb
        · rw [hbe]; exact z
      rw [q] at q'; cases q'
      obtain ⟨v, hv⟩ := heo
      exact ⟨v, by rw [hbe]; exact hv⟩
    · refine (ok b u q).stay (fun c v hc r => k c v ?_ r) (fun c r => by rw [upd_ne (nown c b r)]; exact r) fun c xs r => by rw [upd_ne (ntup c xs r)]; exact r
      rcases hc with rfl | hc
      · exact hbe
      · rintro rfl
        rcases he with z | z
        · exact nown c b hc z
        · rw [hc] at z; cases z; exact hb rfl
end
structure Un (fs ex : List Addr) (H H' : Hp) (h h' : Heap) : Prop where
  keep : ∀ b o, h.get? b = some o → H b = none → b ∉ fs → b ∉ ex → h'.get? b = some o
  slot : ∀ b o, h.get? b = some o → H b = none → b ∈ fs → b ∉ ex → ∃ sl, h'.get? b = some { o with slots := sl }
  free : ∀ b o, h.get? b = some o → H b = none → b ∉ ex → H' b = none
  there : ∀ b o, h.get? b = some o → b ∉ ex → ∃ o', h'.get? b = some o'
  tups : ∀ b xs, H b = some (.tup xs) → H' b = some (.tup xs)
  frzs : ∀ b o u, H b = some (.frz o u) → H' b = some (.frz o u)
  tbls : ∀ b ps, H b = some (.tbl ps) → ∃ more, H' b = some (.tbl (ps ++ more))
section
variable {fs fs' ex ex' : List Addr} {H H1 H2 : Hp} {h h1 h2 h' : Heap} {a x e : Addr} {o : HO}
theorem Un.any (u : Un fs ex H H1 h h1) {b : Addr} {ob : Obj} (q : h.get? b = some ob) (n : H b = none) (hx : b ∉ ex) : ∃ sl, h1.get? b = some { ob with slots := sl } := by
  by_cases hb : b ∈ fs
  · exact u.slot b ob q n hb hx
  · exact ⟨ob.slots, u.keep b ob q n hb hx⟩
theorem Un.kept (k : ∀ b u, h.get? b = some u → h'.get? b = some u) : Un fs ex H H h h' :=
  ⟨fun b ob q _ _ _ => k b ob q, fun b ob q _ _ _ => ⟨ob.slots, k b ob q⟩, fun _ _ _ n _ => n, fun b ob q _ => ⟨ob, k b ob q⟩, fun _ _ q => q, fun _ _ _ q => q, fun _ ps q => ⟨#[], by rw [q]; simp⟩⟩
theorem Un.refl : Un fs ex H H h h := Un.kept fun _ _ q => q
theorem Un.laid (k : ∀ b u, h.get? b = some u → h'.get? b = some u) (hp : h.objs.size ≤ a) (hn : H a = none) : Un fs ex H (upd H a o) h h' where
  keep := fun b u q _ _ _ => k b u q
  slot := fun b u q _ _ _ => ⟨u.slots, k b u q⟩
  free := fun b u q n _ => by rw [upd_ne (Nat.ne_of_lt (Nat.lt_of_lt_of_le (Heap.lt_size q) hp))]; exact n
  there := fun b u q _ => ⟨u, k b u q⟩
  tups := fun b xs q => by rw [upd_ne (ne_of_none q hn)]; exact q
  frzs := fun b u xs q => by rw [upd_ne (ne_of_none q hn)]; exact q
  tbls := fun b ps q => ⟨#[], by rw [upd_ne (ne_of_none q hn), q]; simp⟩
theorem Un.write (mu : Mut (H x)) (he : e = x ∨ H e = some (.own x)) (k : ∀ b u, b ≠ e → h.get? b = some u → h'.get? b = some u) (heo : ∃ u, h'.get? e = some u) : Un fs ex H (upd H x o) h h' := by
  have hx : ∀ b, H b = none → b ≠ x := fun b n z => by subst z; rw [n] at mu; exact mu
  have hb : ∀ b, H b = none → b ≠ e := fun b n z => by
    subst z
    rcases he with r | r
    · exact hx b n r
    · rw [n] at r; cases r
  have hm : ∀ b u, H b = some u → ¬ Mut (some u) → b ≠ x := fun b u q nm z => by subst z; rw [q] at mu; exact nm mu
  refine ⟨fun b u q n _ _ => k b u (hb b n) q, fun b u q n _ _ => ⟨u.slots, k b u (hb b n) q⟩, fun b u q n _ => by rw [upd_ne (hx b n)]; exact n, fun b u q _ => ?_,
    fun b xs q => by rw [upd_ne (hm b _ q fun z => z)]; exact q, fun b u xs q => by rw [upd_ne (hm b _ q fun z => z)]; exact q, fun b ps q => ⟨#[], by rw [upd_ne (hm b _ q fun z => z), q]; simp⟩⟩
  by_cases hbe : b = e
  · subst hbe; exact heo
  · exact ⟨u, k b u hbe q⟩
end
def trk (h : Heap) (H : Hp) : List Addr := (List.range h.objs.size).filter fun a => (H a).isSome
def hidT (h : Heap) (H : Hp) : Heap := PySem.W.hideAll h (trk h H)
theorem hidT_size (h : Heap) (H : Hp) : (hidT h H).objs.size = h.objs.size := PySem.W.hideAll_size _ _
theorem hidT_get {h : Heap} {H : Hp} {b : Addr} {o : Obj} (e : h.get? b = some o) (n : H b = none) : (hidT h H).get? b = some o :=
  PySem.W.hideAll_get _ e fun hm => by
    have q : (H b).isSome = true := (List.mem_filter.mp hm).2
    rw [n] at q; simp at q
theorem of_hidT {h : Heap} {H : Hp} {b : Addr} {o : Obj} (e : (hidT h H).get? b = some o) : h.get? b = some o ∧ H b = none := by
  have e' : h.get? b = some o := PySem.W.of_hideAll (trk h H) e
  refine ⟨e', ?_⟩
  cases q : H b with
  | none => rfl
  | some x =>
    have hm : b ∈ trk h H := List.mem_filter.mpr ⟨List.mem_range.mpr (Heap.lt_size e'), by simp [q]⟩
    have z : (hidT h H).get? b = none := PySem.W.hideAll_none (trk h H) hm
    rw [z] at e; cases e
end L2
namespace L2
open PySem PySem.Spec PyProof.Rows
structure Mod (K : PySem.W.Frag) (mg : Str → Option Value) (base : Heap) : Prop where
  kin : K.In base
  glob : base.Ns mainGlobals mg
  blt : ∃ mb, base.Ns builtinsNs mb ∧ ∀ x : Str, x ≠ "__name__" → mb x = bootBuiltins x
  nolimit : base.NoLimit
structure Cx where
  prog : Program
  w : World
  K : PySem.W.Frag
  mg : Str → Option Value
  base : Heap
  A : Around
  N : List Str
  s₀ : Shared
  H₀ : Hp
  env : Env
  outer : List Env
  stack : List Env
  ex : List Addr
  fn : Str → Bool
  calm : Bool
  pn : List (Addr × Obj)
  xe : Value → Shared → Prop
def frs (l : List Env) : List Addr := l.filterMap (·.frame)
abbrev Cx.fs (X : Cx) : List Addr := frs X.outer
def Vis (sc : Scope) (x : Str) : Prop := sc.names.lookup x = some .local ∨ sc.names.lookup x = some .cell ∨ sc.names.lookup x = some .free
def Loc (sc : Scope) (x : Str) : Prop := sc.names.lookup x = some .local ∨ sc.names.lookup x = some .cell
def Look (env : Env) (h : Heap) (m : Str → Option Value) (x : Str) (u : Value) : Prop :=
  (env.kindOf x = some .local ∧ m x = some u) ∨ ((env.kindOf x = some .cell ∨ env.kindOf x = some .free) ∧ ∃ c, env.cells.lookup x = some c ∧ h.IsCell c (some u))
structure Cx.Ok (X : Cx) : Prop where
  mod : Mod X.K X.mg X.base
  kind : X.env.scope.kind = .function
  glob : X.env.globals = mainGlobals
  blt : X.env.builtins = builtinsNs
  above : X.s₀.heap.objs.size ≤ X.env.locals
  inj : ∀ x y c, X.env.cells.lookup x = some c → X.env.cells.lookup y = some c → x = y
  has : ∀ x, (X.env.kindOf x = some .cell ∨ X.env.kindOf x = some .free) → ∃ c, X.env.cells.lookup x = some c
  cab : ∀ x c, X.fn x = true → X.env.cells.lookup x = some c → X.s₀.heap.objs.size ≤ c
  hd : X.calm = true → X.A.handled = none
  frames : X.A.frames = some X.stack
  stk : X.stack = X.outer ∨ (X.stack = X.env :: X.outer ∧ X.env.frame = some X.env.locals)
  exf : ∀ b ∈ X.ex, b ≠ X.env.locals ∧ ∀ x c, X.env.cells.lookup x = some c → c ≠ b
  bs : ∀ b o, X.base.get? b = some o → X.s₀.heap.get? b = some o ∧ X.H₀ b = none
  bsz : X.base.objs.size ≤ X.s₀.heap.objs.size
  noex : ∀ b o, X.base.get? b = some o → b ∉ X.ex
  exfs : ∀ b ∈ X.ex, b ∉ X.fs
  funs : X.s₀.heap.FunFrames X.base X.outer
  frf : ∀ b ∈ X.fs, X.H₀ b = none
structure Inv (X : Cx) (pins : List (Addr × Obj)) (σ : List (Option V)) (H : Hp) (s : Shared) : Prop where
  ok : X.Ok
  os : s.os = X.s₀.os
  bare : AllBare s.gens
  base : Un X.fs X.ex X.H₀ H X.s₀.heap s.heap
  loc : ∃ m, s.heap.Ns X.env.locals m ∧ ∀ (i : Nat) (x : Str) (v : V), X.N[i]? = some x → σ[i]? = some (some v) → Vis X.env.scope x → ∃ u, RelV v u ∧ Look X.env s.heap m x u
  cell : ∀ x c, X.env.cells.lookup x = some c → ∃ v, s.heap.IsCell c v
  free : H X.env.locals = none
  freeC : ∀ x c, X.env.cells.lookup x = some c → H c = none
  pin : ∀ p ∈ X.pn ++ pins, s.heap.get? p.1 = some p.2 ∧ H p.1 = none ∧ p.1 ≠ X.env.locals ∧ p.1 ∉ X.fs ∧ ∀ v, p.2.data ≠ .cell v
  hok : HOk X.prog X.w H s.heap
  len : σ.length = X.N.length
section
variable {X : Cx} {pins : List (Addr × Obj)} {σ : List (Option V)} {H H' : Hp} {s : Shared} {h' : Heap}
theorem Cx.Ok.nofr (ok : X.Ok) {b : Addr} {o : Obj} (e : X.base.get? b = some o) : b ∉ X.fs := fun hb => by
  have := (ok.funs.mem hb).1
  rw [e] at this; cases this
theorem Inv.bs (I : Inv X pins σ H s) : ∀ b o, X.base.get? b = some o → s.heap.get? b = some o ∧ H b = none := fun b o e =>
  ⟨I.base.keep b o (I.ok.bs b o e).1 (I.ok.bs b o e).2 (I.ok.nofr e) (I.ok.noex b o e), I.base.free b o (I.ok.bs b o e).1 (I.ok.bs b o e).2 (I.ok.noex b o e)⟩
theorem Inv.bk (I : Inv X pins σ H s) : ∀ b o, X.base.get? b = some o → s.heap.get? b = some o := fun b o e => (I.bs b o e).1
theorem Inv.mod (I : Inv X pins σ H s) : Mod X.K X.mg X.base := I.ok.mod
theorem Inv.kIn (I : Inv X pins σ H s) : X.K.In s.heap := I.ok.mod.kin.keeps I.bk
theorem Inv.lt (I : Inv X pins σ H s) : X.env.locals < s.heap.objs.size := let ⟨_, hn, _⟩ := I.loc; hn.lt
theorem Inv.sz (I : Inv X pins σ H s) : X.s₀.heap.objs.size ≤ s.heap.objs.size := Nat.le_trans I.ok.above (Nat.le_of_lt I.lt)
theorem Inv.nofs (I : Inv X pins σ H s) {a : Addr} (h : s.heap.objs.size ≤ a) : a ∉ X.fs := fun hb => by
  obtain ⟨_, o, ho, _⟩ := I.ok.funs.mem hb
  exact absurd (Nat.lt_of_lt_of_le (Heap.lt_size ho) (Nat.le_trans I.sz h)) (Nat.lt_irrefl _)
theorem Inv.cne (I : Inv X pins σ H s) : ∀ x c, X.env.cells.lookup x = some c → c ≠ X.env.locals := fun x c e z => by
  obtain ⟨v, o, ho, hd⟩ := I.cell x c e
  obtain ⟨m, ⟨o', es, ep, ho', hd', _⟩, _⟩ := I.loc
  rw [z, ho'] at ho; cases ho; rw [hd'] at hd; cases hd
theorem Inv.funs (I : Inv X pins σ H s) : s.heap.FunFrames X.base X.outer := by
  have all : ∀ (l : List Env), (∀ b ∈ frs l, b ∈ X.fs) → X.s₀.heap.FunFrames X.base l → s.heap.FunFrames X.base l := by
    intro l
    induction l with
    | nil => intro _ _; trivial
    | cons env r ih =>
      intro hs hl
      obtain ⟨hk, ⟨L, o, hf, hn, ho, hd⟩, hr⟩ := hl
      have hL : L ∈ X.fs := hs L (by unfold frs; rw [List.filterMap_cons, hf]; exact List.mem_cons_self)
      obtain ⟨sl, e⟩ := I.base.slot L o ho (I.ok.frf L hL) hL fun z => I.ok.exfs L z hL
      exact ⟨hk, ⟨L, _, hf, hn, e, hd⟩, ih (fun b hb => hs b (by unfold frs; rw [List.filterMap_cons, hf]; exact List.mem_cons_of_mem _ hb)) hr⟩
  exact all X.outer (fun _ hb => hb) I.ok.funs
theorem Inv.stack (I : Inv X pins σ H s) : s.heap.FunFrames X.base X.stack := by
  rcases I.ok.stk with e | ⟨e, hf⟩
  · rw [e]; exact I.funs
  · rw [e]
    obtain ⟨m, hn, _⟩ := I.loc
    refine .cons (by rw [I.ok.kind]; decide) hf hn ?_ I.funs
    exact Heap.get?_none_of_le (Nat.le_trans I.ok.bsz I.ok.above)
theorem Inv.stkSub (I : Inv X pins σ H s) : ∀ b ∈ frs X.stack, b ∈ X.env.locals :: X.fs := fun b hb => by
  rcases I.ok.stk with e | ⟨e, hf⟩
  · rw [e] at hb; exact List.mem_cons_of_mem _ hb
  · rw [e] at hb
    unfold frs at hb
    rw [List.filterMap_cons, hf] at hb
    exact hb
theorem Inv.stkFree (I : Inv X pins σ H s) : ∀ b ∈ frs X.stack, H b = none := fun b hb => by
  rcases List.mem_cons.mp (I.stkSub b hb) with e | hb
  · rw [e]; exact I.free
  · obtain ⟨_, o, ho, _⟩ := I.ok.funs.mem hb
    exact I.base.free b o ho (I.ok.frf b hb) fun z => I.ok.exfs b z hb
theorem Inv.step {g' : Array GenState} {t' : Nat} {d' : Drawn} {ch : List Addr} (I : Inv X pins σ H s)
    (hch : ∀ b ∈ ch, (b ∈ X.ex ∨ X.s₀.heap.objs.size ≤ b) ∧ b ≠ X.env.locals ∧ (∀ x c, X.env.cells.lookup x = some c → c ≠ b) ∧ ∀ p ∈ X.pn ++ pins, p.1 ≠ b)
    (keep : ∀ b o, b ≠ X.env.locals → b ∉ X.fs → b ∉ ch → s.heap.get? b = some o → H b = none → h'.get? b = some o)
    (slot : ∀ b o, b ≠ X.env.locals → b ∈ X.fs → b ∉ ch → s.heap.get? b = some o → H b = none → ∃ sl, h'.get? b = some { o with slots := sl }) (free : ∀ b o, b ∉ ch → s.heap.get? b = some o → H b = none → H' b = none)
    (there : ∀ b o, b ∉ ch → s.heap.get? b = some o → ∃ o', h'.get? b = some o')
    (tups : ∀ b xs, H b = some (.tup xs) → H' b = some (.tup xs)) (frzs : ∀ b o u, H b = some (.frz o u) → H' b = some (.frz o u)) (tbls : ∀ b ps, H b = some (.tbl ps) → ∃ more, H' b = some (.tbl (ps ++ more)))
    (ns : ∀ m, s.heap.Ns X.env.locals m → h'.Ns X.env.locals m) (hok : HOk X.prog X.w H' h') (hg : AllBare g') :
    Inv X pins σ H' { s with heap := h', gens := g', drawn := d', toks := t' } := by
  have neL : ∀ b o, X.s₀.heap.get? b = some o → b ≠ X.env.locals := fun b o e => Nat.ne_of_lt (Nat.lt_of_lt_of_le (Heap.lt_size e) I.ok.above)
  have neC : ∀ b o, X.s₀.heap.get? b = some o → b ∉ X.ex → b ∉ ch := fun b o e hx hb => by
    rcases (hch b hb).1 with z | z
    · exact hx z
    · exact absurd (Nat.lt_of_lt_of_le (Heap.lt_size e) z) (Nat.lt_irrefl _)
  have cellK : ∀ x c, X.env.cells.lookup x = some c → ∀ v, s.heap.IsCell c v → h'.IsCell c v := fun x c e v ⟨o, ho, hd⟩ => by
    have nch : c ∉ ch := fun z => (hch c z).2.2.1 x c e rfl
    by_cases hc : c ∈ X.fs
    · obtain ⟨sl, q⟩ := slot c o (I.cne x c e) hc nch ho (I.freeC x c e)
      exact ⟨_, q, hd⟩
    · exact ⟨o, keep c o (I.cne x c e) hc nch ho (I.freeC x c e), hd⟩
  refine ⟨I.ok, I.os, hg, ⟨fun b o e n hb hx => ?_, fun b o e n hb hx => ?_, fun b o e n hx => ?_, fun b o e hx => ?_, fun b xs e => tups b xs (I.base.tups b xs e), fun b o xs e => frzs b o xs (I.base.frzs b o xs e), fun b ps e => ?_⟩, ?_, fun x c e => ?_, ?_, fun x c e => ?_, fun p hp => ?_, hok, I.len⟩
  · exact keep b o (neL b o e) hb (neC b o e hx) (I.base.keep b o e n hb hx) (I.base.free b o e n hx)
  · obtain ⟨sl, e1⟩ := I.base.slot b o e n hb hx
    obtain ⟨sl', e2⟩ := slot b _ (neL b o e) hb (neC b o e hx) e1 (I.base.free b o e n hx)
    exact ⟨sl', e2⟩
  · obtain ⟨o', e1⟩ := I.base.there b o e hx
    exact free b o' (neC b o e hx) e1 (I.base.free b o e n hx)
  · obtain ⟨o', e1⟩ := I.base.there b o e hx
    exact there b o' (neC b o e hx) e1
  · obtain ⟨m1, e1⟩ := I.base.tbls b ps e
    obtain ⟨m2, e2⟩ := tbls b _ e1
    exact ⟨m1 ++ m2, by rw [e2, Array.append_assoc]⟩
  · obtain ⟨m, hn, hl⟩ := I.loc
    refine ⟨m, ns m hn, fun i x v e1 e2 e3 => ?_⟩
    obtain ⟨u, r, l⟩ := hl i x v e1 e2 e3
    refine ⟨u, r, ?_⟩
    rcases l with l | ⟨k, c, e, z⟩
    · exact .inl l
    · exact .inr ⟨k, c, e, cellK x c e _ z⟩
  · obtain ⟨v, z⟩ := I.cell x c e
    exact ⟨v, cellK x c e v z⟩
  · obtain ⟨m, ⟨o, _, _, ho, _⟩, _⟩ := I.loc
    exact free _ o (fun z => (hch _ z).2.1 rfl) ho I.free
  · obtain ⟨v, o, ho, hd⟩ := I.cell x c e
    exact free c o (fun z => (hch c z).2.2.1 x c e rfl) ho (I.freeC x c e)
  · obtain ⟨e, n, ne, nf, d⟩ := I.pin p hp
    have nch : p.1 ∉ ch := fun z => (hch p.1 z).2.2.2 p hp rfl
    exact ⟨keep p.1 p.2 ne nf nch e n, free p.1 p.2 nch e n, ne, nf, d⟩
theorem Inv.un {t' : Nat} (I : Inv X pins σ H s) (u : Un X.fs [] H H' s.heap h') (hok : HOk X.prog X.w H' h') : Inv X pins σ H' { s with heap := h', toks := t' } := by
  obtain ⟨m, ⟨o, es, ep, ho, r⟩, _⟩ := id I.loc
  obtain ⟨sl, hL⟩ := u.any ho I.free (by simp)
  exact I.step (g' := s.gens) (d' := s.drawn) (ch := []) (fun _ z => nomatch z) (fun b o _ hb _ e n => u.keep b o e n hb (by simp)) (fun b o _ hb _ e n => u.slot b o e n hb (by simp)) (fun b o _ e n => u.free b o e n (by simp)) (fun b o _ e => u.there b o e (by simp)) u.tups u.frzs u.tbls (fun m' hm => by
    obtain ⟨o', es', ep', ho', r'⟩ := hm
    rw [ho] at ho'; cases ho'
    exact ⟨_, es', ep', hL, r'⟩) hok I.bare
theorem Inv.call {g' : Array GenState} {t' : Nat} {d' : Drawn} {ch : List Addr} (I : Inv X pins σ H s) (u : Un (frs X.stack) ch H H' s.heap h') (hok : HOk X.prog X.w H' h') (hg : AllBare g')
    (hch : ∀ b ∈ ch, (b ∈ X.ex ∨ X.s₀.heap.objs.size ≤ b) ∧ b ≠ X.env.locals ∧ (∀ x c, X.env.cells.lookup x = some c → c ≠ b) ∧ ∀ p ∈ X.pn ++ pins, p.1 ≠ b) :
    Inv X pins σ H' { s with heap := h', gens := g', drawn := d', toks := t' } := by
  obtain ⟨m, ⟨o, es, ep, ho, r⟩, _⟩ := id I.loc
  obtain ⟨sl, hL⟩ := u.any ho I.free fun z => (hch _ z).2.1 rfl
  exact I.step (ch := ch) hch (fun b o hL hb hc e n => u.keep b o e n (fun z => (List.mem_cons.mp (I.stkSub b z)).elim hL hb) hc) (fun b o _ _ hc e n => u.any e n hc) (fun b o hc e n => u.free b o e n hc) (fun b o hc e => u.there b o e hc) u.tups u.frzs u.tbls (fun m' hm => by
    obtain ⟨o', es', ep', ho', r'⟩ := hm
    rw [ho] at ho'; cases ho'
    exact ⟨_, es', ep', hL, r'⟩) hok hg
theorem Inv.turned {t' : Nat} {it : Addr} (I : Inv X pins σ H s) (k : ∀ b o, b ≠ it → s.heap.get? b = some o → h'.get? b = some o) (hn : H it = none) (hL : it ≠ X.env.locals)
    (h1 : it ∈ X.ex ∨ X.s₀.heap.objs.size ≤ it) (h2 : ∀ x c, X.env.cells.lookup x = some c → c ≠ it) (h3 : ∀ p ∈ X.pn ++ pins, p.1 ≠ it) : Inv X pins σ H { s with heap := h', toks := t' } := by
  have nit : ∀ b u, H b = some u → b ≠ it := fun b u e z => by rw [z, hn] at e; cases e
  refine I.step (g' := s.gens) (d' := s.drawn) (ch := [it]) (fun b hb => ?_) (fun b o _ _ hc e _ => k b o (fun z => hc (by simp [z])) e) (fun b o _ _ hc e _ => ⟨o.slots, k b o (fun z => hc (by simp [z])) e⟩) (fun _ _ _ _ n => n)
    (fun b o hc e => ⟨o, k b o (fun z => hc (by simp [z])) e⟩) (fun _ _ e => e) (fun _ _ _ e => e) (fun b ps e => ⟨#[], by rw [e]; simp⟩) (fun m hm => ?_) (fun b u e => ?_) I.bare
  · have e : b = it := by simpa using hb
    subst e
    exact ⟨h1, hL, h2, h3⟩
  · obtain ⟨o, es, ep, ho, r⟩ := hm
    exact ⟨o, es, ep, k _ o (Ne.symm hL) ho, r⟩
  · refine (I.hok b u e).stay (fun c v hc q => k c v ?_ q) (fun _ q => q) fun _ _ q => q
    rcases hc with z | z
    · rw [z]; exact nit b u e
    · exact nit c _ z
theorem Inv.tok (I : Inv X pins σ H s) (t : Nat) : Inv X pins σ H { s with toks := t } := I.un (h' := s.heap) (t' := t) Un.refl I.hok
theorem Inv.kept {t' : Nat} (I : Inv X pins σ H s) (k : ∀ b u, s.heap.get? b = some u → h'.get? b = some u) : Inv X pins σ H { s with heap := h', toks := t' } := I.un (Un.kept k) (I.hok.kept k)
theorem Inv.laid {a : Addr} {o : HO} {t' : Nat} (I : Inv X pins σ H s) (k : ∀ b u, s.heap.get? b = some u → h'.get? b = some u) (hp : s.heap.objs.size ≤ a) (new : ObjOk X.prog X.w (upd H a o) h' a o) :
    Inv X pins σ (upd H a o) { s with heap := h', toks := t' } := I.un (Un.laid k hp (I.hok.fresh hp)) (I.hok.laid k hp new)
theorem Inv.write {x e : Addr} {o : HO} {t' : Nat} (I : Inv X pins σ H s) (mu : Mut (H x)) (he : e = x ∨ H e = some (.own x)) (k : ∀ b u, b ≠ e → s.heap.get? b = some u → h'.get? b = some u) (heo : ∃ u, h'.get? e = some u)
    (new : ObjOk X.prog X.w (upd H x o) h' x o) : Inv X pins σ (upd H x o) { s with heap := h', toks := t' } := I.un (Un.write mu he k heo) (I.hok.write mu he k heo new)
theorem Inv.pins_of {pins' : List (Addr × Obj)} (I : Inv X pins σ H s) (h : ∀ p ∈ pins', s.heap.get? p.1 = some p.2 ∧ H p.1 = none ∧ p.1 ≠ X.env.locals ∧ p.1 ∉ X.fs ∧ ∀ v, p.2.data ≠ .cell v) : Inv X pins' σ H s :=
  ⟨I.ok, I.os, I.bare, I.base, I.loc, I.cell, I.free, I.freeC, fun p hp => (List.mem_append.mp hp).elim (fun z => I.pin p (List.mem_append_left _ z)) (h p), I.hok, I.len⟩
theorem nodup_ix {N : List Str} (hN : N.Nodup) {i j : Nat} {x : Str} (a : N[i]? = some x) (b : N[j]? = some x) : i = j := by
  obtain ⟨h1, e1⟩ := List.getElem?_eq_some_iff.mp a
  obtain ⟨h2, e2⟩ := List.getElem?_eq_some_iff.mp b
  exact (List.getElem_inj hN).mp (e1.trans e2.symm)
theorem store_ok2 {M : Model} {A : Around} {E : Value → Shared → Prop} {i : Nat} {x : Str} {v : V} {u : Value} {Q : Unit → Shared → Prop} (I : Inv X pins σ H s) (hN : X.N.Nodup) (hi : X.N[i]? = some x) (hx : Loc X.env.scope x) (r : RelV v u)
    (h : ∀ s', Inv X pins (σ.set i (some v)) H s' → (∃ a, Heap.SameBut a s.heap s'.heap ∧ (a = X.env.locals ∨ X.env.cells.lookup x = some a)) → Q () s') (hf : X.fn x = true ∨ X.env.scope.names.lookup x = some .local := by first | exact .inl rfl | exact .inr rfl | assumption) : wpAny M A (storeName X.env x u) Q E s := by
  obtain ⟨m, hn, hl⟩ := id I.loc
  have hcls : (X.env.scope.kind == .class || (X.env.scope.kind == .module && X.env.locals != X.env.globals)) = false := by rw [I.ok.kind]; rfl
  have hiσ : i < σ.length := by rw [I.len]; exact (List.getElem?_eq_some_iff.mp hi).1
  have cne := I.cne
  have tracked : ∀ {a : Addr} {h' : Heap}, (∃ o, s.heap.get? a = some o ∧ H a = none) → Heap.SameBut a s.heap h' → HOk X.prog X.w H h' := fun {a h'} ha hs b ob e => by
    obtain ⟨_, _, hfree⟩ := ha
    refine (I.hok b ob e).stay (fun c w' hc q => (hs.2 c ?_).trans q) (fun _ q => q) fun _ _ q => q
    rintro rfl
    rcases hc with rfl | hc
    · rw [hfree] at e; cases e
    · rw [hfree] at hc; cases hc
  rcases hx with hk | hk
  · refine wpAny_storeName_local hk hn (fun h' hn' hs => ?_) hcls
    obtain ⟨oL, _, _, hoL, _⟩ := id hn
    refine h _ ⟨I.ok, I.os, I.bare, ⟨fun b o e n hb hx => ?_, fun b o e n hb hx => ?_, I.base.free, fun b o e hx => ?_, I.base.tups, I.base.frzs, I.base.tbls⟩, ⟨_, hn', fun j y v' e1 e2 e3 => ?_⟩, fun y c e => ?_, I.free, I.freeC, fun p hp => ?_, tracked ⟨oL, hoL, I.free⟩ hs, by simpa using I.len⟩ ⟨_, hs, .inl rfl⟩
    · exact (hs.2 b (Nat.ne_of_lt (Nat.lt_of_lt_of_le (Heap.lt_size e) I.ok.above))).trans (I.base.keep b o e n hb hx)
    · obtain ⟨sl, e1⟩ := I.base.slot b o e n hb hx
      exact ⟨sl, (hs.2 b (Nat.ne_of_lt (Nat.lt_of_lt_of_le (Heap.lt_size e) I.ok.above))).trans e1⟩
    · obtain ⟨o', e1⟩ := I.base.there b o e hx
      exact ⟨o', (hs.2 b (Nat.ne_of_lt (Nat.lt_of_lt_of_le (Heap.lt_size e) I.ok.above))).trans e1⟩
    · by_cases hj : j = i
      · subst hj
        rw [hi] at e1; cases e1
        rw [List.getElem?_set_self hiσ] at e2
        cases e2
        exact ⟨u, r, .inl ⟨hk, by simp⟩⟩
      · rw [List.getElem?_set_ne (Ne.symm hj)] at e2
        obtain ⟨u', r', q⟩ := hl j y v' e1 e2 e3
        refine ⟨u', r', ?_⟩
        rcases q with ⟨k, e⟩ | ⟨k, c, e, z⟩
        · refine .inl ⟨k, ?_⟩
          have : y ≠ x := fun e => hj (nodup_ix hN e1 (e ▸ hi))
          simp [this, e]
        · exact .inr ⟨k, c, e, z.sameBut hs (cne y c e)⟩
    · obtain ⟨w', z⟩ := I.cell y c e
      exact ⟨w', z.sameBut hs (cne y c e)⟩
    · obtain ⟨e, n, ne, nf, d⟩ := I.pin p hp
      exact ⟨(hs.2 p.1 ne).trans e, n, ne, nf, d⟩
  · have hfn : X.fn x = true := by
      rcases hf with z | z
      · exact z
      · rw [z] at hk; cases hk
    obtain ⟨c, hc⟩ := I.ok.has x (.inl hk)
    obtain ⟨w', z⟩ := I.cell x c hc
    refine wpAny_storeName_cell I.ok.kind hk hc z (fun h' hc' hs => ?_)
    obtain ⟨oc, hoc, hocd⟩ := id z
    refine h { s with heap := h' } ⟨I.ok, I.os, I.bare, ⟨fun b o e n hb hx => ?_, fun b o e n hb hx => ?_, I.base.free, fun b o e hx => ?_, I.base.tups, I.base.frzs, I.base.tbls⟩, ⟨m, hn.sameBut hs (Ne.symm (cne x c hc)), fun j y v' e1 e2 e3 => ?_⟩, fun y c' e => ?_, I.free, I.freeC, fun p hp => ?_, tracked ⟨oc, hoc, I.freeC x c hc⟩ hs, by simpa using I.len⟩ ⟨c, hs, .inr hc⟩
    · exact (hs.2 b (Nat.ne_of_lt (Nat.lt_of_lt_of_le (Heap.lt_size e) (I.ok.cab x c hfn hc)))).trans (I.base.keep b o e n hb hx)
    · obtain ⟨sl, e1⟩ := I.base.slot b o e n hb hx
      exact ⟨sl, (hs.2 b (Nat.ne_of_lt (Nat.lt_of_lt_of_le (Heap.lt_size e) (I.ok.cab x c hfn hc)))).trans e1⟩
    · obtain ⟨o', e1⟩ := I.base.there b o e hx
      exact ⟨o', (hs.2 b (Nat.ne_of_lt (Nat.lt_of_lt_of_le (Heap.lt_size e) (I.ok.cab x c hfn hc)))).trans e1⟩
    · by_cases hj : j = i
      · subst hj
        rw [hi] at e1; cases e1
        rw [List.getElem?_set_self hiσ] at e2
        cases e2
        exact ⟨u, r, .inr ⟨.inl hk, c, hc, hc'⟩⟩
      · rw [List.getElem?_set_ne (Ne.symm hj)] at e2
        obtain ⟨u', r', q⟩ := hl j y v' e1 e2 e3
        refine ⟨u', r', ?_⟩
        rcases q with q | ⟨k, c', e, z'⟩
        · exact .inl q
        · refine .inr ⟨k, c', e, z'.sameBut hs ?_⟩
          rintro rfl
          exact hj (nodup_ix hN e1 (I.ok.inj _ _ _ e hc ▸ hi))
    · by_cases hcc : c' = c
      · subst hcc; exact ⟨_, hc'⟩
      · obtain ⟨w2, z2⟩ := I.cell y c' e
        exact ⟨w2, z2.sameBut hs hcc⟩
    · obtain ⟨e, n, ne, nf, d⟩ := I.pin p hp
      refine ⟨(hs.2 p.1 ?_).trans e, n, ne, nf, d⟩
      intro q
      rw [q, hoc] at e
      have q' : oc = p.2 := Option.some.inj e
      exact d w' (by rw [← q']; exact hocd)
theorem store_ok {M : Model} {A : Around} {E : Value → Shared → Prop} {i : Nat} {x : Str} {v : V} {u : Value} {Q : Unit → Shared → Prop} (I : Inv X pins σ H s) (hN : X.N.Nodup) (hi : X.N[i]? = some x) (hx : Loc X.env.scope x) (r : RelV v u)
    (h : ∀ s', Inv X pins (σ.set i (some v)) H s' → Q () s') (hf : X.fn x = true ∨ X.env.scope.names.lookup x = some .local := by first | exact .inl rfl | exact .inr rfl | assumption) : wpAny M A (storeName X.env x u) Q E s :=
  store_ok2 I hN hi hx r (fun s' I' _ => h s' I') hf
theorem Inv.call' {s' : Shared} {ch : List Addr} (I : Inv X pins σ H s) (ho : s'.os = s.os) (u : Un (frs X.stack) ch H H' s.heap s'.heap) (hok : HOk X.prog X.w H' s'.heap) (hg : AllBare s'.gens)
    (hch : ∀ b ∈ ch, (b ∈ X.ex ∨ X.s₀.heap.objs.size ≤ b) ∧ b ≠ X.env.locals ∧ (∀ x c, X.env.cells.lookup x = some c → c ≠ b) ∧ ∀ p ∈ X.pn ++ pins, p.1 ≠ b) : Inv X pins σ H' s' := by
  obtain ⟨h', g', d', t', o'⟩ := s'
  have e : o' = s.os := ho
  subst e
  exact I.call (g' := g') (t' := t') (d' := d') u hok hg hch
end
abbrev XK := Value → Option Addr → Hp → Prop
abbrev St := List (Option V)
abbrev VK := V → Hp → Prop
abbrev TE := St → Hp → VK → Prop
abbrev TA := St → Hp → (List V → Hp → Prop) → Prop
structure Ends where
  nx : St → Hp → Prop
  rt : VK
  bk : St → Hp → Prop := fun _ _ => False
  ct : St → Hp → Prop := fun _ _ => False
abbrev TS := Ends → St → Hp → Prop
def EP (X : Cx) (pins : List (Addr × Obj)) (σ : St) (Q : VK) (u : Value) (s' : Shared) : Prop := ∃ v H', Inv X pins σ H' s' ∧ RelV v u ∧ Q v H'
def AP (X : Cx) (pins : List (Addr × Obj)) (σ : St) (Q : List V → Hp → Prop) (us : List Value) (s' : Shared) : Prop := ∃ vs H', Inv X pins σ H' s' ∧ Vals vs us ∧ Q vs H'
def SP (X : Cx) (pins : List (Addr × Obj)) (D : Ends) (f : Flow) (s' : Shared) : Prop :=
  match f with
  | .next => ∃ σ' H', Inv X pins σ' H' s' ∧ D.nx σ' H'
  | .brk => ∃ σ' H', Inv X pins σ' H' s' ∧ D.bk σ' H'
  | .cont => ∃ σ' H', Inv X pins σ' H' s' ∧ D.ct σ' H'
  | .ret u => ∃ v σ' H', Inv X pins σ' H' s' ∧ RelV v u ∧ D.rt v H'
def PE (X : Cx) (e : Expr) (t : TE) : Prop :=
  ∀ (pins : List (Addr × Obj)) (s : Shared) (σ : St) (H : Hp) (Q : VK), Inv X pins σ H s → t σ H Q → wpAny (model X.prog X.w) X.A (eval e X.env) (EP X pins σ Q) X.xe s
def PA (X : Cx) (es : List Expr) (t : TA) : Prop :=
  ∀ (pos : Pos) (pins : List (Addr × Obj)) (s : Shared) (σ : St) (H : Hp) (Q : List V → Hp → Prop), Inv X pins σ H s → t σ H Q → wpAny (model X.prog X.w) X.A (spliced (backTo pos (starEach es X.env))) (AP X pins σ Q) X.xe s
def PS (X : Cx) (st : Stmt) (t : TS) : Prop :=
  ∀ (pins : List (Addr × Obj)) (s : Shared) (σ : St) (H : Hp) (D : Ends), Inv X pins σ H s → t D σ H → wpAny (model X.prog X.w) X.A (exec st X.env) (SP X pins D) X.xe s
def PSs (X : Cx) (st : List Stmt) (t : TS) : Prop :=
  ∀ (pins : List (Addr × Obj)) (s : Shared) (σ : St) (H : Hp) (D : Ends), Inv X pins σ H s → t D σ H → wpAny (model X.prog X.w) X.A (execs st X.env) (SP X pins D) X.xe s
theorem thn {α : Type} {t : Sem α} {Q Q' : α → Shared → Prop} {M : Model} {A : Around} {E : Value → Shared → Prop} {s : Shared} (h : wpAny M A t Q E s) (hQ : ∀ a s, Q a s → Q' a s) : wpAny M A t Q' E s := wpAny_mono h hQ fun _ _ x => x
end L2
namespace L2
open PySem PySem.Spec PyProof.Rows
section
variable {X : Cx}
def tVar (i : Nat) : TE := fun σ H Q => ∃ v, σ[i]? = some (some v) ∧ Q v H
def tC (v : V) : TE := fun _ H Q => Q v H
theorem pe_var {i : Nat} {x : Str} {pos : Pos} (hN : X.N[i]? = some x) (hv : Vis X.env.scope x) (hd : (x == ("__debug__" : Str)) = false := by decide) (hcd : (x == ("__classdict__" : Str)) = false := by decide) : PE X (.Name x pos) (tVar i) := by
  intro pins s σ H Q I h
  obtain ⟨v, e, h⟩ := h
  obtain ⟨m, hn, hl⟩ := I.loc
  obtain ⟨u, r, l⟩ := hl i x v hN e hv
  have fin : EP X pins σ Q u s := ⟨v, H, I, r, h⟩
  rcases l with ⟨hk, hm⟩ | ⟨hk, c, hc, hcell⟩
  · exact wpAny_Name (wpAny_loadName_local I.ok.kind hk hn hm fin) hd
  · rcases hk with hk | hk
    · exact wpAny_Name (wpAny_loadName_cell I.ok.kind hk hc hcell fin) hd
    · exact wpAny_Name (wpAny_loadName_free I.ok.kind hk hc hcell fin hcd) hd
theorem pe_int {i j pos} : PE X (.Constant (.int i) j pos) (tC (.int i)) := fun _ _ _ H _ I h => wpAny_Constant_int ⟨.int i, H, I.tok _, ⟨_, rfl⟩, h⟩
theorem pe_bl {b j pos} : PE X (.Constant (.bool b) j pos) (tC (.bl b)) := fun _ _ _ H _ I h => Constant_bool ⟨.bl b, H, I, rfl, h⟩
theorem pe_str {x j pos} : PE X (.Constant (.str x) j pos) (tC (.str x)) := fun _ _ _ H _ I h => Calls.Constant_str ⟨.str x, H, I.tok _, ⟨_, rfl⟩, h⟩
def Gl (X : Cx) (x : Str) : Prop := X.env.kindOf x = some .globalImplicit
theorem ld_glob {E : Value → Shared → Prop} {pins : List (Addr × Obj)} {s : Shared} {σ : St} {H : Hp} {x : Str} {u : Value} {pos : Pos} {Q : Value → Shared → Prop} (I : Inv X pins σ H s) (hg : Gl X x) (hm : X.mg x = some u) (h : Q u s)
    (hd : (x == ("__debug__" : Str)) = false := by decide) : wpAny (model X.prog X.w) X.A (eval (.Name x pos) X.env) Q E s :=
  Calls.Name_function_global I.ok.kind hg (Calls.loadGlobal_global (by rw [I.ok.glob]; exact I.mod.glob.keeps I.bk) hm h) hd
theorem ld_blt {E : Value → Shared → Prop} {pins : List (Addr × Obj)} {s : Shared} {σ : St} {H : Hp} {x : Str} {u : Value} {pos : Pos} {Q : Value → Shared → Prop} (I : Inv X pins σ H s) (hg : Gl X x) (hm : X.mg x = none) (hv : bootBuiltins x = some u) (h : Q u s)
    (hn : x ≠ "__name__" := by decide) (hd : (x == ("__debug__" : Str)) = false := by decide) : wpAny (model X.prog X.w) X.A (eval (.Name x pos) X.env) Q E s := by
  obtain ⟨mb, h1, h2⟩ := I.mod.blt
  exact Calls.Name_function_global I.ok.kind hg (Calls.loadGlobal_builtin (by rw [I.ok.glob]; exact I.mod.glob.keeps I.bk) hm (by rw [I.ok.blt]; exact h1.keeps I.bk) ((h2 x hn).trans hv) h) hd
theorem pe_glob {x : Str} {v : V} {u : Value} {pos : Pos} (hg : Gl X x) (hm : X.mg x = some u) (r : RelV v u) (hd : (x == ("__debug__" : Str)) = false := by decide) : PE X (.Name x pos) (tC v) :=
  fun _ _ _ H _ I h => ld_glob I hg hm ⟨v, H, I, r, h⟩ hd
theorem pe_bltn {x : Str} {v : V} {u : Value} {pos : Pos} (hg : Gl X x) (hm : X.mg x = none) (hv : bootBuiltins x = some u) (r : RelV v u) (hn : x ≠ "__name__" := by decide) (hd : (x == ("__debug__" : Str)) = false := by decide) : PE X (.Name x pos) (tC v) :=
  fun _ _ _ H _ I h => ld_blt I hg hm hv ⟨v, H, I, r, h⟩ hn hd
variable {a b : Expr} {ta tb : TE} {pos : Pos}
variable {tA tB' : TT} {rest : List Expr}
end
end L2
namespace L2
open PySem PySem.Spec PyProof.Rows
def SqL (K : PySem.W.Frag) (H : Hp) (a : Addr) (xs : List V) : Prop :=
  Rd H a (.lst xs) ∨
    ∃ (o : Obj) (its : Array Value) (n : Nat), K.lookup a = some o ∧ o.cls = .type "list" ∧ o.dict = none ∧ o.data = .seq its n ∧ its.size ≤ sizeLine ∧ Vals xs its.toList
def SqT (K : PySem.W.Frag) (H : Hp) (a : Addr) (xs : List V) : Prop :=
  Rd H a (.tup xs) ∨
    ∃ (o : Obj) (its : Array Value) (n : Nat), K.lookup a = some o ∧ o.cls = .type "tuple" ∧ o.data = .seq its n ∧ its.size ≤ sizeLine ∧ Vals xs its.toList
def absV : Value → Option V
  | .none => some .non
  | .bool b => some (.bl b)
  | .int i _ => some (.int i)
  | .str x _ => some (.str x)
  | .bytes b _ => some (.byt b)
  | .float b _ => some (.flt b)
  | .ref a => some (.ref a)
  | .type n => some (.ty n)
  | _ => none
theorem RelV.abs {x : V} {u : Value} (r : RelV x u) : absV u = some x := by
  cases x with
  | non => cases r; rfl
  | bl _ => cases r; rfl
  | int _ => obtain ⟨t, rfl⟩ := r; rfl
  | str _ => obtain ⟨t, rfl⟩ := r; rfl
  | byt _ => obtain ⟨t, rfl⟩ := r; rfl
  | flt _ => obtain ⟨t, rfl⟩ := r; rfl
  | ref _ => cases r; rfl
  | ty _ => cases r; rfl
theorem RelV.inj {x y : V} {u : Value} (r : RelV x u) (q : RelV y u) : x = y := Option.some.inj (r.abs.symm.trans q.abs)
theorem Vals.inj : ∀ {xs ys : List V} {us : List Value}, Vals xs us → Vals ys us → xs = ys
  | _, _, _, .nil, .nil => rfl
  | _, _, _, .cons r t, .cons r' t' => by rw [r.inj r', Vals.inj t t']
section
variable {X : Cx} {pins : List (Addr × Obj)} {σ : St} {H : Hp} {s : Shared} {a : Addr} {xs ys : List V}
theorem Inv.list (I : Inv X pins σ H s) (h : SqL X.K H a xs) : ∃ its : List Value, Vals xs its ∧ PlainL s.heap a its.toArray ∧ xs.length ≤ sizeLine := by
  rcases h with h | ⟨o, its, n, hk, hc, hd, hs, hz, r⟩
  · obtain ⟨z, its, n, r, e⟩ := h.ok I.hok
    exact ⟨its, r, ⟨_, n, e, rfl, rfl, rfl⟩, z⟩
  · refine ⟨its.toList, r, ⟨o, n, I.kIn a o hk, hc, hd, by simpa using hs⟩, ?_⟩
    have e := r.length
    simp only [Array.length_toList] at e
    lia
theorem Inv.tuple (I : Inv X pins σ H s) (h : SqT X.K H a xs) : ∃ its : List Value, Vals xs its ∧ IsTup s.heap a its.toArray ∧ xs.length ≤ sizeLine := by
  rcases h with h | ⟨o, its, n, hk, hc, hs, hz, r⟩
  · obtain ⟨z, its, r, p⟩ := h.ok I.hok
    exact ⟨its, r, p, z⟩
  · refine ⟨its.toList, r, ⟨o, I.kIn a o hk, hc, n, by simpa using hs⟩, ?_⟩
    have e := r.length
    simp only [Array.length_toList] at e
    lia
theorem Inv.list_inj (I : Inv X pins σ H s) (h : SqL X.K H a xs) (h' : SqL X.K H a ys) : xs = ys := by
  obtain ⟨its, r, ⟨o, n, e, _, _, d⟩, _⟩ := I.list h
  obtain ⟨its', r', ⟨o', n', e', _, _, d'⟩, _⟩ := I.list h'
  rw [e] at e'; cases e'
  rw [d] at d'
  injection d' with d1 _
  have : its = its' := by simpa using congrArg Array.toList d1
  subst this
  exact r.inj r'
theorem Inv.tuple_inj (I : Inv X pins σ H s) (h : SqT X.K H a xs) (h' : SqT X.K H a ys) : xs = ys := by
  obtain ⟨its, r, ⟨o, e, _, n, d⟩, _⟩ := I.tuple h
  obtain ⟨its', r', ⟨o', e', _, n', d'⟩, _⟩ := I.tuple h'
  rw [e] at e'; cases e'
  rw [d] at d'
  injection d' with d1 _
  have : its = its' := by simpa using congrArg Array.toList d1
  subst this
  exact r.inj r'
end
abbrev Cx.wish (X : Cx) (E : Value → Shared → Prop) : Cx := { X with xe := E }
abbrev Cx.nox (X : Cx) : Cx := X.wish fun _ _ => False
theorem Cx.Ok.wish {X : Cx} (ok : X.Ok) (E : Value → Shared → Prop) : (X.wish E).Ok :=
  ⟨ok.mod, ok.kind, ok.glob, ok.blt, ok.above, ok.inj, ok.has, ok.cab, ok.hd, ok.frames, ok.stk, ok.exf, ok.bs, ok.bsz, ok.noex, ok.exfs, ok.funs, ok.frf⟩
theorem Cx.Ok.unwish {X : Cx} {E : Value → Shared → Prop} (ok : (X.wish E).Ok) : X.Ok :=
  ⟨ok.mod, ok.kind, ok.glob, ok.blt, ok.above, ok.inj, ok.has, ok.cab, ok.hd, ok.frames, ok.stk, ok.exf, ok.bs, ok.bsz, ok.noex, ok.exfs, ok.funs, ok.frf⟩
section
variable {X : Cx} {pins : List (Addr × Obj)} {σ : St} {H : Hp} {s : Shared} {E : Value → Shared → Prop}
theorem Inv.wish (I : Inv X pins σ H s) (E : Value → Shared → Prop) : Inv (X.wish E) pins σ H s := ⟨I.ok.wish E, I.os, I.bare, I.base, I.loc, I.cell, I.free, I.freeC, I.pin, I.hok, I.len⟩
theorem Inv.unwish (I : Inv (X.wish E) pins σ H s) : Inv X pins σ H s := ⟨I.ok.unwish, I.os, I.bare, I.base, I.loc, I.cell, I.free, I.freeC, I.pin, I.hok, I.len⟩
theorem SP.unwish {D : Ends} {f : Flow} {s' : Shared} (h : SP (X.wish E) pins D f s') : SP X pins D f s' := by
  cases f with
  | next => obtain ⟨σ', H', I, q⟩ := h; exact ⟨σ', H', I.unwish, q⟩
  | brk => obtain ⟨σ', H', I, q⟩ := h; exact ⟨σ', H', I.unwish, q⟩
  | cont => obtain ⟨σ', H', I, q⟩ := h; exact ⟨σ', H', I.unwish, q⟩
  | ret u => obtain ⟨v, σ', H', I, r, q⟩ := h; exact ⟨v, σ', H', I.unwish, r, q⟩
theorem PSs.nox {st : List Stmt} {t : TS} (h : PSs X.nox st t) : PSs X st t := fun pins s σ H D I hw =>
  wpAny_mono (h pins s σ H D (I.wish _) hw) (fun _ _ q => q.unwish) fun _ _ z => False.elim z
end
section
variable {X : Cx} {st : Stmt} {rest : List Stmt} {t u : TS} {e : Expr} {te : TE} {pos : Pos}
theorem Inv.quiet {pins : List (Addr × Obj)} {σ : St} {H : Hp} {s : Shared} (I : Inv X pins σ H s) : interactive X.env = false := by simp [interactive, I.ok.kind]
end
abbrev TG := V → St → Hp → (St → Hp → Prop) → Prop
abbrev TGs := List V → St → Hp → (St → Hp → Prop) → Prop
def PG (X : Cx) (target : Expr) (t : TG) : Prop :=
  ∀ (pins : List (Addr × Obj)) (s : Shared) (σ : St) (H : Hp) (v : V) (u : Value) (Q : St → Hp → Prop), Inv X pins σ H s → RelV v u → t v σ H Q →
    wpAny (model X.prog X.w) X.A (assign target X.env u) (fun _ s' => ∃ σ' H', Inv X pins σ' H' s' ∧ Q σ' H') X.xe s
def PGs (X : Cx) (ts : List Expr) (t : TGs) : Prop :=
  ∀ (pins : List (Addr × Obj)) (s : Shared) (σ : St) (H : Hp) (vs : List V) (us : List Value) (Q : St → Hp → Prop), Inv X pins σ H s → Vals vs us → t vs σ H Q →
    wpAny (model X.prog X.w) X.A (assignInOrder ((assignEach ts X.env).map (·.2)) us) (fun _ s' => ∃ σ' H', Inv X pins σ' H' s' ∧ Q σ' H') X.xe s
abbrev TIp := V → V → Hp → VK → Prop
def PIp (X : Cx) (op : Operator) (t : TIp) : Prop :=
  ∀ (pins : List (Addr × Obj)) (s : Shared) (σ : St) (H : Hp) (x y : V) (v u : Value) (Q : VK), Inv X pins σ H s → RelV x v → RelV y u → t x y H Q →
    wpAny (model X.prog X.w) X.A (inplaceOp op v u) (EP X pins σ Q) X.xe s
section
variable {X : Cx} {pos : Pos}
def gName (i : Nat) : TG := fun v σ H Q => Q (σ.set i (some v)) H
theorem pg_name {i : Nat} {x : Str} (hN : X.N.Nodup) (hi : X.N[i]? = some x) (hx : Loc X.env.scope x) (hf : X.fn x = true ∨ X.env.scope.names.lookup x = some .local := by first | exact .inl rfl | exact .inr rfl | assumption) : PG X (.Name x pos) (gName i) := by
  intro pins s σ H v u Q I r h
  exact wpAny_assign_Name (store_ok I hN hi hx r (fun s' I' => ⟨_, H, I', h⟩) hf)
def gNil : TGs := fun vs σ H Q => vs = [] ∧ Q σ H
def gCons (t : TG) (u : TGs) : TGs := fun vs σ H Q => ∃ v r, vs = v :: r ∧ t v σ H fun σ' H' => u r σ' H' Q
theorem pgs_nil : PGs X [] gNil := by
  intro pins s σ H vs us Q I r h
  obtain ⟨e, h⟩ := h
  subst e
  cases r
  exact assignInOrder_nil ⟨σ, H, I, h⟩
theorem pgs_cons {e : Expr} {es : List Expr} {t : TG} {u : TGs} (h1 : PG X e t) (h2 : PGs X es u)
    (hs : (assignEach (e :: es) X.env).map (·.2) = assign e X.env :: (assignEach es X.env).map (·.2) := by rfl) : PGs X (e :: es) (gCons t u) := by
  intro pins s σ H vs us Q I r h
  obtain ⟨v, vr, e1, h⟩ := h
  subst e1
  cases r with
  | cons r rr =>
    rw [hs]
    refine assignInOrder_cons (thn (h1 pins s σ H _ _ _ I r h) fun _ s1 ⟨σ1, H1, I1, q1⟩ => ?_)
    exact h2 pins s1 σ1 H1 _ _ Q I1 rr q1
def gTup (K : PySem.W.Frag) (n : Nat) (t : TGs) : TG := fun v σ H Q => ∃ a xs, v = .ref a ∧ SqT K H a xs ∧ xs.length = n ∧ t xs σ H Q
theorem pg_tup {es : List Expr} {k : Nat} {t : TGs} {n : Nat} (hc : X.calm = true) (h : PGs X es t)
    (hn : (assignEach es X.env).length = n := by rfl) (hst : (assignEach es X.env).findIdx? (·.1) = none := by rfl) : PG X (.Tuple es k pos) (gTup X.K n t) := by
  intro pins s σ H v u Q I r hw
  obtain ⟨a, xs, e1, hq, hl, hw⟩ := hw
  subst e1
  cases r
  obtain ⟨its, rv, ht, hz⟩ := I.tuple hq
  refine assign_Tuple_tuple (I.ok.hd hc) ht (by simp [hn, ← hl, rv.length]) hst fun h' hx => ?_
  have I1 : Inv X pins σ H { s with heap := h' } := I.kept (t' := s.toks) fun b o e => hx b o (Nat.ne_of_lt (Heap.lt_size e)) e
  exact h pins _ σ H xs _ Q I1 (by simpa using rv) hw
def tAsg (te : TE) (g : TG) : TS := fun D σ H => te σ H fun x H1 => g x σ H1 D.nx
theorem ps_asg {tg e : Expr} {te : TE} {g : TG} (he : PE X e te) (hg : PG X tg g) (hs : swapsWithSole [tg] e pos.line X.env = pure false := by rfl) (hw : swappedStores [tg] e X.env = pure none := by rfl)
    (h1 : (assignEach [tg] X.env).map (·.2) = [assign tg X.env] := by rfl) : PS X (.Assign [tg] e pos) (tAsg te g) := by
  intro pins s σ H D I h
  refine wpAny_Assign_stores (thn (he pins s σ H _ I h) fun v s1 ⟨x, H1, I1, r1, q1⟩ => ?_) hs hw
  rw [h1]
  exact thn (hg pins s1 σ H1 x v _ I1 r1 q1) fun _ s2 q => q
theorem ps_set {i : Nat} {x : Str} {e : Expr} {te : TE} {pos' : Pos} (hN : X.N.Nodup) (hi : X.N[i]? = some x) (hx : Loc X.env.scope x) (he : PE X e te) (hs : swapsWith e (some (.Name x pos')) pos.line X.env = pure false := by rfl) (hf : X.fn x = true ∨ X.env.scope.names.lookup x = some .local := by first | exact .inl rfl | exact .inr rfl | assumption) :
    PS X (.Assign [.Name x pos'] e pos) (tAsg te (gName i)) := by
  intro pins s σ H D I h
  refine wpAny_Assign_Name (thn (he pins s σ H _ I h) fun v s1 ⟨y, H1, I1, r1, q1⟩ => ?_) hs
  exact store_ok I1 hN hi hx r1 (fun s2 I2 => ⟨_, H1, I2, q1⟩) hf
def tAug (i : Nat) (te : TE) (ti : TIp) : TS := fun D σ H => ∃ x, σ[i]? = some (some x) ∧ te σ H fun y H1 => ti x y H1 fun z H2 => D.nx (σ.set i (some z)) H2
theorem ps_aug {i : Nat} {x : Str} {e : Expr} {te : TE} {op : Operator} {ti : TIp} {pos' : Pos} (hN : X.N.Nodup) (hi : X.N[i]? = some x) (hx : Loc X.env.scope x) (he : PE X e te) (ho : PIp X op ti) (hf : X.fn x = true ∨ X.env.scope.names.lookup x = some .local := by first | exact .inl rfl | exact .inr rfl | assumption) :
    PS X (.AugAssign (.Name x pos') op e pos) (tAug i te ti) := by
  intro pins s σ H D I h
  obtain ⟨v, e1, h⟩ := h
  obtain ⟨m, hn, hl⟩ := I.loc
  have vis : Vis X.env.scope x := by rcases hx with k | k; exact .inl k; exact .inr (.inl k)
  obtain ⟨u, r, l⟩ := hl i x v hi e1 vis
  refine wpAny_AugAssign_Name ?_
  have go : wpAny (model X.prog X.w) X.A (eval e X.env) (fun w s₂ => wpAny (model X.prog X.w) X.A (inplaceOp op u w) (fun r s₃ => wpAny (model X.prog X.w) X.A (storeName X.env x r) (fun _ => SP X pins D .next) X.xe s₃) X.xe s₂) X.xe s := by
    refine thn (he pins s σ H _ I h) fun w s1 ⟨y, H1, I1, r1, q1⟩ => ?_
    refine thn (ho pins s1 σ H1 v y u w _ I1 r r1 q1) fun z s2 ⟨zv, H2, I2, r2, q2⟩ => ?_
    exact store_ok I2 hN hi hx r2 (fun s3 I3 => ⟨_, H2, I3, q2⟩) hf
  rcases l with ⟨hk, hm⟩ | ⟨hk, c, hc, hcell⟩
  · exact wpAny_loadName_local I.ok.kind hk hn hm go
  · rcases hk with hk | hk
    · exact wpAny_loadName_cell I.ok.kind hk hc hcell go
    · rcases hx with k | k
      · have : X.env.scope.names.lookup x = some .free := hk
        rw [k] at this; cases this
      · have : X.env.scope.names.lookup x = some .free := hk
        rw [k] at this; cases this
def ipI (f : Int → Int → Int) : TIp := fun x y H Q => ∃ i j, x = .int i ∧ y = .int j ∧ Q (.int (f i j)) H
theorem ip_add : PIp X .Add (ipI fun i j => i + j) := by
  intro pins s σ H x y v u Q I r1 r2 h
  obtain ⟨i, j, e1, e2, q⟩ := h
  subst e1; subst e2
  obtain ⟨t, rfl⟩ := r1
  obtain ⟨t', rfl⟩ := r2
  exact iadd_int ⟨.int _, H, I.tok _, ⟨_, rfl⟩, q⟩
end
section
variable {X : Cx} {pos : Pos}
end
structure It where
  go : Nat → Hp → Prop
  yld : Nat → Hp → V → Hp → Prop
  stop : Nat → Hp → Prop
def FpOk (X : Cx) (pins : List (Addr × Obj)) (H : Hp) (b : Addr) : Prop :=
  H b = none ∧ b ≠ X.env.locals ∧ b ∉ X.fs ∧ (b ∈ X.ex ∨ X.s₀.heap.objs.size ≤ b) ∧ (∀ x c, X.env.cells.lookup x = some c → c ≠ b) ∧ ∀ p ∈ X.pn ++ pins, p.1 ≠ b
theorem Inv.fpOk {X : Cx} {pins : List (Addr × Obj)} {σ : St} {H H' : Hp} {s : Shared} {b : Addr} (I : Inv X pins σ H s) (hb : s.heap.objs.size ≤ b) (hn : H' b = none) : FpOk X pins H' b := by
  refine ⟨hn, Nat.ne_of_gt (Nat.lt_of_lt_of_le I.lt hb), I.nofs hb, .inr (Nat.le_trans I.sz hb), fun x c e z => ?_, fun p hp z => ?_⟩
  · obtain ⟨v, q⟩ := I.cell x c e
    exact absurd (Nat.lt_of_lt_of_le q.lt (by rw [z]; exact hb)) (Nat.lt_irrefl _)
  · exact absurd (Nat.lt_of_lt_of_le (Heap.lt_size (I.pin p hp).1) (by rw [z]; exact hb)) (Nat.lt_irrefl _)
structure Turn (P : Program) (w : World) (K : PySem.W.Frag) (tg : Expr) (J : It) (fp : List Addr) (it : Addr) (tn : Nat → Heap → Prop) : Prop where
  mem : it ∈ fp
  obj : ∀ i h, tn i h → ∀ b ∈ fp, ∃ o, h.get? b = some o ∧ ∀ v, o.data ≠ .cell v
  keep : ∀ i h h', tn i h → (∀ b ∈ fp, ∀ o, h.get? b = some o → h'.get? b = some o) → tn i h'
  item : ∀ (X : Cx), X.prog = P → X.w = w → X.K = K → X.calm = true → ∀ (i : Nat) (pins : List (Addr × Obj)) (s : Shared) (σ : St) (H : Hp) (E : Value → Shared → Prop), Inv X pins σ H s → (∀ b ∈ fp, FpOk X pins H b) → tn i s.heap → J.go i H →
    wpAny (model P w) X.A (pyNext (.ref it)) (fun r s1 => ∃ u, r = some u ∧
      wpAny (model P w) X.A (letOwnedTupleGo tg (.ref it) u) (fun _ s2 => ∃ x H', Inv X pins σ H' s2 ∧ RelV x u ∧ J.yld i H x H' ∧ tn (i + 1) s2.heap ∧ ∀ b ∈ fp, H' b = none) E s1) E s
  done : ∀ (X : Cx), X.prog = P → X.w = w → X.K = K → X.calm = true → ∀ (i : Nat) (pins : List (Addr × Obj)) (s : Shared) (σ : St) (H : Hp) (E : Value → Shared → Prop), Inv X pins σ H s → (∀ b ∈ fp, FpOk X pins H b) → tn i s.heap → J.stop i H →
    wpAny (model P w) X.A (pyNext (.ref it)) (fun r s1 => r = none ∧ Inv X pins σ H s1) E s
  self : ∀ (A : Around) (i : Nat) (s : Shared) (Q : Value → Shared → Prop) (E : Value → Shared → Prop), tn i s.heap → Q (.ref it) s → wpAny (model P w) A (pyIter (.ref it)) Q E s
abbrev TI := St → Hp → (It → Hp → Prop) → Prop
def PIE (X : Cx) (pins : List (Addr × Obj)) (σ : St) (tg : Expr) (R : It → Hp → Prop) (itv : Value) (s2 : Shared) : Prop :=
  ∃ (it : Addr) (fp : List Addr) (tn : Nat → Heap → Prop) (J : It) (H' : Hp), itv = .ref it ∧ Inv X pins σ H' s2 ∧ Turn X.prog X.w X.K tg J fp it tn ∧ tn 0 s2.heap ∧ (∀ b ∈ fp, FpOk X pins H' b) ∧ R J H'
def PI (X : Cx) (tg iter : Expr) (wi : TI) : Prop :=
  ∀ (pins : List (Addr × Obj)) (s : Shared) (σ : St) (H : Hp) (R : It → Hp → Prop), Inv X pins σ H s → wi σ H R →
    wpAny (model X.prog X.w) X.A (eval iter X.env) (fun v s1 => wpAny (model X.prog X.w) X.A (pyIter v) (PIE X pins σ tg R) X.xe s1) X.xe s
theorem go_of {M : Model} {A : Around} {E : Value → Shared → Prop} {s : Shared} {tg : Expr} {it : Addr} {u : Value} {o : Obj} {n : String} {vs : Array Value} {Q : Unit → Shared → Prop} (ho : s.heap.get? it = some o) (hc : o.cls = .type n) (hd : o.data = .fields vs)
    (hn : ["enumerate", "zip", "dict_itemiterator", "dict_reverseitemiterator", "odict_iterator", "itertools.zip_longest", "itertools.pairwise"].contains n = false) (hQ : Q () s) : wpAny M A (letOwnedTupleGo tg (.ref it) u) Q E s := by
  unfold letOwnedTupleGo
  cases tg <;> first
    | exact wpAny_pure hQ
    | (cases u <;> first
        | exact wpAny_pure hQ
        | (refine wpAny_bind (wpAny_load ho ?_)
           rw [hc, hd]
           show wpAny M A (if (["enumerate", "zip", "dict_itemiterator", "dict_reverseitemiterator", "odict_iterator", "itertools.zip_longest", "itertools.pairwise"].contains n && vs[0]? == some (rawInt _)) = true then _ else _) Q E s
           rw [if_neg (by intro h; rw [hn, Bool.false_and] at h; cases h)]
           exact wpAny_pure hQ))
def Itl (K : PySem.W.Frag) (a : Addr) : It :=
  ⟨fun i H => ∃ xs x, SqL K H a xs ∧ xs[i]? = some x, fun i H x H' => H' = H ∧ ∀ xs, SqL K H a xs → xs[i]? = some x, fun i H => ∃ xs, SqL K H a xs ∧ xs.length ≤ i⟩
def Itt (K : PySem.W.Frag) (a : Addr) : It :=
  ⟨fun i H => ∃ xs x, SqT K H a xs ∧ xs[i]? = some x, fun i H x H' => H' = H ∧ ∀ xs, SqT K H a xs → xs[i]? = some x, fun i H => ∃ xs, SqT K H a xs ∧ xs.length ≤ i⟩
def Itr (lo : Int) (n : Nat) : It := ⟨fun i _ => i < n, fun i H x H' => H' = H ∧ x = .int (lo + i), fun i _ => n ≤ i⟩
theorem turn_list {P : Program} {w : World} {K : PySem.W.Frag} {tg : Expr} (a it : Addr) : Turn P w K tg (Itl K a) [it] it (fun i h => h.IsListIter it a i) where
  mem := by simp
  obj := fun i h st b hb => by
    have e : b = it := by simpa using hb
    subst e
    obtain ⟨o, e, c, d⟩ := st
    exact ⟨o, e, fun v z => by rw [d] at z; cases z⟩
  keep := fun i h h' st k => st.at fun o e => k it (by simp) o e
  item := by
    intro X hP hw hK hc i pins s σ H E I hf st hg
    subst hP hw hK
    obtain ⟨xs, x, hq, hx⟩ := hg
    obtain ⟨its, rv, p, hz⟩ := I.list hq
    obtain ⟨u, hu, ru⟩ := rv.get hx
    obtain ⟨f0, f1, f2, f3, f4, f5⟩ := hf it (by simp)
    refine wpAny_pyNext_list_item st p.isList (x := u) (by simpa using hu) fun h' st' sb => ?_
    have I1 : Inv X pins σ H { s with heap := h' } := I.turned (t' := s.toks) (fun b o hb e => (sb.2 b hb).trans e) f0 f1 f3 f4 f5
    obtain ⟨o, e, c, d⟩ := id st'
    exact ⟨u, rfl, go_of (s := { s with heap := h' }) e c d (by decide) ⟨x, H, I1, ru, ⟨rfl, fun ys hy => by rw [I.list_inj hy hq]; exact hx⟩, st', fun b hb => (hf b hb).1⟩⟩
  done := by
    intro X hP hw hK hc i pins s σ H E I hf st hg
    subst hP hw hK
    obtain ⟨xs, hq, hx⟩ := hg
    obtain ⟨its, rv, p, hz⟩ := I.list hq
    obtain ⟨f0, f1, f2, f3, f4, f5⟩ := hf it (by simp)
    have hl := rv.length
    exact wpAny_pyNext_list_end (I.ok.hd hc) st p.isList (by simp; lia) fun h' eb => ⟨rfl, I.turned (t' := s.toks) (fun b o hb e => eb b o hb e) f0 f1 f3 f4 f5⟩
  self := fun _ _ _ _ _ st h => wpAny_pyIter_listiter st h
theorem turn_tuple {P : Program} {w : World} {K : PySem.W.Frag} {tg : Expr} (a it : Addr) : Turn P w K tg (Itt K a) [it] it (fun i h => h.IsTupleIter it a i) where
  mem := by simp
  obj := fun i h st b hb => by
    have e : b = it := by simpa using hb
    subst e
    obtain ⟨o, e, c, d⟩ := st
    exact ⟨o, e, fun v z => by rw [d] at z; cases z⟩
  keep := fun i h h' st k => st.at fun o e => k it (by simp) o e
  item := by
    intro X hP hw hK hc i pins s σ H E I hf st hg
    subst hP hw hK
    obtain ⟨xs, x, hq, hx⟩ := hg
    obtain ⟨its, rv, p, hz⟩ := I.tuple hq
    obtain ⟨u, hu, ru⟩ := rv.get hx
    obtain ⟨f0, f1, f2, f3, f4, f5⟩ := hf it (by simp)
    refine wpAny_pyNext_tuple_item st (show s.heap.IsTuple a its.toArray from p) (x := u) (by simpa using hu) fun h' st' sb => ?_
    have I1 : Inv X pins σ H { s with heap := h' } := I.turned (t' := s.toks) (fun b o hb e => (sb.2 b hb).trans e) f0 f1 f3 f4 f5
    obtain ⟨o, e, c, d⟩ := id st'
    exact ⟨u, rfl, go_of (s := { s with heap := h' }) e c d (by decide) ⟨x, H, I1, ru, ⟨rfl, fun ys hy => by rw [I.tuple_inj hy hq]; exact hx⟩, st', fun b hb => (hf b hb).1⟩⟩
  done := by
    intro X hP hw hK hc i pins s σ H E I hf st hg
    subst hP hw hK
    obtain ⟨xs, hq, hx⟩ := hg
    obtain ⟨its, rv, p, hz⟩ := I.tuple hq
    obtain ⟨f0, f1, f2, f3, f4, f5⟩ := hf it (by simp)
    have hl := rv.length
    exact wpAny_pyNext_tuple_end (I.ok.hd hc) st (show s.heap.IsTuple a its.toArray from p) (by simp; lia) fun h' eb => ⟨rfl, I.turned (t' := s.toks) (fun b o hb e => eb b o hb e) f0 f1 f3 f4 f5⟩
  self := fun _ _ _ _ _ st h => wpAny_pyIter_tupleiter st h
theorem turn_range {P : Program} {w : World} {K : PySem.W.Frag} {tg : Expr} (it : Addr) (lo : Int) (n : Nat) : Turn P w K tg (Itr lo n) [it] it (fun i h => IsRangeIter h it (lo + (i : Nat) * 1) ((n : Int) - (i : Nat)) 1) where
  mem := by simp
  obj := fun i h st b hb => by
    have e : b = it := by simpa using hb
    subst e
    exact ⟨_, st, fun v z => by
      have z' : Data.fields _ = Data.cell v := z
      cases z'⟩
  keep := fun i h h' st k => k it (by simp) _ st
  item := by
    intro X hP hw hK hc i pins s σ H E I hf st hg
    subst hP hw hK
    obtain ⟨f0, f1, f2, f3, f4, f5⟩ := hf it (by simp)
    have W := Walks.range (prog := X.prog) (w := X.w) (I.ok.hd hc) it lo 1 n
    refine W.item i s _ _ hg st fun v h' tk hv st' kk => ?_
    obtain ⟨t, rfl⟩ := hv
    have I1 : Inv X pins σ H { s with heap := h', toks := tk } := I.turned (fun b o hb e => kk b o (by simpa using hb) e) f0 f1 f3 f4 f5
    refine ⟨_, rfl, go_of (s := { s with heap := h', toks := tk }) (n := "range_iterator") st' rfl rfl (by decide) ⟨.int (lo + i), H, I1, ⟨t, ?_⟩, ⟨rfl, rfl⟩, st', fun b hb => (hf b hb).1⟩⟩
    rw [Int.mul_one]
  done := by
    intro X hP hw hK hc i pins s σ H E I hf st hg
    subst hP hw hK
    obtain ⟨f0, f1, f2, f3, f4, f5⟩ := hf it (by simp)
    exact wpAny_pyNext_range_end (I.ok.hd hc) st (by have : n ≤ i := hg; lia) fun h' eb => ⟨rfl, I.turned (t' := s.toks) (fun b o hb e => eb b o hb e) f0 f1 f3 f4 f5⟩
  self := fun _ _ _ _ _ st h => wpAny_pyIter_rangeiter st h
end L2
namespace L2
open PySem PySem.Spec PyProof.Rows
section
variable {X : Cx} {tg : Expr}
def iList (K : PySem.W.Frag) (tl : TE) : TI := fun σ H R => tl σ H fun x H1 => ∃ a, x = .ref a ∧ (∃ xs, SqL K H1 a xs) ∧ R (Itl K a) H1
def iTup (K : PySem.W.Frag) (tl : TE) : TI := fun σ H R => tl σ H fun x H1 => ∃ a, x = .ref a ∧ (∃ xs, SqT K H1 a xs) ∧ R (Itt K a) H1
theorem pi_list {l : Expr} {tl : TE} (hl : PE X l tl) : PI X tg l (iList X.K tl) := by
  intro pins s σ H R I h
  refine thn (hl pins s σ H _ I h) fun v s1 ⟨x, H1, I1, r1, q1⟩ => ?_
  obtain ⟨a, e, ⟨xs, hq⟩, q⟩ := q1
  subst e
  cases r1
  obtain ⟨its, rv, p, hz⟩ := I1.list hq
  refine wpAny_pyIter_list p.isList ?_
  refine ⟨s1.heap.objs.size, [s1.heap.objs.size], _, _, H1, rfl, I1.kept (t' := s1.toks) fun b o e => Heap.get?_push_of_some _ e, turn_list a _, ⟨_, Heap.get?_push_size _ rfl, rfl, rfl⟩, fun b hb => ?_, q⟩
  have e : b = s1.heap.objs.size := by simpa using hb
  subst e
  exact I1.fpOk (Nat.le_refl _) (I1.hok.fresh (Nat.le_refl _))
theorem pi_tup {l : Expr} {tl : TE} (hl : PE X l tl) : PI X tg l (iTup X.K tl) := by
  intro pins s σ H R I h
  refine thn (hl pins s σ H _ I h) fun v s1 ⟨x, H1, I1, r1, q1⟩ => ?_
  obtain ⟨a, e, ⟨xs, hq⟩, q⟩ := q1
  subst e
  cases r1
  obtain ⟨its, rv, p, hz⟩ := I1.tuple hq
  refine wpAny_pyIter_tuple (show s1.heap.IsTuple a its.toArray from p) ?_
  refine ⟨s1.heap.objs.size, [s1.heap.objs.size], _, _, H1, rfl, I1.kept (t' := s1.toks) fun b o e => Heap.get?_push_of_some _ e, turn_tuple a _, ⟨_, Heap.get?_push_size _ rfl, rfl, rfl⟩, fun b hb => ?_, q⟩
  have e : b = s1.heap.objs.size := by simpa using hb
  subst e
  exact I1.fpOk (Nat.le_refl _) (I1.hok.fresh (Nat.le_refl _))
theorem range_it {pins : List (Addr × Obj)} {σ : St} {H : Hp} {s : Shared} {R : It → Hp → Prop} {E : Value → Shared → Prop} {lo hi : Int} {t u v : Tok} {tk : Nat} (I : Inv X pins σ H s) (h1 : -(2 ^ 62) ≤ lo) (h2 : lo < 2 ^ 62) (h3 : -(2 ^ 62) ≤ hi) (h4 : hi < 2 ^ 62)
    (q : R (Itr lo (hi - lo).toNat) H) : wpAny (model X.prog X.w) X.A (pyIter (.ref s.heap.objs.size)) (PIE X pins σ tg R) E { s with heap := s.heap.push { cls := .type "range", data := .fields #[.int lo t, .int hi u, .int 1 v] }, toks := tk } := by
  refine wpAny_pyIter_range (IsRange.new ..) (small_one h1 h2 h3 h4) ?_
  have I1 : Inv X pins σ H { s with heap := s.heap.push { cls := .type "range", data := .fields #[.int lo t, .int hi u, .int 1 v] }, toks := tk } := I.kept fun b o e => Heap.get?_push_of_some _ e
  refine ⟨(s.heap.push { cls := .type "range", data := .fields #[.int lo t, .int hi u, .int 1 v] }).objs.size, [(s.heap.push { cls := .type "range", data := .fields #[.int lo t, .int hi u, .int 1 v] }).objs.size], _, _, H, rfl,
    I1.kept (t' := tk) fun b o e => Heap.get?_push_of_some _ e, turn_range _ lo (hi - lo).toNat, ?_, fun b hb => ?_, q⟩
  · have e1 : lo + ((0 : Nat) : Int) * 1 = lo := by simp
    have e2 : (((hi - lo).toNat : Nat) : Int) - ((0 : Nat) : Int) = Builtin.Range.rangeSize lo hi 1 := by rw [rangeSize_one]; split <;> lia
    show IsRangeIter _ _ (lo + ((0 : Nat) : Int) * 1) ((((hi - lo).toNat : Nat) : Int) - ((0 : Nat) : Int)) 1
    rw [e1, e2]
    exact Heap.get?_push_size _ rfl
  · have e : b = (s.heap.push { cls := .type "range", data := .fields #[.int lo t, .int hi u, .int 1 v] }).objs.size := by simpa using hb
    subst e
    exact I1.fpOk (Nat.le_refl _) (I1.hok.fresh (Nat.le_refl _))
def iRng1 (ta : TA) : TI := fun σ H R => ta σ H fun vs H1 => ∃ j : Int, vs = [.int j] ∧ -(2 ^ 62) ≤ j ∧ j < 2 ^ 62 ∧ R (Itr 0 j.toNat) H1
theorem pi_range1 {a : Expr} {ta : TA} {p pos : Pos} (hg : Gl X "range") (hm : X.mg "range" = none) (ha : PA X [a] ta) (hs : starEach [a] X.env = [(false, eval a X.env)] := by rfl) : PI X tg (.Call (.Name "range" p) [a] [] pos) (iRng1 ta) := by
  intro pins s σ H R I h
  refine Call_ (ld_blt I hg hm boot_range (PyProof.Rows.callWith_type1 (thn (ha pos pins s σ H _ I h) fun us s1 ⟨vs, H1, I1, r1, q1⟩ => ?_) hs rfl))
  obtain ⟨j, e, q1, q2, q⟩ := q1
  subst e
  cases r1 with
  | cons r rr =>
    cases rr
    obtain ⟨t, rfl⟩ := r
    exact call_range_1 (range_it I1 (by lia) (by lia) q1 q2 (by simpa using q))
def tFor (wi : TI) (g : TG) (tb : TS) : TS := fun D σ H => wi σ H fun J H1 => ∃ W : Nat → Nat → St → Hp → Prop, (∃ m, W 0 m σ H1) ∧ ∀ i m σ H, W i m σ H →
  (J.stop i H ∧ D.nx σ H) ∨ (J.go i H ∧ ∃ N : St → Hp → Prop, (∀ σ' H', N σ' H' → ∃ m', m' < m ∧ W (i + 1) m' σ' H') ∧ ∀ x H', J.yld i H x H' → g x σ H' fun σ2 H2 => tb { D with nx := N, ct := N, bk := D.nx } σ2 H2)
def pinsAt (fp : List Addr) (h : Heap) : List (Addr × Obj) := fp.filterMap fun b => (h.get? b).map fun o => (b, o)
theorem mem_pinsAt {fp : List Addr} {h : Heap} {b : Addr} {o : Obj} (hb : b ∈ fp) (e : h.get? b = some o) : (b, o) ∈ pinsAt fp h := List.mem_filterMap.mpr ⟨b, hb, by rw [e]; rfl⟩
theorem of_pinsAt {fp : List Addr} {h : Heap} {p : Addr × Obj} (hp : p ∈ pinsAt fp h) : p.1 ∈ fp ∧ h.get? p.1 = some p.2 := by
  obtain ⟨b, hb, e⟩ := List.mem_filterMap.mp hp
  cases q : h.get? b with
  | none => rw [q] at e; cases e
  | some o =>
    rw [q] at e
    have e' : (b, o) = p := Option.some.inj e
    subst e'
    exact ⟨hb, q⟩
theorem Inv.pinned {pins : List (Addr × Obj)} {σ : St} {H : Hp} {s : Shared} {fp : List Addr} (I : Inv X pins σ H s) (hf : ∀ b ∈ fp, FpOk X pins H b) (ho : ∀ b ∈ fp, ∃ o, s.heap.get? b = some o ∧ ∀ v, o.data ≠ .cell v) : Inv X (pins ++ pinsAt fp s.heap) σ H s :=
  I.pins_of fun p hp => (List.mem_append.mp hp).elim (fun z => I.pin p (List.mem_append_right _ z)) fun z => by
    obtain ⟨hb, e⟩ := of_pinsAt z
    obtain ⟨f0, f1, f2, _⟩ := hf p.1 hb
    obtain ⟨o, e', d⟩ := ho p.1 hb
    rw [e] at e'; cases e'
    exact ⟨e, f0, f1, f2, d⟩
theorem Inv.unpinned {pins pl : List (Addr × Obj)} {σ : St} {H : Hp} {s : Shared} (I : Inv X (pins ++ pl) σ H s) : Inv X pins σ H s := I.pins_of fun p hp => I.pin p (List.mem_append_right _ (List.mem_append_left _ hp))
theorem ps_for {iter : Expr} {body : List Stmt} {wi : TI} {g : TG} {tb : TS} {pos : Pos} (hp : PassesOwn (model X.prog X.w) X.A X.env X.xe) (hc : X.calm = true) (hi : PI X tg iter wi) (hg : PG X tg g) (hb : PSs X body tb)
    (hs : ∀ x, foldedSetIterable iter X.env x = pure x := by intro _; rfl) : PS X (.For tg iter body [] pos) (tFor wi g tb) := by
  intro pins s σ H D I h
  refine wpAny_For (thn (hi pins s σ H _ I h) fun v s1 h1 => thn h1 fun itv s2 h2 => ?_) hs
  obtain ⟨it, fp, tn, J, H2, e, I2, T, st2, f2, W, ⟨m0, w0⟩, turn⟩ := h2
  subst e
  have stat : ∀ {H' : Hp}, (∀ b ∈ fp, H' b = none) → ∀ b ∈ fp, FpOk X pins H' b := fun hn b hb => ⟨hn b hb, (f2 b hb).2⟩
  refine codeAny_forLoop_any (fun n s' => ∃ i σ' H', Inv X pins σ' H' s' ∧ tn i s'.heap ∧ (∀ b ∈ fp, H' b = none) ∧ W i n σ' H') ?_ m0 ⟨0, σ, H2, I2, st2, fun b hb => (f2 b hb).1, w0⟩
  rintro n s3 ⟨i, σ3, H3, I3, st3, fr3, w3⟩
  rcases turn i n σ3 H3 w3 with ⟨stop, qn⟩ | ⟨go, N, hN, step⟩
  · refine wpAny_passesOwn hp (thn (T.done X rfl rfl rfl hc i pins s3 σ3 H3 X.xe I3 (stat fr3) st3 stop) fun r s4 ⟨hr, I4⟩ => ?_)
    subst hr
    exact wpAny_execs_nil ⟨σ3, H3, I4, qn⟩
  · refine wpAny_passesOwn hp (thn (T.item X rfl rfl rfl hc i pins s3 σ3 H3 X.xe I3 (stat fr3) st3 go) fun r s4 ⟨u, hr, h4⟩ => ?_)
    subst hr
    refine wpAny_passesOwn hp (thn h4 fun _ s5 ⟨x, H5, I5, r5, y5, st5, fr5⟩ => ?_)
    have I5' := I5.pinned (stat fr5) (T.obj _ _ st5)
    refine wpAny_passesOwn hp (thn (hg _ s5 σ3 H5 x u _ I5' r5 (step x H5 y5)) fun _ s6 ⟨σ6, H6, I6, q6⟩ => ?_)
    refine wpAny_passesOwn hp (thn (hb _ s6 σ6 H6 _ I6 q6) fun f s7 q7 => ?_)
    have again : ∀ {σ7 : St} {H7 : Hp}, Inv X (pins ++ pinsAt fp s5.heap) σ7 H7 s7 → N σ7 H7 → ∃ m, m < n ∧ ∃ i σ' H', Inv X pins σ' H' s7 ∧ tn i s7.heap ∧ (∀ b ∈ fp, H' b = none) ∧ W i m σ' H' := fun {σ7 H7} I7 n7 => by
      obtain ⟨m', hm, w7⟩ := hN σ7 H7 n7
      refine ⟨m', hm, i + 1, σ7, H7, I7.unpinned, T.keep _ _ _ st5 fun b hb o e => (I7.pin (b, o) (List.mem_append_right _ (List.mem_append_right _ (mem_pinsAt hb e)))).1, fun b hb => ?_, w7⟩
      obtain ⟨o, e, d⟩ := T.obj _ _ st5 b hb
      exact (I7.pin (b, o) (List.mem_append_right _ (List.mem_append_right _ (mem_pinsAt hb e)))).2.1
    cases f with
    | next => obtain ⟨σ7, H7, I7, n7⟩ := q7; exact again I7 n7
    | cont => obtain ⟨σ7, H7, I7, n7⟩ := q7; exact again I7 n7
    | brk => obtain ⟨σ7, H7, I7, q7⟩ := q7; exact ⟨σ7, H7, I7.unpinned, q7⟩
    | ret v => obtain ⟨x7, σ7, H7, I7, r7, q7⟩ := q7; exact ⟨x7, σ7, H7, I7.unpinned, r7, q7⟩
end
end L2
namespace L2
open PySem PySem.Spec PyProof.Rows
abbrev R2 := V → V → Hp → VK → Prop
def OpR (X : Cx) (f : Value → Value → Sem Value) (r : R2) : Prop :=
  ∀ (pins : List (Addr × Obj)) (s : Shared) (σ : St) (H : Hp) (x y : V) (v u : Value) (Q : VK), Inv X pins σ H s → RelV x v → RelV y u → r x y H Q →
    wpAny (model X.prog X.w) X.A (f v u) (EP X pins σ Q) X.xe s
def CallR (X : Cx) (f : Value) (r : List V → Hp → VK → Prop) : Prop :=
  ∀ (pins : List (Addr × Obj)) (s : Shared) (σ : St) (H : Hp) (xs : List V) (us : List Value) (Q : VK), Inv X pins σ H s → Vals xs us → r xs H Q →
    wpAny (model X.prog X.w) X.A (call f us) (EP X pins σ Q) X.xe s
def rI (C : Int → Int → Prop) (g : Int → Int → V) : R2 := fun x y H Q => ∃ i j, x = .int i ∧ y = .int j ∧ C i j ∧ Q (g i j) H
def rI0 (g : Int → Int → V) : R2 := fun x y H Q => ∃ i j, x = .int i ∧ y = .int j ∧ Q (g i j) H
section
variable {X : Cx} {a b c : Expr} {ta tb tc : TE} {pos : Pos}
theorem opI {f : Value → Value → Sem Value} {C : Int → Int → Prop} {g : Int → Int → Int}
    (rule : ∀ (i j : Int) (t u : Tok) (s : Shared) (Q : Value → Shared → Prop) (E : Value → Shared → Prop), C i j → Q (.int (g i j) s.toks) { s with toks := s.toks + 1 } → wpAny (model X.prog X.w) X.A (f (.int i t) (.int j u)) Q E s) :
    OpR X f (rI C fun i j => .int (g i j)) := by
  intro pins s σ H x y v u Q I rx ry h
  obtain ⟨i, j, rfl, rfl, hc, q⟩ := h
  obtain ⟨t, rfl⟩ := rx
  obtain ⟨t', rfl⟩ := ry
  exact rule i j t t' s _ _ hc ⟨.int (g i j), H, I.tok _, ⟨_, rfl⟩, q⟩
theorem opI0 {f : Value → Value → Sem Value} {g : Int → Int → Int}
    (rule : ∀ (i j : Int) (t u : Tok) (s : Shared) (Q : Value → Shared → Prop) (E : Value → Shared → Prop), Q (.int (g i j) s.toks) { s with toks := s.toks + 1 } → wpAny (model X.prog X.w) X.A (f (.int i t) (.int j u)) Q E s) :
    OpR X f (rI0 fun i j => .int (g i j)) := by
  intro pins s σ H x y v u Q I rx ry h
  obtain ⟨i, j, rfl, rfl, q⟩ := h
  obtain ⟨t, rfl⟩ := rx
  obtain ⟨t', rfl⟩ := ry
  exact rule i j t t' s _ _ ⟨.int (g i j), H, I.tok _, ⟨_, rfl⟩, q⟩
theorem opB0 {f : Value → Value → Sem Value} {g : Int → Int → Bool}
    (rule : ∀ (i j : Int) (t u : Tok) (s : Shared) (Q : Value → Shared → Prop) (E : Value → Shared → Prop), Q (.bool (g i j)) s → wpAny (model X.prog X.w) X.A (f (.int i t) (.int j u)) Q E s) :
    OpR X f (rI0 fun i j => .bl (g i j)) := by
  intro pins s σ H x y v u Q I rx ry h
  obtain ⟨i, j, rfl, rfl, q⟩ := h
  obtain ⟨t, rfl⟩ := rx
  obtain ⟨t', rfl⟩ := ry
  exact rule i j t t' s _ _ ⟨.bl (g i j), H, I, rfl, q⟩
def CPow (i j : Int) : Prop := 0 ≤ j ∧ j ≤ 1000000 ∧ i.natAbs < 2 ^ 64
def CMul (i j : Int) : Prop := (-(2 ^ 64) < i ∧ i < 2 ^ 64) ∨ (-(2 ^ 64) < j ∧ j < 2 ^ 64)
theorem CMul.ok {i j : Int} (h : CMul i j) : IntMulOk i j := by
  rcases h with ⟨h1, h2⟩ | ⟨h1, h2⟩
  · exact .of_left (intBits_le_64 h1 h2)
  · exact .of_right (intBits_le_64 h1 h2)
theorem op_add : OpR X (binaryOp .Add) (rI0 fun i j => .int (i + j)) := opI0 fun _ _ _ _ _ _ _ q => add_int q
theorem op_sub : OpR X (binaryOp .Sub) (rI0 fun i j => .int (i - j)) := opI0 fun _ _ _ _ _ _ _ q => sub_int q
theorem op_mod : OpR X (binaryOp .Mod) (rI (fun _ j => 0 < j) fun i j => .int (i % j)) := opI fun i j _ _ _ _ _ hc q => by
  have h1 : (0 : Int) < j := hc
  exact mod_int' (by lia) (by rw [Int.fmod_eq_emod_of_nonneg i (by lia)]; exact q)
theorem op_pow : OpR X (binaryOp .Pow) (rI CPow fun i j => .int (i ^ j.toNat)) := opI fun _ _ _ _ _ _ _ hc q => pow_int_small hc.1 hc.2.1 hc.2.2 q
end
def scal : V → V → Bool
  | .non, .non => true | .non, .int _ => true | .int _, .non => true | .non, .bl _ => true | .bl _, .non => true | .non, .str _ => true | .str _, .non => true
  | .int _, .int _ => true | .bl _, .bl _ => true | .str _, .str _ => true | .byt _, .byt _ => true
  | .int _, .str _ => true | .str _, .int _ => true | .bl _, .str _ => true | .str _, .bl _ => true
  | _, _ => false
def rEq : R2 := fun x y H Q => scal x y = true ∧ Q (.bl (decide (x = y))) H
def rNe : R2 := fun x y H Q => scal x y = true ∧ Q (.bl (!decide (x = y))) H
theorem dec_int {i j : Int} : decide (V.int i = V.int j) = (i == j) := by
  rw [Bool.eq_iff_iff]
  simp
theorem dec_bl {i j : Bool} : decide (V.bl i = V.bl j) = (i == j) := by
  rw [Bool.eq_iff_iff]
  simp
theorem dec_str {i j : Str} : decide (V.str i = V.str j) = (i == j) := by
  rw [Bool.eq_iff_iff]
  simp
theorem dec_byt {i j : Array UInt8} : decide (V.byt i = V.byt j) = (i.toList == j.toList) := by
  rw [Bool.eq_iff_iff]
  cases i
  cases j
  simp
section
variable {X : Cx} {a b c : Expr} {ta tb tc : TE} {pos : Pos}
theorem fin_bl {pins : List (Addr × Obj)} {σ : St} {H : Hp} {s : Shared} {Q : VK} {k k' : Bool} (I : Inv X pins σ H s) (q : Q (.bl k) H) (e : k = k') : EP X pins σ Q (.bool k') s := by
  subst e
  exact ⟨.bl k, H, I, rfl, q⟩
theorem op_eq : OpR X (compareOp .Eq) rEq := by
  intro pins s σ H x y v u Q I rx ry h
  obtain ⟨hs, q⟩ := h
  cases x with
  | non =>
    cases rx
    cases y with
    | non => cases ry; exact PySem.EqNone.eq_none_none (fin_bl I q (by simp))
    | bl j => cases ry; exact PySem.EqNone.eq_none_bool (fin_bl I q (by simp))
    | int j => obtain ⟨t', rfl⟩ := ry; exact PySem.EqNone.eq_none_int (fin_bl I q (by simp))
    | str j => obtain ⟨t', rfl⟩ := ry; exact PySem.EqNone.eq_none_str (fin_bl I q (by simp))
    | _ => exact absurd (show false = true from hs) Bool.false_ne_true
  | bl i =>
    cases rx
    cases y with
    | non => cases ry; exact PySem.EqNone.eq_bool_none (fin_bl I q (by simp))
    | bl j => cases ry; exact eq_bool (fin_bl I q dec_bl)
    | str j => obtain ⟨t', rfl⟩ := ry; exact PySem.EqMixed.eq_bool_str (fin_bl I q (by simp))
    | _ => exact absurd (show false = true from hs) Bool.false_ne_true
  | int i =>
    obtain ⟨t, rfl⟩ := rx
    cases y with
    | non => cases ry; exact PySem.EqNone.eq_int_none (fin_bl I q (by simp))
    | int j => obtain ⟨t', rfl⟩ := ry; exact eq_int (fin_bl I q dec_int)
    | str j => obtain ⟨t', rfl⟩ := ry; exact PySem.EqMixed.eq_int_str (fin_bl I q (by simp))
    | _ => exact absurd (show false = true from hs) Bool.false_ne_true
  | str i =>
    obtain ⟨t, rfl⟩ := rx
    cases y with
    | non => cases ry; exact PySem.EqNone.eq_str_none (fin_bl I q (by simp))
    | bl j => cases ry; exact PySem.EqMixed.eq_str_bool (fin_bl I q (by simp))
    | int j => obtain ⟨t', rfl⟩ := ry; exact PySem.EqMixed.eq_str_int (fin_bl I q (by simp))
    | str j => obtain ⟨t', rfl⟩ := ry; exact eq_str (fin_bl I q dec_str)
    | _ => exact absurd (show false = true from hs) Bool.false_ne_true
  | byt i =>
    obtain ⟨t, rfl⟩ := rx
    cases y with
    | byt j => obtain ⟨t', rfl⟩ := ry; exact PySem.W.eq_bytes (fin_bl I q dec_byt)
    | _ => exact absurd (show false = true from hs) Bool.false_ne_true
  | _ => cases y <;> exact absurd (show false = true from hs) Bool.false_ne_true
theorem op_ne : OpR X (compareOp .NotEq) rNe := by
  intro pins s σ H x y v u Q I rx ry h
  obtain ⟨hs, q⟩ := h
  cases x with
  | non =>
    cases rx
    cases y with
    | non => cases ry; exact PySem.EqNone.ne_none_none (fin_bl I q (by simp))
    | bl j => cases ry; exact PySem.EqNone.ne_none_bool (fin_bl I q (by simp))
    | int j => obtain ⟨t', rfl⟩ := ry; exact PySem.EqNone.ne_none_int (fin_bl I q (by simp))
    | str j => obtain ⟨t', rfl⟩ := ry; exact PySem.EqNone.ne_none_str (fin_bl I q (by simp))
    | _ => exact absurd (show false = true from hs) Bool.false_ne_true
  | bl i =>
    cases rx
    cases y with
    | non => cases ry; exact PySem.EqNone.ne_bool_none (fin_bl I q (by simp))
    | bl j => cases ry; exact ne_bool (fin_bl I q (congrArg not dec_bl))
    | str j => obtain ⟨t', rfl⟩ := ry; exact PySem.EqMixed.ne_bool_str (fin_bl I q (by simp))
    | _ => exact absurd (show false = true from hs) Bool.false_ne_true
  | int i =>
    obtain ⟨t, rfl⟩ := rx
    cases y with
    | non => cases ry; exact PySem.EqNone.ne_int_none (fin_bl I q (by simp))
    | int j => obtain ⟨t', rfl⟩ := ry; exact ne_int (fin_bl I q (congrArg not dec_int))
    | str j => obtain ⟨t', rfl⟩ := ry; exact PySem.EqMixed.ne_int_str (fin_bl I q (by simp))
    | _ => exact absurd (show false = true from hs) Bool.false_ne_true
  | str i =>
    obtain ⟨t, rfl⟩ := rx
    cases y with
    | non => cases ry; exact PySem.EqNone.ne_str_none (fin_bl I q (by simp))
    | bl j => cases ry; exact PySem.EqMixed.ne_str_bool (fin_bl I q (by simp))
    | int j => obtain ⟨t', rfl⟩ := ry; exact PySem.EqMixed.ne_str_int (fin_bl I q (by simp))
    | str j => obtain ⟨t', rfl⟩ := ry; exact ne_str (fin_bl I q (congrArg not dec_str))
    | _ => exact absurd (show false = true from hs) Bool.false_ne_true
  | byt i =>
    obtain ⟨t, rfl⟩ := rx
    cases y with
    | byt j => obtain ⟨t', rfl⟩ := ry; exact PySem.W.ne_bytes (fin_bl I q (congrArg not dec_byt))
    | _ => exact absurd (show false = true from hs) Bool.false_ne_true
  | _ => cases y <;> exact absurd (show false = true from hs) Bool.false_ne_true
theorem op_lt : OpR X (compareOp .Lt) (rI0 fun i j => .bl (decide (i < j))) := opB0 fun _ _ _ _ _ _ _ q => lt_int q
theorem op_gt : OpR X (compareOp .Gt) (rI0 fun i j => .bl (decide (j < i))) := opB0 fun _ _ _ _ _ _ _ q => gt_int q
theorem op_ge : OpR X (compareOp .GtE) (rI0 fun i j => .bl (decide (j ≤ i))) := opB0 fun _ _ _ _ _ _ _ q => ge_int q
theorem op_in_str : OpR X (compareOp .In) (fun x y H Q => ∃ i j, x = .str i ∧ y = .str j ∧ Q (.bl (!(Builtin.Str.occurrences j i 0 j.length 1).isEmpty)) H) := by
  intro pins s σ H x y v u Q I rx ry h
  obtain ⟨i, j, rfl, rfl, q⟩ := h
  obtain ⟨t, rfl⟩ := rx
  obtain ⟨t', rfl⟩ := ry
  exact in_str (fin_bl I q rfl)
theorem nomark (b : Expr) {op : CmpOp} (h : op ≠ .In := by decide) (h2 : op ≠ .NotIn := by decide) : behindInMarks op b = false := by
  have e1 : (op == CmpOp.In) = false := by cases op <;> first | rfl | exact absurd rfl h
  have e2 : (op == CmpOp.NotIn) = false := by cases op <;> first | rfl | exact absurd rfl h2
  cases b <;> simp [behindInMarks, e1, e2]
theorem line63 : (sizeLine : Nat) < 2 ^ 63 := by rw [sizeLine_eq]; decide
theorem op_add_str : OpR X (binaryOp .Add) (fun x y H Q => ∃ i j, x = .str i ∧ y = .str j ∧ i.length + j.length ≤ sizeLine ∧ Q (.str (i ++ j)) H) := by
  intro pins s σ H x y v u Q I rx ry h
  obtain ⟨i, j, rfl, rfl, hz, q⟩ := h
  obtain ⟨t, rfl⟩ := rx
  obtain ⟨t', rfl⟩ := ry
  exact add_str (fun t' tk => ⟨.str (i ++ j), H, I.tok _, ⟨_, rfl⟩, q⟩) hz
theorem vals1 {x : V} {us : List Value} (r : Vals [x] us) : ∃ u, us = [u] ∧ RelV x u := by
  cases r with
  | cons r1 r2 => cases r2; exact ⟨_, rfl, r1⟩
theorem vals2 {x y : V} {us : List Value} (r : Vals [x, y] us) : ∃ u w', us = [u, w'] ∧ RelV x u ∧ RelV y w' := by
  cases r with
  | cons r1 r2 =>
    cases r2 with
    | cons r3 r4 => cases r4; exact ⟨_, _, rfl, r1, r3⟩
theorem call_abs : CallR X (.builtin "abs") (fun xs H Q => ∃ i, xs = [.int i] ∧ Q (.int (if i < 0 then -i else i)) H) := by
  intro pins s σ H xs us Q I r h
  obtain ⟨i, rfl, q⟩ := h
  obtain ⟨u, rfl, t, rfl⟩ := vals1 r
  exact call_abs_int fun u tk => ⟨.int (if i < 0 then -i else i), H, I.tok _, ⟨_, rfl⟩, q⟩
theorem call_int1 : CallR X (.type "int") (fun xs H Q => (∃ i, xs = [.int i] ∧ Q (.int i) H) ∨ ∃ k, xs = [.bl k] ∧ Q (.int (if k then 1 else 0)) H) := by
  intro pins s σ H xs us Q I r h
  rcases h with ⟨i, rfl, q⟩ | ⟨k, rfl, q⟩
  · obtain ⟨u, rfl, t, rfl⟩ := vals1 r
    exact call_int_int ⟨.int i, H, I, ⟨_, rfl⟩, q⟩
  · obtain ⟨u, rfl, r1⟩ := vals1 r
    cases r1
    exact call_int_bool ⟨.int (if k then 1 else 0), H, I.tok _, ⟨_, rfl⟩, q⟩
theorem call_str_int : CallR X (.type "str") (fun xs H Q => ∃ i, xs = [.int i] ∧ i.natAbs.log2 < 1920 ∧ Q (.str (toString i)) H) := by
  intro pins s σ H xs us Q I r h
  obtain ⟨i, rfl, hz, q⟩ := h
  obtain ⟨u, rfl, t, rfl⟩ := vals1 r
  exact PySem.P.str_of_int hz ⟨.str _, H, I.tok _, ⟨_, rfl⟩, q⟩
end
end L2
namespace L2
open PySem PySem.Spec PyProof.Rows
section
variable {prog : Program} {w : World} {A : Around} {E : Value → Shared → Prop} {s : Shared} {K : PySem.W.Frag} {x dx C f : Addr} {mA : Str → Option Value} {name : Str} {v : Value}
end
theorem RelO.some_of {v : V} {o : Option Value} (r : RelO (some v) o) : ∃ u, o = some u ∧ RelV v u := by
  cases o with
  | none => exact (show False from r).elim
  | some u => exact ⟨u, rfl, r⟩
section
variable {P : Program} {w : World} {H H' : Hp} {h h' : Heap} {a C dx : Addr} {fs fs' : List (Str × V)}
end
section
variable {X : Cx} {pins : List (Addr × Obj)} {σ : St} {H : Hp} {s : Shared} {a C dx : Addr} {fs : List (Str × V)} {f : Str} {v : V} {A : Around} {E : Value → Shared → Prop}
end
section
variable {X : Cx} {o e value : Expr} {f : Str} {pos pos' tpos : Pos} {ta tv : TE}
end
section
variable {X : Cx} {pins : List (Addr × Obj)} {σ : St} {H : Hp} {s : Shared} {A : Around} {E : Value → Shared → Prop} {Q : Value → Shared → Prop} {c : Value} {b : Bool}
end
end L2
namespace L2
open PySem PySem.Spec PyProof.Rows
structure Room (k : Nat) (A : Around) : Prop where
  hd : A.handled = none
  dp : A.depth + 3 * k + 5 < recursionLimit
  un : A.units + 16 * k + 200 < cLine
  gd : A.guards = some []
theorem Room.mono {j k : Nat} {A : Around} (r : Room k A) (h : j ≤ k) : Room j A := ⟨r.hd, by have := r.dp; lia, by have := r.un; lia, r.gd⟩
theorem Room.deeper {k : Nat} {A : Around} (r : Room (k + 1) A) (env : Env) : Room k (A.deeper env) :=
  ⟨r.hd, by have := r.dp; show A.depth + 1 + 3 * k + 5 < _; lia, by have := r.un; show A.units + 3 + 16 * k + 200 < _; lia, r.gd⟩
theorem Room.depth {k : Nat} {A : Around} (r : Room k A) : A.depth < recursionLimit := by have := r.dp; lia
theorem Room.units {k : Nat} {A : Around} (r : Room k A) : A.units + 64 < cLine := by have := r.un; lia
section
variable {X : Cx} {e : Expr} {es : List Expr} {te : TE} {t : TA} {pos : Pos}
def tTup (t : TA) : TE := fun σ H Q => t σ H fun xs H1 => xs.length ≤ sizeLine ∧ ∀ p, H1 p = none → Q (.ref p) (upd H1 p (.tup xs))
def tLst (t : TA) : TE := fun σ H Q => t σ H fun xs H1 => xs.length ≤ sizeLine ∧ ∀ p, H1 p = none → Q (.ref p) (upd H1 p (.lst xs))
theorem pe_tup {x1} (h : PA X es t) : PE X (.Tuple es x1 pos) (tTup t) := by
  intro pins s σ H Q I hq
  refine wpAny_Tuple_spliced (thn (h pos pins s σ H _ I hq) fun us s1 ⟨xs, H1, I1, r, z, q⟩ => ⟨by rw [← r.length]; exact z, ?_⟩)
  have hf : H1 s1.heap.objs.size = none := I1.hok.fresh (Nat.le_refl _)
  refine ⟨.ref s1.heap.objs.size, upd H1 s1.heap.objs.size (.tup xs), I1.laid (t' := s1.toks) (fun b u e => Heap.get?_push_of_some _ e) (Nat.le_refl _) ?_, rfl, q _ hf⟩
  exact ⟨z, us, r, ⟨_, Heap.get?_push_size _ rfl, rfl, _, rfl⟩⟩
theorem pe_lst (h : PA X es t) : PE X (.List es pos) (tLst t) := by
  intro pins s σ H Q I hq
  refine wpAny_List_spliced (thn (h pos pins s σ H _ I hq) fun us s1 ⟨xs, H1, I1, r, z, q⟩ => ⟨by rw [← r.length]; exact z, ?_⟩)
  have hf : H1 s1.heap.objs.size = none := I1.hok.fresh (Nat.le_refl _)
  refine ⟨.ref s1.heap.objs.size, upd H1 s1.heap.objs.size (.lst xs), I1.laid (t' := s1.toks) (fun b u e => Heap.get?_push_of_some _ e) (Nat.le_refl _) ?_, rfl, q _ hf⟩
  exact ⟨z, us, 0, r, Heap.get?_push_size _ rfl⟩
end
abbrev Sp := List V → Hp → VK → XK → Prop
abbrev CXT := List Env → Hp → Shared → XK → Value → Shared → Prop
structure Env0 (P : Program) (w : World) (K : PySem.W.Frag) (mg : Str → Option Value) (base : Heap) (A : Around) (outer : List Env) (s : Shared) (H : Hp) : Prop where
  frames : A.frames = some outer
  mod : Mod K mg base
  bs : ∀ b o, base.get? b = some o → s.heap.get? b = some o ∧ H b = none
  bsz : base.objs.size ≤ s.heap.objs.size
  funs : s.heap.FunFrames base outer
  frf : ∀ b ∈ frs outer, H b = none
  hok : HOk P w H s.heap
  bare : AllBare s.gens
def CE (outer : List Env) (P : Program) (w : World) (H : Hp) (s : Shared) (Q : VK) (u : Value) (s' : Shared) : Prop :=
  ∃ v H', s'.os = s.os ∧ AllBare s'.gens ∧ Un (frs outer) [] H H' s.heap s'.heap ∧ HOk P w H' s'.heap ∧ RelV v u ∧ Q v H'
def CR (CX : CXT) (outer : List Env) (P : Program) (w : World) (H : Hp) (s : Shared) (Q : VK) (E : XK) (r : Result) (s' : Shared) : Prop :=
  match r with
  | .ok (.ret u) => CE outer P w H s Q u s'
  | .ok _ => False
  | .error e => CX outer H s E e s'
structure FnOk (P : Program) (w : World) (K : PySem.W.Frag) (mg : Str → Option Value) (base : Heap) (CX : CXT) (k : Nat) (f : Addr) (fd : FuncData) (ps : List Str) (sp : Sp) : Prop where
  len : ∀ vs H Q E, sp vs H Q E → vs.length = ps.length
  run : ∀ (A : Around) (outer : List Env) (s : Shared) (H : Hp) (args : Args) (us : List Value) (vs : List V) (Q : VK) (E : XK), Room k A → Env0 P w K mg base A outer s H → BindsTo s fd args (ps.zip us) → Vals vs us → sp vs H Q E →
    codeAny (model P w) A (.call (.ref f) args) (CR CX outer P w H s Q E) s
section
variable {X : Cx} {pins : List (Addr × Obj)} {σ : St} {H : Hp} {s s' : Shared}
theorem Inv.env0 (I : Inv X pins σ H s) : Env0 X.prog X.w X.K X.mg X.base X.A X.stack s H :=
  ⟨I.ok.frames, I.ok.mod, I.bs, Nat.le_trans I.ok.bsz I.sz, I.stack, I.stkFree, I.hok, I.bare⟩
theorem Inv.after {Q : VK} {u : Value} (I : Inv X pins σ H s) (h : CE X.stack X.prog X.w H s Q u s') : EP X pins σ Q u s' := by
  obtain ⟨v, H', os, bare, un, hok, r, q⟩ := h
  obtain ⟨hh, g, d, t, os'⟩ := s'
  obtain rfl : os' = s.os := os
  exact ⟨v, H', I.call (h' := hh) (g' := g) (d' := d) (t' := t) (ch := []) un hok bare (fun b z => absurd z (by simp)), r, q⟩
end
def tCall (sp : Sp) (dvs : List V) (E : XK) (t : TA) : TE := fun σ H Q => t σ H fun vs H1 => sp (vs ++ dvs) H1 Q E
def Binds (K : PySem.W.Frag) (fd : FuncData) (ps : List Str) (ds : List Value) : Prop :=
  ∀ (s : Shared) (us : List Value), K.In s.heap → (us ++ ds).length = ps.length → BindsTo s fd ⟨us, []⟩ (ps.zip (us ++ ds))
theorem Binds.all {K : PySem.W.Frag} {fd : FuncData} {ps : List Str} (h : ∀ us : List Value, us.length = ps.length → bindArgs fd ⟨us, []⟩ = pure (ps.zip us)) : Binds K fd ps [] := fun s us _ hl => by
  rw [List.append_nil] at hl ⊢
  exact .of_eq (h us hl)
def Passes (CX : CXT) (X : Cx) (E : XK) : Prop := ∀ (pins : List (Addr × Obj)) (σ : St) (H : Hp) (s : Shared) (e : Value) (s' : Shared), Inv X pins σ H s → CX X.stack H s E e s' → X.xe e s'
section
variable {X : Cx} {CX : CXT} {k : Nat} {f C : Addr} {fd : FuncData} {ps : List Str} {sp : Sp} {dvs : List V} {ds : List Value} {E : XK} {x m : Str} {p pos apos : Pos} {e o : Expr} {es : List Expr} {ta : TE} {t : TA}
theorem run_fn {pins : List (Addr × Obj)} {σ : St} {H : Hp} {s : Shared} {Q : VK} {us : List Value} {vs : List V} (F : FnOk X.prog X.w X.K X.mg X.base CX k f fd ps sp) (hr : Room k X.A) (hb : Binds X.K fd ps ds) (hd : Vals dvs ds) (hx : Passes CX X E)
    (I : Inv X pins σ H s) (r : Vals vs us) (h : sp (vs ++ dvs) H Q E) : wpAny (model X.prog X.w) X.A (call (.ref f) us) (EP X pins σ Q) X.xe s := by
  have r2 : Vals (vs ++ dvs) (us ++ ds) := r.append hd
  have hl : (us ++ ds).length = ps.length := by rw [← r2.length]; exact F.len _ _ _ _ h
  refine wpAny_call (codeAny_mono (F.run X.A X.stack s H ⟨us, []⟩ (us ++ ds) (vs ++ dvs) Q E hr I.env0 (hb s us I.kIn hl) r2 h) fun r s' hq => ?_)
  cases r with
  | error e => exact hx pins σ H s e s' I hq
  | ok fl =>
    cases fl with
    | ret u => exact I.after hq
    | next => exact False.elim hq
    | brk => exact False.elim hq
    | cont => exact False.elim hq
theorem pe_call (F : FnOk X.prog X.w X.K X.mg X.base CX k f fd ps sp) (hr : Room k X.A) (hg : Gl X x) (hm : X.mg x = some (.ref f)) (hk : PySem.W.keepIn X.K (.ref f) = true) (hb : Binds X.K fd ps ds) (hd : Vals dvs ds) (hx : Passes CX X E)
    (ha : PA X (e :: es) t) (hdb : (x == ("__debug__" : Str)) = false := by decide) (he : starEach (e :: es) X.env = (false, eval e X.env) :: starEach es X.env := by rfl) (hpl : (backTo pos (starEach es X.env)).any (·.1) = false := by rfl) :
    PE X (.Call (.Name x p) (e :: es) [] pos) (tCall sp dvs E t) := by
  intro pins s σ H Q I h
  refine wpAny_Call_Name_kw (ld_glob I hg hm ?_ hdb)
  refine PySem.W.callWith_K (h₀ := X.base) I.ok.mod.kin hk (thn (ha pos pins s σ H _ I h) fun us s1 ⟨vs, H1, I1, r, q⟩ => ⟨I1.kIn, ?_⟩) he hpl
  exact run_fn F hr hb hd hx I1 r q
end
section
variable {X : Cx} {CX : CXT} {k : Nat} {f C : Addr} {fd : FuncData} {ps ks : List Str} {sp : Sp} {E : XK} {x m : Str} {p pos apos kpos : Pos} {e o : Expr} {es : List Expr} {kws : List Keyword} {te ta : TE} {t tk : TA} {nm : Option Str}
variable {g : List Value → List Value → List Value} {gV : List V → List V → List V}
end
structure FnScope (N P : List Str) (sc : Scope) : Prop where
  kind : sc.kind = .function
  co : sc.isCoroutine = false
  gen : sc.isGenerator = false
  nd : N.Nodup
  pre : N.take P.length = P
  par : ∀ x ∈ P, sc.names.lookup x = some .local ∨ sc.names.lookup x = some .cell
  nofree : ∀ y ∈ sc.names, y.2 ≠ .free
theorem bindL_out {kindOf : Str → Option NameKind} {x : Str} : ∀ {binds : List (Str × Value)} {m : Str → Option Value}, (∀ v, (x, v) ∉ binds) → bindL kindOf binds m x = m x
  | [], _, _ => rfl
  | (n, v) :: r, m, h => by
    unfold bindL
    rw [bindL_out fun w hw => h w (List.mem_cons_of_mem _ hw)]
    split
    · have : x ≠ n := by rintro rfl; exact h v List.mem_cons_self
      simp [this]
    · rfl
theorem bindC_out {kindOf : Str → Option NameKind} {x : Str} : ∀ {binds : List (Str × Value)} {m : Str → Option Value}, (∀ v, (x, v) ∉ binds) → bindC kindOf binds m x = m x
  | [], _, _ => rfl
  | (n, v) :: r, m, h => by
    unfold bindC
    rw [bindC_out fun w hw => h w (List.mem_cons_of_mem _ hw)]
    split
    · rfl
    · have : x ≠ n := by rintro rfl; exact h v List.mem_cons_self
      simp [this]
theorem bindL_get {kindOf : Str → Option NameKind} {x : Str} {v : Value} : ∀ {P : List Str} {vs : List Value} {i : Nat} {m : Str → Option Value}, P.Nodup → P[i]? = some x → vs[i]? = some v → kindOf x = some .local →
    bindL kindOf (P.zip vs) m x = some v
  | [], _, _, _, _, h, _, _ => by simp at h
  | _ :: _, [], _, _, _, _, h, _ => by simp at h
  | p :: P, w :: vs, 0, m, nd, h1, h2, hk => by
    simp at h1 h2; subst h1; subst h2
    show bindL kindOf ((p, w) :: P.zip vs) m p = _
    unfold bindL
    rw [bindL_out fun v hv => (List.nodup_cons.mp nd).1 (List.of_mem_zip hv).1, if_pos hk]
    simp
  | p :: P, w :: vs, i + 1, m, nd, h1, h2, hk => by
    show bindL kindOf ((p, w) :: P.zip vs) m x = _
    unfold bindL
    exact bindL_get (i := i) (List.nodup_cons.mp nd).2 (by simpa using h1) (by simpa using h2) hk
theorem bindC_get {kindOf : Str → Option NameKind} {x : Str} {v : Value} : ∀ {P : List Str} {vs : List Value} {i : Nat} {m : Str → Option Value}, P.Nodup → P[i]? = some x → vs[i]? = some v → kindOf x ≠ some .local →
    bindC kindOf (P.zip vs) m x = some v
  | [], _, _, _, _, h, _, _ => by simp at h
  | _ :: _, [], _, _, _, _, h, _ => by simp at h
  | p :: P, w :: vs, 0, m, nd, h1, h2, hk => by
    simp at h1 h2; subst h1; subst h2
    show bindC kindOf ((p, w) :: P.zip vs) m p = _
    unfold bindC
    rw [bindC_out fun v hv => (List.nodup_cons.mp nd).1 (List.of_mem_zip hv).1, if_neg hk]
    simp
  | p :: P, w :: vs, i + 1, m, nd, h1, h2, hk => by
    show bindC kindOf ((p, w) :: P.zip vs) m x = _
    unfold bindC
    exact bindC_get (i := i) (List.nodup_cons.mp nd).2 (by simpa using h1) (by simpa using h2) hk
def start (N : List Str) (vs : List V) : St := vs.map some ++ List.replicate (N.length - vs.length) none
def cxOf (CX : CXT) (P : Program) (w : World) (K : PySem.W.Frag) (mg : Str → Option Value) (base : Heap) (N : List Str) (qual : Str) (scope : Scope) (f : Addr) (cd : Value) (A : Around) (outer : List Env) (s : Shared) (H : Hp) (E : XK) : Cx where
  prog := P
  w := w
  K := K
  mg := mg
  base := base
  A := A.deeper (envOfC qual scope s.heap.objs.size f cd)
  N := N
  s₀ := s
  H₀ := H
  env := envOfC qual scope s.heap.objs.size f cd
  outer := outer
  stack := envOfC qual scope s.heap.objs.size f cd :: outer
  ex := []
  calm := true
  fn := fun _ => true
  pn := []
  xe := fun e s' => wpAny (model P w) (A.deeper (envOfC qual scope s.heap.objs.size f cd)) (leaving (envOfC qual scope s.heap.objs.size f cd) e) (fun _ s'' => CX outer H s E e s'') (fun e' s'' => CX outer H s E e' s'') s'
theorem cell_has {sc : Scope} {n : Nat} {x : Str} (h : sc.names.lookup x = some .cell) : ∃ c, (cellsFrom n sc.names []).lookup x = some c := by
  have q := PySem.W.cellsFrom_some sc.names n [] (.inl h)
  exact Option.isSome_iff_exists.mp q
theorem inv_start {CX : CXT} {P : Program} {w : World} {K : PySem.W.Frag} {mg : Str → Option Value} {base : Heap} {N ps : List Str} {qual : Str} {scope : Scope} {f : Addr} {cd : Value} {A : Around} {outer : List Env} {s s1 : Shared} {H : Hp} {E : XK} {us : List Value} {vs : List V}
    (S : FnScope N ps scope) (hd : A.handled = none) (e0 : Env0 P w K mg base A outer s H) (hl : vs.length = ps.length) (r : Vals vs us)
    (x : InCallC s s.heap.objs.size (bindL (envOfC qual scope s.heap.objs.size f cd).kindOf (ps.zip us) fun _ => none) (cellsFrom (s.heap.objs.size + 1) scope.names []) (bindC (envOfC qual scope s.heap.objs.size f cd).kindOf (ps.zip us) fun _ => none) s1) :
    Inv (cxOf CX P w K mg base N qual scope f cd A outer s H E) [] (start N vs) H s1 := by
  have hpl : ps.length ≤ N.length := by have := congrArg List.length S.pre; rw [List.length_take] at this; lia
  obtain ⟨h1, tk, rfl, hk⟩ := x.done
  have noA : ∀ b : Addr, b ∉ (cxOf CX P w K mg base N qual scope f cd A outer s H E).ex := fun b z => absurd (show b ∈ ([] : List Addr) from z) (by simp)
  refine ⟨⟨e0.mod, S.kind, rfl, rfl, Nat.le_refl _, fun y z c h1 h2 => ?_, fun y hy => ?_, fun y c _ h => ?_, fun _ => hd, Around.frames_deeper e0.frames, .inr ⟨rfl, rfl⟩, fun b z => absurd z (noA b), e0.bs, e0.bsz, fun b _ _ => noA b, fun b z => absurd z (noA b), e0.funs, e0.frf⟩,
    rfl, e0.bare, Un.kept hk, ⟨_, x.toInCall.ns, fun i y v h1 h2 h3 => ?_⟩, fun y c h => ⟨_, x.cell y c h⟩, e0.hok.fresh (Nat.le_refl _), fun y c h => ?_, fun p hp => absurd (show p ∈ ([] : List (Addr × Obj)) from hp) (by simp), e0.hok.kept hk, ?_⟩
  · exact name_of_addr x.apart (PySem.mem_of_lookup h1) (PySem.mem_of_lookup h2)
  · have hy : scope.names.lookup y = some .cell ∨ scope.names.lookup y = some .free := hy
    rcases hy with hy | hy
    · exact cell_has hy
    · exact absurd rfl (S.nofree _ (PySem.mem_of_lookup hy))
  · exact Nat.le_of_lt (x.above y c (PySem.mem_of_lookup h))
  · have hi : i < vs.length := by
      unfold start at h2
      by_cases hi : i < vs.length
      · exact hi
      · rw [List.getElem?_append_right (by simpa using hi)] at h2
        rw [List.getElem?_replicate] at h2
        split at h2 <;> cases h2
    have ha : vs[i]? = some v := by
      unfold start at h2
      rw [List.getElem?_append_left (by simpa using hi), List.getElem?_map] at h2
      cases e : vs[i]? with
      | none => rw [e] at h2; cases h2
      | some a => rw [e] at h2; cases h2; rfl
    obtain ⟨u, hu, rv⟩ := r.get ha
    have hp : ps[i]? = some y := by
      rw [← S.pre, List.getElem?_take_of_lt (by lia)]; exact h1
    have ndP : ps.Nodup := by rw [← S.pre]; exact S.nd.sublist (List.take_sublist _ _)
    refine ⟨u, rv, ?_⟩
    rcases S.par y (List.mem_of_getElem? hp) with k | k
    · exact .inl ⟨k, bindL_get ndP hp hu k⟩
    · obtain ⟨c, e⟩ := cell_has (n := s.heap.objs.size + 1) k
      refine .inr ⟨.inl k, c, e, ?_⟩
      have q := x.cell y c e
      rw [bindC_get ndP hp hu (by show scope.names.lookup y ≠ _; rw [k]; decide)] at q
      exact q
  · exact e0.hok.fresh (Nat.le_of_lt (x.above y c (PySem.mem_of_lookup h)))
  · unfold start
    show _ = N.length
    rw [List.length_append, List.length_map, List.length_replicate]
    lia
theorem fn_of {CX : CXT} {P : Program} {w : World} {K : PySem.W.Frag} {mg : Str → Option Value} {base : Heap} {k : Nat} {f : Addr} {name qual : Str} {params : Arguments} {body : List Stmt} {scope : Scope} {dV kV doc pm cdv ct oc : Value} {an od : Option Addr}
    {osl : Array (Option Value)} {N ps : List Str} {sp : Sp} (lk : K.lookup f = some ⟨oc, od, .func (PySem.W.fnOf name qual params body scope dV kV doc pm an cdv ct), osl⟩) (hcd : PySem.W.codeIn K cdv qual = true) (S : FnScope N ps scope)
    (len : ∀ vs H Q E, sp vs H Q E → vs.length = ps.length)
    (hbody : ∀ (A : Around) (outer : List Env) (s : Shared) (H : Hp) (vs : List V) (Q : VK) (E : XK), Room k (A.deeper (envOfC qual scope s.heap.objs.size f cdv)) → sp vs H Q E →
      ∃ t, PSs (cxOf CX P w K mg base N qual scope f cdv A outer s H E) body t ∧ t { nx := fun _ H' => Q .non H', rt := Q } (start N vs) H) :
    FnOk P w K mg base CX (k + 1) f (PySem.W.fnOf name qual params body scope dV kV doc pm an cdv ct) ps sp := by
  refine ⟨len, fun A outer s H args us vs Q E hr e0 hb r hsp => ?_⟩
  have hl := len _ _ _ _ hsp
  have KX : K.In s.heap := e0.mod.kin.keeps fun b o e => (e0.bs b o e).1
  have lim : s.heap.NoLimit := e0.mod.nolimit.keeps fun b o e => (e0.bs b o e).1
  have hkind : ∀ y ∈ ps.zip us, scope.names.lookup y.1 = some .local ∨ (scope.names.lookup y.1 = some .cell ∧ ((cellsFrom (s.heap.objs.size + 1) scope.names []).lookup y.1).isSome = true) := fun ⟨n, v⟩ hy => by
    rcases S.par n (List.of_mem_zip hy).1 with q | q
    · exact .inl q
    · exact .inr ⟨q, PySem.W.cellsFrom_some _ _ _ (.inl q)⟩
  refine codeAny_call_function hr.depth (KX _ _ lk) rfl S.co S.gen rfl (PySem.W.codeRec_of KX hcd) (hb _ _ _ _ ?_)
  refine wpAny_newFunctionEnv_cells S.kind hkind fun env he s1 x => ?_
  subst he
  refine ⟨lim.keeps x.toInCall.keep, codeAny_func ?_⟩
  obtain ⟨t, ht, hq⟩ := hbody A outer s H vs Q E (hr.deeper _) hsp
  have I : Inv (cxOf CX P w K mg base N qual scope f cdv A outer s H E) [] (start N vs) H s1 := inv_start S hr.hd e0 hl r x
  refine wpAny_mono (ht [] s1 (start N vs) H _ I hq) (fun fl s' hs => ?_) fun e s' hs => hs
  have fin : ∀ {σ' : St} {H' : Hp} {v : V} {u : Value}, Inv (cxOf CX P w K mg base N qual scope f cdv A outer s H E) [] σ' H' s' → RelV v u → Q v H' → CE outer P w H s Q u s' :=
    fun {σ' H' v u} J rv q => ⟨v, H', J.os, J.bare, J.base, J.hok, rv, q⟩
  cases fl with
  | ret u =>
    obtain ⟨v, σ', H', J, rv, q⟩ := hs
    exact fin J rv q
  | next =>
    obtain ⟨σ', H', J, q⟩ := hs
    exact fin (v := V.non) (u := Value.none) J rfl q
  | brk =>
    obtain ⟨_, _, _, q⟩ := hs
    exact False.elim q
  | cont =>
    obtain ⟨_, _, _, q⟩ := hs
    exact False.elim q
end L2
namespace L2
open PySem PySem.Spec PyProof.Rows
section
variable {X : Cx} {x : Str} {p pos : Pos} {e : Expr} {es : List Expr} {t : TA} {id T : String} {r : List V → Hp → VK → Prop}
end
end L2
namespace HT
open PySem PyProof.Rows
section
open PySem.SeqAt
open PySem.AutoSeq1 (wpAny_loadPart')
open PySem.MeetsSeq PySem.MeetsSeq2 PySem.MeetsSeq3
end
section
variable {prog : Program} {w : World} {A : Around} {E : Value → Shared → Prop} {s : Shared}
def sIx (n d : Nat) : Option Int → Nat
  | none => d
  | some v => if v < 0 then (v + (n : Int)).toNat else min v.toNat n
theorem sIx_nat (n d k : Nat) : sIx n d (some (k : Int)) = min k n := by
  show (if (k : Int) < 0 then ((k : Int) + (n : Int)).toNat else min (k : Int).toNat n) = min k n
  rw [if_neg (by lia), Int.toNat_natCast]
theorem sIx_le (n d : Nat) (hd : d ≤ n) (o : Option Int) : sIx n d o ≤ n := by
  cases o with
  | none => exact hd
  | some v =>
    show (if v < 0 then (v + (n : Int)).toNat else min v.toNat n) ≤ n
    by_cases hv : v < 0
    · rw [if_pos hv]; lia
    · rw [if_neg hv]; exact Nat.min_le_right _ _
theorem clip_eq (v : Int) (n d : Nat) : (if v < 0 then max (v + (n : Int)) 0 else min v (n : Int)) = ((sIx n d (some v) : Nat) : Int) := by
  show (if v < 0 then max (v + (n : Int)) 0 else min v (n : Int)) = (((if v < 0 then (v + (n : Int)).toNat else min v.toNat n) : Nat) : Int)
  by_cases hv : v < 0
  · simp only [if_pos hv]; lia
  · simp only [if_neg hv]; lia
theorem adjust_gen (lo hi : Option Int) (n : Nat) : Builtin.Slice.sliceAdjust lo hi 1 (n : Int) = (((sIx n 0 lo : Nat) : Int), ((sIx n n hi : Nat) : Int)) := by
  have h1 : ¬ ((1 : Int) < 0) := by lia
  unfold Builtin.Slice.sliceAdjust
  simp only [h1, if_false]
  refine Prod.ext ?_ ?_
  · cases lo with
    | none => rfl
    | some v => exact clip_eq v n 0
  · cases hi with
    | none => rfl
    | some v => exact clip_eq v n n
theorem places_gen (i j : Nat) : Builtin.Slice.slicePlaces (i : Int) (j : Int) 1 = j - i := by
  unfold Builtin.Slice.slicePlaces
  have h1 : (1 : Int) > 0 := by lia
  simp only [h1, if_true, Int.ediv_one]
  split <;> lia
theorem slicePart_ {v : Value} {o : Option Int} {Q : Option Int → Shared → Prop} (p : IsPart v o) (h : Q o s) : wpAny (model prog w) A (Builtin.Slice.slicePartIndex v) Q E s := by
  cases p with
  | none => exact slicePart_none h
  | int i t => exact slicePart_int h
theorem sliceApplied_gen {sl : Addr} {vl vu : Value} {lo hi : Option Int} {n : Nat} {Q : Int × Int × Nat → Shared → Prop} (hs : s.heap.IsSliceOf sl vl vu .none) (pl : IsPart vl lo) (pu : IsPart vu hi)
    (h : Q (((sIx n 0 lo : Nat) : Int), 1, sIx n n hi - sIx n 0 lo) s) : wpAny (model prog w) A (Builtin.Slice.sliceApplied (.ref sl) (pure (n : Int))) Q E s := by
  obtain ⟨os, hos, hcs, hds⟩ := id hs
  unfold Builtin.Slice.sliceApplied Builtin.Slice.sliceFields
  refine wpAny_bind (wpAny_bind (wpAny_field hos hds (x := vl) rfl (wpAny_bind (wpAny_field hos hds (x := vu) rfl (wpAny_bind (wpAny_field hos hds (x := .none) rfl (wpAny_pure ?_)))))))
  refine wpAny_bind (slicePart_none ?_)
  show wpAny _ _ (if ((1 : Int) == 0) = true then _ else _) _ _ s
  rw [if_neg (by decide)]
  refine wpAny_bind (slicePart_ pl (wpAny_bind (slicePart_ pu (wpAny_bind (wpAny_pure ?_)))))
  show wpAny _ _ (match Builtin.Slice.sliceAdjust lo hi 1 (n : Int) with | (lo, hi) => pure (lo, (1 : Int), Builtin.Slice.slicePlaces lo hi 1)) _ _ s
  rw [adjust_gen lo hi n]
  show wpAny _ _ (pure (((sIx n 0 lo : Nat) : Int), (1 : Int), Builtin.Slice.slicePlaces ((sIx n 0 lo : Nat) : Int) ((sIx n n hi : Nat) : Int) 1)) _ _ s
  rw [places_gen]
  exact wpAny_pure h
theorem pick_gen (xs : Array Value) (i k : Nat) : ((List.range k).filterMap fun (m : Nat) => xs[((i : Int) + (m : Int) * 1).toNat]?).toArray = ((xs.toList.drop i).take k).toArray := by
  have e : (fun (m : Nat) => xs[((i : Int) + (m : Int) * 1).toNat]?) = fun m => xs[i + m]? := by
    funext m
    have : ((i : Int) + (m : Int) * 1).toNat = i + m := by lia
    rw [this]
  rw [e]
  have := pick_run xs i k
  rw [List.filterMap_map] at this
  have e2 : ((fun x => xs[x]?) ∘ fun x => i + x) = fun m => xs[i + m]? := rfl
  rw [e2] at this
  rw [this]
theorem getItem_tuple_cut {t sl : Addr} {items : Array Value} {vl vu : Value} {lo hi : Option Int} {Q : Value → Shared → Prop} (ht : IsTup s.heap t items) (hs : s.heap.IsSliceOf sl vl vu .none) (pl : IsPart vl lo) (pu : IsPart vu hi)
    (hw : ¬ (sIx items.size 0 lo = 0 ∧ sIx items.size items.size hi = items.size))
    (h : Q (.ref s.heap.objs.size) { s with heap := s.heap.push { cls := .type "tuple", data := .seq ((items.toList.drop (sIx items.size 0 lo)).take (sIx items.size items.size hi - sIx items.size 0 lo)).toArray } })
    (hsz : items.size ≤ sizeLine) : wpAny (model prog w) A (getItem (.ref t) (.ref sl)) Q E s := by
  have htake : sizeOk (.seq ((items.toList.drop (sIx items.size 0 lo)).take (sIx items.size items.size hi - sIx items.size 0 lo)).toArray) := by
    show ((items.toList.drop (sIx items.size 0 lo)).take (sIx items.size items.size hi - sIx items.size 0 lo)).toArray.size ≤ sizeLine
    rw [List.size_toArray, List.length_take, List.length_drop, Array.length_toList]
    lia
  have hj : sIx items.size items.size hi ≤ items.size := sIx_le _ _ (Nat.le_refl _) hi
  obtain ⟨os, hos, hcs, hds⟩ := id hs
  have hTs : s.TypeIs (.ref sl) "slice" := ⟨os, hos, hcs⟩
  unfold getItem
  try with_reducible refine wpAny_holding ?_
  first | refine wpAny_bind (wpAny_pure ?_) | skip
  refine wpAny_bind (wpAny_sequenceKey ht.typeIs (by decide) ?_)
  refine wpAny_bind (wpAny_callSpecial?_slot (name := Str.ofString "__getitem__") ht.typeIs PyProof.Rows.slot_tuple_getitem
    (wpAny_call_entry PyProof.Rows.slot_tuple_getitem ht.typeIs entry_tuple_getitem ?_ (args_tuple_getitem _ _)))
  show wpAny _ _ (Builtin.Tuple.tupleItemsOf (.ref t) >>= _) _ _ s
  refine wpAny_bind (tupleItemsOf_ ht ?_)
  refine wpAny_bind (wpAny_typeOf hTs ?_)
  rw [if_pos (by decide)]
  refine wpAny_bind (sliceApplied_gen hs pl pu ?_)
  have hno : ¬ ((((sIx items.size 0 lo : Nat) : Int) == 0 && (1 : Int) == 1 && (sIx items.size items.size hi - sIx items.size 0 lo) == items.size) = true) := by
    intro q
    rw [Bool.and_eq_true, Bool.and_eq_true] at q
    have q1 : ((sIx items.size 0 lo : Nat) : Int) = 0 := eq_of_beq q.1.1
    have q2 : sIx items.size items.size hi - sIx items.size 0 lo = items.size := eq_of_beq q.2
    exact hw ⟨by lia, by lia⟩
  show wpAny _ _ (if (((sIx items.size 0 lo : Nat) : Int) == 0 && (1 : Int) == 1 && (sIx items.size items.size hi - sIx items.size 0 lo) == items.size) = true then _ else _) _ _ s
  rw [if_neg hno, pick_gen]
  first
    | exact wpAny_bind (m := Builtin.Tuple.tupleExact _) (wpAny_newObj_type (wpAny_pure ⟨_, rfl, wpAny_pure h⟩) htake)
    | exact wpAny_bind (m := Builtin.Tuple.tupleExact _) (wpAny_newObj_type (wpAny_bind (wpAny_pure (wpAny_pure ⟨_, rfl, wpAny_pure h⟩))) htake)
    | exact wpAny_bind (wpAny_bind (m := Builtin.Tuple.tupleExact _) (wpAny_newObj_type (wpAny_pure (wpAny_pure ⟨_, rfl, wpAny_pure h⟩)) htake))
    | exact wpAny_bind (wpAny_bind (m := Builtin.Tuple.tupleExact _) (wpAny_newObj_type (wpAny_pure ⟨_, rfl, wpAny_pure h⟩) htake))
end
end HT
namespace L2
open PySem PySem.Spec PyProof.Rows
section
variable {X : Cx} {e : Expr} {te : TE} {lo hi : Option Expr} {tl th : TO} {pos p2 : Pos}
def SlR (X : Cx) (r : V → Option Int → Option Int → Hp → VK → Prop) : Prop :=
  ∀ (pins : List (Addr × Obj)) (s : Shared) (σ : St) (H : Hp) (x : V) (v vl vu : Value) (lo hi : Option Int) (sl : Addr) (Q : VK), Inv X pins σ H s → RelV x v → s.heap.IsSliceOf sl vl vu .none → IsPart vl lo → IsPart vu hi → r x lo hi H Q →
    ∃ T id, typeLookup (.type T) "__getitem__" = pure (some (.builtin id)) ∧ s.TypeIs v T ∧ wpAny (model X.prog X.w) X.A (getItem v (.ref sl)) (EP X pins σ Q) X.xe s
theorem SlR.or {r r' : V → Option Int → Option Int → Hp → VK → Prop} (h : SlR X r) (h' : SlR X r') : SlR X (fun x lo hi H Q => r x lo hi H Q ∨ r' x lo hi H Q) := by
  intro pins s σ H x v vl vu lo hi sl Q I rx hs pl pu q
  rcases q with q | q
  · exact h pins s σ H x v vl vu lo hi sl Q I rx hs pl pu q
  · exact h' pins s σ H x v vl vu lo hi sl Q I rx hs pl pu q
def cutV (xs : List V) (lo hi : Option Int) : List V := (xs.drop (HT.sIx xs.length 0 lo)).take (HT.sIx xs.length xs.length hi - HT.sIx xs.length 0 lo)
theorem cutV_length (xs : List V) (lo hi : Option Int) : (cutV xs lo hi).length ≤ xs.length := by
  unfold cutV
  rw [List.length_take, List.length_drop]
  lia
def rSlT (K : PySem.W.Frag) : V → Option Int → Option Int → Hp → VK → Prop := fun x lo hi H Q => ∃ a xs, x = .ref a ∧ SqT K H a xs ∧
  ¬ (HT.sIx xs.length 0 lo = 0 ∧ HT.sIx xs.length xs.length hi = xs.length) ∧ ∀ p, H p = none → Q (.ref p) (upd H p (.tup (cutV xs lo hi)))
theorem sl_tup : SlR X (rSlT X.K) := by
  intro pins s σ H x v vl vu lo hi sl Q I rx hs pl pu h
  obtain ⟨a, xs, rfl, hx, hw, q⟩ := h
  cases rx
  obtain ⟨its, r, ht, hz⟩ := I.tuple hx
  have hlen : its.toArray.size = xs.length := by rw [List.size_toArray]; exact r.length.symm
  refine ⟨"tuple", _, PyProof.Rows.slot_tuple_getitem.lookup, ht.typeIs, ?_⟩
  refine HT.getItem_tuple_cut ht hs pl pu (by rw [hlen]; exact hw) ?_ (by rw [hlen]; exact hz)
  rw [hlen]
  refine ⟨.ref s.heap.objs.size, _, I.laid (t' := s.toks) (o := .tup (cutV xs lo hi)) (fun b ob q => Heap.get?_push_of_some _ q) (Nat.le_refl _) ?_, rfl, q _ (I.hok.fresh (Nat.le_refl _))⟩
  exact ⟨Nat.le_trans (cutV_length xs lo hi) hz, _, (r.drop (HT.sIx xs.length 0 lo)).take (HT.sIx xs.length xs.length hi - HT.sIx xs.length 0 lo), IsTup.new _ _⟩
end
end L2
namespace L2
open PySem PySem.Spec PyProof.Rows
def ixN (n : Nat) (i : Int) : Option Nat := if 0 ≤ i then (if i < n then some i.toNat else none) else if -(n : Int) ≤ i then some (i + n).toNat else none
def atI {α : Type} (xs : List α) (i : Int) : Option α := (ixN xs.length i).bind fun j => xs[j]?
theorem ixN_seq {n : Nat} {i : Int} {j : Nat} (h : ixN n i = some j) : seqIndex? i n = some j ∧ j < n ∧ -(n : Int) ≤ i ∧ i < n := by
  unfold ixN at h
  by_cases h0 : 0 ≤ i
  · rw [if_pos h0] at h
    by_cases h1 : i < n
    · rw [if_pos h1] at h
      have e : i.toNat = j := Option.some.inj h
      exact ⟨by rw [seqIndex_of h0 h1, e], by lia, by lia, h1⟩
    · rw [if_neg h1] at h; cases h
  · rw [if_neg h0] at h
    by_cases h1 : -(n : Int) ≤ i
    · rw [if_pos h1] at h
      have e : (i + n).toNat = j := Option.some.inj h
      exact ⟨by rw [seqIndex_neg (by lia) h1, e], by lia, h1, by lia⟩
    · rw [if_neg h1] at h; cases h
theorem atI_get {α : Type} {xs : List α} {i : Int} {v : α} (h : atI xs i = some v) : ∃ j, seqIndex? i xs.length = some j ∧ xs[j]? = some v ∧ j < xs.length ∧ -(xs.length : Int) ≤ i ∧ i < xs.length := by
  unfold atI at h
  cases e : ixN xs.length i with
  | none => rw [e] at h; cases h
  | some j =>
    rw [e] at h
    obtain ⟨h1, h2, h3, h4⟩ := ixN_seq e
    exact ⟨j, h1, h, h2, h3, h4⟩
theorem atI_nat {α : Type} {xs : List α} {j : Nat} {v : α} (h : xs[j]? = some v) : atI xs (j : Int) = some v := by
  have hj : j < xs.length := (List.getElem?_eq_some_iff.mp h).1
  have e : ixN xs.length (j : Int) = some j := by
    unfold ixN
    rw [if_pos (by lia), if_pos (by lia)]; simp
  unfold atI; rw [e]; exact h
def PlainIx (b : Expr) : Prop := ∀ o i, subscripted b false o i = operate [o, i] (getItem o i)
def IxR (X : Cx) (r : R2) : Prop :=
  ∀ (value slice : Expr) (pins : List (Addr × Obj)) (s : Shared) (σ : St) (H : Hp) (x y : V) (v u : Value) (Q : VK), Inv X pins σ H s → RelV x v → RelV y u → r x y H Q →
    subscripted slice false v u = operate [v, u] (getItem v u) → wpAny (model X.prog X.w) X.A (subscriptTail value slice v u) (EP X pins σ Q) X.xe s
section
variable {X : Cx} {a b : Expr} {ta tb : TE} {pos : Pos}
theorem IxR.or {r r' : R2} (h : IxR X r) (h' : IxR X r') : IxR X (fun x y H Q => r x y H Q ∨ r' x y H Q) := by
  intro value slice pins s σ H x y v u Q I rx ry q hs
  rcases q with q | q
  · exact h value slice pins s σ H x y v u Q I rx ry q hs
  · exact h' value slice pins s σ H x y v u Q I rx ry q hs
def rIxL (K : PySem.W.Frag) : R2 := fun x y H Q => ∃ p xs i v, x = .ref p ∧ y = .int i ∧ SqL K H p xs ∧ atI xs i = some v ∧ Q v H
def rIxT (K : PySem.W.Frag) : R2 := fun x y H Q => ∃ p xs i v, x = .ref p ∧ y = .int i ∧ SqT K H p xs ∧ atI xs i = some v ∧ Q v H
def rIxS : R2 := fun x y H Q => ∃ z i c, x = .str z ∧ y = .int i ∧ z.length ≤ sizeLine ∧ atI z.cps.toList i = some c ∧ Q (.str ⟨#[c]⟩) H
theorem ix_list : IxR X (rIxL X.K) := by
  intro value slice pins s σ H x y v u Q I rx ry h hs
  obtain ⟨p, xs, i, z, rfl, rfl, hq, he, q⟩ := h
  cases rx
  obtain ⟨t, rfl⟩ := ry
  obtain ⟨its, r, pl, hz⟩ := I.list hq
  obtain ⟨j, h1, h2, h3, h4, h5⟩ := atI_get he
  obtain ⟨w, ew, rw'⟩ := r.get h2
  have hl := r.length
  have hn := line63
  have fin : EP X pins σ Q w s := ⟨z, H, I, rw', q⟩
  by_cases h0 : 0 ≤ i
  · have hj : i.toNat = j := by
      rw [seqIndex_of h0 h5] at h1
      exact Option.some.inj h1
    exact item_listR pl.isList h0 (by lia) (by rw [hj]; simpa using ew) fin hs
  · have hj : (i + (its.toArray.size : Int)).toNat = j := by
      rw [seqIndex_neg (by lia) h4] at h1
      rw [List.size_toArray, ← hl]
      exact Option.some.inj h1
    exact subscriptTail_builtinR (x := w) pl.isList.typeIs slot_list_getitem.lookup
      (wpAny_getItem_list_neg (Q := fun r s' => r = w ∧ EP X pins σ Q r s') pl.isList (by lia) (by rw [List.size_toArray] <;> lia) (by lia) (by rw [hj]; simpa using ew) ⟨rfl, fin⟩) hs
theorem ix_tup : IxR X (rIxT X.K) := by
  intro value slice pins s σ H x y v u Q I rx ry h hs
  obtain ⟨p, xs, i, z, rfl, rfl, hq, he, q⟩ := h
  cases rx
  obtain ⟨t, rfl⟩ := ry
  obtain ⟨its, r, pl, hz⟩ := I.tuple hq
  obtain ⟨j, h1, h2, h3, h4, h5⟩ := atI_get he
  obtain ⟨w, ew, rw'⟩ := r.get h2
  have hl := r.length
  have hn := line63
  have fin : EP X pins σ Q w s := ⟨z, H, I, rw', q⟩
  exact subscriptTail_builtinR (x := w) pl.typeIs slot_tuple_getitem.lookup
    (getItem_tuple (j := j) (Q := fun r s' => r = w ∧ EP X pins σ Q r s') pl (by lia) (by lia) (by rw [List.size_toArray, ← hl]; exact h1) (by simpa using ew) ⟨rfl, fin⟩) hs
theorem ix_str : IxR X rIxS := by
  intro value slice pins s σ H x y v u Q I rx ry h hs
  obtain ⟨z, i, c, rfl, rfl, hz, he, q⟩ := h
  obtain ⟨t, rfl⟩ := rx
  obtain ⟨t', rfl⟩ := ry
  obtain ⟨j, h1, h2, h3, h4, h5⟩ := atI_get he
  have hl : z.cps.toList.length = z.length := by simp [Str.length]
  rw [hl] at h1 h4 h5
  have hn := line63
  exact tail_any (typeIs_str s z t) slot_str_getitem.lookup (getItem_str (c := c) (by
    have e1 : decide (i < -(2 ^ 63 : Int)) = false := decide_eq_false (by lia)
    have e2 : decide (i ≥ 2 ^ 63) = false := decide_eq_false (by lia)
    rw [e1, e2, Bool.or_false]) (by rw [h1]; simpa using h2) ⟨.str ⟨#[c]⟩, H, I.tok _, ⟨_, rfl⟩, q⟩) hs
def rIx (K : PySem.W.Frag) : R2 := fun x y H Q => rIxL K x y H Q ∨ rIxT K x y H Q ∨ rIxS x y H Q
theorem ix_seq : IxR X (rIx X.K) := ix_list.or (ix_tup.or ix_str)
theorem slice_bounds (lo hi : Option Int) (n : Nat) : (sliceBounds lo hi none n).1 = ((HT.sIx n 0 lo : Nat) : Int) ∧ (sliceBounds lo hi none n).2.1 = ((HT.sIx n n hi : Nat) : Int) ∧ (sliceBounds lo hi none n).2.2 = 1 := by
  refine ⟨?_, ?_, rfl⟩
  · cases lo with
    | none => simp [sliceBounds, HT.sIx]
    | some i =>
      simp only [sliceBounds, HT.sIx, Option.getD_none, show (1 : Int) > 0 by decide, if_true]
      by_cases h : i < 0
      · simp only [h, if_true] <;> lia
      · simp only [h, if_false] <;> lia
  · cases hi with
    | none => simp [sliceBounds, HT.sIx]
    | some i =>
      simp only [sliceBounds, HT.sIx, Option.getD_none, show (1 : Int) > 0 by decide, if_true]
      by_cases h : i < 0
      · simp only [h, if_true] <;> lia
      · simp only [h, if_false] <;> lia
theorem slicePick_cut (its : List Value) (lo hi : Option Int) : slicePick its.toArray lo hi none = ((its.drop (HT.sIx its.length 0 lo)).take (HT.sIx its.length its.length hi - HT.sIx its.length 0 lo)).toArray := by
  obtain ⟨h1, h2, h3⟩ := slice_bounds lo hi its.toArray.size
  unfold slicePick
  rw [h1, h2, h3]
  simp only [sliceRange_one, pick_run, List.size_toArray] <;> rfl
def rSlL (K : PySem.W.Frag) : V → Option Int → Option Int → Hp → VK → Prop := fun x lo hi H Q => ∃ a xs, x = .ref a ∧ SqL K H a xs ∧ ∀ p, H p = none → Q (.ref p) (upd H p (.lst (cutV xs lo hi)))
theorem sl_list : SlR X (rSlL X.K) := by
  intro pins s σ H x v vl vu lo hi sl Q I rx hs pl pu h
  obtain ⟨a, xs, rfl, hx, q⟩ := h
  cases rx
  obtain ⟨its, r, ht, hz⟩ := I.list hx
  have hlen := r.length
  refine ⟨"list", _, slot_list_getitem.lookup, ht.isList.typeIs, ?_⟩
  refine wpAny_getItem_list_slice ht.isList hs pl pu .none (by simp) ?_ (by rw [List.size_toArray] <;> lia)
  rw [slicePick_cut, ← hlen]
  refine ⟨.ref s.heap.objs.size, _, I.laid (t' := s.toks) (o := .lst (cutV xs lo hi)) (fun b ob q => Heap.get?_push_of_some _ q) (Nat.le_refl _) ?_, rfl, q _ (I.hok.fresh (Nat.le_refl _))⟩
  exact ⟨Nat.le_trans (cutV_length xs lo hi) hz, _, 0, (r.drop (HT.sIx xs.length 0 lo)).take (HT.sIx xs.length xs.length hi - HT.sIx xs.length 0 lo), Heap.get?_push_size _ rfl⟩
def flatV : V → Bool
  | .non => true
  | .bl _ => true
  | .int _ => true
  | .str _ => true
  | _ => false
def eqV : V → V → Bool
  | .non, .non => true
  | .bl a, .bl b => a == b
  | .bl a, .int b => (if a then 1 else 0) == b
  | .int a, .bl b => a == (if b then 1 else 0)
  | .int a, .int b => a == b
  | .str a, .str b => a == b
  | _, _ => false
theorem eqAt_V {A : Around} {s : Shared} {y x : V} {u v : Value} (ry : RelV y u) (rx : RelV x v) (fy : flatV y = true) (fx : flatV x = true) : SeqAt.EqAt A s u v (eqV y x) := by
  cases y with
  | non =>
    cases ry
    cases x with
    | non => cases rx; exact SeqAt.EqAt.same _
    | bl b => cases rx; exact SeqAt.EqAt.none_bool b
    | int b => obtain ⟨t, rfl⟩ := rx; exact SeqAt.EqAt.none_int b t
    | str b => obtain ⟨t, rfl⟩ := rx; exact SeqAt.EqAt.none_str b t
    | _ => exact absurd (show false = true from fx) Bool.false_ne_true
  | bl a =>
    cases ry
    cases x with
    | non => cases rx; exact SeqAt.EqAt.bool_none a
    | bl b => cases rx; exact SeqAt.EqAt.bool_bool a b
    | int b => obtain ⟨t, rfl⟩ := rx; exact SeqAt.EqAt.bool_int a b t
    | str b => obtain ⟨t, rfl⟩ := rx; exact SeqAt.EqAt.bool_str a b t
    | _ => exact absurd (show false = true from fx) Bool.false_ne_true
  | int a =>
    obtain ⟨t', rfl⟩ := ry
    cases x with
    | non => cases rx; exact SeqAt.EqAt.int_none a t'
    | bl b => cases rx; exact SeqAt.EqAt.int_bool a t' b
    | int b => obtain ⟨t, rfl⟩ := rx; exact SeqAt.EqAt.int_int a t' b t
    | str b => obtain ⟨t, rfl⟩ := rx; exact SeqAt.EqAt.int_str a t' b t
    | _ => exact absurd (show false = true from fx) Bool.false_ne_true
  | str a =>
    obtain ⟨t', rfl⟩ := ry
    cases x with
    | non => cases rx; exact SeqAt.EqAt.str_none a t'
    | bl b => cases rx; exact SeqAt.EqAt.str_bool a t' b
    | int b => obtain ⟨t, rfl⟩ := rx; exact SeqAt.EqAt.str_int a t' b t
    | str b => obtain ⟨t, rfl⟩ := rx; exact SeqAt.EqAt.str_str a t' b t
    | _ => exact absurd (show false = true from fx) Bool.false_ne_true
  | _ => exact absurd (show false = true from fy) Bool.false_ne_true
def eqU (x : V) (u : Value) : Bool := match u with
  | .none => eqV .non x
  | .bool b => eqV (.bl b) x
  | .int i _ => eqV (.int i) x
  | .str z _ => eqV (.str z) x
  | _ => false
theorem eqU_of {x y : V} {u : Value} (r : RelV y u) (f : flatV y = true) : eqU x u = eqV y x := by
  cases y with
  | non => cases r; rfl
  | bl b => cases r; rfl
  | int i => obtain ⟨t, rfl⟩ := r; rfl
  | str z => obtain ⟨t, rfl⟩ := r; rfl
  | _ => exact absurd (show false = true from f) Bool.false_ne_true
theorem any_eqU {x : V} : ∀ {xs : List V} {us : List Value}, Vals xs us → xs.all flatV = true → us.any (eqU x) = xs.any fun y => eqV y x
  | _, _, .nil, _ => rfl
  | y :: xs, u :: us, .cons r t, f => by
    rw [List.all_cons, Bool.and_eq_true] at f
    rw [List.any_cons, List.any_cons, eqU_of r f.1, any_eqU t f.2]
theorem mem_eqAt {A : Around} {s : Shared} {x : V} {v : Value} (rx : RelV x v) (fx : flatV x = true) : ∀ {xs : List V} {us : List Value}, Vals xs us → xs.all flatV = true → ∀ u ∈ us, SeqAt.EqAt A s u v (eqU x u)
  | _, _, .nil, _ => fun u hu => by cases hu
  | y :: xs, u :: us, .cons r t, f => fun u' hu => by
    rw [List.all_cons, Bool.and_eq_true] at f
    rcases List.mem_cons.mp hu with rfl | hu
    · rw [eqU_of r f.1]; exact eqAt_V r rx f.1 fx
    · exact mem_eqAt rx fx t f.2 u' hu
def inV (x : V) (xs : List V) : Bool := xs.any fun y => eqV y x
def rIn (K : PySem.W.Frag) (neg : Bool) : R2 := fun x y H Q => ∃ p xs, y = .ref p ∧ (SqL K H p xs ∨ SqT K H p xs) ∧ flatV x = true ∧ xs.all flatV = true ∧ Q (.bl (if neg then !inV x xs else inV x xs)) H
theorem op_in_seq : OpR X (compareOp .In) (rIn X.K false) := by
  intro pins s σ H x y v u Q I rx ry h
  obtain ⟨p, xs, rfl, hq, fx, fs, q⟩ := h
  cases ry
  rcases hq with hq | hq
  · obtain ⟨its, r, pl, hz⟩ := I.list hq
    refine SeqAt.in_listAt (eqU x) pl.isList (fun w hw => mem_eqAt rx fx r fs w (by simpa using hw)) ⟨.bl _, H, I, rfl, ?_⟩
    rw [show its.toArray.any (eqU x) = its.any (eqU x) by simp, any_eqU r fs]
    exact q
  · obtain ⟨its, r, pl, hz⟩ := I.tuple hq
    refine SeqAt.in_tupleAt (eqU x) pl (fun w hw => mem_eqAt rx fx r fs w (by simpa using hw)) ⟨.bl _, H, I, rfl, ?_⟩
    rw [show its.toArray.any (eqU x) = its.any (eqU x) by simp, any_eqU r fs]
    exact q
theorem call_len_seq : CallR X (.builtin "len") (fun xs H Q => ∃ p ys, xs = [.ref p] ∧ (SqL X.K H p ys ∨ SqT X.K H p ys) ∧ Q (.int ys.length) H) := by
  intro pins s σ H xs us Q I r h
  obtain ⟨p, ys, rfl, hq, q⟩ := h
  obtain ⟨u, rfl, rx⟩ := vals1 r
  cases rx
  have hn := line63
  rcases hq with hq | hq
  · obtain ⟨its, r', pl, hz⟩ := I.list hq
    have hlen := r'.length
    exact Calls.call_len_list pl.isList (by simp only [List.size_toArray] <;> lia) ⟨.int ys.length, H, I.tok _, ⟨s.toks + 1, by rw [List.size_toArray, hlen]⟩, q⟩
  · obtain ⟨its, r', pl, hz⟩ := I.tuple hq
    have hlen := r'.length
    exact len_tuple pl (by simp only [List.size_toArray] <;> lia) ⟨.int ys.length, H, I.tok _, ⟨s.toks + 1, by rw [List.size_toArray, hlen]⟩, q⟩
theorem call_len_str : CallR X (.builtin "len") (fun xs H Q => ∃ z, xs = [.str z] ∧ z.length ≤ sizeLine ∧ Q (.int z.length) H) := by
  intro pins s σ H xs us Q I r h
  obtain ⟨z, rfl, hz, q⟩ := h
  obtain ⟨u, rfl, t, rfl⟩ := vals1 r
  have hn := line63
  exact len_str (by lia) ⟨.int z.length, H, I.tok _, ⟨_, rfl⟩, q⟩
theorem CallR.or {f : Value} {r r' : List V → Hp → VK → Prop} (h : CallR X f r) (h' : CallR X f r') : CallR X f (fun xs H Q => r xs H Q ∨ r' xs H Q) := by
  intro pins s σ H xs us Q I rs q
  rcases q with q | q
  · exact h pins s σ H xs us Q I rs q
  · exact h' pins s σ H xs us Q I rs q
theorem call_tuple_of : CallR X (.type "tuple") (fun xs H Q => ∃ p ys, xs = [.ref p] ∧ ((SqL X.K H p ys ∧ ∀ l, H l = none → Q (.ref l) (upd H l (.tup ys))) ∨ (SqT X.K H p ys ∧ Q (.ref p) H))) := by
  intro pins s σ H xs us Q I r h
  obtain ⟨p, ys, rfl, h⟩ := h
  obtain ⟨u, rfl, rx⟩ := vals1 r
  cases rx
  rcases h with ⟨hq, q⟩ | ⟨hq, q⟩
  · obtain ⟨its, r', pl, hz⟩ := I.list hq
    have hlen := r'.length
    refine call_tuple_list pl.isList (fun h' kp => ?_) (by simp only [List.size_toArray] <;> lia)
    have I1 : Inv X pins σ H { s with heap := h' } := I.kept (t' := s.toks) kp
    have I2 : Inv X pins σ (upd H h'.objs.size (.tup ys)) { s with heap := h'.push { cls := .type "tuple", data := .seq its.toArray } } :=
      I1.laid (t' := s.toks) (fun b o e => Heap.get?_push_of_some _ e) (Nat.le_refl _) (show ObjOk X.prog X.w _ _ _ (.tup ys) from ⟨hz, its, r', IsTup.new _ _⟩)
    exact ⟨.ref h'.objs.size, _, I2, rfl, q _ (I1.hok.fresh (Nat.le_refl _))⟩
  · obtain ⟨its, r', pl, hz⟩ := I.tuple hq
    exact call_tuple_same pl ⟨.ref p, H, I, rfl, q⟩
def tyV (K : PySem.W.Frag) (T : String) (x : V) (H : Hp) : Prop := match x with
  | .str _ => T = "str"
  | .int _ => T = "int"
  | .ref p => (T = "list" ∧ ∃ xs, SqL K H p xs) ∨ (T = "tuple" ∧ ∃ o, K.lookup p = some o ∧ o.cls = .type "tuple" ∧ o.dict = none) ∨
      (T = "dict" ∧ ((∃ kvs, H p = some (.dK kvs)) ∨ ∃ kvs, H p = some (.dT kvs))) ∨ (T = "set" ∧ ∃ S n, H p = some (.set S n))
  | _ => False
theorem tyV_is {pins : List (Addr × Obj)} {σ : St} {H : Hp} {s : Shared} {T : String} {x : V} {v : Value} (I : Inv X pins σ H s) (r : RelV x v) (ty : tyV X.K T x H) :
    s.TypeIs v T ∧ ∀ a, v = .ref a → ∃ ob, s.heap.get? a = some ob ∧ ob.dict = none := by
  cases x with
  | str z =>
    obtain ⟨t, rfl⟩ := r
    cases (show T = "str" from ty)
    exact ⟨typeIs_str s z t, fun _ e => nomatch e⟩
  | int i =>
    obtain ⟨t, rfl⟩ := r
    cases (show T = "int" from ty)
    exact ⟨typeIs_int s i t, fun _ e => nomatch e⟩
  | ref p =>
    cases r
    rcases ty with ⟨rfl, xs, hq⟩ | ⟨rfl, o, hk, hc, hd⟩ | ⟨rfl, hk⟩ | ⟨rfl, S, n, hk⟩
    · obtain ⟨its, _, pl, _⟩ := I.list hq
      refine ⟨pl.isList.typeIs, fun a e => ?_⟩
      cases e
      obtain ⟨o, n, e, c, hd, _⟩ := pl
      exact ⟨o, e, hd⟩
    · refine ⟨⟨o, I.kIn p o hk, hc⟩, fun a e => ?_⟩
      cases e
      exact ⟨o, I.kIn _ o hk, hd⟩
    · have z : ∃ o, s.heap.get? p = some o ∧ o.ExactDict := by
        rcases hk with ⟨kvs, hk⟩ | ⟨kvs, hk⟩
        · obtain ⟨_, _, _, _, o, _, _, e, ex, _⟩ := I.hok p _ hk
          exact ⟨o, e, ex⟩
        · obtain ⟨_, _, _, _, o, _, _, e, ex, _⟩ := I.hok p _ hk
          exact ⟨o, e, ex⟩
      obtain ⟨o, e, ex⟩ := z
      refine ⟨⟨o, e, ex.1⟩, fun a e2 => ?_⟩
      cases e2
      exact ⟨o, e, ex.2.1⟩
    · obtain ⟨o, _, _, _, e, ex, _⟩ := I.hok p _ hk
      refine ⟨⟨o, e, ex.1⟩, fun a e2 => ?_⟩
      cases e2
      exact ⟨o, e, ex.2.1⟩
  | _ => exact False.elim ty
variable {o e : Expr} {es : List Expr} {to : TE} {t : TA} {name : Str} {apos cpos : Pos} {T id : String} {r : V → List V → Hp → VK → Prop}
end
end L2
namespace L2
open PySem PySem.Spec PyProof.Rows
def MtM (X : Cx) (id : String) (r : V → List V → Hp → VK → Prop) : Prop :=
  ∀ (pins : List (Addr × Obj)) (s : Shared) (σ : St) (H : Hp) (x : V) (xs : List V) (v : Value) (us : List Value) (Q : VK), Inv X pins σ H s → RelV x v → Vals xs us → r x xs H Q →
    wpAny (model X.prog X.w) X.A (call (.builtin id) (v :: us)) (EP X pins σ Q) X.xe s
theorem Vals.one : ∀ {x : V} {us : List Value}, Vals [x] us → ∃ u, us = [u] ∧ RelV x u
  | _, _, .cons r .nil => ⟨_, rfl, r⟩
section
variable {X : Cx} {pins : List (Addr × Obj)} {σ : St} {H : Hp} {s : Shared} {l b : Addr} {xs ys zs : List V}
theorem Inv.lset {its its' : List Value} {n : Nat} {f : Array Value → Array Value} {t' : Nat} (I : Inv X pins σ H s) (hH : H l = some (.lst xs))
    (e : s.heap.get? l = some { cls := .type "list", data := .seq its.toArray n }) (hf : f its.toArray = its'.toArray) (hv : Vals ys its') (hz : ys.length ≤ sizeLine) :
    Inv X pins σ (upd H l (.lst ys)) { s with heap := s.heap.update l (Obj.mapSeq f), toks := t' } := by
  have q := PySem.IsL.update e f
  rw [hf] at q
  refine I.write (x := l) (e := l) (by rw [hH]; exact trivial) (.inl rfl) (fun b' u hb hu => (Heap.get?_update_other s.heap (Obj.mapSeq f) (Ne.symm hb)).trans hu) ⟨_, q⟩ ?_
  exact ⟨hz, its', _, hv, q⟩
theorem Inv.lnew {its : List Value} {t' : Nat} (I : Inv X pins σ H s) (hv : Vals ys its) (hz : ys.length ≤ sizeLine) :
    Inv X pins σ (upd H s.heap.objs.size (.lst ys)) { s with heap := s.heap.push { cls := .type "list", data := .seq its.toArray }, toks := t' } :=
  I.laid (fun _ _ q => Heap.get?_push_of_some _ q) (Nat.le_refl _) ⟨hz, its, 0, hv, Heap.get?_push_size _ rfl⟩
theorem Inv.fresh (I : Inv X pins σ H s) : H s.heap.objs.size = none := I.hok.fresh (Nat.le_refl _)
theorem Inv.lstM (I : Inv X pins σ H s) (hH : H l = some (.lst xs)) : xs.length ≤ sizeLine ∧ ∃ (its : List Value) (n : Nat), Vals xs its ∧ xs.length = its.length ∧ s.heap.get? l = some { cls := .type "list", data := .seq its.toArray n } := by
  obtain ⟨z, its, n, r, e⟩ := I.hok l _ hH
  exact ⟨z, its, n, r, r.length, e⟩
theorem notLongL {n : Nat} (h : n ≤ sizeLine) : Builtin.List.listTooLong n = false := by
  unfold Builtin.List.listTooLong
  exact decide_eq_false (by lia)
end
section
variable {X : Cx}
def rAppend : V → List V → Hp → VK → Prop := fun x vs H Q => ∃ l xs y, x = .ref l ∧ vs = [y] ∧ H l = some (.lst xs) ∧ xs.length < sizeLine ∧ Q .non (upd H l (.lst (xs ++ [y])))
theorem mt_append : MtM X "list.append" rAppend := by
  intro pins s σ H x vs v us Q I rx rv h
  obtain ⟨l, xs, y, rfl, rfl, hH, hz, q⟩ := h
  cases rx
  obtain ⟨u, rfl, ru⟩ := rv.one
  obtain ⟨z, its, n, r, hl, e⟩ := I.lstM hH
  refine call_meets F.slot_list_append ⟨_, e, rfl⟩ F.entry_list_append (F.args_list_append_2 _ _) (PySem.list_append l its.toArray n u (by rw [List.size_toArray]; lia)) ⟨e, ?_⟩
  refine ⟨.non, _, I.lset (its' := its ++ [u]) hH e (by simp) (r.append (.cons ru .nil)) ?_, rfl, q⟩
  rw [List.length_append, List.length_singleton]
  lia
def rExtend : V → List V → Hp → VK → Prop := fun x vs H Q => ∃ l b xs zs, x = .ref l ∧ vs = [.ref b] ∧ H l = some (.lst xs) ∧ H b = some (.lst zs) ∧ xs.length + zs.length ≤ sizeLine ∧ Q .non (upd H l (.lst (xs ++ zs)))
theorem mt_extend : MtM X "list.extend" rExtend := by
  intro pins s σ H x vs v us Q I rx rv h
  obtain ⟨l, b, xs, zs, rfl, rfl, hH, hB, hz, q⟩ := h
  cases rx
  obtain ⟨u, rfl, ru⟩ := rv.one
  cases ru
  obtain ⟨z, its, n, r, hl, e⟩ := I.lstM hH
  obtain ⟨z2, its2, n2, r2, hl2, e2⟩ := I.lstM hB
  have hsz : its.toArray.size + its2.toArray.size ≤ sizeLine := by rw [List.size_toArray, List.size_toArray]; lia
  have hlong : ¬ (!its.toArray.isEmpty && Builtin.List.listTooLong (its.toArray.size + its2.toArray.size)) = true := by
    rw [notLongL hsz, Bool.and_false]
    exact Bool.false_ne_true
  refine call_meets F.slot_list_extend ⟨_, e, rfl⟩ F.entry_list_extend (F.args_list_extend_2 _ _)
    (AutoSeq1.list_extend_list_list_0 l its.toArray n b its2.toArray n2 hlong (by rw [List.size_toArray]; lia) (by lia)) ⟨e, e2, ?_⟩
  refine ⟨.non, _, I.lset (its' := its ++ its2) hH e (by simp) (r.append r2) ?_, rfl, q⟩
  rw [List.length_append]
  lia
end
section
variable {prog : Program} {w : World} {A : Around} {E : Value → Shared → Prop} {s : Shared}
end
section
variable {X : Cx}
end
end L2
namespace Att
open PySem PySem.W PySem.Calls PyProof.Rows
theorem ints_of_wellAll {P : Params} {h : Heap} : ∀ (ns : List Int) (vs : List Value), WellAll P h vs (ns.map WData.int) → IntsAre vs ns := by
  intro ns
  induction ns with
  | nil =>
    intro vs w
    rw [List.map_nil] at w
    cases w
    exact .nil
  | cons n ns ih =>
    intro vs w
    rw [List.map_cons] at w
    cases w with
    | cons a b =>
      cases a
      exact .cons _ _ (ih _ b)
theorem script_of {l : OpenLaw} {n : Nat} (hn : l.most = some n) {P : Params} {h : Heap} {args : List WData} {vals : List Value}
    (hpre : l.row.toRowW.claim.pre args = true) (hwl : WellAll P h vals args) :
    ∃ a vs ns, vals = [Value.ref a] ∧ args = [WData.list (ns.map WData.int)] ∧ h.get? a = some { cls := .type "list", data := .seq vs.toArray } ∧ IntsAre vs ns ∧ ns.length ≤ n := by
  have hsh : WShape.hasAll [] args [.list .int] = true := (pre_splitW hpre).1
  have hc : l.pre.holds [] { args := args } = true := (pre_splitW hpre).2
  obtain ⟨d, r, rfl, h1, h2⟩ := hasAllW_cons hsh
  obtain rfl := hasAllW_nil h2
  obtain ⟨xs, rfl, h3⟩ := hasW_list h1
  obtain ⟨ns, rfl⟩ := items_int h3
  have hlen : ns.length ≤ n := by
    unfold OpenLaw.pre at hc
    have h4 : (WTm.not (.lt (.lit (.int (n : Int))) (.len (.arg 0)))).holds [] { args := [.list (ns.map .int)] } = true := by
      have h4 := (holds_andW hc).1
      rw [hn] at h4
      exact h4
    have h5 := condW_of h4 (w_not (w_lt w_lit (w_len_list (w_arg rfl))))
    rw [List.length_map] at h5
    refine Nat.le_of_not_lt fun q => ?_
    have q' : (n : Int) < ((ns.length : Nat) : Int) := by lia
    first
      | (rw [decide_eq_true q'] at h5; exact absurd h5 (by decide))
      | (simp at h5; lia)
  cases hwl with
  | cons w1 w2 =>
    cases w2
    cases w1 with
    | list ho hall => exact ⟨_, _, ns, rfl, rfl, ho, ints_of_wellAll ns _ hall, hlen⟩
theorem post_true (l : OpenLaw) (args : List WData) : l.row.toRowW.claim.post args (.bool true) args = true :=
  postW_of (r := l.row.toRowW) (X := (true == true))
    (show WShape.has [] (.bool true) .bool = true by first | rfl | decide | simp [WShape.has, WShape.arms, WShape.armsAll])
    (show (WTm.eq .res (.lit (.bool true))).value [] { args := args, res := some (.bool true), after := args } = some (.bool (true == true)) from w_eq_bool (w_res rfl) w_lit) rfl
theorem attach_call {l : OpenLaw} {n : Nat} {q : Program} {loose : List Str} {XP : (Str → Option Value) → Heap → Prop} {YP : World → Heap → Prop} {d : DefRec}
    (hn : l.most = some n) (hdf : d.params.defaults = [])
    (call : ∀ (w : World) (s₀ s₁ : Shared) (mg mb : Str → Option Value) (fa : Addr) (o : Obj) (pm cd doc : Value) (a : Addr) (vs : List Value) (ns : List Int),
      Ground q loose [] XP w s₀ mg mb s₁.heap → YP w s₁.heap →
      s₁.heap.get? fa = some o → o.data = .func (docDef d.name d.params d.body d.scope pm cd doc) → s₁.heap.CodeRec cd d.name → mg d.name = some (.ref fa) →
      s₁.heap.get? a = some { cls := .type "list", data := .seq vs.toArray } → IntsAre vs ns → ns.length ≤ n → s₁.gens = #[] →
      codeAny (model l.prog w) callerA (.call (.ref fa) ⟨[.ref a], []⟩) (fun r s' => r = .ok (.ret (.bool true)) ∧ OldK s₁.heap s'.heap ∧ s'.os = s₁.os ∧ AllBare s'.gens) s₁) :
    WalkO q loose XP YP l.row.toRowW d [] (fun f vs => PySem.call f vs) := by
  intro w s₀ s₁ mg mb G Y fa o pm cd doc dV kV ho hd hcd hD hmg hg args vals as hpre hlay hrd hwl hlo
  obtain rfl : dV = .none := Dflts.none hD hdf
  obtain rfl : kV = .none := Dflts.noKw hD
  obtain ⟨a, vs, ns, rfl, rfl, hobj, hints, hlen⟩ := script_of hn hpre hwl
  refine enter_call (codeAny_mono (call w s₀ s₁ mg mb fa o pm cd doc a vs ns G Y ho (fd_plain hd) hcd hmg hobj hints hlen hg) fun r s' hq => ?_)
  obtain ⟨rfl, h2, h3, h4⟩ := hq
  exact ⟨.inl ⟨.bool true, .bool true, [], rfl, fun _ => rfl, .bool true, post_true l _, fun _ => ⟨List.Pairwise.nil, fun _ hm => (nomatch hm)⟩⟩, h2, h3, h4⟩
section
variable {prog : Program} {w : World} {A : Around} {E : Value → Shared → Prop} {s : Shared} {K : Frag}
end
end Att
namespace L2
open PySem PySem.Spec PyProof.Rows
theorem vals_ints : ∀ {vs : List Value} {ns : List Int}, IntsAre vs ns → Vals (ns.map V.int) vs
  | _, _, .nil => .nil
  | _, _, .cons n t h => .cons ⟨t, rfl⟩ (vals_ints h)
def Only (H : Hp) : Prop := ∀ b, H b = none ∨ ∃ o xs, H b = some (.frz o (.lst xs))
theorem law_call {P : Program} {w : World} {K : PySem.W.Frag} {mg mb : Str → Option Value} {CX : CXT} {k : Nat} {fa a : Addr} {fd : FuncData} {x : Str} {sp : Sp} {s₁ : Shared} {vs : List Value} {ns : List Int}
    (KX : K.In s₁.heap) (hns : s₁.heap.Ns mainGlobals mg) (hb : s₁.heap.Ns builtinsNs mb) (hbb : ∀ x : Str, x ≠ "__name__" → mb x = bootBuiltins x) (hlim : s₁.heap.NoLimit) (hg : s₁.gens = #[])
    (ha : s₁.heap.get? a = some { cls := .type "list", data := .seq vs.toArray }) (hi : IntsAre vs ns) (hl : ns.length ≤ sizeLine) (hr : Room k callerA)
    (F : ∀ base : Heap, K.In base → base.Ns mainGlobals mg → FnOk P w K mg base CX k fa fd [x] sp) (hbind : ∀ (s : Shared) (u : Value), BindsTo s fd ⟨[u], []⟩ [(x, u)])
    (hsp : ∀ H : Hp, Only H → SqL K H a (ns.map V.int) → sp [.ref a] H (fun v _ => v = .bl true) fun _ _ _ => False)
    (hCX : ∀ H e s', CX [] H s₁ (fun _ _ _ => False) e s' → False) :
    codeAny (model P w) callerA (.call (.ref fa) ⟨[.ref a], []⟩) (fun r s' => r = .ok (.ret (.bool true)) ∧ OldK s₁.heap s'.heap ∧ s'.os = s₁.os ∧ AllBare s'.gens) s₁ := by
  have rv := vals_ints hi
  have lenV := hi.length
  have core : ∀ H : Hp, Only H → SqL K H a (ns.map V.int) → HOk P w H s₁.heap → (∀ b, H b ≠ none → b = a) → (H a ≠ none → K.lookup a = none) →
      codeAny (model P w) callerA (.call (.ref fa) ⟨[.ref a], []⟩) (fun r s' => r = .ok (.ret (.bool true)) ∧ OldK s₁.heap s'.heap ∧ s'.os = s₁.os ∧ AllBare s'.gens) s₁ := by
    intro H hO hS hok hA hK
    have base_of : ∀ {b : Addr} {o : Obj}, s₁.heap.get? b = some o → H b = none → (hidT s₁.heap H).get? b = some o := fun e n => hidT_get e n
    have noA : ∀ {b : Addr} {o : Obj} {es : Array DictEntry} {ep : Nat}, s₁.heap.get? b = some o → o.data = .dict es ep → H b = none := fun {b o es ep} e d => by
      cases q : H b with
      | none => rfl
      | some u =>
        have e' : b = a := hA b (by rw [q]; simp)
        subst e'
        rw [ha] at e; cases e
        have d' : Data.seq vs.toArray _ = Data.dict es ep := d
        cases d'
    have nsK : ∀ {b : Addr} {m : Str → Option Value}, s₁.heap.Ns b m → (hidT s₁.heap H).Ns b m := fun {b m} ⟨o, es, ep, e, d, r⟩ => ⟨o, es, ep, base_of e (noA e d), d, r⟩
    have hKb : K.In (hidT s₁.heap H) := fun b o e => base_of (KX b o e) (by
      cases q : H b with
      | none => rfl
      | some u =>
        have e' : b = a := hA b (by rw [q]; simp)
        subst e'
        rw [hK (by rw [q]; simp)] at e; cases e)
    have hM : Mod K mg (hidT s₁.heap H) := ⟨hKb, nsK hns, ⟨mb, nsK hb, hbb⟩, let ⟨mc, h1, h2⟩ := hlim; ⟨mc, nsK h1, h2⟩⟩
    have e0 : Env0 P w K mg (hidT s₁.heap H) callerA [] s₁ H := ⟨rfl, hM, fun b o e => of_hidT e, Nat.le_of_eq (hidT_size _ _), trivial, fun b hb => absurd (show b ∈ ([] : List Addr) from hb) (by simp), hok, .of_eq hg⟩
    refine codeAny_mono ((F _ hKb (nsK hns)).run callerA [] s₁ H ⟨[.ref a], []⟩ [.ref a] [.ref a] _ _ hr e0 (hbind s₁ (.ref a)) (.cons rfl .nil) (hsp H hO hS)) fun r s' h => ?_
    cases r with
    | error e => exact (hCX H e s' h).elim
    | ok fl =>
      cases fl with
      | next => exact False.elim h
      | brk => exact False.elim h
      | cont => exact False.elim h
      | ret u =>
        obtain ⟨v, H', os, bare, un, hok', r', q⟩ := h
        have q' : v = .bl true := q
        subst q'
        obtain rfl : u = Value.bool true := r'
        refine ⟨rfl, OldK.of_keep fun b o e => ?_, os, bare⟩
        cases q : H b with
        | none => exact un.keep b o e q (by intro z; exact absurd (show b ∈ ([] : List Addr) from z) (by simp)) (by simp)
        | some u =>
          rcases hO b with z | ⟨ob, xs, z⟩
          · rw [q] at z; cases z
          · have z2 := un.frzs b ob _ z
            obtain ⟨e1, _⟩ := hok b _ z
            obtain ⟨e2, _⟩ := hok' b _ z2
            rw [e] at e1; cases e1
            exact e2
  cases hk : K.lookup a with
  | some o =>
    have e := KX a o hk
    rw [ha] at e
    cases e
    refine core (fun _ => none) (fun _ => .inl rfl) (.inr ⟨_, vs.toArray, _, hk, rfl, rfl, rfl, by rw [List.size_toArray, lenV]; exact hl, by simpa using rv⟩) (fun b u z => by have z' : (none : Option HO) = some u := z; cases z') (fun b z => absurd rfl z) fun z => absurd rfl z
  | none =>
    refine core (fun b => if b = a then some (.frz { cls := .type "list", data := .seq vs.toArray } (.lst (ns.map V.int))) else none) (fun b => ?_) (.inl (.inr ⟨{ cls := .type "list", data := .seq vs.toArray }, if_pos rfl⟩)) (fun b u z => ?_) (fun b z => ?_) fun _ => hk
    · by_cases hb : b = a
      · exact .inr ⟨_, _, if_pos hb⟩
      · exact .inl (if_neg hb)
    · by_cases hb : b = a
      · have z' := (if_pos hb).symm.trans z
        cases z'
        subst hb
        exact ⟨ha, by rw [List.length_map]; exact hl, vs, _, rv, ha⟩
      · have z' := (if_neg hb).symm.trans z
        cases z'
    · by_cases hb : b = a
      · exact hb
      · exact absurd (if_neg hb) z
end L2
namespace L2
open PySem PySem.Spec PyProof.Rows
theorem walk_of {l : PySem.W.OpenLaw} {n k : Nat} {q : Program} {loose : List Str} {XP : (Str → Option Value) → Heap → Prop} {YP : World → Heap → Prop} {d : DefRec} {K : Params → PySem.W.Frag} {CX : World → CXT} {sp : World → Sp} {x : Str}
    (hn : l.most = some n) (hn2 : n ≤ sizeLine) (hdf : d.params.defaults = []) (hr : Room k callerA)
    (hY : ∀ (w : World) (h : Heap), YP w h → (K w.params).In h)
    (F : ∀ (w : World) (mg : Str → Option Value) (fa : Addr) (h : Heap), (K w.params).In h → h.Ns mainGlobals mg → mg d.name = some (.ref fa) →
      ∃ fd : FuncData, (∀ (s : Shared) (u : Value), BindsTo s fd ⟨[u], []⟩ [(x, u)]) ∧
        ∀ base : Heap, (K w.params).In base → base.Ns mainGlobals mg → FnOk l.prog w (K w.params) mg base (CX w) k fa fd [x] (sp w))
    (hsp : ∀ (w : World) (H : Hp) (a : Addr) (ns : List Int), ns.length ≤ n → Only H → SqL (K w.params) H a (ns.map V.int) → sp w [.ref a] H (fun v _ => v = .bl true) fun _ _ _ => False)
    (hCX : ∀ (w : World) (H : Hp) (s : Shared) (e : Value) (s' : Shared), CX w [] H s (fun _ _ _ => False) e s' → False) :
    PySem.W.WalkO q loose XP YP l.row.toRowW d [] (fun f vs => PySem.call f vs) := by
  refine Att.attach_call hn hdf fun w s₀ s₁ mg mb fa o pm cd doc a vs ns G Y ho hd hcd hmg hobj hints hlen hg => ?_
  have KX := hY w _ Y
  obtain ⟨fd, hb, hF⟩ := F w mg fa _ KX G.T.g hmg
  exact law_call KX G.T.g G.T.b G.T.builtins G.T.nolimit hg hobj hints (Nat.le_trans hlen hn2) hr hF hb (fun H hO hS => hsp w H a ns hlen hO hS) fun H e s' => hCX w H s₁ e s'
end L2
namespace L2
open PySem PySem.Spec PyProof.Rows
def defArgs (s : Stmt) : Arguments := match s with
  | .FunctionDef _ a _ _ _ _ _ _ _ _ => a
  | _ => { posonlyargs := [], args := [], vararg := none, kwonlyargs := [], kw_defaults := [], kwarg := none, defaults := [] }
def defBody (s : Stmt) : List Stmt := match s with
  | .FunctionDef _ _ b _ _ _ _ _ _ _ => b
  | _ => []
def defScope (s : Stmt) : Scope := match s with
  | .FunctionDef _ _ _ _ _ _ sc _ _ _ => sc
  | _ => { kind := .function, names := [], isGenerator := false, isCoroutine := false }
abbrev CX0 : CXT := fun _ _ _ _ _ _ => False
abbrev E0 : XK := fun _ _ _ => False
theorem pass0 {X : Cx} : Passes CX0 X E0 := fun _ _ _ _ _ _ _ h => h.elim
structure Fun (K : PySem.W.Frag) (x qual : Str) (st : Stmt) (f : Addr) (fd : FuncData) : Prop where
  ex : ∃ (oc : Value) (od : Option Addr) (kV doc pm : Value) (an : Option Addr) (cdv ct : Value) (osl : Array (Option Value)),
    fd = PySem.W.fnOf x qual (defArgs st) (defBody st) (defScope st) .none kV doc pm an cdv ct ∧ K.lookup f = some ⟨oc, od, .func fd, osl⟩ ∧ PySem.W.codeIn K cdv qual = true
  kp : PySem.W.keepIn K (.ref f) = true
section
variable {P : Program} {w : World} {K : PySem.W.Frag} {mg : Str → Option Value} {base : Heap}
theorem Fun.ok {x qual : Str} {st : Stmt} {f : Addr} {fd : FuncData} {N ps : List Str} {k : Nat} {sp : Sp} (F : Fun K x qual st f fd) (S : FnScope N ps (defScope st)) (len : ∀ vs H Q E, sp vs H Q E → vs.length = ps.length)
    (hbody : ∀ (cdv : Value) (A : Around) (outer : List Env) (s : Shared) (H : Hp) (vs : List V) (Q : VK) (E : XK), Room k (A.deeper (envOfC qual (defScope st) s.heap.objs.size f cdv)) → sp vs H Q E →
      ∃ t, PSs (cxOf CX0 P w K mg base N qual (defScope st) f cdv A outer s H E).nox (defBody st) t ∧ t { nx := fun _ H' => Q .non H', rt := Q } (start N vs) H) : FnOk P w K mg base CX0 (k + 1) f fd ps sp := by
  obtain ⟨oc, od, kV, doc, pm, an, cdv, ct, osl, rfl, lk, hcd⟩ := F.ex
  refine fn_of lk hcd S len fun A outer s H vs Q E hr hsp => ?_
  obtain ⟨t, h, q⟩ := hbody cdv A outer s H vs Q E hr hsp
  exact ⟨t, h.nox, q⟩
theorem Fun.binds {x qual : Str} {st : Stmt} {f : Addr} {fd : FuncData} {ps : List Str} (F : Fun K x qual st f fd)
    (h : ∀ (kV doc pm : Value) (an : Option Addr) (cdv ct : Value) (us : List Value), us.length = ps.length → bindArgs (PySem.W.fnOf x qual (defArgs st) (defBody st) (defScope st) .none kV doc pm an cdv ct) ⟨us, []⟩ = pure (ps.zip us)) : Binds K fd ps [] := by
  obtain ⟨oc, od, kV, doc, pm, an, cdv, ct, osl, rfl, lk, hcd⟩ := F.ex
  exact .all (h kV doc pm an cdv ct)
theorem fun_mk {x qual : Str} {st : Stmt} {f : Addr} {oc : Value} {od an : Option Addr} {osl : Array (Option Value)} {kV doc pm cdv ct : Value} (l : K.lookup f = some ⟨oc, od, .func (PySem.W.fnOf x qual (defArgs st) (defBody st) (defScope st) .none kV doc pm an cdv ct), osl⟩)
    (c : PySem.W.codeIn K cdv qual = true) (k : PySem.W.keepIn K (.ref f) = true) : Fun K x qual st f (PySem.W.fnOf x qual (defArgs st) (defBody st) (defScope st) .none kV doc pm an cdv ct) := ⟨⟨oc, od, kV, doc, pm, an, cdv, ct, osl, rfl, l, c⟩, k⟩
end
section
variable {X : Cx}
end
end L2
set_option Elab.async false
set_option linter.all false
set_option maxRecDepth 100000
namespace L2
open PySem PySem.Spec PyProof.Rows
section
variable {κ : Type} [DecidableEq κ]
def valV (kvs : List (κ × V)) (k : κ) : Option V := (kvs.find? fun kv => decide (kv.1 = k)).map (·.2)
def putK (kvs : List (κ × V)) (k : κ) (v : V) : List (κ × V) :=
  if (kvs.any fun kv => decide (kv.1 = k)) = true then kvs.map (fun kv => if kv.1 = k then (kv.1, v) else kv) else kvs ++ [(k, v)]
theorem valV_pos {p : κ × V} {r : List (κ × V)} {k : κ} (e : p.1 = k) : valV (p :: r) k = some p.2 := by simp [valV, List.find?_cons, e]
theorem valV_neg {p : κ × V} {r : List (κ × V)} {k : κ} (e : ¬ p.1 = k) : valV (p :: r) k = valV r k := by simp [valV, List.find?_cons, e]
theorem valV_any (k : κ) : ∀ kvs : List (κ × V), (kvs.any fun kv => decide (kv.1 = k)) = (valV kvs k).isSome
  | [] => rfl
  | p :: r => by
    rw [List.any_cons]
    by_cases e : p.1 = k
    · simp only [valV_pos e, decide_eq_true e, Bool.true_or, Option.isSome_some]
    · rw [valV_neg e, decide_eq_false e, Bool.false_or]; exact valV_any k r
theorem length_putK (kvs : List (κ × V)) (k : κ) (v : V) : (putK kvs k v).length ≤ kvs.length + 1 := by
  unfold putK
  split
  · rw [List.length_map]; lia
  · rw [List.length_append, List.length_cons, List.length_nil]; lia
theorem RelO.isSome_eq {o : Option V} {u : Option Value} (r : RelO o u) : o.isSome = u.isSome := by
  cases o with
  | none => cases u with
    | none => rfl
    | some _ => exact (show False from r).elim
  | some _ => cases u with
    | none => exact (show False from r).elim
    | some _ => rfl
theorem KV.val {kvs : List (κ × V)} {vs : List (κ × Value)} (r : KV kvs vs) (k : κ) : RelO (valV kvs k) (valueAt vs k) := by
  unfold KV at r
  induction r with
  | nil => exact True.intro
  | @cons p q ps qs h t ih =>
    obtain ⟨h1, h2⟩ := h
    by_cases e : p.1 = k
    · have e' : q.1 = k := h1.symm.trans e
      have b : valueAt (q :: qs) k = some q.2 := by simp [valueAt, List.find?_cons, e']
      rw [valV_pos e, b]; exact h2
    · have e' : ¬ q.1 = k := fun z => e (h1.trans z)
      have b : valueAt (q :: qs) k = valueAt qs k := by simp [valueAt, List.find?_cons, e']
      rw [valV_neg e, b]; exact ih
theorem KV.any {kvs : List (κ × V)} {vs : List (κ × Value)} (r : KV kvs vs) (k : κ) : (kvs.any fun kv => decide (kv.1 = k)) = vs.any fun kv => decide (kv.1 = k) := by
  unfold KV at r
  induction r with
  | nil => rfl
  | cons h t ih => rw [List.any_cons, List.any_cons, ih, h.1]
theorem KV.repl {kvs : List (κ × V)} {vs : List (κ × Value)} (r : KV kvs vs) (k : κ) {y : V} {u : Value} (ry : RelV y u) :
    KV (kvs.map fun kv => if kv.1 = k then (kv.1, y) else kv) (vs.map fun kv => if kv.1 = k then (kv.1, u) else kv) := by
  unfold KV at r ⊢
  induction r with
  | nil => exact .nil
  | @cons p q ps qs h t ih =>
    rw [List.map_cons, List.map_cons]
    refine .cons ?_ ih
    obtain ⟨h1, h2⟩ := h
    by_cases e : p.1 = k
    · rw [if_pos e, if_pos (h1.symm.trans e)]; exact ⟨h1, ry⟩
    · rw [if_neg e, if_neg (fun z => e (h1.trans z))]; exact ⟨h1, h2⟩
theorem KV.put {kvs : List (κ × V)} {vs : List (κ × Value)} (r : KV kvs vs) (k : κ) {y : V} {u : Value} (ry : RelV y u) : KV (putK kvs k y) (stored vs k u) := by
  unfold putK stored
  rw [r.any k]
  by_cases e : (vs.any fun kv => decide (kv.1 = k)) = true
  · rw [if_pos e, if_pos e]; exact r.repl k ry
  · rw [if_neg e, if_neg e]; exact Paired.snoc r ⟨rfl, ry⟩
theorem KV.length {kvs : List (κ × V)} {vs : List (κ × Value)} (r : KV kvs vs) : kvs.length = vs.length := Paired.length r
end
theorem kV_is {P : Program} {w : World} {k : Key} {u : Value} (r : RelV (kV k) u) : (mixKind P w).is k u = true := by
  cases k with
  | inl i => obtain ⟨t, e⟩ := (show ∃ t, u = Value.int i t from r); subst e; exact mixKind_int P w i t
  | inr x => obtain ⟨t, e⟩ := (show ∃ t, u = Value.str x t from r); subst e; exact mixKind_str P w x t
theorem items_are {P : Program} {w : World} : ∀ {ks : List Key} {us : List Value}, Vals (ks.map kV) us → ItemsAre (mixKind P w) ks us
  | [], _, r => by rw [List.map_nil] at r; cases r; exact .nil
  | k :: ks, _, r => by
    rw [List.map_cons] at r
    cases r with
    | cons h t => exact .cons (kV_is h) (items_are t)
abbrev KT (H : Hp) : List (List Key × V) → List (List Key × Addr × Value) → Prop := Paired fun p q => p.1 = q.1 ∧ H q.2.1 = some (.tup (p.1.map kV)) ∧ RelV p.2 q.2.2
theorem KT.val {H : Hp} {kvs : List (List Key × V)} {xs : List (List Key × Addr × Value)} (r : KT H kvs xs) (k : List Key) : RelO (valV kvs k) ((atKey xs k).map (·.2)) := by
  induction r with
  | nil => exact True.intro
  | @cons p q ps qs h t ih =>
    obtain ⟨h1, _, h2⟩ := h
    by_cases e : p.1 = k
    · have e' : q.1 = k := h1.symm.trans e
      have b : atKey (q :: qs) k = some q.2 := by simp [atKey, List.find?_cons, e']
      rw [valV_pos e, b]; exact h2
    · have e' : ¬ q.1 = k := fun z => e (h1.trans z)
      have b : atKey (q :: qs) k = atKey qs k := by simp [atKey, List.find?_cons, e']
      rw [valV_neg e, b]; exact ih
theorem KT.repl {H : Hp} {kvs : List (List Key × V)} {xs : List (List Key × Addr × Value)} (r : KT H kvs xs) (k : List Key) {y : V} {u : Value} (ry : RelV y u) :
    KT H (kvs.map fun kv => if kv.1 = k then (kv.1, y) else kv) (xs.map (putAt k u)) := by
  induction r with
  | nil => exact .nil
  | @cons p q ps qs h t ih =>
    rw [List.map_cons, List.map_cons]
    refine .cons ?_ ih
    obtain ⟨h1, h2, h3⟩ := h
    unfold putAt
    by_cases e : p.1 = k
    · rw [if_pos e, if_pos (h1.symm.trans e)]; exact ⟨h1, h2, ry⟩
    · rw [if_neg e, if_neg (fun z => e (h1.trans z))]; exact ⟨h1, h2, h3⟩
theorem KT.put {H : Hp} {kvs : List (List Key × V)} {xs : List (List Key × Addr × Value)} (r : KT H kvs xs) (k : List Key) {b : Addr} {y : V} {u : Value} (hb : H b = some (.tup (k.map kV))) (ry : RelV y u) :
    KT H (putK kvs k y) (storedH xs k b u) := by
  have e : (kvs.any fun kv => decide (kv.1 = k)) = (atKey xs k).isSome := by
    rw [valV_any, (r.val k).isSome_eq, Option.isSome_map]
  unfold putK storedH
  rw [e]
  by_cases q : (atKey xs k).isSome = true
  · rw [if_pos q, if_pos q]; exact r.repl k ry
  · rw [if_neg q, if_neg q]; exact Paired.snoc r ⟨rfl, hb, ry⟩
theorem KT.keeps {H H' : Hp} {kvs : List (List Key × V)} {xs : List (List Key × Addr × Value)} (r : KT H kvs xs) (ht : ∀ b ys, H b = some (.tup ys) → H' b = some (.tup ys)) : KT H' kvs xs :=
  Paired.mapP r fun _ _ z => ⟨z.1, ht _ _ z.2.1, z.2.2⟩
section
variable {P : Program} {w : World} {H : Hp} {h : Heap} {a : Addr}
theorem rd_of {u : HO} (ok : HOk P w H h) (e : Rd H a u) : ObjOk P w H h a u := e.ok ok
theorem dk_rd {kvs : List (Key × V)} (ok : HOk P w H h) (e : Rd H a (.dK kvs)) : kvs.length ≤ sizeLine ∧ (a == sysModules) = false ∧ ∃ vs, KV kvs vs ∧ h.DictOf (mixKind P w) a vs :=
  show ObjOk P w H h a (.dK kvs) from rd_of ok e
theorem dk_of {kvs : List (Key × V)} (ok : HOk P w H h) (e : H a = some (.dK kvs)) : kvs.length ≤ sizeLine ∧ (a == sysModules) = false ∧ ∃ vs, KV kvs vs ∧ h.DictOf (mixKind P w) a vs := dk_rd ok (.inl e)
theorem key_of {ks : List Key} (ok : HOk P w H h) (e : H a = some (.tup (ks.map kV))) : (tupleKind (mixKind P w)).is h ks a := by
  obtain ⟨_, its, r, o, h1, h2, n, h3⟩ := (show ObjOk P w H h a (.tup (ks.map kV)) from ok a _ e)
  exact ⟨o, its.toArray, n, h1, h2, h3, by simpa using items_are r⟩
theorem dt_rd {kvs : List (List Key × V)} (ok : HOk P w H h) (e : Rd H a (.dT kvs)) : kvs.length ≤ sizeLine ∧ (a == sysModules) = false ∧
    ∃ xs, KT H kvs xs ∧ h.DictOfH (tupleKind (mixKind P w)) a xs := by
  obtain ⟨z, y, xs, r, o, es, ep, h1, h2, h3, h4, h5⟩ := (show ObjOk P w H h a (.dT kvs) from rd_of ok e)
  refine ⟨z, y, xs, r, o, es, ep, h1, h2, h3, h4, fun x hx => ?_, h5⟩
  have all : ∀ {l : List (List Key × V)} {m : List (List Key × Addr × Value)}, KT H l m → ∀ x ∈ m, (tupleKind (mixKind P w)).is h x.1 x.2.1 := by
    intro l m q
    induction q with
    | nil => intro x hx; exact nomatch hx
    | @cons p q ps qs hq t ih =>
      intro x hx
      rcases List.mem_cons.mp hx with e | hx
      · subst e
        exact key_of ok (by rw [← hq.1]; exact hq.2.1)
      · exact ih x hx
  exact all r x hx
theorem dt_of {kvs : List (List Key × V)} (ok : HOk P w H h) (e : H a = some (.dT kvs)) : kvs.length ≤ sizeLine ∧ (a == sysModules) = false ∧
    ∃ xs, KT H kvs xs ∧ h.DictOfH (tupleKind (mixKind P w)) a xs := dt_rd ok (.inl e)
end
def DGet (H : Hp) (a : Addr) (y : V) (r : Option V) : Prop :=
  (∃ kvs k, Rd H a (.dK kvs) ∧ y = kV k ∧ r = valV kvs k) ∨ ∃ kvs k b, Rd H a (.dT kvs) ∧ y = .ref b ∧ H b = some (.tup (k.map kV)) ∧ r = valV kvs k
def DPut (H : Hp) (a : Addr) (y v : V) (H' : Hp) : Prop :=
  (∃ kvs k, H a = some (.dK kvs) ∧ y = kV k ∧ kvs.length < sizeLine ∧ H' = upd H a (.dK (putK kvs k v))) ∨
  ∃ kvs k b, H a = some (.dT kvs) ∧ y = .ref b ∧ H b = some (.tup (k.map kV)) ∧ kvs.length < sizeLine ∧ H' = upd H a (.dT (putK kvs k v))
section
variable {X : Cx} {pins : List (Addr × Obj)} {σ : St} {H : Hp} {s : Shared} {a : Addr} {y v : V} {u r : Value} {o : Option V} {A : Around} {E : Value → Shared → Prop}
theorem Inv.big (I : Inv X pins σ H s) : sysModules < s.heap.objs.size := by
  have h : mainGlobals < s.heap.objs.size := (I.mod.glob.keeps I.bk).lt
  exact Nat.lt_trans (by decide) h
theorem d_getItem {Q : Value → Shared → Prop} (hu : A.units + 1 < cLine) (I : Inv X pins σ H s) (g : DGet H a y (some v)) (ry : RelV y u) (h : ∀ w' s', Inv X pins σ H s' → RelV v w' → Q w' s') :
    wpAny (model X.prog X.w) A (getItem (.ref a) u) Q E s := by
  rcases g with ⟨kvs, k, e, ey, l⟩ | ⟨kvs, k, b, e, ey, eb, l⟩
  · subst ey
    obtain ⟨z, hd, vs, rel, dd⟩ := dk_rd I.hok e
    obtain ⟨w', hw, rw'⟩ := RelO.some_of (v := v) (o := valueAt vs k) (by rw [l]; exact rel.val k)
    exact wpAny_getItem_of (kV_is ry) dd.mapOf hw (h w' _ (I.tok _) rw')
  · subst ey
    cases (show u = Value.ref b from ry)
    obtain ⟨z, hd, xs, rel, dd⟩ := dt_rd I.hok e
    obtain ⟨w', hw, rw'⟩ := RelO.some_of (v := v) (o := (atKey xs k).map (·.2)) (by rw [l]; exact rel.val k)
    obtain ⟨p, hp, hp2⟩ := Option.map_eq_some_iff.mp hw
    refine wpAny_getItem_heap (tupleKind_room_in1 hu) (key_of I.hok eb) dd hp ?_
    rw [hp2]
    exact h w' _ (I.tok _) rw'
theorem d_write {h' : Heap} {t' : Nat} {ob : HO} (I : Inv X pins σ H s) (mu : Mut (H a)) (hs : Heap.SameBut a s.heap h') (he : ∃ q, h'.get? a = some q) (new : ObjOk X.prog X.w (upd H a ob) h' a ob) :
    Inv X pins σ (upd H a ob) { s with heap := h', toks := t' } :=
  I.write (x := a) (e := a) mu (.inl rfl) (fun b q hb z => (hs.2 b hb).trans z) he new
theorem dk_new {P : Program} {w : World} {H' : Hp} {h' : Heap} {kvs : List (Key × V)} {vs : List (Key × Value)} (z : kvs.length ≤ sizeLine) (hd : (a == sysModules) = false) (rel : KV kvs vs) (dd : h'.DictOf (mixKind P w) a vs) :
    ObjOk P w H' h' a (.dK kvs) := ⟨z, hd, vs, rel, dd⟩
theorem d_setItem {H' : Hp} {Q : Unit → Shared → Prop} (hu : A.units + 1 < cLine) (I : Inv X pins σ H s) (g : DPut H a y v H') (ry : RelV y u) (rv : RelV v r) (h : ∀ s', Inv X pins σ H' s' → Q () s') :
    wpAny (model X.prog X.w) A (setItem (.ref a) u r) Q E s := by
  rcases g with ⟨kvs, k, e, ey, l, eH⟩ | ⟨kvs, k, b, e, ey, eb, l, eH⟩
  · subst ey eH
    obtain ⟨z, hd, vs, rel, dd⟩ := dk_of I.hok e
    have hz : vs.length ≤ sizeLine := by rw [← rel.length]; exact z
    have hl : (putK kvs k v).length ≤ sizeLine := by have := length_putK kvs k v; lia
    refine wpAny_setItem_pairs (hsz := hz) (kV_is ry) dd fun h' dd' hs => h _ ?_
    have he : ∃ q, h'.get? a = some q := let ⟨q, _, _, hq, _⟩ := dd'; ⟨q, hq⟩
    exact d_write I (by rw [e]; exact True.intro) hs he (dk_new hl hd (rel.put k rv) dd')
  · subst ey eH
    cases (show u = Value.ref b from ry)
    obtain ⟨z, hd, xs, rel, dd⟩ := dt_of I.hok e
    have hz : xs.length ≤ sizeLine := by rw [← Paired.length rel]; exact z
    have hl : (putK kvs k v).length ≤ sizeLine := by have := length_putK kvs k v; lia
    refine wpAny_setItem_heap (hsz := hz) (tupleKind_room_in1 hu) (key_of I.hok eb) dd fun h' dd' hs => h _ ?_
    obtain ⟨q, es, ep, hq, h2, h3, h4, _, h5⟩ := dd'
    refine d_write I (by rw [e]; exact True.intro) hs ⟨q, hq⟩ ⟨hl, hd, _, (rel.put k eb rv).keeps fun c ys ec => ?_, q, es, ep, hq, h2, h3, h4, h5⟩
    rw [upd_ne (ne_of ec e (fun z => nomatch z))]
    exact ec
end
section
variable {X : Cx} {pins : List (Addr × Obj)} {σ : St} {H : Hp} {s : Shared} {a : Addr} {kvs : List (Key × V)} {k : Key} {u : Value} {A : Around} {E : Value → Shared → Prop}
end
def NoSl (i : Expr) : Prop := ∀ ov iv, subscripted i false ov iv = operate [ov, iv] (getItem ov iv)
theorem subD_of {prog : Program} {w : World} {A : Around} {E : Value → Shared → Prop} {s : Shared} {env : Env} {value slice : Expr} {pos : Pos} {T id : String} {Q : Value → Shared → Prop}
    (hl : typeLookup (.type T) "__getitem__" = pure (some (.builtin id))) (hs : NoSl slice)
    (h : wpAny (model prog w) A (eval value env) (fun o s₁ => wpAny (model prog w) A (eval slice env) (fun i s₂ => s₂.TypeIs o T ∧ wpAny (model prog w) A (getItem o i) Q E s₂) E s₁) E s) :
    wpAny (model prog w) A (eval (.Subscript value slice pos) env) Q E s := by
  refine Subscript_ (wpAny_mono h (fun o s₁ h₁ => wpAny_mono h₁ (fun i s₂ h₂ => ?_) fun _ _ x => x) fun _ _ x => x)
  obtain ⟨hT, h₂⟩ := h₂
  unfold subscriptTail
  refine wpAny_bind ?_
  rw [getitemInPython_of_ne hT.not_modules]
  refine wpAny_bind (wpAny_specialOf hT hl ?_)
  have fin : wpAny (model prog w) A (subscripted slice false o i) (fun r s₃ => wpAny (model prog w) A (letTemporaryGo value o r >>= fun _ => pure r) Q E s₃) E s₂ := by
    rw [hs o i]
    exact wpAny_operating (wpAny_mono h₂ (fun r s₃ h₃ => wpAny_bind (wpAny_letTemporaryGo (wpAny_pure h₃))) fun _ _ x => x)
  first
    | exact wpAny_pure (wpAny_bind fin)
    | exact wpAny_bind (wpAny_pure (wpAny_bind fin))
    | exact wpAny_bind fin
theorem dict_typeIs {X : Cx} {pins : List (Addr × Obj)} {σ : St} {H : Hp} {s : Shared} {a : Addr} {y : V} {o : Option V} (I : Inv X pins σ H s) (g : DGet H a y o) : s.TypeIs (.ref a) "dict" := by
  rcases g with ⟨kvs, k, e, _, _⟩ | ⟨kvs, k, b, e, _, _, _⟩
  · obtain ⟨_, _, vs, _, dd⟩ := dk_rd I.hok e
    exact dd.typeIs
  · obtain ⟨_, _, xs, _, dd⟩ := dt_rd I.hok e
    exact dd.typeIs
def tDGet (td ty : TE) : TE := fun σ H Q => td σ H fun x H1 => ty σ H1 fun y H2 => ∃ a v, x = .ref a ∧ DGet H2 a y (some v) ∧ Q v H2
def sDPut (td ty tv : TE) : TS := fun D σ H => tv σ H fun v H1 => td σ H1 fun x H2 => ty σ H2 fun y H3 => ∃ a H4, x = .ref a ∧ DPut H3 a y v H4 ∧ D.nx σ H4
section
variable {X : Cx} {o i e value : Expr} {pos pos' tpos : Pos} {td ty tv : TE}
theorem pe_dget (hu : X.A.units + 1 < cLine) (ho : PE X o td) (hi : PE X i ty) (hs : NoSl i) : PE X (.Subscript o i pos) (tDGet td ty) := by
  intro pins s σ H Q I h
  refine subD_of PySem.F.slot_dict_getitem.lookup hs (thn (ho pins s σ H _ I h) fun u s1 ⟨x, H1, I1, rx, q1⟩ => thn (hi pins s1 σ H1 _ I1 q1) fun iv s2 ⟨y, H2, I2, ry, a, v, ex, g, q2⟩ => ?_)
  subst ex
  obtain rfl : u = Value.ref a := rx
  exact ⟨dict_typeIs I2 g, d_getItem hu I2 g ry fun w' s3 I3 rw' => ⟨v, H2, I3, rw', q2⟩⟩
theorem ps_dput (hu : X.A.units + 1 < cLine) (ho : PE X o td) (hi : PE X i ty) (hv : PE X value tv) (hs : swapsWith value (some (.Subscript o i pos')) pos.line X.env = pure false) :
    PS X (.Assign [.Subscript o i pos'] value pos) (sDPut td ty tv) := by
  intro pins s σ H D I h
  refine wpAny_Assign_Subscript (thn (hv pins s σ H _ I h) fun r s1 ⟨v, H1, I1, rv, q1⟩ => thn (ho pins s1 σ H1 _ I1 q1) fun u s2 ⟨x, H2, I2, rx, q2⟩ => thn (hi pins s2 σ H2 _ I2 q2) fun iv s3 ⟨y, H3, I3, ry, a, H4, ex, g, q3⟩ => ?_) hs
  subst ex
  obtain rfl : u = Value.ref a := rx
  exact d_setItem hu I3 g ry rv fun s4 I4 => ⟨σ, H4, I4, q3⟩
end
theorem dk_empty {P : Program} {w : World} {H : Hp} (h : Heap) (hb : sysModules < h.objs.size) : ObjOk P w H (h.push { cls := .type "dict", data := .dict #[] }) h.objs.size (.dK []) :=
  ⟨Nat.zero_le _, beq_eq_false_iff_ne.mpr (Ne.symm (Nat.ne_of_lt hb)), [], .nil, Heap.DictOf.new h⟩
section
variable {X : Cx} {pos : Pos}
end
def tPairs : List (TE × TE) → St → Hp → (List (V × V) → Hp → Prop) → Prop
  | [], _, H, Q => Q [] H
  | (tk, tv) :: r, σ, H, Q => tk σ H fun x H1 => tv σ H1 fun y H2 => tPairs r σ H2 fun ps H3 => Q ((x, y) :: ps) H3
abbrev VV : List (V × V) → List (Value × Value) → Prop := Paired fun p q => RelV p.1 q.1 ∧ RelV p.2 q.2
def PPs (X : Cx) (pos : Pos) (keys : List (Option Expr)) (values : List Expr) (trs : List (TE × TE)) : Prop :=
  ∀ (pins : List (Addr × Obj)) (s : Shared) (σ : St) (H : Hp) (Q : List (V × V) → Hp → Prop), Inv X pins σ H s → tPairs trs σ H Q →
    wpAny (model X.prog X.w) X.A (evalPairs (pairTrees keys values X.env pos)) (fun vs s' => ∃ ps H', Inv X pins σ H' s' ∧ VV ps vs ∧ Q ps H') X.xe s
theorem pps_nil {X : Cx} {pos : Pos} : PPs X pos [] [] [] := fun pins s σ H Q I h => pairTrees_nil_walk ⟨[], H, I, .nil, h⟩
theorem pps_cons {X : Cx} {pos : Pos} {k v : Expr} {ks : List (Option Expr)} {vs : List Expr} {tk tv : TE} {trs : List (TE × TE)} (hk : PE X k tk) (hv : PE X v tv) (hr : PPs X pos ks vs trs) :
    PPs X pos (some k :: ks) (v :: vs) ((tk, tv) :: trs) := fun pins s σ H Q I h =>
  pairTrees_cons_walk (thn (hk pins s σ H _ I h) fun u s1 ⟨x, H1, I1, rx, q1⟩ => thn (hv pins s1 σ H1 _ I1 q1) fun w2 s2 ⟨y, H2, I2, ry, q2⟩ =>
    thn (hr pins s2 σ H2 _ I2 q2) fun ws s3 ⟨ps, H3, I3, rel, q3⟩ => ⟨(x, y) :: ps, H3, I3, .cons ⟨rx, ry⟩ rel, q3⟩)
def mergeK (kvs more : List (Key × V)) : List (Key × V) := more.foldl (fun acc kv => putK acc kv.1 kv.2) kvs
theorem KV.merge : ∀ {more : List (Key × V)} {rs : List (Key × Value)} {kvs : List (Key × V)} {vs : List (Key × Value)}, KV more rs → KV kvs vs → KV (mergeK kvs more) (merged vs rs) := by
  intro more rs kvs vs r
  unfold KV at r
  induction r generalizing kvs vs with
  | nil => intro q; exact q
  | @cons p q ps qs h t ih =>
    intro r0
    have e : KV (putK kvs p.1 p.2) (stored vs q.1 q.2) := by
      have := r0.put p.1 h.2
      rw [← h.1]; exact this
    exact ih e
theorem length_mergeK : ∀ (more kvs : List (Key × V)), (mergeK kvs more).length ≤ kvs.length + more.length
  | [], kvs => by show kvs.length ≤ kvs.length + 0; lia
  | p :: r, kvs => by
    have h1 := length_mergeK r (putK kvs p.1 p.2)
    have h2 := length_putK kvs p.1 p.2
    show (mergeK (putK kvs p.1 p.2) r).length ≤ _
    rw [List.length_cons]; lia
theorem carries_of {P : Program} {w : World} : ∀ {kvs : List (Key × V)} {ws : List (Value × Value)}, VV (kvs.map fun kv => (kV kv.1, kv.2)) ws → ∃ rs, Carries (mixKind P w) ws rs ∧ KV kvs rs
  | [], _, r => by rw [List.map_nil] at r; cases r; exact ⟨[], True.intro, .nil⟩
  | p :: kvs, _, r => by
    rw [List.map_cons] at r
    cases r with
    | @cons a b as bs h t =>
      obtain ⟨rs, c, q⟩ := carries_of (P := P) (w := w) t
      obtain ⟨b1, b2⟩ := b
      exact ⟨(p.1, b2) :: rs, ⟨kV_is h.1, rfl, c⟩, .cons ⟨rfl, h.2⟩ q⟩
def tDisp (trs : List (TE × TE)) : TE := fun σ H Q => ∀ p, H p = none → tPairs trs σ (upd H p (.dK [])) fun ps H2 => H2 p = some (.dK []) ∧ ∃ kvs : List (Key × V), ps = kvs.map (fun kv => (kV kv.1, kv.2)) ∧ kvs.length ≤ 15 ∧ Q (.ref p) (upd H2 p (.dK (mergeK [] kvs)))
theorem pe_disp {X : Cx} {pos : Pos} {keys : List (Option Expr)} {values : List Expr} {trs : List (TE × TE)} (h : PPs X pos keys values trs) (hall : keys.all (·.isSome) = true) (hl : keys.length = values.length) (h0 : keys ≠ [])
    (h15 : keys.length ≤ 15) : PE X (.Dict keys values pos) (tDisp trs) := by
  intro pins s σ H Q I q
  have hn := I.hok.fresh (Nat.le_refl s.heap.objs.size)
  have I1 := I.laid (a := s.heap.objs.size) (o := .dK []) (h' := s.heap.push { cls := .type "dict", data := .dict #[] }) (t' := s.toks) (fun _ _ q => Heap.get?_push_of_some _ q) (Nat.le_refl _) (dk_empty s.heap I.big)
  refine wpAny_Dict_walk (knd := mixKind X.prog X.w) hall hl h0 h15 (thn (h pins _ σ _ _ I1 (q _ hn)) fun ws s2 ⟨ps, H2, I2, rel, e, kvs, ep, lk, q2⟩ => ?_)
  subst ep
  obtain ⟨rs, c, rk⟩ := carries_of (P := X.prog) (w := X.w) rel
  obtain ⟨z, hd, vs0, r0, dd⟩ := dk_of I2.hok e
  cases r0
  refine ⟨rs, c, dd, fun h' dd' hs => ⟨.ref s.heap.objs.size, _, ?_, rfl, q2⟩⟩
  have hz : (mergeK [] kvs).length ≤ sizeLine := by
    have h1 := length_mergeK kvs []
    rw [List.length_nil] at h1
    rw [sizeLine_eq]; lia
  have he : ∃ q, h'.get? s.heap.objs.size = some q := let ⟨q, _, _, hq, _⟩ := dd'; ⟨q, hq⟩
  exact d_write I2 (by rw [e]; exact True.intro) hs he (dk_new hz hd (rk.merge .nil) dd')
section
variable {X : Cx} {pins : List (Addr × Obj)} {σ : St} {H : Hp} {s : Shared} {a : Addr} {y d : V} {u r : Value} {o : Option V} {A : Around} {E : Value → Shared → Prop}
end
section
variable {X : Cx} {o e f : Expr} {apos cpos : Pos} {td ty tx : TE}
end
section
variable {X : Cx} {pins : List (Addr × Obj)} {σ : St} {H : Hp} {s : Shared} {a : Addr} {kvs : List (Key × V)} {A : Around} {E : Value → Shared → Prop}
end
section
variable {X : Cx} {pins : List (Addr × Obj)} {σ : St} {H : Hp} {s : Shared} {a : Addr} {y : V} {u : Value} {A : Around} {E : Value → Shared → Prop}
end
end L2
namespace L2
open PySem PySem.Spec PyProof.Rows
section
variable {X : Cx}
end
section
variable {κ : Type} [DecidableEq κ]
end
end L2
set_option Elab.async false
set_option linter.all false
set_option maxRecDepth 100000
namespace L3
open PySem PySem.Spec PyProof.Rows L2
inductive D where
  | non | bl (b : Bool) | int (i : Int) | str (x : Str) | ty (n : String) | ref (a : Addr)
  | tup (xs : List D) | lst (xs : List D) | dct (kvs : List (Key × D))
inductive MO where
  | lst (xs : List D) | dct (kvs : List (Key × D)) | dt (kvs : List (List Int × D))
abbrev Mem := Addr → Option MO
def mput (M : Mem) (a : Addr) (o : MO) : Mem := fun b => if b = a then some o else M b
def mdel (M : Mem) (a : Addr) : Mem := fun b => if b = a then none else M b
theorem mput_same {M : Mem} {a : Addr} {o : MO} : mput M a o a = some o := by unfold mput; rw [if_pos rfl]
theorem mput_ne {M : Mem} {a b : Addr} {o : MO} (h : b ≠ a) : mput M a o b = M b := by unfold mput; rw [if_neg h]
theorem mput_mput {M : Mem} {a : Addr} {o u : MO} : mput (mput M a o) a u = mput M a u := by
  funext b; unfold mput; split <;> rfl
def KLst (K : PySem.W.Frag) (a : Addr) (xs : List V) : Prop :=
  ∃ (o : Obj) (its : Array Value) (n : Nat), K.lookup a = some o ∧ o.cls = .type "list" ∧ o.dict = none ∧ o.data = .seq its n ∧ its.size ≤ sizeLine ∧ Vals xs its.toList
def KTup (K : PySem.W.Frag) (a : Addr) (xs : List V) : Prop :=
  ∃ (o : Obj) (its : Array Value) (n : Nat), K.lookup a = some o ∧ o.cls = .type "tuple" ∧ o.data = .seq its n ∧ its.size ≤ sizeLine ∧ Vals xs its.toList
def Fix (M : Mem) (H : Hp) (a : Addr) (o : HO) : Prop := Rd H a o ∧ M a = none
mutual
inductive Rep (K : PySem.W.Frag) (M : Mem) (H : Hp) : D → V → Prop
  | non : Rep K M H .non .non
  | bl {b : Bool} : Rep K M H (.bl b) (.bl b)
  | int {i : Int} : Rep K M H (.int i) (.int i)
  | str {x : Str} : Rep K M H (.str x) (.str x)
  | ty {n : String} : Rep K M H (.ty n) (.ty n)
  | ref {a : Addr} : Rep K M H (.ref a) (.ref a)
  | tup {a : Addr} {ds : List D} {vs : List V} : (Fix M H a (.tup vs) ∨ KTup K a vs) → Reps K M H ds vs → Rep K M H (.tup ds) (.ref a)
  | lst {a : Addr} {ds : List D} {vs : List V} : (Fix M H a (.lst vs) ∨ KLst K a vs) → Reps K M H ds vs → Rep K M H (.lst ds) (.ref a)
  | dct {a : Addr} {ds : List (Key × D)} {vs : List (Key × V)} : Fix M H a (.dK vs) → RepK K M H ds vs → Rep K M H (.dct ds) (.ref a)
inductive Reps (K : PySem.W.Frag) (M : Mem) (H : Hp) : List D → List V → Prop
  | nil : Reps K M H [] []
  | cons {d : D} {v : V} {ds : List D} {vs : List V} : Rep K M H d v → Reps K M H ds vs → Reps K M H (d :: ds) (v :: vs)
inductive RepK (K : PySem.W.Frag) (M : Mem) (H : Hp) : List (Key × D) → List (Key × V) → Prop
  | nil : RepK K M H [] []
  | cons {k : Key} {d : D} {v : V} {ds : List (Key × D)} {vs : List (Key × V)} : Rep K M H d v → RepK K M H ds vs → RepK K M H ((k, d) :: ds) ((k, v) :: vs)
end
def entD (x : List Int × Addr × Value) : DictEntry := ⟨reduceHash (Builtin.Tuple.tupleHashOf (x.1.map hashInt)), .ref x.2.1, x.2.2⟩
def dtφ (a : Addr) (xs : List (List Int × Addr × Value)) : Heap → Prop := fun h => (a == sysModules) = false ∧ ∃ o es ep, h.get? a = some o ∧ o.ExactDict ∧ o.data = .dict es ep ∧ es.toList = xs.map entD ∧ (xs.map (·.1)).Nodup
inductive RepT (K : PySem.W.Frag) (M : Mem) (H : Hp) : List (List Int × D) → List (List Int × Addr × Value) → Prop
  | nil : RepT K M H [] []
  | cons {k : List Int} {b : Addr} {d : D} {v : V} {u : Value} {ds : List (List Int × D)} {xs : List (List Int × Addr × Value)} : Rep K M H (.tup (k.map D.int)) (.ref b) → Rep K M H d v → RelV v u → RepT K M H ds xs → RepT K M H ((k, d) :: ds) ((k, b, u) :: xs)
def RepO (K : PySem.W.Frag) (M : Mem) (H : Hp) (a : Addr) : MO → HO → Prop
  | .lst ds, .lst vs => Reps K M H ds vs
  | .dct ds, .dK vs => RepK K M H ds vs
  | .dt ds, .ext φ => ∃ xs, φ = dtφ a xs ∧ RepT K M H ds xs
  | _, _ => False
def MRel (K : PySem.W.Frag) (M : Mem) (H : Hp) : Prop := ∀ a o, M a = some o → ∃ ho, H a = some ho ∧ RepO K M H a o ho
structure Step (M : Mem) (H : Hp) (M' : Mem) (H' : Hp) : Prop where
  keep : ∀ a o, H a = some o → M a = none → H' a = some o
  dom : ∀ a, M' a ≠ none → M a ≠ none ∨ H a = none
theorem Step.refl {M : Mem} {H : Hp} : Step M H M H := ⟨fun _ _ h _ => h, fun _ h => .inl h⟩
theorem Step.gone {M M' : Mem} {H H' : Hp} (s : Step M H M' H') {a : Addr} {o : HO} (h : H a = some o) (hm : M a = none) : M' a = none := by
  cases e : M' a with
  | none => rfl
  | some u =>
    rcases s.dom a (by rw [e]; intro z; cases z) with z | z
    · exact absurd hm z
    · rw [h] at z; cases z
theorem Step.trans {M M1 M2 : Mem} {H H1 H2 : Hp} (a : Step M H M1 H1) (b : Step M1 H1 M2 H2) : Step M H M2 H2 where
  keep := fun c o h hm => b.keep c o (a.keep c o h hm) (a.gone h hm)
  dom := fun c h => by
    rcases b.dom c h with z | z
    · exact a.dom c z
    · cases e : H c with
      | none => exact .inr rfl
      | some o =>
        refine .inl fun hm => ?_
        rw [a.keep c o e hm] at z; cases z
theorem Fix.mono {M M' : Mem} {H H' : Hp} {a : Addr} {o : HO} (s : Step M H M' H') (f : Fix M H a o) : Fix M' H' a o := by
  obtain ⟨r, hm⟩ := f
  rcases r with r | ⟨ob, r⟩
  · exact ⟨.inl (s.keep _ _ r hm), s.gone r hm⟩
  · exact ⟨.inr ⟨ob, s.keep _ _ r hm⟩, s.gone r hm⟩
section
variable {K : PySem.W.Frag} {M M' : Mem} {H H' : Hp}
theorem Rep.mono {d : D} {v : V} (s : Step M H M' H') (r : Rep K M H d v) : Rep K M' H' d v :=
  Rep.rec (motive_1 := fun d v _ => Rep K M' H' d v) (motive_2 := fun ds vs _ => Reps K M' H' ds vs) (motive_3 := fun ds vs _ => RepK K M' H' ds vs)
    .non .bl .int .str .ty .ref (fun h _ ih => .tup (h.imp (Fix.mono s) id) ih) (fun h _ ih => .lst (h.imp (Fix.mono s) id) ih) (fun h _ ih => .dct (h.mono s) ih)
    .nil (fun _ _ a b => .cons a b) .nil (fun _ _ a b => .cons a b) r
theorem Reps.mono {ds : List D} {vs : List V} (s : Step M H M' H') (r : Reps K M H ds vs) : Reps K M' H' ds vs := by
  induction ds generalizing vs with
  | nil => cases r; exact .nil
  | cons d ds ih => cases r with | cons a b => exact .cons (a.mono s) (ih b)
theorem RepK.mono {ds : List (Key × D)} {vs : List (Key × V)} (s : Step M H M' H') (r : RepK K M H ds vs) : RepK K M' H' ds vs := by
  induction ds generalizing vs with
  | nil => cases r; exact .nil
  | cons d ds ih => cases r with | cons a b => exact .cons (a.mono s) (ih b)
theorem RepT.mono {ds : List (List Int × D)} {xs : List (List Int × Addr × Value)} (s : Step M H M' H') (r : RepT K M H ds xs) : RepT K M' H' ds xs := by
  induction r with
  | nil => exact .nil
  | cons a b c _ ih => exact .cons (a.mono s) (b.mono s) c ih
theorem Reps.length {ds : List D} {vs : List V} (r : Reps K M H ds vs) : ds.length = vs.length := by
  induction ds generalizing vs with
  | nil => cases r; rfl
  | cons d ds ih => cases r with | cons a b => rw [List.length_cons, List.length_cons, ih b]
theorem Reps.get {ds : List D} {vs : List V} (r : Reps K M H ds vs) {i : Nat} {d : D} (h : ds[i]? = some d) : ∃ v, vs[i]? = some v ∧ Rep K M H d v := by
  induction ds generalizing vs i with
  | nil => simp at h
  | cons d' ds ih =>
    cases r with
    | cons a b =>
      cases i with
      | zero => simp at h; subst h; exact ⟨_, rfl, a⟩
      | succ i => simpa using ih b (by simpa using h)
theorem Reps.append {ds es : List D} {vs us : List V} (r : Reps K M H ds vs) (q : Reps K M H es us) : Reps K M H (ds ++ es) (vs ++ us) := by
  induction ds generalizing vs with
  | nil => cases r; exact q
  | cons d ds ih => cases r with | cons a b => exact .cons a (ih b)
theorem Reps.take {ds : List D} {vs : List V} (r : Reps K M H ds vs) (n : Nat) : Reps K M H (ds.take n) (vs.take n) := by
  induction ds generalizing vs n with
  | nil => cases r; simp; exact .nil
  | cons d ds ih => cases r with | cons a b => cases n with
    | zero => simp; exact .nil
    | succ n => simpa using Reps.cons a (ih b n)
theorem Reps.drop {ds : List D} {vs : List V} (r : Reps K M H ds vs) (n : Nat) : Reps K M H (ds.drop n) (vs.drop n) := by
  induction ds generalizing vs n with
  | nil => cases r; simp; exact .nil
  | cons d ds ih => cases r with | cons a b => cases n with
    | zero => exact .cons a b
    | succ n => simpa using ih b n
theorem Reps.ints {ns : List Int} : Reps K M H (ns.map D.int) (ns.map V.int) := by
  induction ns with
  | nil => exact .nil
  | cons n ns ih => exact .cons .int ih
theorem MRel.free (m : MRel K M H) {a : Addr} (h : H a = none) : M a = none := by
  cases e : M a with
  | none => rfl
  | some o => obtain ⟨ho, z, _⟩ := m a o e; rw [h] at z; cases z
end
abbrev Lo := List (Option D)
structure SRel (K : PySem.W.Frag) (M : Mem) (H : Hp) (σ : Lo) (σv : L2.St) : Prop where
  len : σ.length = σv.length
  get : ∀ (i : Nat) (d : D), σ[i]? = some (some d) → ∃ v, σv[i]? = some (some v) ∧ Rep K M H d v
theorem SRel.mono {K : PySem.W.Frag} {M M' : Mem} {H H' : Hp} {σ : Lo} {σv : L2.St} (s : Step M H M' H') (r : SRel K M H σ σv) : SRel K M' H' σ σv :=
  ⟨r.len, fun i d h => let ⟨v, e, q⟩ := r.get i d h; ⟨v, e, q.mono s⟩⟩
theorem SRel.set {K : PySem.W.Frag} {M : Mem} {H : Hp} {σ : Lo} {σv : L2.St} (r : SRel K M H σ σv) {d : D} {v : V} (q : Rep K M H d v) (i : Nat) : SRel K M H (σ.set i (some d)) (σv.set i (some v)) := by
  refine ⟨by simp [r.len], fun j e h => ?_⟩
  rw [List.getElem?_set] at h
  rw [List.getElem?_set, ← r.len]
  by_cases hij : i = j
  · rw [if_pos hij] at h ⊢
    by_cases hl : j < σ.length
    · rw [hij, if_pos hl] at h
      rw [hij, if_pos hl]
      cases h
      exact ⟨v, rfl, q⟩
    · rw [hij, if_neg hl] at h; cases h
  · rw [if_neg hij] at h ⊢
    exact r.get j e h
abbrev DK := D → Mem → Prop
abbrev TE3 := Lo → Mem → DK → Prop
abbrev TT3 := Lo → Mem → (Bool → Mem → Prop) → Prop
abbrev TA3 := Lo → Mem → (List D → Mem → Prop) → Prop
structure Ends3 where
  nx : Lo → Mem → Prop
  rt : DK
  bk : Lo → Mem → Prop := fun _ _ => False
  ct : Lo → Mem → Prop := fun _ _ => False
abbrev TS3 := Ends3 → Lo → Mem → Prop
def EP3 (X : Cx) (pins : List (Addr × Obj)) (σv : L2.St) (M : Mem) (H : Hp) (Q : DK) (u : Value) (s' : Shared) : Prop :=
  ∃ d v M' H', Inv X pins σv H' s' ∧ Step M H M' H' ∧ MRel X.K M' H' ∧ RelV v u ∧ Rep X.K M' H' d v ∧ Q d M'
def TP3 (X : Cx) (pins : List (Addr × Obj)) (σv : L2.St) (M : Mem) (H : Hp) (Q : Bool → Mem → Prop) (b : Bool) (s' : Shared) : Prop :=
  ∃ M' H', Inv X pins σv H' s' ∧ Step M H M' H' ∧ MRel X.K M' H' ∧ Q b M'
def AP3 (X : Cx) (pins : List (Addr × Obj)) (σv : L2.St) (M : Mem) (H : Hp) (Q : List D → Mem → Prop) (us : List Value) (s' : Shared) : Prop :=
  ∃ ds vs M' H', Inv X pins σv H' s' ∧ Step M H M' H' ∧ MRel X.K M' H' ∧ Vals vs us ∧ Reps X.K M' H' ds vs ∧ Q ds M'
def SP3 (X : Cx) (pins : List (Addr × Obj)) (M : Mem) (H : Hp) (T : Ends3) (f : Flow) (s' : Shared) : Prop :=
  match f with
  | .next => ∃ σ' σv' M' H', Inv X pins σv' H' s' ∧ Step M H M' H' ∧ MRel X.K M' H' ∧ SRel X.K M' H' σ' σv' ∧ T.nx σ' M'
  | .brk => ∃ σ' σv' M' H', Inv X pins σv' H' s' ∧ Step M H M' H' ∧ MRel X.K M' H' ∧ SRel X.K M' H' σ' σv' ∧ T.bk σ' M'
  | .cont => ∃ σ' σv' M' H', Inv X pins σv' H' s' ∧ Step M H M' H' ∧ MRel X.K M' H' ∧ SRel X.K M' H' σ' σv' ∧ T.ct σ' M'
  | .ret u => ∃ d v σv' M' H', Inv X pins σv' H' s' ∧ Step M H M' H' ∧ MRel X.K M' H' ∧ RelV v u ∧ Rep X.K M' H' d v ∧ T.rt d M'
def PE3 (X : Cx) (e : Expr) (t : TE3) : Prop :=
  ∀ (pins : List (Addr × Obj)) (s : Shared) (σv : L2.St) (H : Hp) (σ : Lo) (M : Mem) (Q : DK), Inv X pins σv H s → SRel X.K M H σ σv → MRel X.K M H → t σ M Q →
    wpAny (model X.prog X.w) X.A (eval e X.env) (EP3 X pins σv M H Q) X.xe s
def PT3 (X : Cx) (e : Expr) (t : TT3) : Prop :=
  ∀ (pins : List (Addr × Obj)) (s : Shared) (σv : L2.St) (H : Hp) (σ : Lo) (M : Mem) (Q : Bool → Mem → Prop), Inv X pins σv H s → SRel X.K M H σ σv → MRel X.K M H → t σ M Q →
    wpAny (model X.prog X.w) X.A (isTrue e X.env (eval e X.env)) (TP3 X pins σv M H Q) X.xe s
def PA3 (X : Cx) (es : List Expr) (t : TA3) : Prop :=
  ∀ (pos : Pos) (pins : List (Addr × Obj)) (s : Shared) (σv : L2.St) (H : Hp) (σ : Lo) (M : Mem) (Q : List D → Mem → Prop), Inv X pins σv H s → SRel X.K M H σ σv → MRel X.K M H → t σ M Q →
    wpAny (model X.prog X.w) X.A (spliced (backTo pos (starEach es X.env))) (AP3 X pins σv M H Q) X.xe s
def PS3 (X : Cx) (st : Stmt) (t : TS3) : Prop :=
  ∀ (pins : List (Addr × Obj)) (s : Shared) (σv : L2.St) (H : Hp) (σ : Lo) (M : Mem) (T : Ends3), Inv X pins σv H s → SRel X.K M H σ σv → MRel X.K M H → t T σ M →
    wpAny (model X.prog X.w) X.A (exec st X.env) (SP3 X pins M H T) X.xe s
def PSs3 (X : Cx) (st : List Stmt) (t : TS3) : Prop :=
  ∀ (pins : List (Addr × Obj)) (s : Shared) (σv : L2.St) (H : Hp) (σ : Lo) (M : Mem) (T : Ends3), Inv X pins σv H s → SRel X.K M H σ σv → MRel X.K M H → t T σ M →
    wpAny (model X.prog X.w) X.A (execs st X.env) (SP3 X pins M H T) X.xe s
def dnE (K : PySem.W.Frag) (t : TE3) : TE := fun σv H Q2 => ∃ σ M Q, SRel K M H σ σv ∧ MRel K M H ∧ t σ M Q ∧ ∀ d v M' H', Step M H M' H' → MRel K M' H' → Rep K M' H' d v → Q d M' → Q2 v H'
def dnA (K : PySem.W.Frag) (t : TA3) : TA := fun σv H Q2 => ∃ σ M Q, SRel K M H σ σv ∧ MRel K M H ∧ t σ M Q ∧ ∀ ds vs M' H', Step M H M' H' → MRel K M' H' → Reps K M' H' ds vs → Q ds M' → Q2 vs H'
structure EndsDn (K : PySem.W.Frag) (M : Mem) (H : Hp) (T : Ends3) (D2 : Ends) : Prop where
  nx : ∀ σ' σv' M' H', Step M H M' H' → MRel K M' H' → SRel K M' H' σ' σv' → T.nx σ' M' → D2.nx σv' H'
  bk : ∀ σ' σv' M' H', Step M H M' H' → MRel K M' H' → SRel K M' H' σ' σv' → T.bk σ' M' → D2.bk σv' H'
  ct : ∀ σ' σv' M' H', Step M H M' H' → MRel K M' H' → SRel K M' H' σ' σv' → T.ct σ' M' → D2.ct σv' H'
  rt : ∀ d v M' H', Step M H M' H' → MRel K M' H' → Rep K M' H' d v → T.rt d M' → D2.rt v H'
def dnS (K : PySem.W.Frag) (t : TS3) : TS := fun D2 σv H => ∃ σ M T, SRel K M H σ σv ∧ MRel K M H ∧ t T σ M ∧ EndsDn K M H T D2
section
variable {X : Cx} {e : Expr} {es : List Expr} {st : Stmt} {sts : List Stmt}
theorem PE3.dn {t : TE3} (h : PE3 X e t) : PE X e (dnE X.K t) := by
  rintro pins s σv H Q2 I ⟨σ, M, Q, hS, hM, ht, hq⟩
  exact thn (h pins s σv H σ M Q I hS hM ht) fun u s' ⟨d, v, M', H', I', st, m', r, rep, q⟩ => ⟨v, H', I', r, hq d v M' H' st m' rep q⟩
theorem PA3.dn {t : TA3} (h : PA3 X es t) : PA X es (dnA X.K t) := by
  rintro pos pins s σv H Q2 I ⟨σ, M, Q, hS, hM, ht, hq⟩
  exact thn (h pos pins s σv H σ M Q I hS hM ht) fun u s' ⟨d, v, M', H', I', st, m', r, rep, q⟩ => ⟨v, H', I', r, hq d v M' H' st m' rep q⟩
theorem sp_dn {pins : List (Addr × Obj)} {M : Mem} {H : Hp} {T : Ends3} {D2 : Ends} (h : EndsDn X.K M H T D2) {f : Flow} {s' : Shared} (q : SP3 X pins M H T f s') : SP X pins D2 f s' := by
  cases f with
  | next => obtain ⟨σ', σv', M', H', I, st, m, r, q⟩ := q; exact ⟨σv', H', I, h.nx _ _ _ _ st m r q⟩
  | brk => obtain ⟨σ', σv', M', H', I, st, m, r, q⟩ := q; exact ⟨σv', H', I, h.bk _ _ _ _ st m r q⟩
  | cont => obtain ⟨σ', σv', M', H', I, st, m, r, q⟩ := q; exact ⟨σv', H', I, h.ct _ _ _ _ st m r q⟩
  | ret u => obtain ⟨d, v, σv', M', H', I, st, m, rv, r, q⟩ := q; exact ⟨v, σv', H', I, rv, h.rt _ _ _ _ st m r q⟩
theorem PSs3.dn {t : TS3} (h : PSs3 X sts t) : PSs X sts (dnS X.K t) := by
  rintro pins s σv H D2 I ⟨σ, M, T, hS, hM, ht, hq⟩
  exact thn (h pins s σv H σ M T I hS hM ht) fun f s' q => sp_dn hq q
abbrev Up (K : PySem.W.Frag) (M : Mem) (H : Hp) (Q : DK) : VK := fun v H' => ∃ d M', Step M H M' H' ∧ MRel K M' H' ∧ Rep K M' H' d v ∧ Q d M'
theorem PE3.of {t : TE3} {t2 : TE} (h : PE X e t2) (hr : ∀ pins s σv H σ M Q, Inv X pins σv H s → SRel X.K M H σ σv → MRel X.K M H → t σ M Q → t2 σv H (Up X.K M H Q)) : PE3 X e t := by
  intro pins s σv H σ M Q I hS hM ht
  exact thn (h pins s σv H _ I (hr pins s σv H σ M Q I hS hM ht)) fun u s' ⟨v, H', I', r, d, M', st, m', rep, q⟩ => ⟨d, v, M', H', I', st, m', r, rep, q⟩
abbrev UpE (K : PySem.W.Frag) (M : Mem) (H : Hp) (T : Ends3) : Ends where
  nx := fun σv' H' => ∃ σ' M', Step M H M' H' ∧ MRel K M' H' ∧ SRel K M' H' σ' σv' ∧ T.nx σ' M'
  rt := fun v H' => ∃ d M', Step M H M' H' ∧ MRel K M' H' ∧ Rep K M' H' d v ∧ T.rt d M'
  bk := fun σv' H' => ∃ σ' M', Step M H M' H' ∧ MRel K M' H' ∧ SRel K M' H' σ' σv' ∧ T.bk σ' M'
  ct := fun σv' H' => ∃ σ' M', Step M H M' H' ∧ MRel K M' H' ∧ SRel K M' H' σ' σv' ∧ T.ct σ' M'
theorem PS3.of {t : TS3} {t2 : TS} (h : PS X st t2) (hr : ∀ pins s σv H σ M T, Inv X pins σv H s → SRel X.K M H σ σv → MRel X.K M H → t T σ M → t2 (UpE X.K M H T) σv H) : PS3 X st t := by
  intro pins s σv H σ M T I hS hM ht
  refine thn (h pins s σv H _ I (hr pins s σv H σ M T I hS hM ht)) fun f s' q => ?_
  cases f with
  | next => obtain ⟨σv', H', I, σ', M', st, m, r, q⟩ := q; exact ⟨σ', σv', M', H', I, st, m, r, q⟩
  | brk => obtain ⟨σv', H', I, σ', M', st, m, r, q⟩ := q; exact ⟨σ', σv', M', H', I, st, m, r, q⟩
  | cont => obtain ⟨σv', H', I, σ', M', st, m, r, q⟩ := q; exact ⟨σ', σv', M', H', I, st, m, r, q⟩
  | ret u => obtain ⟨v, σv', H', I, rv, d, M', st, m, r, q⟩ := q; exact ⟨d, v, σv', M', H', I, st, m, rv, r, q⟩
end
end L3
set_option Elab.async false
set_option linter.all false
set_option maxRecDepth 100000
namespace L3
open PySem PySem.Spec PyProof.Rows L2
section
variable {K : PySem.W.Frag} {M : Mem} {H : Hp} {p : Addr} {ho : HO} {o : MO}
theorem Step.lay (hp : H p = none) : Step M H M (upd H p ho) :=
  ⟨fun a u h _ => by rw [upd_ne (ne_of_none h hp)]; exact h, fun _ h => .inl h⟩
theorem MRel.lay (m : MRel K M H) (hp : H p = none) : MRel K M (upd H p ho) := fun a u e => by
  obtain ⟨hu, e1, r⟩ := m a u e
  refine ⟨hu, by rw [upd_ne (ne_of_none e1 hp)]; exact e1, ?_⟩
  cases u <;> cases hu <;> first | exact r.elim | exact Reps.mono (Step.lay hp) r | exact RepK.mono (Step.lay hp) r | (obtain ⟨xs, e, r⟩ := r; exact ⟨xs, e, r.mono (Step.lay hp)⟩)
theorem Step.put (h : H p = none ∨ M p ≠ none) : Step M H (mput M p o) (upd H p ho) := by
  refine ⟨fun a u e hm => ?_, fun a e => ?_⟩
  · have : a ≠ p := by
      rintro rfl
      rcases h with h | h
      · rw [h] at e; cases e
      · exact h hm
    rw [upd_ne this]; exact e
  · by_cases ha : a = p
    · subst ha; exact h.elim .inr .inl
    · rw [mput_ne ha] at e; exact .inl e
theorem RepO.mono {M' : Mem} {H' : Hp} (s : Step M H M' H') (r : RepO K M H p o ho) : RepO K M' H' p o ho := by
  cases o <;> cases ho <;> first | exact r.elim | exact Reps.mono s r | exact RepK.mono s r | (obtain ⟨xs, e, r⟩ := r; exact ⟨xs, e, r.mono s⟩)
theorem MRel.put (m : MRel K M H) (h : H p = none ∨ M p ≠ none) (r : RepO K M H p o ho) : MRel K (mput M p o) (upd H p ho) := fun a u e => by
  by_cases ha : a = p
  · subst ha
    rw [mput_same] at e; cases e
    exact ⟨ho, upd_same, r.mono (Step.put h)⟩
  · rw [mput_ne ha] at e
    obtain ⟨hu, e1, r1⟩ := m a u e
    exact ⟨hu, by rw [upd_ne ha]; exact e1, r1.mono (Step.put h)⟩
end
mutual
def pyD : D → PyData
  | .non => .none | .bl b => .bool b | .int i => .int i | .str x => .str x
  | .tup xs => .tuple (pyDs xs) | .lst xs => .list (pyDs xs)
  | .dct _ => .none | .ty _ => .none | .ref _ => .none
def pyDs : List D → List PyData
  | [] => [] | d :: ds => pyD d :: pyDs ds
end
mutual
def plain : D → Bool
  | .non | .bl _ | .int _ | .str _ => true
  | .tup xs | .lst xs => plains xs
  | .dct _ | .ty _ | .ref _ => false
def plains : List D → Bool
  | [] => true | d :: ds => plain d && plains ds
end
section
variable {X : Cx} {pins : List (Addr × Obj)} {σv : L2.St} {M : Mem} {H : Hp} {s : Shared}
theorem SqT.of3 {K : PySem.W.Frag} {a : Addr} {vs : List V} (h : Fix M H a (.tup vs) ∨ KTup K a vs) : SqT K H a vs := h.imp (·.1) id
theorem SqL.of3 {K : PySem.W.Frag} {a : Addr} {vs : List V} (h : Fix M H a (.lst vs) ∨ KLst K a vs) : SqL K H a vs := h.imp (·.1) id
mutual
theorem rep_readsX (I : Inv X pins σv H s) (d : D) {v : V} {u : Value} (hp : plain d = true) (p : Rep X.K M H d v) (r : RelV v u) : ∃ as, Reads s.heap u (pyD d) as := by
  cases d with
  | non => cases p; cases r; exact ⟨[], .none⟩
  | bl b => cases p; cases r; exact ⟨[], .bool b⟩
  | int i => cases p; obtain ⟨t, rfl⟩ := r; exact ⟨[], .int i t⟩
  | str x => cases p; obtain ⟨t, rfl⟩ := r; exact ⟨[], .str x t⟩
  | tup xs =>
    cases p with
    | tup h q =>
    cases r
    obtain ⟨its, rv, ⟨o, e1, e2, n, e3⟩, _⟩ := I.tuple (SqT.of3 h)
    obtain ⟨as, ra⟩ := rep_readsAll I xs (by simpa [plain] using hp) q rv
    exact ⟨as, by rw [pyD]; exact .tuple e1 e2 e3 (by simpa using ra)⟩
  | lst xs =>
    cases p with
    | @lst a _ _ h q =>
    cases r
    obtain ⟨its, rv, ⟨o, n, e1, e2, _, e3⟩, _⟩ := I.list (SqL.of3 h)
    obtain ⟨as, ra⟩ := rep_readsAll I xs (by simpa [plain] using hp) q rv
    exact ⟨a :: as, by rw [pyD]; exact .list e1 e2 e3 (by simpa using ra)⟩
  | dct _ => cases hp
  | ty _ => cases hp
  | ref _ => cases hp
theorem rep_readsAll (I : Inv X pins σv H s) (ds : List D) {vs : List V} {us : List Value} (hp : plains ds = true) (p : Reps X.K M H ds vs) (r : Vals vs us) : ∃ as, ReadsAll s.heap us (pyDs ds) as := by
  cases ds with
  | nil => cases p; cases r; exact ⟨[], .nil⟩
  | cons d ds =>
    cases p with
    | cons q qs =>
    cases r with
    | cons r rs =>
      have hp' : plain d = true ∧ plains ds = true := by simpa [plains] using hp
      obtain ⟨as, h1⟩ := rep_readsX I d hp'.1 q r
      obtain ⟨bs, h2⟩ := rep_readsAll I ds hp'.2 qs rs
      exact ⟨as ++ bs, by rw [pyDs]; exact .cons h1 h2⟩
end
end
theorem rep_reads {X : Cx} {pins : List (Addr × Obj)} {σv : L2.St} {M : Mem} {H : Hp} {s : Shared} (I : Inv X pins σv H s) {d : D} {v : V} {u : Value} (hp : plain d = true) (p : Rep X.K M H d v) (r : RelV v u) : ∃ as, Reads s.heap u (pyD d) as := rep_readsX I d hp p r
abbrev R3 := D → D → Mem → DK → Prop
abbrev C3 := List D → Mem → DK → Prop
def OpR3 (X : Cx) (f : Value → Value → Sem Value) (r : R3) : Prop :=
  ∀ (pins : List (Addr × Obj)) (s : Shared) (σv : L2.St) (H : Hp) (M : Mem) (x y : D) (xv yv : V) (v u : Value) (Q : DK), Inv X pins σv H s → MRel X.K M H → RelV xv v → RelV yv u → Rep X.K M H x xv → Rep X.K M H y yv → r x y M Q →
    wpAny (model X.prog X.w) X.A (f v u) (EP3 X pins σv M H Q) X.xe s
def CallR3 (X : Cx) (f : Value) (r : C3) : Prop :=
  ∀ (pins : List (Addr × Obj)) (s : Shared) (σv : L2.St) (H : Hp) (M : Mem) (xs : List D) (xvs : List V) (us : List Value) (Q : DK), Inv X pins σv H s → MRel X.K M H → Vals xvs us → Reps X.K M H xs xvs → r xs M Q →
    wpAny (model X.prog X.w) X.A (call f us) (EP3 X pins σv M H Q) X.xe s
section
variable {X : Cx}
theorem ep_up {pins : List (Addr × Obj)} {σv : L2.St} {M : Mem} {H : Hp} {Q : DK} {u : Value} {s' : Shared} (h : EP X pins σv (Up X.K M H Q) u s') : EP3 X pins σv M H Q u s' := by
  obtain ⟨v, H', I', r, d, M', st, m', rep, q⟩ := h
  exact ⟨d, v, M', H', I', st, m', r, rep, q⟩
theorem OpR3.of {f : Value → Value → Sem Value} {r : R2} {r3 : R3} (h : OpR X f r)
    (hr : ∀ (H : Hp) (M : Mem) (x y : D) (xv yv : V) (Q : DK), MRel X.K M H → Rep X.K M H x xv → Rep X.K M H y yv → r3 x y M Q → r xv yv H (Up X.K M H Q)) : OpR3 X f r3 :=
  fun pins s σv H M x y xv yv v u Q I m rx ry px py q => thn (h pins s σv H xv yv v u _ I rx ry (hr H M x y xv yv Q m px py q)) fun _ _ z => ep_up z
theorem CallR3.of {f : Value} {r : List V → Hp → VK → Prop} {r3 : C3} (h : CallR X f r)
    (hr : ∀ (H : Hp) (M : Mem) (xs : List D) (xvs : List V) (Q : DK), MRel X.K M H → Reps X.K M H xs xvs → r3 xs M Q → r xvs H (Up X.K M H Q)) : CallR3 X f r3 :=
  fun pins s σv H M xs xvs us Q I m rv px q => thn (h pins s σv H xvs us _ I rv (hr H M xs xvs Q m px q)) fun _ _ z => ep_up z
theorem up0 {K : PySem.W.Frag} {M : Mem} {H : Hp} {Q : DK} {d : D} {v : V} (m : MRel K M H) (r : Rep K M H d v) (q : Q d M) : Up K M H Q v H := ⟨d, M, .refl, m, r, q⟩
def tOp3 (r : R3) (ta tb : TE3) : TE3 := fun σ M Q => ta σ M fun x M1 => tb σ M1 fun y M2 => r x y M2 Q
variable {a b c e : Expr} {es : List Expr} {ta tb tc te : TE3} {t : TA3} {pos : Pos}
theorem EP3.trans {pins : List (Addr × Obj)} {σv : L2.St} {M M1 : Mem} {H H1 : Hp} {Q : DK} {u : Value} {s' : Shared} (st : Step M H M1 H1) (h : EP3 X pins σv M1 H1 Q u s') : EP3 X pins σv M H Q u s' := by
  obtain ⟨d, v, M', H', I', st', m', r, rep, q⟩ := h
  exact ⟨d, v, M', H', I', st.trans st', m', r, rep, q⟩
theorem bin3 (ha : PE3 X a ta) (hb : PE3 X b tb) {f : Value → Value → Sem Value} {r : R3} (ho : OpR3 X f r) {pins : List (Addr × Obj)} {s : Shared} {σv : L2.St} {H : Hp} {σ : Lo} {M : Mem} {Q : DK}
    (I : Inv X pins σv H s) (hS : SRel X.K M H σ σv) (hM : MRel X.K M H) (h : tOp3 r ta tb σ M Q) :
    wpAny (model X.prog X.w) X.A (eval a X.env) (fun v s₁ => wpAny (model X.prog X.w) X.A (eval b X.env) (fun u s₂ => wpAny (model X.prog X.w) X.A (f v u) (EP3 X pins σv M H Q) X.xe s₂) X.xe s₁) X.xe s := by
  refine thn (ha pins s σv H σ M _ I hS hM h) fun v s1 hx0 => ?_
  obtain ⟨x, xv, M1, H1, I1, st1, m1, rv1, p1, q1⟩ := hx0
  refine thn (hb pins s1 σv H1 σ M1 _ I1 (hS.mono st1) m1 q1) fun u s2 hx0 => ?_
  obtain ⟨y, yv, M2, H2, I2, st2, m2, rv2, p2, q2⟩ := hx0
  exact thn (ho pins s2 σv H2 M2 x y xv yv v u Q I2 m2 rv1 rv2 (p1.mono st2) p2 q2) fun _ _ z => z.trans (st1.trans st2)
theorem pe3_op {op : Operator} {r : R3} (ho : OpR3 X (binaryOp op) r) (ha : PE3 X a ta) (hb : PE3 X b tb) : PE3 X (.BinOp a op b pos) (tOp3 r ta tb) :=
  fun pins s σv H σ M Q I hS hM h => wpAny_BinOp (bin3 ha hb ho I hS hM h)
theorem pe3_cmp {op : CmpOp} {r : R3} (ho : OpR3 X (compareOp op) r) (ha : PE3 X a ta) (hb : PE3 X b tb) (hm : behindInMarks op b = false) : PE3 X (.Compare a [op] [b] pos) (tOp3 r ta tb) :=
  fun pins s σv H σ M Q I hS hM h => wpAny_Compare1 (bin3 ha hb ho I hS hM h) hm
def tTest3 (t : TE3) : TT3 := fun σ M Q => t σ M fun x M' => ∃ k, x = .bl k ∧ Q k M'
theorem pt3_cmp {op : CmpOp} {r : R3} (ho : OpR3 X (compareOp op) r) (ha : PE3 X a ta) (hb : PE3 X b tb) (hm : behindInMarks op b = false) : PT3 X (.Compare a [op] [b] pos) (tTest3 (tOp3 r ta tb)) := by
  intro pins s σv H σ M Q I hS hM h
  refine wpAny_isTrue_Compare1 (thn (bin3 (Q := fun x M' => ∃ k, x = .bl k ∧ Q k M') ha hb ho I hS hM h) fun v s1 h1 => thn h1 fun u s2 h2 => thn h2 fun d s3 ⟨x, xv, M1, H1, I1, st1, m1, rv1, p1, k, e, q1⟩ => ?_) hm
  subst e
  cases p1
  cases rv1
  exact wpAny_truthy_bool ⟨M1, H1, I1, st1, m1, q1⟩
theorem pt3_val (h : PE3 X e te) (he : ∀ whole, isTrue e X.env whole = (do let v ← whole; standAt e.pos; holding [v] (truthy v)) := by intro _; rfl) : PT3 X e (tTest3 te) := by
  intro pins s σv H σ M Q I hS hM hw
  refine isTrue_plain (thn (h pins s σv H σ M _ I hS hM hw) fun v s1 ⟨x, xv, M1, H1, I1, st1, m1, rv1, p1, k, e, q1⟩ => ?_) (he _)
  subst e
  cases p1
  cases rv1
  exact wpAny_truthy_bool ⟨M1, H1, I1, st1, m1, q1⟩
def PW3 (X : Cx) (e : Expr) (t : TT3) : Prop :=
  ∀ (whole : Sem Value) (pins : List (Addr × Obj)) (s : Shared) (σv : L2.St) (H : Hp) (σ : Lo) (M : Mem) (Q : Bool → Mem → Prop), Inv X pins σv H s → SRel X.K M H σ σv → MRel X.K M H → t σ M Q →
    wpAny (model X.prog X.w) X.A (isTrue e X.env whole) (TP3 X pins σv M H Q) X.xe s
theorem PW3.pt {t : TT3} (h : PW3 X e t) : PT3 X e t := h _
variable {tA tB' : TT3} {rest : List Expr}
def tAnd3 (t u : TT3) : TT3 := fun σ M Q => t σ M fun c M1 => if c = true then u σ M1 Q else Q false M1
def tOr3 (t u : TT3) : TT3 := fun σ M Q => t σ M fun c M1 => if c = true then Q true M1 else u σ M1 Q
def tNot3 (t : TT3) : TT3 := fun σ M Q => t σ M fun c M1 => Q (!c) M1
theorem TP3.trans {pins : List (Addr × Obj)} {σv : L2.St} {M M1 : Mem} {H H1 : Hp} {Q : Bool → Mem → Prop} {u : Bool} {s' : Shared} (st : Step M H M1 H1) (h : TP3 X pins σv M1 H1 Q u s') : TP3 X pins σv M H Q u s' := by
  obtain ⟨M', H', I', st', m', q⟩ := h
  exact ⟨M', H', I', st.trans st', m', q⟩
theorem pw3_and1 (ha : PT3 X a tA) : PW3 X (.BoolOp .And [a] pos) tA := by
  intro wh pins s σv H σ M Q I hS hM h
  refine isTrue_and (thn (ha pins s σv H σ M Q I hS hM h) fun c s1 e => ?_)
  cases c with
  | true => exact isTrue_and_nil e
  | false => exact e
theorem pw3_or1 (ha : PT3 X a tA) : PW3 X (.BoolOp .Or [a] pos) tA := by
  intro wh pins s σv H σ M Q I hS hM h
  refine isTrue_or (thn (ha pins s σv H σ M Q I hS hM h) fun c s1 e => ?_)
  cases c with
  | false => exact isTrue_or_nil e
  | true => exact e
theorem pw3_and (ha : PT3 X a tA) (hb : PW3 X (.BoolOp .And (b :: rest) pos) tB') : PW3 X (.BoolOp .And (a :: b :: rest) pos) (tAnd3 tA tB') := by
  intro wh pins s σv H σ M Q I hS hM h
  refine isTrue_and (thn (ha pins s σv H σ M _ I hS hM h) fun c s1 ⟨M1, H1, I1, st1, m1, q1⟩ => ?_)
  cases c with
  | true => exact thn (hb wh pins s1 σv H1 σ M1 Q I1 (hS.mono st1) m1 q1) fun _ _ z => z.trans st1
  | false => exact ⟨M1, H1, I1, st1, m1, q1⟩
theorem pw3_or (ha : PT3 X a tA) (hb : PW3 X (.BoolOp .Or (b :: rest) pos) tB') : PW3 X (.BoolOp .Or (a :: b :: rest) pos) (tOr3 tA tB') := by
  intro wh pins s σv H σ M Q I hS hM h
  refine isTrue_or (thn (ha pins s σv H σ M _ I hS hM h) fun c s1 ⟨M1, H1, I1, st1, m1, q1⟩ => ?_)
  cases c with
  | false => exact thn (hb wh pins s1 σv H1 σ M1 Q I1 (hS.mono st1) m1 q1) fun _ _ z => z.trans st1
  | true => exact ⟨M1, H1, I1, st1, m1, q1⟩
theorem pt3_not (ha : PT3 X a tA) : PT3 X (.UnaryOp .Not a pos) (tNot3 tA) := fun pins s σv H σ M Q I hS hM h =>
  isTrue_not (ha pins s σv H σ M (fun c M1 => Q (!c) M1) I hS hM h)
def tAndV3 (ta tb : TE3) : TE3 := fun σ M Q => ta σ M fun x M1 => ∃ c, x = .bl c ∧ if c = true then tb σ M1 Q else Q (.bl false) M1
def tOrV3 (ta tb : TE3) : TE3 := fun σ M Q => ta σ M fun x M1 => ∃ c, x = .bl c ∧ if c = true then Q (.bl true) M1 else tb σ M1 Q
theorem pe3_one {op} (h : PE3 X a ta) : PE3 X (.BoolOp op [a] pos) ta := fun pins s σv H σ M Q I hS hM hw => BoolOp_one (h pins s σv H σ M Q I hS hM hw)
theorem pe3_and (ha : PE3 X a ta) (hb : PE3 X (.BoolOp .And (b :: rest) pos) tb) : PE3 X (.BoolOp .And (a :: b :: rest) pos) (tAndV3 ta tb) := by
  intro pins s σv H σ M Q I hS hM h
  refine BoolOp_and (thn (ha pins s σv H σ M _ I hS hM h) fun v s1 ⟨x, xv, M1, H1, I1, st1, m1, rv1, p1, c, e, q1⟩ => ?_)
  subst e
  cases p1
  cases rv1
  refine wpAny_truthy_bool ?_
  cases c with
  | true => exact thn (hb pins s1 σv H1 σ M1 Q I1 (hS.mono st1) m1 q1) fun _ _ z => z.trans st1
  | false => exact ⟨.bl false, .bl false, M1, H1, I1, st1, m1, rfl, .bl, q1⟩
theorem pe3_or (ha : PE3 X a ta) (hb : PE3 X (.BoolOp .Or (b :: rest) pos) tb) : PE3 X (.BoolOp .Or (a :: b :: rest) pos) (tOrV3 ta tb) := by
  intro pins s σv H σ M Q I hS hM h
  refine BoolOp_or (thn (ha pins s σv H σ M _ I hS hM h) fun v s1 ⟨x, xv, M1, H1, I1, st1, m1, rv1, p1, c, e, q1⟩ => ?_)
  subst e
  cases p1
  cases rv1
  refine wpAny_truthy_bool ?_
  cases c with
  | false => exact thn (hb pins s1 σv H1 σ M1 Q I1 (hS.mono st1) m1 q1) fun _ _ z => z.trans st1
  | true => exact ⟨.bl true, .bl true, M1, H1, I1, st1, m1, rfl, .bl, q1⟩
def tVar3 (i : Nat) : TE3 := fun σ M Q => match σ[i]? with
  | some (some d) => Q d M
  | _ => False
def tC3 (d : D) : TE3 := fun _ M Q => Q d M
theorem pe3_var {i : Nat} (h : PE X e (tVar i)) : PE3 X e (tVar3 i) := PE3.of h fun pins s σv H σ M Q I hS hM q => by
  unfold tVar3 at q
  cases e : σ[i]? with
  | none => rw [e] at q; exact q.elim
  | some od =>
    rw [e] at q
    cases od with
    | none => exact q.elim
    | some d =>
      obtain ⟨v, hv, r⟩ := hS.get i d e
      exact ⟨v, hv, up0 hM r q⟩
theorem pv3 (i : Nat) {x : Str} {pos : Pos} (hN : X.N[i]? = some x := by rfl) (hv : Vis X.env.scope x := by first | exact Or.inl rfl | exact Or.inr (Or.inl rfl) | exact Or.inr (Or.inr rfl)) (hd : (x == ("__debug__" : Str)) = false := by decide)
    (hcd : (x == ("__classdict__" : Str)) = false := by decide) : PE3 X (.Name x pos) (tVar3 i) := pe3_var (pe_var hN hv hd hcd)
theorem pe3_c {v : V} {d : D} (h : PE X e (tC v)) (hr : ∀ K M H, Rep K M H d v) : PE3 X e (tC3 d) := PE3.of h fun pins s σv H σ M Q I hS hM q => up0 hM (hr _ _ _) q
theorem pe3_int {i j pos} : PE3 X (.Constant (.int i) j pos) (tC3 (.int i)) := pe3_c pe_int fun _ _ _ => .int
theorem pe3_bl {b j pos} : PE3 X (.Constant (.bool b) j pos) (tC3 (.bl b)) := pe3_c pe_bl fun _ _ _ => .bl
theorem pe3_str {x j pos} : PE3 X (.Constant (.str x) j pos) (tC3 (.str x)) := pe3_c pe_str fun _ _ _ => .str
theorem pe3_glob {x : Str} {d : D} {v : V} {u : Value} {pos : Pos} (hg : Gl X x) (hm : X.mg x = some u) (r : RelV v u) (hr : ∀ M H, Rep X.K M H d v) (hd : (x == ("__debug__" : Str)) = false := by decide) : PE3 X (.Name x pos) (tC3 d) :=
  PE3.of (pe_glob hg hm r hd) fun pins s σv H σ M Q I hS hM q => up0 hM (hr _ _) q
def tNil3 : TA3 := fun _ M Q => Q [] M
def tCons3 (ta : TE3) (tr : TA3) : TA3 := fun σ M Q => ta σ M fun x M1 => tr σ M1 fun xs M2 => Q (x :: xs) M2
theorem pa3_nil : PA3 X [] tNil3 := fun pos pins s σv H σ M Q I hS hM h => Calls.spliced_nil ⟨[], [], M, H, I, .refl, hM, .nil, .nil, h⟩
theorem pa3_cons (ha : PE3 X e te) (hr : PA3 X es t) (hs : starEach (e :: es) X.env = (false, eval e X.env) :: starEach es X.env := by rfl) : PA3 X (e :: es) (tCons3 te t) := by
  intro pos pins s σv H σ M Q I hS hM h
  rw [hs]
  show wpAny _ _ (spliced ((false, eval e X.env) :: backTo pos (starEach es X.env))) _ _ s
  refine Calls.spliced_cons (thn (ha pins s σv H σ M _ I hS hM h) fun u s1 ⟨x, xv, M1, H1, I1, st1, m1, rv1, p1, q1⟩ => ?_)
  exact thn (hr pos pins s1 σv H1 σ M1 _ I1 (hS.mono st1) m1 q1) fun us s2 ⟨xs, xvs, M2, H2, I2, st2, m2, rv2, p2, q2⟩ => ⟨x :: xs, xv :: xvs, M2, H2, I2, st1.trans st2, m2, .cons rv1 rv2, .cons (p1.mono st2) p2, q2⟩
def tTup3 (t : TA3) : TE3 := fun σ M Q => t σ M fun xs M1 => xs.length ≤ sizeLine ∧ Q (.tup xs) M1
def tLst3 (t : TA3) : TE3 := fun σ M Q => t σ M fun xs M1 => xs.length ≤ sizeLine ∧ Q (.lst xs) M1
def tLstM3 (t : TA3) : TE3 := fun σ M Q => t σ M fun xs M1 => xs.length ≤ sizeLine ∧ ∀ p, M1 p = none → Q (.ref p) (mput M1 p (.lst xs))
theorem pe3_tup {x1} (h : PA3 X es t) : PE3 X (.Tuple es x1 pos) (tTup3 t) := PE3.of (pe_tup h.dn) fun pins s σv H σ M Q I hS hM h => by
  refine ⟨σ, M, _, hS, hM, h, fun ds vs M' H' st m r ⟨hl, q⟩ => ⟨by rw [← r.length]; exact hl, fun p hp => ?_⟩⟩
  exact ⟨.tup ds, M', st.trans (Step.lay hp), m.lay hp, .tup (.inl ⟨.inl upd_same, m.free hp⟩) (r.mono (Step.lay hp)), q⟩
theorem pe3_lst (h : PA3 X es t) : PE3 X (.List es pos) (tLst3 t) := PE3.of (pe_lst h.dn) fun pins s σv H σ M Q I hS hM h => by
  refine ⟨σ, M, _, hS, hM, h, fun ds vs M' H' st m r ⟨hl, q⟩ => ⟨by rw [← r.length]; exact hl, fun p hp => ?_⟩⟩
  exact ⟨.lst ds, M', st.trans (Step.lay hp), m.lay hp, .lst (.inl ⟨.inl upd_same, m.free hp⟩) (r.mono (Step.lay hp)), q⟩
theorem pe3_lstM (h : PA3 X es t) : PE3 X (.List es pos) (tLstM3 t) := PE3.of (pe_lst h.dn) fun pins s σv H σ M Q I hS hM h => by
  refine ⟨σ, M, _, hS, hM, h, fun ds vs M' H' st m r ⟨hl, q⟩ => ⟨by rw [← r.length]; exact hl, fun p hp => ?_⟩⟩
  exact ⟨.ref p, mput M' p (.lst ds), st.trans (Step.put (.inl hp)), m.put (.inl hp) r, .ref, q p (m.free hp)⟩
end
end L3
set_option Elab.async false
set_option linter.all false
set_option maxRecDepth 100000
namespace L3
open PySem PySem.Spec PyProof.Rows L2
section
variable {X : Cx}
def rI3 (C : Int → Int → Prop) (g : Int → Int → D) : R3 := fun x y M Q => match x, y with
  | .int i, .int j => C i j ∧ Q (g i j) M
  | _, _ => False
def rI30 (g : Int → Int → D) : R3 := fun x y M Q => match x, y with
  | .int i, .int j => Q (g i j) M
  | _, _ => False
theorem op3_I {f : Value → Value → Sem Value} {C : Int → Int → Prop} {g : Int → Int → Int} (h : OpR X f (rI C fun i j => .int (g i j))) : OpR3 X f (rI3 C fun i j => .int (g i j)) :=
  OpR3.of h fun H M x y xv yv Q m px py q => by
    cases x <;> cases y <;> first | exact q.elim | skip
    cases px; cases py
    exact ⟨_, _, rfl, rfl, q.1, up0 m .int q.2⟩
theorem op3_I0 {f : Value → Value → Sem Value} {g : Int → Int → Int} (h : OpR X f (rI0 fun i j => .int (g i j))) : OpR3 X f (rI30 fun i j => .int (g i j)) :=
  OpR3.of h fun H M x y xv yv Q m px py q => by
    cases x <;> cases y <;> first | exact q.elim | skip
    cases px; cases py
    exact ⟨_, _, rfl, rfl, up0 m .int q⟩
theorem op3_B0 {f : Value → Value → Sem Value} {g : Int → Int → Bool} (h : OpR X f (rI0 fun i j => .bl (g i j))) : OpR3 X f (rI30 fun i j => .bl (g i j)) :=
  OpR3.of h fun H M x y xv yv Q m px py q => by
    cases x <;> cases y <;> first | exact q.elim | skip
    cases px; cases py
    exact ⟨_, _, rfl, rfl, up0 m .bl q⟩
def CMulB (i j : Int) : Prop := CMul i j ∨ (i.natAbs < 2 ^ 4096 ∧ j.natAbs < 2 ^ 4096)
theorem bits_le {i : Int} (h : i.natAbs < 2 ^ 4096) : Builtin.Int.intBits i ≤ 4096 := by
  unfold Builtin.Int.intBits
  split
  · lia
  · rename_i hi
    have h0 : i.natAbs ≠ 0 := by intro z; apply hi; have : i = 0 := by lia
                                 subst this; rfl
    have := (Nat.log2_lt h0).mpr h
    lia
theorem mul_ok {i j : Int} (h : CMulB i j) : IntMulOk i j := by
  rcases h with h | ⟨h1, h2⟩
  · exact h.ok
  · have b1 := bits_le h1
    have b2 := bits_le h2
    unfold IntMulOk Builtin.Int.intTooBig
    have : decide (((Builtin.Int.intBits i + Builtin.Int.intBits j : Nat) : Int) > ((bitsLine : Nat) : Int)) = false := by
      refine decide_eq_false ?_
      have : bitsLine = 134217728 := rfl
      lia
    intro z
    simp only [Bool.and_eq_true] at z
    have z2 := z.2
    simp only [Int.natCast_add] at this
    rw [this] at z2; cases z2
theorem op_mulB : OpR X (binaryOp .Mult) (rI CMulB fun i j => .int (i * j)) := opI fun _ _ _ _ _ _ _ hc q => mul_int q (mul_ok hc)
def CDivB (i j : Int) : Prop := 0 < j ∧ j.natAbs < 2 ^ 4096
theorem op_fdivB : OpR X (binaryOp .FloorDiv) (rI CDivB fun i j => .int (i / j)) := opI fun i j _ _ _ _ _ hc q => by
  have h1 : (0 : Int) < j := hc.1
  refine floordiv_int (by lia) (by rw [Int.fdiv_eq_ediv_of_nonneg i (by lia)]; exact q) (.inl (PyProof.noPylong_of_log2 ?_))
  have h0 : j.natAbs ≠ 0 := by lia
  have := (Nat.log2_lt h0).mpr hc.2
  lia
theorem o3_sub : OpR3 X (binaryOp .Sub) (rI30 fun i j => .int (i - j)) := op3_I0 op_sub
theorem o3_mul : OpR3 X (binaryOp .Mult) (rI3 CMulB fun i j => .int (i * j)) := op3_I op_mulB
theorem o3_fdiv : OpR3 X (binaryOp .FloorDiv) (rI3 CDivB fun i j => .int (i / j)) := op3_I op_fdivB
theorem o3_mod : OpR3 X (binaryOp .Mod) (rI3 (fun _ j => 0 < j) fun i j => .int (i % j)) := op3_I op_mod
theorem o3_pow : OpR3 X (binaryOp .Pow) (rI3 CPow fun i j => .int (i ^ j.toNat)) := op3_I op_pow
theorem o3_lt : OpR3 X (compareOp .Lt) (rI30 fun i j => .bl (decide (i < j))) := op3_B0 op_lt
theorem o3_gt : OpR3 X (compareOp .Gt) (rI30 fun i j => .bl (decide (j < i))) := op3_B0 op_gt
theorem o3_ge : OpR3 X (compareOp .GtE) (rI30 fun i j => .bl (decide (j ≤ i))) := op3_B0 op_ge
def rAdd3 : R3 := fun x y M Q => match x, y with
  | .int i, .int j => Q (.int (i + j)) M
  | .str a, .str b => a.length + b.length ≤ sizeLine ∧ Q (.str (a ++ b)) M
  | .lst a, .lst b => a.length + b.length ≤ sizeLine ∧ Q (.lst (a ++ b)) M
  | .tup a, .tup b => a.length + b.length ≤ sizeLine ∧ Q (.tup (a ++ b)) M
  | _, _ => False
theorem o3_add : OpR3 X (binaryOp .Add) rAdd3 := by
  intro pins s σv H M x y xv yv v u Q I m rx ry px py q
  cases x <;> cases y <;> first | exact q.elim | skip
  · cases px; cases py
    exact thn (op_add pins s σv H _ _ v u _ I rx ry ⟨_, _, rfl, rfl, up0 m .int q⟩) fun _ _ z => ep_up z
  · cases px; cases py
    exact thn (op_add_str pins s σv H _ _ v u _ I rx ry ⟨_, _, rfl, rfl, q.1, up0 m .str q.2⟩) fun _ _ z => ep_up z
  · cases px with | tup h1 r1 => cases py with | tup h2 r2 =>
    cases rx; cases ry
    obtain ⟨its, e1, p1, z1⟩ := I.tuple (SqT.of3 h1)
    obtain ⟨its2, e2, p2, z2⟩ := I.tuple (SqT.of3 h2)
    obtain ⟨⟨cls, dd, data, sl⟩, ho, hc, n, hd⟩ := id p1
    obtain ⟨⟨cls2, dd2, data2, sl2⟩, ho2, hc2, n2, hd2⟩ := id p2
    simp only at hc hd hc2 hd2
    subst hc hd hc2 hd2
    have l1 := r1.length
    have l2 := r2.length
    have l3 := e1.length
    have l4 := e2.length
    obtain ⟨hz, q⟩ := q
    by_cases hA : its.toArray.isEmpty = true
    · refine concat_meets ⟨_, ho, rfl⟩ ⟨_, ho2, rfl⟩ noFill_tuple_add seq_tuple_add PySem.F.slot_tuple_add PySem.F.entry_tuple_add (PySem.F.args_tuple_add_2 _ _) (tuple_addW0 _ _ _ _ n n2 dd dd2 sl sl2 hA) ⟨ho, ho2, ?_⟩
      have h0 : its = [] := by simpa using hA
      subst h0
      cases e1
      cases r1
      exact ⟨_, .ref _, M, H, I, .refl, m, rfl, .tup h2 r2, q⟩
    · by_cases hB : its2.toArray.isEmpty = true
      · refine concat_meets ⟨_, ho, rfl⟩ ⟨_, ho2, rfl⟩ noFill_tuple_add seq_tuple_add PySem.F.slot_tuple_add PySem.F.entry_tuple_add (PySem.F.args_tuple_add_2 _ _) (tuple_addW1 _ _ _ _ n n2 dd dd2 sl sl2 hA hB) ⟨ho, ho2, ?_⟩
        have h0 : its2 = [] := by simpa using hB
        subst h0
        cases e2
        cases r2
        rw [List.append_nil] at q
        exact ⟨_, .ref _, M, H, I, .refl, m, rfl, .tup h1 r1, q⟩
      · refine concat_meets ⟨_, ho, rfl⟩ ⟨_, ho2, rfl⟩ noFill_tuple_add seq_tuple_add PySem.F.slot_tuple_add PySem.F.entry_tuple_add (PySem.F.args_tuple_add_2 _ _) (tuple_addW2 _ _ _ _ n n2 dd dd2 sl sl2 hA hB (by simp; lia)) ⟨ho, ho2, ?_⟩
        have ea : its.toArray ++ its2.toArray = (its ++ its2).toArray := by simp
        rw [ea]
        have hf := I.fresh
        have rr := r1.append r2
        refine ⟨_, .ref s.heap.objs.size, M, _, I.laid (t' := s.toks) (o := .tup _) (fun b ob q => Heap.get?_push_of_some _ q) (Nat.le_refl _) ⟨by rw [List.length_append]; lia, _, e1.append e2, IsTup.new _ _⟩, Step.lay hf, m.lay hf, rfl, .tup (.inl ⟨.inl upd_same, m.free hf⟩) (rr.mono (Step.lay hf)), q⟩
  · cases px with | lst h1 r1 => cases py with | lst h2 r2 =>
    cases rx; cases ry
    obtain ⟨its, e1, p1, z1⟩ := I.list (SqL.of3 h1)
    obtain ⟨its2, e2, p2, z2⟩ := I.list (SqL.of3 h2)
    obtain ⟨⟨cls, dd, data, sl⟩, ho, hc, n, hd⟩ := p1.isList
    obtain ⟨⟨cls2, dd2, data2, sl2⟩, ho2, hc2, n2, hd2⟩ := p2.isList
    simp only at hc hd hc2 hd2
    subst hc hd hc2 hd2
    have l1 := r1.length
    have l2 := r2.length
    have l3 := e1.length
    have l4 := e2.length
    obtain ⟨hz, q⟩ := q
    refine concat_meets ⟨_, ho, rfl⟩ ⟨_, ho2, rfl⟩ noFill_list_add seq_list_add PySem.F.slot_list_add PySem.F.entry_list_add (PySem.F.args_list_add_2 _ _) (list_addW _ _ _ _ n n2 dd dd2 sl sl2 (by simp; lia)) ⟨ho, ho2, ?_⟩
    have ea : its.toArray ++ its2.toArray = (its ++ its2).toArray := by simp
    rw [ea]
    have hf := I.fresh
    have rr := r1.append r2
    exact ⟨_, .ref s.heap.objs.size, M, _, I.lnew (t' := s.toks) (e1.append e2) (by rw [List.length_append]; lia), Step.lay hf, m.lay hf, rfl, .lst (.inl ⟨.inl upd_same, m.free hf⟩) (rr.mono (Step.lay hf)), q⟩
def dOk (d : D) : Prop := plain d = true ∧ (pyD d).canLay0 = true ∧ (pyD d).depth ≤ 60
def rEq3 : R3 := fun x y M Q => (dOk x ∧ dOk y ∧ Q (.bl (PyData.eqv (pyD x) (pyD y))) M) ∨ ∃ a b, x = .str a ∧ y = .str b ∧ Q (.bl (a == b)) M
def rNe3 : R3 := fun x y M Q => (dOk x ∧ dOk y ∧ Q (.bl (!PyData.eqv (pyD x) (pyD y))) M) ∨ ∃ a b, x = .str a ∧ y = .str b ∧ Q (.bl (!(a == b))) M
theorem o3_eq {k : Nat} (hr : Room k X.A) : OpR3 X (compareOp .Eq) rEq3 := by
  intro pins s σv H M x y xv yv v u Q I m rx ry px py h
  rcases h with ⟨dx, dy, q⟩ | ⟨a, b, rfl, rfl, q⟩
  rotate_left
  · cases px; cases py
    exact thn (op_eq pins s σv H _ _ v u _ I rx ry ⟨rfl, up0 m .bl (by rw [dec_str]; exact q)⟩) fun _ _ z => ep_up z
  obtain ⟨as, r1⟩ := rep_reads I dx.1 px rx
  obtain ⟨bs, r2⟩ := rep_reads I dy.1 py ry
  exact SeqAt.compareEq_reads r1 r2 dx.2.1 dy.2.1 (by have := hr.units; have := dx.2.2; lia) ⟨_, .bl _, M, H, I, .refl, m, rfl, .bl, q⟩
theorem o3_ne {k : Nat} (hr : Room k X.A) : OpR3 X (compareOp .NotEq) rNe3 := by
  intro pins s σv H M x y xv yv v u Q I m rx ry px py h
  rcases h with ⟨dx, dy, q⟩ | ⟨a, b, rfl, rfl, q⟩
  rotate_left
  · cases px; cases py
    exact thn (op_ne pins s σv H _ _ v u _ I rx ry ⟨rfl, up0 m .bl (by rw [dec_str]; exact q)⟩) fun _ _ z => ep_up z
  obtain ⟨as, r1⟩ := rep_reads I dx.1 px rx
  obtain ⟨bs, r2⟩ := rep_reads I dy.1 py ry
  exact SeqAt.compareNe_reads r1 r2 dx.2.1 dy.2.1 (by have := hr.units; have := dx.2.2; lia) ⟨_, .bl _, M, H, I, .refl, m, rfl, .bl, q⟩
variable {a b e : Expr} {ta tb te : TE3} {pos : Pos}
def rIx3 : R3 := fun x y M Q => match x, y with
  | .lst ds, .int i => ∃ d, atI ds i = some d ∧ Q d M
  | .tup ds, .int i => ∃ d, atI ds i = some d ∧ Q d M
  | .ref a, .int i => ∃ ds d, M a = some (.lst ds) ∧ atI ds i = some d ∧ Q d M
  | .str z, .int i => z.length ≤ sizeLine ∧ ∃ c, atI z.cps.toList i = some c ∧ Q (.str ⟨#[c]⟩) M
  | _, _ => False
theorem Reps.atI {K : PySem.W.Frag} {M : Mem} {H : Hp} {ds : List D} {vs : List V} (r : Reps K M H ds vs) {i : Int} {d : D} (h : L2.atI ds i = some d) : ∃ v, L2.atI vs i = some v ∧ Rep K M H d v := by
  unfold L2.atI at h ⊢
  rw [← r.length]
  cases e : ixN ds.length i with
  | none => rw [e] at h; cases h
  | some j =>
    rw [e] at h
    exact r.get (show ds[j]? = some d from h)
theorem pe3_ix (ha : PE3 X a ta) (hb : PE3 X b tb) (hs : PlainIx b) : PE3 X (.Subscript a b pos) (tOp3 rIx3 ta tb) := by
  intro pins s σv H σ M Q I hS hM h
  refine Subscript_ (thn (ha pins s σv H σ M _ I hS hM h) fun v s1 ⟨x, xv, M1, H1, I1, st1, m1, rv1, p1, q1⟩ =>
    thn (hb pins s1 σv H1 σ M1 _ I1 (hS.mono st1) m1 q1) fun u s2 ⟨y, yv, M2, H2, I2, st2, m2, rv2, p2, q2⟩ => ?_)
  have fin : rIx X.K xv yv H2 (Up X.K M2 H2 Q) := by
    have p1' := p1.mono st2
    cases x <;> cases y <;> first | exact q2.elim | skip
    · cases p1'; cases p2
      obtain ⟨hz, c, hc, q⟩ := q2
      exact .inr (.inr ⟨_, _, c, rfl, rfl, hz, hc, up0 m2 .str q⟩)
    · cases p1'; cases p2
      obtain ⟨ds, d, hm, hd, q⟩ := q2
      obtain ⟨ho, e1, r⟩ := m2 _ _ hm
      cases ho <;> first | exact r.elim | skip
      obtain ⟨v', hv, rv⟩ := Reps.atI r hd
      exact .inl ⟨_, _, _, v', rfl, rfl, .inl (.inl e1), hv, up0 m2 rv q⟩
    · cases p1' with | tup h1 r => cases p2; obtain ⟨d, hd, q⟩ := q2; obtain ⟨v', hv, rv⟩ := Reps.atI r hd; exact .inr (.inl ⟨_, _, _, v', rfl, rfl, SqT.of3 h1, hv, up0 m2 rv q⟩)
    · cases p1' with | lst h1 r => cases p2; obtain ⟨d, hd, q⟩ := q2; obtain ⟨v', hv, rv⟩ := Reps.atI r hd; exact .inl ⟨_, _, _, v', rfl, rfl, SqL.of3 h1, hv, up0 m2 rv q⟩
  exact thn (ix_seq a b pins s2 σv H2 xv yv v u _ I2 rv1 rv2 fin (hs _ _)) fun _ _ z => (ep_up z).trans (st1.trans st2)
def tNoPart3 : Lo → Mem → (Option Int → Mem → Prop) → Prop := fun _ M Q => Q none M
def tPart3 (t : TE3) : Lo → Mem → (Option Int → Mem → Prop) → Prop := fun σ M Q => t σ M fun x M1 => match x with
  | .int i => Q (some i) M1
  | _ => False
abbrev TO3 := Lo → Mem → (Option Int → Mem → Prop) → Prop
def PO3 (X : Cx) (e : Option Expr) (t : TO3) : Prop :=
  ∀ (pins : List (Addr × Obj)) (s : Shared) (σv : L2.St) (H : Hp) (σ : Lo) (M : Mem) (Q : Option Int → Mem → Prop), Inv X pins σv H s → SRel X.K M H σ σv → MRel X.K M H → t σ M Q →
    wpAny (model X.prog X.w) X.A (evalPart e X.env) (fun v s' => ∃ o M' H', Inv X pins σv H' s' ∧ Step M H M' H' ∧ MRel X.K M' H' ∧ IsPart v o ∧ Q o M') X.xe s
theorem po3_none : PO3 X none tNoPart3 := by
  intro pins s σv H σ M Q I hS hM h
  rw [evalPart_none]
  exact wpAny_pure ⟨none, M, H, I, .refl, hM, .none, h⟩
theorem po3_some (h : PE3 X e te) : PO3 X (some e) (tPart3 te) := by
  intro pins s σv H σ M Q I hS hM hw
  rw [evalPart_some]
  refine thn (h pins s σv H σ M _ I hS hM hw) fun u s1 hx0 => ?_
  obtain ⟨x, xv, M1, H1, I1, st1, m1, rv1, p1, q1⟩ := hx0
  cases x <;> first | exact q1.elim | skip
  cases p1
  obtain ⟨t, rfl⟩ := rv1
  exact ⟨some _, M1, H1, I1, st1, m1, .int _ t, q1⟩
def cutD (xs : List D) (lo hi : Option Int) : List D := (xs.drop (HT.sIx xs.length 0 lo)).take (HT.sIx xs.length xs.length hi - HT.sIx xs.length 0 lo)
theorem Reps.cut {K : PySem.W.Frag} {M : Mem} {H : Hp} {ds : List D} {vs : List V} (r : Reps K M H ds vs) (lo hi : Option Int) : Reps K M H (cutD ds lo hi) (cutV vs lo hi) := by
  unfold cutD cutV
  rw [r.length]
  exact (r.drop _).take _
end
end L3
set_option Elab.async false
set_option linter.all false
set_option maxRecDepth 100000
namespace L3
open PySem PySem.Spec PyProof.Rows L2
section
variable {X : Cx} {a b e o i value : Expr} {es : List Expr} {ta tb te td ty tv : TE3} {t : TA3} {pos p pos' : Pos} {x : Str} {id T : String} {r : C3}
def tCB3 (r : C3) (t : TA3) : TE3 := fun σ M Q => t σ M fun ds M1 => r ds M1 Q
theorem pe3_callB (hc : CallR3 X (.builtin id) r) (hg : Gl X x) (hm : X.mg x = none) (hv : bootBuiltins x = some (.builtin id)) (ha : PA3 X (e :: es) t) (hn : x ≠ "__name__" := by decide) (hdb : (x == ("__debug__" : Str)) = false := by decide)
    (he : starEach (e :: es) X.env = (false, eval e X.env) :: starEach es X.env := by rfl) (hpl : (backTo pos (starEach es X.env)).any (·.1) = false := by rfl) : PE3 X (.Call (.Name x p) (e :: es) [] pos) (tCB3 r t) := by
  intro pins s σv H σ M Q I hS hM h
  refine wpAny_Call_Name_kw (ld_blt I hg hm hv ?_ hn hdb)
  exact PyProof.Rows.callWith_builtin1 (thn (ha pos pins s σv H σ M _ I hS hM h) fun us s1 ⟨ds, vs, M1, H1, I1, st1, m1, rv1, p1, q1⟩ => thn (hc pins s1 σv H1 M1 ds vs us Q I1 m1 rv1 p1 q1) fun _ _ z => z.trans st1) he hpl
theorem pe3_callTy (hc : CallR3 X (.type T) r) (hg : Gl X x) (hm : X.mg x = none) (hv : bootBuiltins x = some (.type T)) (ha : PA3 X (e :: es) t) (hn : x ≠ "__name__" := by decide) (hdb : (x == ("__debug__" : Str)) = false := by decide)
    (he : starEach (e :: es) X.env = (false, eval e X.env) :: starEach es X.env := by rfl) (hpl : (backTo pos (starEach es X.env)).any (·.1) = false := by rfl) : PE3 X (.Call (.Name x p) (e :: es) [] pos) (tCB3 r t) := by
  intro pins s σv H σ M Q I hS hM h
  refine wpAny_Call_Name_kw (ld_blt I hg hm hv ?_ hn hdb)
  exact PyProof.Rows.callWith_type1 (thn (ha pos pins s σv H σ M _ I hS hM h) fun us s1 ⟨ds, vs, M1, H1, I1, st1, m1, rv1, p1, q1⟩ => thn (hc pins s1 σv H1 M1 ds vs us Q I1 m1 rv1 p1 q1) fun _ _ z => z.trans st1) he hpl
theorem pe3_bltn {v : V} {d : D} {u : Value} (hg : Gl X x) (hm : X.mg x = none) (hv : bootBuiltins x = some u) (r : RelV v u) (hr : ∀ K M H, Rep K M H d v) (hn : x ≠ "__name__" := by decide) (hd : (x == ("__debug__" : Str)) = false := by decide) : PE3 X (.Name x pos) (tC3 d) :=
  pe3_c (pe_bltn hg hm hv r hn hd) hr
def rLen3 : C3 := fun ds M Q => match ds with
  | [.lst xs] => Q (.int xs.length) M
  | [.tup xs] => Q (.int xs.length) M
  | [.str z] => z.length ≤ sizeLine ∧ Q (.int z.length) M
  | [.ref a] => ∃ xs, M a = some (.lst xs) ∧ Q (.int xs.length) M
  | _ => False
theorem c3_len : CallR3 X (.builtin "len") rLen3 := CallR3.of (call_len_seq.or call_len_str) fun H M xs xvs Q m px q => by
  rcases px with _ | ⟨pd, ps⟩; (exact (q : False).elim); rcases ps with _ | ⟨p2, ps2⟩; rotate_left; (first | exact (q : False).elim | (cases pd <;> exact (q : False).elim))
  cases pd with
  | lst h r => exact .inl ⟨_, _, rfl, .inl (SqL.of3 h), by rw [← r.length]; exact up0 m .int q⟩
  | tup h r => exact .inl ⟨_, _, rfl, .inr (SqT.of3 h), by rw [← r.length]; exact up0 m .int q⟩
  | str => exact .inr ⟨_, rfl, q.1, up0 m .int q.2⟩
  | ref =>
    obtain ⟨ds, hm, q⟩ := q
    obtain ⟨ho, e1, r⟩ := m _ _ hm
    cases ho <;> first | exact r.elim | skip
    have r' : Reps X.K M H ds _ := r
    exact .inl ⟨_, _, rfl, .inl (.inl (.inl e1)), by rw [← r'.length]; exact up0 m .int q⟩
  | _ => exact (q : False).elim
def rAbs3 : C3 := fun ds M Q => match ds with
  | [.int i] => Q (.int (if i < 0 then -i else i)) M
  | _ => False
theorem c3_abs : CallR3 X (.builtin "abs") rAbs3 := CallR3.of call_abs fun H M xs xvs Q m px q => by
  rcases px with _ | ⟨pd, ps⟩; (exact (q : False).elim); rcases ps with _ | ⟨p2, ps2⟩; rotate_left; (first | exact (q : False).elim | (cases pd <;> exact (q : False).elim))
  cases pd with
  | int => exact ⟨_, rfl, up0 m .int q⟩
  | _ => exact (q : False).elim
def rInt3 : C3 := fun ds M Q => match ds with
  | [.int i] => Q (.int i) M
  | [.bl k] => Q (.int (if k then 1 else 0)) M
  | _ => False
theorem c3_int : CallR3 X (.type "int") rInt3 := CallR3.of call_int1 fun H M xs xvs Q m px q => by
  rcases px with _ | ⟨pd, ps⟩; (exact (q : False).elim); rcases ps with _ | ⟨p2, ps2⟩; rotate_left; (first | exact (q : False).elim | (cases pd <;> exact (q : False).elim))
  cases pd with
  | int => exact .inl ⟨_, rfl, up0 m .int q⟩
  | bl => exact .inr ⟨_, rfl, up0 m .int q⟩
  | _ => exact (q : False).elim
def tyN : D → String
  | .non => "NoneType" | .bl _ => "bool" | .int _ => "int" | .str _ => "str" | .tup _ => "tuple" | .lst _ => "list" | .dct _ => "dict" | .ty _ => "type" | .ref _ => ""
def isIn (n T : String) : Bool := n == T || (n == "bool" && T == "int")
def okTy : D → Prop
  | .ref _ => False
  | .ty _ => False
  | _ => True
def rIsi3 : C3 := fun ds M Q => match ds with
  | [d, .ty T] => okTy d ∧ (T = "bool" ∨ T = "int" ∨ T = "str" ∨ T = "tuple" ∨ T = "list") ∧ Q (.bl (isIn (tyN d) T)) M
  | _ => False
theorem kit_ok {K : PySem.W.Frag} {n T : String} (hn : n = "NoneType" ∨ n = "bool" ∨ n = "int" ∨ n = "str" ∨ n = "tuple" ∨ n = "list" ∨ n = "dict") (hT : T = "bool" ∨ T = "int" ∨ T = "str" ∨ T = "tuple" ∨ T = "list") :
    PySem.W.kitOne K (.type n) (.type T) = some (isIn n T) := by
  rcases hn with rfl | rfl | rfl | rfl | rfl | rfl | rfl <;> rcases hT with rfl | rfl | rfl | rfl | rfl <;> kernel_rfl
end
end L3
set_option Elab.async false
set_option linter.all false
set_option maxRecDepth 100000
namespace L3
open PySem PySem.Spec PyProof.Rows L2
section
variable {X : Cx} {a b e o i value : Expr} {es : List Expr} {ta tb te td ty tv : TE3} {t : TA3} {pos p pos' : Pos} {x : Str}
theorem c3_isi : CallR3 X (.builtin "isinstance") rIsi3 := by
  intro pins s σv H M xs xvs us Q I m rv px q
  have fin : ∀ (d : D) (T : String) (v : V) (u : Value) (n : String) (hn : n = "NoneType" ∨ n = "bool" ∨ n = "int" ∨ n = "str" ∨ n = "tuple" ∨ n = "list" ∨ n = "dict") (G : Heap → Prop), tyN d = n →
      PySem.W.KitX X.K u (.type n) G → G s.heap → u ≠ .builtin "__main__.__loader__#opaque" → (T = "bool" ∨ T = "int" ∨ T = "str" ∨ T = "tuple" ∨ T = "list") ∧ Q (.bl (isIn (tyN d) T)) M →
      wpAny (model X.prog X.w) X.A (call (.builtin "isinstance") [u, .type T]) (EP3 X pins σv M H Q) X.xe s := by
    intro d T v u n hn G e1 kx g hu ⟨hT, q⟩
    subst e1
    exact PySem.W.kia_one kx I.kIn g (kit_ok hn hT) hu fun tk => ⟨_, .bl _, M, H, I.tok tk, .refl, m, rfl, .bl, q⟩
  match xs, px, q with
  | [d, .ty T], .cons pd (.cons .ty .nil), q =>
    obtain ⟨u, u', rfl, ru, ru'⟩ := vals2 rv
    cases ru'
    obtain ⟨hd, q⟩ := q
    cases pd with
    | non => cases ru; exact fin .non T .non _ _ (.inl rfl) _ rfl PySem.W.kitx_none True.intro (fun z => nomatch z) q
    | @bl k => cases ru; exact fin (.bl k) T .non _ _ (.inr (.inl rfl)) _ rfl PySem.W.kitx_bool True.intro (fun z => nomatch z) q
    | @int k => obtain ⟨t, rfl⟩ := ru; exact fin (.int k) T .non _ _ (.inr (.inr (.inl rfl))) _ rfl PySem.W.kitx_int True.intro (fun z => nomatch z) q
    | @str k => obtain ⟨t, rfl⟩ := ru; exact fin (.str k) T .non _ _ (.inr (.inr (.inr (.inl rfl)))) _ rfl PySem.W.kitx_str True.intro (fun z => nomatch z) q
    | @tup a k vs h r =>
      cases ru
      obtain ⟨its, _, ⟨ob, h1, h2, _⟩, _⟩ := I.tuple (SqT.of3 h)
      exact fin (.tup k) T .non _ _ (.inr (.inr (.inr (.inr (.inl rfl))))) _ rfl PySem.W.kitx_tuple ⟨ob, h1, h2⟩ (fun z => nomatch z) q
    | @lst a k vs h r =>
      cases ru
      obtain ⟨its, _, ⟨ob, n, h1, h2, _⟩, _⟩ := I.list (SqL.of3 h)
      exact fin (.lst k) T .non _ _ (.inr (.inr (.inr (.inr (.inr (.inl rfl)))))) _ rfl PySem.W.kitx_list ⟨ob, h1, h2⟩ (fun z => nomatch z) q
    | @dct a k vs h r =>
      cases ru
      obtain ⟨_, _, vs, _, ob, es, ep, h1, h2, _⟩ := dk_rd I.hok h.1
      exact fin (.dct k) T .non _ _ (.inr (.inr (.inr (.inr (.inr (.inr rfl)))))) _ rfl PySem.W.kitx_dict ⟨ob, h1, h2.1⟩ (fun z => nomatch z) q
    | ty => exact hd.elim
    | ref => exact hd.elim
def valD (kds : List (Key × D)) (k : Key) : Option D := (kds.find? fun kv => decide (kv.1 = k)).map (·.2)
def putD (kds : List (Key × D)) (k : Key) (d : D) : List (Key × D) :=
  if (kds.any fun kv => decide (kv.1 = k)) = true then kds.map (fun kv => if kv.1 = k then (kv.1, d) else kv) else kds ++ [(k, d)]
def mergeD (kds more : List (Key × D)) : List (Key × D) := more.foldl (fun acc kv => putD acc kv.1 kv.2) kds
def kD : Key → D
  | .inl i => .int i
  | .inr x => .str x
def dK? : D → Option Key
  | .int i => some (.inl i)
  | .str x => some (.inr x)
  | _ => none
section
variable {K : PySem.W.Frag} {M : Mem} {H : Hp}
theorem RepK.length {kds : List (Key × D)} {kvs : List (Key × V)} (r : RepK K M H kds kvs) : kds.length = kvs.length := by
  induction kds generalizing kvs with
  | nil => cases r; rfl
  | cons d ds ih => cases r with | cons a b => rw [List.length_cons, List.length_cons, ih b]
theorem RepK.val {kds : List (Key × D)} {kvs : List (Key × V)} (r : RepK K M H kds kvs) (k : Key) : (∃ d v, valD kds k = some d ∧ valV kvs k = some v ∧ Rep K M H d v) ∨ (valD kds k = none ∧ valV kvs k = none) := by
  induction kds generalizing kvs with
  | nil => cases r; exact .inr ⟨rfl, rfl⟩
  | cons d ds ih =>
    cases r with
    | @cons k' d v ds vs a b =>
      by_cases e : k' = k
      · exact .inl ⟨d, v, by simp [valD, e], by simp [valV, e], a⟩
      · have e1 : valD ((k', d) :: ds) k = valD ds k := by simp [valD, e]
        have e2 : valV ((k', v) :: vs) k = valV vs k := by simp [valV, e]
        rw [e1, e2]; exact ih b
theorem RepK.some {kds : List (Key × D)} {kvs : List (Key × V)} (r : RepK K M H kds kvs) {k : Key} {d : D} (h : valD kds k = Option.some d) : ∃ v, valV kvs k = Option.some v ∧ Rep K M H d v := by
  rcases r.val k with ⟨d', v, e1, e2, q⟩ | ⟨e1, _⟩
  · rw [h] at e1; cases e1; exact ⟨v, e2, q⟩
  · rw [h] at e1; cases e1
theorem RepK.anyK {kds : List (Key × D)} {kvs : List (Key × V)} (r : RepK K M H kds kvs) (k : Key) : (kds.any fun kv => decide (kv.1 = k)) = kvs.any fun kv => decide (kv.1 = k) := by
  induction kds generalizing kvs with
  | nil => cases r; rfl
  | cons d ds ih => cases r with | cons a b => rw [List.any_cons, List.any_cons, ih b]
theorem RepK.repl {kds : List (Key × D)} {kvs : List (Key × V)} (r : RepK K M H kds kvs) (k : Key) {d : D} {v : V} (q : Rep K M H d v) : RepK K M H (kds.map (fun kv => if kv.1 = k then (kv.1, d) else kv)) (kvs.map (fun kv => if kv.1 = k then (kv.1, v) else kv)) := by
  induction kds generalizing kvs with
  | nil => cases r; exact .nil
  | cons d' ds ih =>
    cases r with
    | @cons k' d' v' ds vs a b =>
      rw [List.map_cons, List.map_cons]
      by_cases e : k' = k
      · simp only [e, if_true]; exact .cons q (ih b)
      · simp only [e, if_false]; exact .cons a (ih b)
theorem RepK.snoc {kds : List (Key × D)} {kvs : List (Key × V)} (r : RepK K M H kds kvs) (k : Key) {d : D} {v : V} (q : Rep K M H d v) : RepK K M H (kds ++ [(k, d)]) (kvs ++ [(k, v)]) := by
  induction kds generalizing kvs with
  | nil => cases r; exact .cons q .nil
  | cons d' ds ih => cases r with | cons a b => exact .cons a (ih b)
theorem RepK.put {kds : List (Key × D)} {kvs : List (Key × V)} (r : RepK K M H kds kvs) (k : Key) {d : D} {v : V} (q : Rep K M H d v) : RepK K M H (putD kds k d) (putK kvs k v) := by
  unfold putD putK
  rw [r.anyK]
  split
  · exact r.repl k q
  · exact r.snoc k q
theorem RepK.merge {more : List (Key × D)} {mv : List (Key × V)} (q : RepK K M H more mv) : ∀ {kds : List (Key × D)} {kvs : List (Key × V)}, RepK K M H kds kvs → RepK K M H (mergeD kds more) (mergeK kvs mv) := by
  induction more generalizing mv with
  | nil => cases q; exact fun r => r
  | cons d ds ih => cases q with | cons a b => exact fun r => ih b (r.put _ a)
theorem rep_key {k : Key} {v : V} (r : Rep K M H (kD k) v) : v = kV k := by
  cases k <;> (cases r; rfl)
theorem dK_of {d : D} {k : Key} (h : dK? d = Option.some k) : d = kD k := by
  cases d <;> first | (cases h; rfl) | cases h
end
def rDGet3 : R3 := fun x y M Q => ∃ k d, dK? y = some k ∧ (match x with
  | .dct kds => valD kds k = some d
  | .ref a => ∃ kds, M a = some (.dct kds) ∧ valD kds k = some d
  | _ => False) ∧ Q d M
theorem pe3_dget (hu : X.A.units + 1 < cLine) (ho : PE3 X o td) (hi : PE3 X i ty) (hs : NoSl i) : PE3 X (.Subscript o i pos) (tOp3 rDGet3 td ty) := PE3.of (pe_dget hu ho.dn hi.dn hs) fun pins s σv H σ M Q I hS hM h => by
  refine ⟨σ, M, _, hS, hM, h, fun x xv M1 H1 st1 m1 p1 q1 => ⟨σ, M1, _, hS.mono st1, m1, q1, fun y yv M2 H2 st2 m2 p2 q2 => ?_⟩⟩
  obtain ⟨k, d, hk, hx, q⟩ := q2
  have hy := dK_of hk
  subst hy
  have ey := rep_key p2
  subst ey
  have p1' := p1.mono st2
  cases x <;> first | exact hx.elim | skip
  · cases p1'
    obtain ⟨kds, hm, hv⟩ := hx
    obtain ⟨ho, e1, r⟩ := m2 _ _ hm
    cases ho <;> first | exact r.elim | skip
    obtain ⟨v, hv', rv⟩ := RepK.some r hv
    exact ⟨_, v, rfl, .inl ⟨_, k, .inl e1, rfl, hv'.symm⟩, d, M2, st1.trans st2, m2, rv, q⟩
  · cases p1' with
    | dct hf r =>
      obtain ⟨v, hv', rv⟩ := RepK.some r hx
      exact ⟨_, v, rfl, .inl ⟨_, k, hf.1, rfl, hv'.symm⟩, d, M2, st1.trans st2, m2, rv, q⟩
def tDPut3 (td ty tv : TE3) : TS3 := fun T σ M => tv σ M fun d M1 => td σ M1 fun x M2 => ty σ M2 fun y M3 => ∃ k a kds, dK? y = some k ∧ x = .ref a ∧ M3 a = some (.dct kds) ∧ kds.length < sizeLine ∧ T.nx σ (mput M3 a (.dct (putD kds k d)))
theorem ps3_dput (hu : X.A.units + 1 < cLine) (ho : PE3 X o td) (hi : PE3 X i ty) (hv : PE3 X value tv) (hs : swapsWith value (some (.Subscript o i pos')) pos.line X.env = pure false) :
    PS3 X (.Assign [.Subscript o i pos'] value pos) (tDPut3 td ty tv) := PS3.of (ps_dput hu ho.dn hi.dn hv.dn hs) fun pins s σv H σ M T I hS hM h => by
  refine ⟨σ, M, _, hS, hM, h, fun d v M1 H1 st1 m1 p1 q1 => ⟨σ, M1, _, hS.mono st1, m1, q1, fun x xv M2 H2 st2 m2 p2 q2 => ⟨σ, M2, _, hS.mono (st1.trans st2), m2, q2, fun y yv M3 H3 st3 m3 p3 q3 => ?_⟩⟩⟩
  obtain ⟨k, a, kds, hk, rfl, hm, hl, q⟩ := q3
  have hy := dK_of hk
  subst hy
  have ey := rep_key p3
  subst ey
  cases p2
  obtain ⟨ho, e1, r⟩ := m3 _ _ hm
  cases ho <;> first | exact r.elim | skip
  have r' : RepK X.K M3 H3 kds _ := r
  have hne : H3 a = none ∨ M3 a ≠ none := .inr (by rw [hm]; intro z; cases z)
  have pd := p1.mono (st2.trans st3)
  refine ⟨a, _, rfl, .inl ⟨_, k, e1, rfl, by rw [← r'.length]; exact hl, rfl⟩, σ, mput M3 a (.dct (putD kds k d)), ((st1.trans st2).trans st3).trans (Step.put hne), m3.put hne (r'.put k pd), ?_, q⟩
  exact hS.mono (((st1.trans st2).trans st3).trans (Step.put hne))
def tPairs3 : List (TE3 × TE3) → Lo → Mem → (List (D × D) → Mem → Prop) → Prop
  | [], _, M, Q => Q [] M
  | (tk, tv) :: r, σ, M, Q => tk σ M fun x M1 => tv σ M1 fun y M2 => tPairs3 r σ M2 fun ps M3 => Q ((x, y) :: ps) M3
def PPs3 (X : Cx) (pos : Pos) (keys : List (Option Expr)) (values : List Expr) (trs : List (TE3 × TE3)) : Prop := PPs X pos keys values (trs.map fun z => (dnE X.K z.1, dnE X.K z.2))
theorem pps3_nil : PPs3 X pos [] [] [] := pps_nil
theorem pps3_cons {k v : Expr} {ks : List (Option Expr)} {vs : List Expr} {tk tv : TE3} {trs : List (TE3 × TE3)} (hk : PE3 X k tk) (hv : PE3 X v tv) (hr : PPs3 X pos ks vs trs) : PPs3 X pos (some k :: ks) (v :: vs) ((tk, tv) :: trs) := pps_cons hk.dn hv.dn hr
inductive RepP (K : PySem.W.Frag) (M : Mem) (H : Hp) : List (D × D) → List (V × V) → Prop
  | nil : RepP K M H [] []
  | cons {d1 d2 : D} {v1 v2 : V} {ds : List (D × D)} {vs : List (V × V)} : Rep K M H d1 v1 → Rep K M H d2 v2 → RepP K M H ds vs → RepP K M H ((d1, d2) :: ds) ((v1, v2) :: vs)
theorem tPairs_dn {K : PySem.W.Frag} : ∀ (trs : List (TE3 × TE3)) {σ : Lo} {σv : L2.St} {M : Mem} {H : Hp} {Q : List (D × D) → Mem → Prop} {Q2 : List (V × V) → Hp → Prop}, SRel K M H σ σv → MRel K M H → tPairs3 trs σ M Q →
    (∀ ps vs M' H', Step M H M' H' → MRel K M' H' → RepP K M' H' ps vs → Q ps M' → Q2 vs H') → tPairs (trs.map fun z => (dnE K z.1, dnE K z.2)) σv H Q2
  | [], σ, σv, M, H, Q, Q2, hS, hM, h, hq => hq [] [] M H .refl hM .nil h
  | (tk, tv) :: r, σ, σv, M, H, Q, Q2, hS, hM, h, hq => by
    refine ⟨σ, M, _, hS, hM, h, fun x xv M1 H1 st1 m1 p1 q1 => ⟨σ, M1, _, hS.mono st1, m1, q1, fun y yv M2 H2 st2 m2 p2 q2 => ?_⟩⟩
    refine tPairs_dn r (hS.mono (st1.trans st2)) m2 q2 fun ps vs M3 H3 st3 m3 p3 q3 => ?_
    exact hq _ _ M3 H3 ((st1.trans st2).trans st3) m3 (.cons (p1.mono (st2.trans st3)) (p2.mono st3) p3) q3
def tDispM3 (trs : List (TE3 × TE3)) : TE3 := fun σ M Q => ∀ p, M p = none → tPairs3 trs σ (mput M p (.dct [])) fun ps M1 => M1 p = some (.dct []) ∧
  ∃ kds : List (Key × D), ps = kds.map (fun kd => (kD kd.1, kd.2)) ∧ kds.length ≤ 15 ∧ Q (.ref p) (mput M1 p (.dct (mergeD [] kds)))
theorem repP_keys {K : PySem.W.Frag} {M : Mem} {H : Hp} : ∀ (kds : List (Key × D)) {vs : List (V × V)}, RepP K M H (kds.map (fun kd => (kD kd.1, kd.2))) vs → ∃ kvs : List (Key × V), vs = kvs.map (fun kv => (kV kv.1, kv.2)) ∧ RepK K M H kds kvs
  | [], vs, r => by cases r; exact ⟨[], rfl, .nil⟩
  | (k, d) :: kds, vs, r => by
    cases r with
    | cons a b c =>
      obtain ⟨kvs, e, q⟩ := repP_keys kds c
      have ek := rep_key a
      subst ek e
      exact ⟨(k, _) :: kvs, rfl, .cons b q⟩
theorem pe3_dispM {keys : List (Option Expr)} {values : List Expr} {trs : List (TE3 × TE3)} (h : PPs3 X pos keys values trs) (hall : keys.all (·.isSome) = true) (hl : keys.length = values.length) (h0 : keys ≠ []) (h15 : keys.length ≤ 15) :
    PE3 X (.Dict keys values pos) (tDispM3 trs) := PE3.of (pe_disp h hall hl h0 h15) fun pins s σv H σ M Q I hS hM h => by
  intro p hp
  have st0 : Step M H (mput M p (.dct [])) (upd H p (.dK [])) := Step.put (.inl hp)
  refine tPairs_dn trs (hS.mono st0) (hM.put (.inl hp) (show RepK _ _ _ _ _ from .nil)) (h p (hM.free hp)) fun ps vs M1 H1 st1 m1 r1 hx0 => ?_
  obtain ⟨hm, kds, e, hl, q⟩ := hx0
  subst e
  obtain ⟨kvs, rfl, rk⟩ := repP_keys kds r1
  obtain ⟨ho, e1, r⟩ := m1 _ _ hm
  cases ho <;> first | exact r.elim | skip
  have r' : RepK X.K M1 H1 [] _ := r
  cases r'
  have hne : H1 p = none ∨ M1 p ≠ none := .inr (by rw [hm]; intro z; cases z)
  exact ⟨e1, kvs, rfl, by rw [← rk.length]; exact hl, .ref p, mput M1 p (.dct (mergeD [] kds)), (st0.trans st1).trans (Step.put hne), m1.put hne (rk.merge .nil), .ref, q⟩
end
def Vs (M : Mem) (d : D) (M' : Mem) (d' : D) : Prop := ∀ (K : PySem.W.Frag) (H : Hp) (v : V), MRel K M H → Rep K M H d v → MRel K M' H ∧ Rep K M' H d' v ∧ ∀ a, M' a ≠ none → M a ≠ none
section
variable {K : PySem.W.Frag} {M M' : Mem} {H : Hp}
theorem Rep.shrink {d : D} {v : V} (s : ∀ a, M a = none → M' a = none) (r : Rep K M H d v) : Rep K M' H d v :=
  Rep.rec (motive_1 := fun d v _ => Rep K M' H d v) (motive_2 := fun ds vs _ => Reps K M' H ds vs) (motive_3 := fun ds vs _ => RepK K M' H ds vs)
    .non .bl .int .str .ty .ref (fun h _ ih => .tup (h.imp (fun z => ⟨z.1, s _ z.2⟩) id) ih) (fun h _ ih => .lst (h.imp (fun z => ⟨z.1, s _ z.2⟩) id) ih) (fun h _ ih => .dct ⟨h.1, s _ h.2⟩ ih)
    .nil (fun _ _ a b => .cons a b) .nil (fun _ _ a b => .cons a b) r
theorem Reps.shrink {ds : List D} {vs : List V} (s : ∀ a, M a = none → M' a = none) (r : Reps K M H ds vs) : Reps K M' H ds vs := by
  induction ds generalizing vs with
  | nil => cases r; exact .nil
  | cons d ds ih => cases r with | cons a b => exact .cons (a.shrink s) (ih b)
theorem RepK.shrink {ds : List (Key × D)} {vs : List (Key × V)} (s : ∀ a, M a = none → M' a = none) (r : RepK K M H ds vs) : RepK K M' H ds vs := by
  induction ds generalizing vs with
  | nil => cases r; exact .nil
  | cons d ds ih => cases r with | cons a b => exact .cons (a.shrink s) (ih b)
theorem RepT.shrink {ds : List (List Int × D)} {xs : List (List Int × Addr × Value)} (s : ∀ a, M a = none → M' a = none) (r : RepT K M H ds xs) : RepT K M' H ds xs := by
  induction r with
  | nil => exact .nil
  | cons a b c _ ih => exact .cons (a.shrink s) (b.shrink s) c ih
def Sub (M' M : Mem) : Prop := ∀ a o, M' a = some o → M a = some o
theorem Sub.refl : Sub M M := fun _ _ h => h
theorem Sub.none {a : Addr} (s : Sub M' M) (h : M a = Option.none) : M' a = Option.none := by
  cases e : M' a with
  | none => rfl
  | some o => rw [s a o e] at h; cases h
theorem MRel.sub (s : Sub M' M) (m : MRel K M H) : MRel K M' H := fun a o e => by
  obtain ⟨ho, e1, r⟩ := m a o (s a o e)
  refine ⟨ho, e1, ?_⟩
  cases o <;> cases ho <;> first | exact r.elim | exact Reps.shrink (fun _ z => s.none z) r | exact RepK.shrink (fun _ z => s.none z) r | (obtain ⟨xs, e, r⟩ := r; exact ⟨xs, e, r.shrink fun _ z => s.none z⟩)
theorem Vs.sub (s : Sub M' M) (d : D) : Vs M d M' d := fun K H v m r => ⟨m.sub s, r.shrink fun _ z => s.none z, fun a h z => h (s.none z)⟩
theorem Vs.refl (d : D) : Vs M d M d := Vs.sub .refl d
theorem mdel_sub {a : Addr} : Sub (mdel M a) M := fun b o h => by
  unfold mdel at h
  split at h
  · cases h
  · exact h
theorem mdel_self {a : Addr} : mdel M a a = none := by unfold mdel; rw [if_pos rfl]
theorem Vs.frzL {a : Addr} {ds : List D} (h : M a = some (.lst ds)) : Vs M (.ref a) (mdel M a) (.lst ds) := fun K H v m r => by
  cases r
  obtain ⟨ho, e1, q⟩ := m a _ h
  cases ho <;> first | exact q.elim | skip
  exact ⟨m.sub mdel_sub, .lst (.inl ⟨.inl e1, mdel_self⟩) (Reps.shrink (fun _ z => mdel_sub.none z) q), fun b hb z => hb (mdel_sub.none z)⟩
theorem Step.less {M0 : Mem} {H0 : Hp} (s : Step M0 H0 M H) (h : ∀ a, M' a ≠ none → M a ≠ none) : Step M0 H0 M' H := ⟨s.keep, fun a z => s.dom a (h a z)⟩
end
end L3
set_option Elab.async false
set_option linter.all false
set_option maxRecDepth 100000
namespace L3
open PySem PySem.Spec PyProof.Rows L2
section
variable {X : Cx} {a b e o i value : Expr} {es : List Expr} {ta tb te td ty tv : TE3} {t : TA3} {pos p pos' : Pos} {x : Str} {st : Stmt} {rest : List Stmt} {t1 t2 : TS3}
theorem SP3.trans {pins : List (Addr × Obj)} {M M1 : Mem} {H H1 : Hp} {T : Ends3} {f : Flow} {s' : Shared} (s : Step M H M1 H1) (h : SP3 X pins M1 H1 T f s') : SP3 X pins M H T f s' := by
  cases f with
  | next => obtain ⟨σ', σv', M', H', I, st, r⟩ := h; exact ⟨σ', σv', M', H', I, s.trans st, r⟩
  | brk => obtain ⟨σ', σv', M', H', I, st, r⟩ := h; exact ⟨σ', σv', M', H', I, s.trans st, r⟩
  | cont => obtain ⟨σ', σv', M', H', I, st, r⟩ := h; exact ⟨σ', σv', M', H', I, s.trans st, r⟩
  | ret u => obtain ⟨d, v, σv', M', H', I, st, r⟩ := h; exact ⟨d, v, σv', M', H', I, s.trans st, r⟩
def tNext3 : TS3 := fun T σ M => T.nx σ M
def tSeq3 (t u : TS3) : TS3 := fun T σ M => t { T with nx := u T } σ M
theorem pss3_nil : PSs3 X [] tNext3 := fun _ _ σv H σ M T I hS hM h => wpAny_execs_nil ⟨σ, σv, M, H, I, .refl, hM, hS, h⟩
theorem pss3_cons (h1 : PS3 X st t1) (h2 : PSs3 X rest t2) : PSs3 X (st :: rest) (tSeq3 t1 t2) := by
  intro pins s σv H σ M T I hS hM h
  refine wpAny_execs_cons (thn (h1 pins s σv H σ M { T with nx := t2 T } I hS hM h) fun f s1 q => ?_)
  cases f with
  | next =>
    obtain ⟨σ', σv', M', H', I', st, m', r', q⟩ := q
    exact thn (h2 pins s1 σv' H' σ' M' T I' r' m' q) fun _ _ z => z.trans st
  | ret v => exact q
  | brk => exact q
  | cont => exact q
theorem pss3_one (h1 : PS3 X st t1) : PSs3 X [st] t1 := by
  intro pins s σv H σ M T I hS hM h
  refine wpAny_execs_cons (thn (h1 pins s σv H σ M T I hS hM h) fun f s1 q => ?_)
  cases f with
  | next => exact wpAny_execs_nil q
  | ret v => exact q
  | brk => exact q
  | cont => exact q
def tDrop3 (te : TE3) : TS3 := fun T σ M => te σ M fun _ M1 => T.nx σ M1
theorem ps3_expr (he : PE3 X e te) (hs : swapsWith e none pos.line X.env = pure false := by rfl) : PS3 X (.Expr e pos) (tDrop3 te) := by
  intro pins s σv H σ M T I hS hM h
  exact wpAny_Expr_any (thn (he pins s σv H σ M _ I hS hM h) fun v s1 ⟨d, xv, M1, H1, I1, st1, m1, r1, p1, q1⟩ => ⟨σ, σv, M1, H1, I1, st1, m1, hS.mono st1, q1⟩) I.quiet hs
def tRet3 (te : TE3) : TS3 := fun T σ M => te σ M T.rt
theorem ps3_ret (he : PE3 X e te) : PS3 X (.Return (some e) pos) (tRet3 te) := by
  intro pins s σv H σ M T I hS hM h
  exact wpAny_Return_some (thn (he pins s σv H σ M _ I hS hM h) fun v s1 ⟨d, xv, M1, H1, I1, st1, m1, r1, p1, q1⟩ => ⟨d, xv, σv, M1, H1, I1, st1, m1, r1, p1, q1⟩)
def tIfS3 (c : TT3) (t u : TS3) : TS3 := fun T σ M => c σ M fun b M1 => if b = true then t T σ M1 else u T σ M1
theorem ps3_if {c : Expr} {a b : List Stmt} {tc : TT3} (hc : PT3 X c tc) (ha : PSs3 X a t1) (hb : PSs3 X b t2) : PS3 X (.If c a b pos) (tIfS3 tc t1 t2) := by
  intro pins s σv H σ M T I hS hM h
  refine wpAny_If (thn (hc pins s σv H σ M _ I hS hM h) fun d s1 ⟨M1, H1, I1, st1, m1, q1⟩ => ?_)
  cases d with
  | true => exact thn (ha pins s1 σv H1 σ M1 T I1 (hS.mono st1) m1 q1) fun _ _ z => z.trans st1
  | false => exact thn (hb pins s1 σv H1 σ M1 T I1 (hS.mono st1) m1 q1) fun _ _ z => z.trans st1
def tSet3 (i : Nat) (te : TE3) : TS3 := fun T σ M => te σ M fun d M1 => T.nx (σ.set i (some d)) M1
theorem ps3_set {i : Nat} (hN : X.N.Nodup) (hi : X.N[i]? = some x) (hx : Loc X.env.scope x) (he : PE3 X e te) (hs : swapsWith e (some (.Name x pos')) pos.line X.env = pure false := by rfl) (hf : X.fn x = true ∨ X.env.scope.names.lookup x = some .local := by first | exact .inl rfl | exact .inr rfl | assumption) :
    PS3 X (.Assign [.Name x pos'] e pos) (tSet3 i te) := PS3.of (ps_set hN hi hx he.dn hs hf) fun pins s σv H σ M T I hS hM h =>
  ⟨σ, M, _, hS, hM, h, fun d v M' H' st m r q => ⟨σ.set i (some d), M', st, m, (hS.mono st).set r i, q⟩⟩
def Wk (K : PySem.W.Frag) (J : It) (ds : List D) (M : Mem) (H : Hp) : Prop := ∀ M' H', Step M H M' H' →
  (∀ i, i < ds.length → J.go i H') ∧ (∀ i d x H'', ds[i]? = some d → J.yld i H' x H'' → H'' = H' ∧ Rep K M' H' d x) ∧ ∀ i, ds.length ≤ i → J.stop i H'
abbrev TI3 := Lo → Mem → (List D → Mem → Prop) → Prop
def dnI (K : PySem.W.Frag) (t : TI3) : TI := fun σv H R2 => ∃ σ M R, SRel K M H σ σv ∧ MRel K M H ∧ t σ M R ∧ ∀ ds J M' H', Step M H M' H' → MRel K M' H' → Wk K J ds M' H' → R ds M' → R2 J H'
def PI3 (X : Cx) (tg iter : Expr) (t : TI3) : Prop := PI X tg iter (dnI X.K t)
theorem PI.weak {tg iter : Expr} {w1 w2 : TI} (h : PI X tg iter w1) (hw : ∀ σ H R, w2 σ H R → w1 σ H R) : PI X tg iter w2 := fun pins s σ H R I q => h pins s σ H R I (hw _ _ _ q)
def tFor3 (ti : TI3) (i : Nat) (tb : TS3) : TS3 := fun T σ M => ti σ M fun ds M1 => ∃ Pv : Nat → Lo → Mem → Prop, Pv 0 σ M1 ∧
  (∀ k d σ M, ds[k]? = some d → Pv k σ M → tb { T with nx := Pv (k + 1), ct := Pv (k + 1), bk := T.nx } (σ.set i (some d)) M) ∧ ∀ σ M, Pv ds.length σ M → T.nx σ M
theorem ps3_for {iter : Expr} {body : List Stmt} {ti : TI3} {tb : TS3} {i : Nat} {px : Pos} (hp : PassesOwn (model X.prog X.w) X.A X.env X.xe) (hc : X.calm = true) (hi : PI3 X (.Name x px) iter ti)
    (hN : X.N.Nodup) (hix : X.N[i]? = some x) (hx : Loc X.env.scope x) (hb : PSs3 X body tb)
    (hs : ∀ y, foldedSetIterable iter X.env y = pure y := by intro _; rfl) (hf : X.fn x = true ∨ X.env.scope.names.lookup x = some .local := by first | exact .inl rfl | exact .inr rfl | assumption) :
    PS3 X (.For (.Name x px) iter body [] pos) (tFor3 ti i tb) := PS3.of (ps_for hp hc hi (pg_name hN hix hx hf) hb.dn hs) fun pins s σv H σ M T I hS hM h => by
  refine ⟨σ, M, _, hS, hM, h, fun ds J M1 H1 st1 m1 wk ⟨Pv, p0, turn, done⟩ => ?_⟩
  refine ⟨fun k m σv' H' => m = ds.length - k ∧ k ≤ ds.length ∧ ∃ σ' M', Step M1 H1 M' H' ∧ MRel X.K M' H' ∧ SRel X.K M' H' σ' σv' ∧ Pv k σ' M', ⟨_, rfl, Nat.zero_le _, σ, M1, .refl, m1, hS.mono st1, p0⟩, ?_⟩
  rintro k m σv' H' ⟨rfl, hk, σ', M', st', m', hS', pk⟩
  obtain ⟨go, yld, stop⟩ := wk M' H' st'
  by_cases hlt : k < ds.length
  · refine .inr ⟨go k hlt, fun σ2 H2 => ∃ σ'' M'', Step M1 H1 M'' H2 ∧ MRel X.K M'' H2 ∧ SRel X.K M'' H2 σ'' σ2 ∧ Pv (k + 1) σ'' M'', ?_, ?_⟩
    · rintro σ2 H2 ⟨σ'', M'', q⟩
      exact ⟨ds.length - (k + 1), by lia, rfl, hlt, σ'', M'', q⟩
    · intro y H'' hy
      obtain ⟨rfl, ry⟩ := yld k ds[k] y H'' (by simp [hlt]) hy
      refine ⟨σ'.set i (some ds[k]), M', _, hS'.set ry i, m', turn k ds[k] σ' M' (by simp [hlt]) pk, ?_⟩
      exact ⟨fun σ2 v2 M2 H2 s2 m2 r2 q2 => ⟨σ2, M2, st'.trans s2, m2, r2, q2⟩, fun σ2 v2 M2 H2 s2 m2 r2 q2 => ⟨σ2, M2, (st1.trans st').trans s2, m2, r2, q2⟩,
        fun σ2 v2 M2 H2 s2 m2 r2 q2 => ⟨σ2, M2, st'.trans s2, m2, r2, q2⟩, fun d v2 M2 H2 s2 m2 r2 q2 => ⟨d, M2, (st1.trans st').trans s2, m2, r2, q2⟩⟩
  · have e : k = ds.length := by lia
    subst e
    exact .inl ⟨stop _ (Nat.le_refl _), σ', M', st1.trans st', m', hS', done σ' M' pk⟩
def iRng3 (ta : TA3) : TI3 := fun σ M R => ta σ M fun ds M1 => match ds with
  | [.int j] => -(2 ^ 62) ≤ j ∧ j < 2 ^ 62 ∧ R ((List.range j.toNat).map fun k => D.int (k : Nat)) M1
  | _ => False
theorem pi3_range1 {tg : Expr} (hg : Gl X "range") (hm : X.mg "range" = none) (ha : PA3 X [a] t) (hs : starEach [a] X.env = [(false, eval a X.env)] := by rfl) : PI3 X tg (.Call (.Name "range" p) [a] [] pos) (iRng3 t) :=
  PI.weak (pi_range1 hg hm ha.dn hs) fun σv H R2 hx0 => by
    obtain ⟨σ, M, R, hS, hM, h, k⟩ := hx0
    refine ⟨σ, M, _, hS, hM, h, fun ds vs M' H' st m r q => ?_⟩
    have px := r
    clear r
    rcases px with _ | ⟨pd, ps⟩; (exact (q : False).elim); rcases ps with _ | ⟨p2, ps2⟩; rotate_left; (first | exact (q : False).elim | (cases pd <;> exact (q : False).elim))
    cases pd with
    | @int j =>
      obtain ⟨h1, h2, q⟩ := q
      refine ⟨j, rfl, h1, h2, k _ _ M' H' st m (fun M2 H2 s2 => ⟨fun i hi => ?_, fun i d x H3 hd hy => ?_, fun i hi => ?_⟩) q⟩
      · show i < j.toNat
        simpa using hi
      · obtain ⟨rfl, rfl⟩ := hy
        refine ⟨rfl, ?_⟩
        rw [List.getElem?_map] at hd
        cases e : (List.range j.toNat)[i]? with
        | none => rw [e] at hd; cases hd
        | some n =>
          rw [e] at hd
          have en : n = i := by
            rw [List.getElem?_range] at e
            · exact (Option.some.inj e).symm
            · have := (List.getElem?_eq_some_iff.mp e).1; simpa using this
          subst en
          cases hd
          have z : (0 : Int) + (n : Int) = (n : Int) := by lia
          rw [z]; exact .int
      · show j.toNat ≤ i
        simpa using hi
    | _ => exact (q : False).elim
theorem pi3_list {tg : Expr} {te' : TE3} (ha : PE3 X a te') (hte : te' = te) : PI3 X tg a (fun σ M R => te σ M fun d M1 => match d with | .lst ds => R ds M1 | _ => False) := by
  subst hte
  refine PI.weak (pi_list ha.dn) fun σv H R2 hx0 => ?_
  obtain ⟨σ, M, R, hS, hM, h, k⟩ := hx0
  refine ⟨σ, M, _, hS, hM, h, fun d v M' H' st m r q => ?_⟩
  cases r <;> first | exact q.elim | skip
  rename_i a' ds vs h1 rs
  refine ⟨a', rfl, ⟨vs, SqL.of3 h1⟩, k ds _ M' H' st m (fun M2 H2 s2 => ?_) q⟩
  have h2 : SqL X.K H2 a' vs := SqL.of3 (h1.imp (Fix.mono s2) id)
  have r2 := rs.mono s2
  refine ⟨fun i hi => ?_, fun i d x H3 hd hy => ?_, fun i hi => ?_⟩
  · obtain ⟨v, hv, _⟩ := r2.get (i := i) (d := ds[i]) (by simp [hi])
    exact ⟨vs, v, h2, hv⟩
  · obtain ⟨rfl, hy⟩ := hy
    obtain ⟨v, hv, rv⟩ := r2.get hd
    rw [hy vs h2] at hv
    cases hv
    exact ⟨rfl, rv⟩
  · exact ⟨vs, h2, by rw [← r2.length]; exact hi⟩
theorem pi3_tup {tg : Expr} (ha : PE3 X a te) : PI3 X tg a (fun σ M R => te σ M fun d M1 => match d with | .tup ds => R ds M1 | _ => False) := by
  refine PI.weak (pi_tup ha.dn) fun σv H R2 hx0 => ?_
  obtain ⟨σ, M, R, hS, hM, h, k⟩ := hx0
  refine ⟨σ, M, _, hS, hM, h, fun d v M' H' st m r q => ?_⟩
  cases r <;> first | exact q.elim | skip
  rename_i a' ds vs h1 rs
  refine ⟨a', rfl, ⟨vs, SqT.of3 h1⟩, k ds _ M' H' st m (fun M2 H2 s2 => ?_) q⟩
  have h2 : SqT X.K H2 a' vs := SqT.of3 (h1.imp (Fix.mono s2) id)
  have r2 := rs.mono s2
  refine ⟨fun i hi => ?_, fun i d x H3 hd hy => ?_, fun i hi => ?_⟩
  · obtain ⟨v, hv, _⟩ := r2.get (i := i) (d := ds[i]) (by simp [hi])
    exact ⟨vs, v, h2, hv⟩
  · obtain ⟨rfl, hy⟩ := hy
    obtain ⟨v, hv, rv⟩ := r2.get hd
    rw [hy vs h2] at hv
    cases hv
    exact ⟨rfl, rv⟩
  · exact ⟨vs, h2, by rw [← r2.length]; exact hi⟩
end
abbrev Sp3 := List D → Mem → DK → Prop
def dnSp (K : PySem.W.Frag) (sp : Sp3) : Sp := fun vs H Q _ => ∃ ds M Q3, Reps K M H ds vs ∧ MRel K M H ∧ sp ds M Q3 ∧ ∀ d v M' H', Step M H M' H' → MRel K M' H' → Rep K M' H' d v → Q3 d M' → Q v H'
def View (Q : DK) : DK := fun d M => ∃ d' M', Vs M d M' d' ∧ Q d' M'
theorem View.of {Q : DK} {d : D} {M : Mem} (q : Q d M) : View Q d M := ⟨d, M, .refl d, q⟩
theorem View.sub {Q : DK} {d : D} {M M' : Mem} (s : Sub M' M) (q : Q d M') : View Q d M := ⟨d, M', .sub s d, q⟩
def start3 (N : List Str) (ds : List D) : Lo := ds.map some ++ List.replicate (N.length - ds.length) none
theorem start_rel {K : PySem.W.Frag} {M : Mem} {H : Hp} {N : List Str} {ds : List D} {vs : List V} (r : Reps K M H ds vs) : SRel K M H (start3 N ds) (L2.start N vs) := by
  refine ⟨by simp [start3, L2.start, r.length], fun i d h => ?_⟩
  unfold start3 at h
  unfold L2.start
  by_cases hi : i < ds.length
  · rw [List.getElem?_append_left (by simpa using hi), List.getElem?_map] at h
    rw [List.getElem?_append_left (by simpa [← r.length] using hi), List.getElem?_map]
    cases e : ds[i]? with
    | none => rw [e] at h; cases h
    | some d' =>
      rw [e] at h; cases h
      obtain ⟨v, hv, rv⟩ := r.get e
      exact ⟨v, by rw [hv]; rfl, rv⟩
  · rw [List.getElem?_append_right (by simpa using hi), List.getElem?_replicate] at h
    split at h <;> cases h
section
variable {P : Program} {w : World} {K : PySem.W.Frag} {mg : Str → Option Value} {base : Heap}
theorem Fun.ok3 {x qual : Str} {st : Stmt} {f : Addr} {fd : FuncData} {N ps : List Str} {k : Nat} {sp : Sp3} (F : Fun K x qual st f fd) (S : FnScope N ps (defScope st)) (len : ∀ ds M Q, sp ds M Q → ds.length = ps.length)
    (hbody : ∀ (cdv : Value) (A : Around) (outer : List Env) (s : Shared) (H : Hp) (E : XK), Room k (A.deeper (envOfC qual (defScope st) s.heap.objs.size f cdv)) →
      ∃ t, PSs3 (cxOf CX0 P w K mg base N qual (defScope st) f cdv A outer s H E).nox (defBody st) t ∧ ∀ ds M Q, sp ds M Q → t { nx := fun _ M' => View Q .non M', rt := View Q } (start3 N ds) M) :
    FnOk P w K mg base CX0 (k + 1) f fd ps (dnSp K sp) := by
  refine F.ok S (fun vs H Q E ⟨ds, M, Q3, r, _, h, _⟩ => by rw [← r.length]; exact len _ _ _ h) fun cdv A outer s H vs Q E hr hx0 => ?_
  obtain ⟨ds, M, Q3, r, m, h, q⟩ := hx0
  obtain ⟨t, ht, hs⟩ := hbody cdv A outer s H E hr
  have fin : ∀ d v M' H', Step M H M' H' → MRel K M' H' → Rep K M' H' d v → View Q3 d M' → Q v H' := fun d v M' H' st m' r' hx0 => by
    obtain ⟨d2, M2, vs2, q2⟩ := hx0
    obtain ⟨m2, r2, s2⟩ := vs2 K H' v m' r'
    exact q d2 v M2 H' (st.less s2) m2 r2 q2
  refine ⟨_, ht.dn, start3 N ds, M, _, start_rel r, m, hs ds M Q3 h, ?_⟩
  exact ⟨fun σ' σv' M' H' st m' _ z => fin .non .non M' H' st m' .non z, fun _ _ _ _ _ _ _ z => z.elim, fun _ _ _ _ _ _ _ z => z.elim, fin⟩
end
section
variable {X : Cx} {e : Expr} {es : List Expr} {t : TA3} {x : Str} {p pos : Pos} {k : Nat} {f : Addr} {fd : FuncData} {ps : List Str} {sp : Sp3}
def tCall3 (sp : Sp3) (t : TA3) : TE3 := fun σ M Q => t σ M fun ds M1 => sp ds M1 Q
theorem pe3_call (F : FnOk X.prog X.w X.K X.mg X.base CX0 k f fd ps (dnSp X.K sp)) (hr : Room k X.A) (hg : Gl X x) (hm : X.mg x = some (.ref f)) (hk : PySem.W.keepIn X.K (.ref f) = true) (hb : Binds X.K fd ps [])
    (ha : PA3 X (e :: es) t) (hdb : (x == ("__debug__" : Str)) = false := by decide) (he : starEach (e :: es) X.env = (false, eval e X.env) :: starEach es X.env := by rfl) (hpl : (backTo pos (starEach es X.env)).any (·.1) = false := by rfl) :
    PE3 X (.Call (.Name x p) (e :: es) [] pos) (tCall3 sp t) :=
  PE3.of (pe_call F hr hg hm hk hb .nil pass0 ha.dn hdb he hpl) fun pins s σv H σ M Q I hS hM h => by
    refine ⟨σ, M, _, hS, hM, h, fun ds vs M1 H1 st1 m1 r1 q1 => ?_⟩
    show dnSp X.K sp (vs ++ []) H1 _ _
    rw [List.append_nil]
    exact ⟨ds, M1, Q, r1, m1, q1, fun d v M' H' st m r q => ⟨d, M', st1.trans st, m, r, q⟩⟩
end
end L3
set_option Elab.async false
set_option linter.all false
set_option maxRecDepth 100000
namespace L3
open PySem PySem.Spec PyProof.Rows L2
abbrev rSub3 : R3 := rI30 fun i j => .int (i - j)
abbrev rMul3 : R3 := rI3 CMulB fun i j => .int (i * j)
abbrev rFdiv3 : R3 := rI3 CDivB fun i j => .int (i / j)
abbrev rMod3 : R3 := rI3 (fun _ j => 0 < j) fun i j => .int (i % j)
abbrev rPow3 : R3 := rI3 CPow fun i j => .int (i ^ j.toNat)
abbrev rLt3 : R3 := rI30 fun i j => .bl (decide (i < j))
abbrev rGt3 : R3 := rI30 fun i j => .bl (decide (j < i))
abbrev rGe3 : R3 := rI30 fun i j => .bl (decide (j ≤ i))
def iList3 (te : TE3) : TI3 := fun σ M R => te σ M fun d M1 => match d with | .lst ds => R ds M1 | _ => False
def iTup3 (te : TE3) : TI3 := fun σ M R => te σ M fun d M1 => match d with | .tup ds => R ds M1 | _ => False
section
variable {X : Cx} {a e : Expr} {te : TE3} {pos : Pos} {lo hi : Option Expr} {tl th : TO3} {p2 : Pos} {tg : Expr}
theorem pi3_l (ha : PE3 X a te) : PI3 X tg a (iList3 te) := pi3_list ha rfl
theorem pi3_t (ha : PE3 X a te) : PI3 X tg a (iTup3 te) := pi3_tup ha
theorem hu3 {k : Nat} (hr : Room k X.A) : X.A.units + 1 < cLine := by have := hr.units; lia
end
theorem b3_len : bootBuiltins "len" = some (.builtin "len") := by decide +kernel
theorem b3_abs : bootBuiltins "abs" = some (.builtin "abs") := by decide +kernel
theorem b3_isinstance : bootBuiltins "isinstance" = some (.builtin "isinstance") := by decide +kernel
theorem b3_int : bootBuiltins "int" = some (.type "int") := by decide +kernel
theorem b3_str : bootBuiltins "str" = some (.type "str") := by decide +kernel
theorem b3_tuple : bootBuiltins "tuple" = some (.type "tuple") := by decide +kernel
structure FnAt (K : PySem.W.Frag) (mg : Str → Option Value) (x : Str) (st : Stmt) (ps : List Str) (f : Addr) (fd : FuncData) : Prop where
  fn : Fun K x x st f fd
  bd : Binds K fd ps []
  gl : mg x = some (.ref f)
theorem us0 {us : List Value} (h : us.length = 0) : us = [] := List.length_eq_zero_iff.mp h
theorem us1 {us : List Value} (h : us.length = 1) : ∃ a, us = [a] := by
  cases us with
  | nil => cases h
  | cons a r => exact ⟨a, by rw [us0 (Nat.succ.inj h)]⟩
theorem us2 {us : List Value} (h : us.length = 2) : ∃ a b, us = [a, b] := by
  cases us with
  | nil => cases h
  | cons a r => obtain ⟨b, e⟩ := us1 (Nat.succ.inj h); exact ⟨a, b, by rw [e]⟩
theorem us3 {us : List Value} (h : us.length = 3) : ∃ a b c, us = [a, b, c] := by
  cases us with
  | nil => cases h
  | cons a r => obtain ⟨b, c, e⟩ := us2 (Nat.succ.inj h); exact ⟨a, b, c, by rw [e]⟩
theorem us4 {us : List Value} (h : us.length = 4) : ∃ a b c d, us = [a, b, c, d] := by
  cases us with
  | nil => cases h
  | cons a r => obtain ⟨b, c, d, e⟩ := us3 (Nat.succ.inj h); exact ⟨a, b, c, d, by rw [e]⟩
theorem us5 {us : List Value} (h : us.length = 5) : ∃ a b c d f, us = [a, b, c, d, f] := by
  cases us with
  | nil => cases h
  | cons a r => obtain ⟨b, c, d, f, e⟩ := us4 (Nat.succ.inj h); exact ⟨a, b, c, d, f, by rw [e]⟩
theorem fnAt_mk {K : PySem.W.Frag} {h : Heap} {mg : Str → Option Value} {x : Str} {st : Stmt} {ps : List Str} {f : Addr} {oc : Value} {od an : Option Addr} {osl : Array (Option Value)} {kV doc pm cdv ct : Value} (X : K.In h) (G : h.Ns mainGlobals mg)
    (a : PySem.W.nsIn K mainGlobals x = some (some (.ref f))) (l : K.lookup f = some ⟨oc, od, .func (PySem.W.fnOf x x (defArgs st) (defBody st) (defScope st) .none kV doc pm an cdv ct), osl⟩)
    (c : PySem.W.codeIn K cdv x = true) (k : PySem.W.keepIn K (.ref f) = true)
    (hb : ∀ (kV doc pm : Value) (an : Option Addr) (cdv ct : Value) (us : List Value), us.length = ps.length → bindArgs (PySem.W.fnOf x x (defArgs st) (defBody st) (defScope st) .none kV doc pm an cdv ct) ⟨us, []⟩ = pure (ps.zip us)) :
    FnAt K mg x st ps f (PySem.W.fnOf x x (defArgs st) (defBody st) (defScope st) .none kV doc pm an cdv ct) :=
  ⟨fun_mk l c k, (fun_mk l c k).binds hb, PySem.W.mg_of X G a⟩
def spLaw3 : Sp3 := fun ds M Q => ∃ ns : List Int, ds = [.lst (ns.map D.int)] ∧ ns.length ≤ 63 ∧ (∀ a, M a = none) ∧ ∀ M', Q (.bl true) M'
theorem walk3 {l : PySem.W.OpenLaw} {q : Program} {loose : List Str} {XP : (Str → Option Value) → Heap → Prop} {YP : World → Heap → Prop} {d : DefRec} {K : Params → PySem.W.Frag} {k : Nat} {x : Str} (hn : l.most = some 63) (hdf : d.params.defaults = []) (hr : Room k callerA)
    (hY : ∀ (w : World) (h : Heap), YP w h → (K w.params).In h)
    (F : ∀ (w : World) (mg : Str → Option Value) (fa : Addr) (h : Heap), (K w.params).In h → h.Ns mainGlobals mg → mg d.name = some (.ref fa) →
      ∃ fd : FuncData, (∀ (s : Shared) (u : Value), BindsTo s fd ⟨[u], []⟩ [(x, u)]) ∧ ∀ base : Heap, (K w.params).In base → base.Ns mainGlobals mg → FnOk l.prog w (K w.params) mg base CX0 k fa fd [x] (dnSp (K w.params) spLaw3)) :
    PySem.W.WalkO q loose XP YP l.row.toRowW d [] (fun f vs => PySem.call f vs) :=
  L2.walk_of (n := 63) (k := k) (x := x) (CX := fun _ => CX0) (sp := fun w => dnSp (K w.params) spLaw3) hn (by decide) hdf hr hY F
    (fun w H a ns hl _ hS => ⟨[.lst (ns.map D.int)], fun _ => none, fun d _ => d = .bl true, .cons (.lst (hS.imp (fun z => ⟨z, rfl⟩) id) .ints) .nil, (fun _ _ z => nomatch z), ⟨ns, rfl, hl, fun _ => rfl, fun _ => rfl⟩,
      fun d v M' H' _ _ r e => by subst e; cases r; rfl⟩) fun _ _ _ _ _ z => z
def Same3 (p : Addr) (M M' : Mem) : Prop := ∀ q, q ≠ p → M' q = M q
theorem Same3.trans {p : Addr} {M M1 M2 : Mem} (a : Same3 p M M1) (b : Same3 p M1 M2) : Same3 p M M2 := fun q h => (b q h).trans (a q h)
end L3
set_option Elab.async false
set_option linter.all false
set_option maxRecDepth 100000
namespace L3
open PySem PySem.Spec PyProof.Rows L2
def closN (c : Str → Addr) : List (Str × NameKind) → List (Str × Addr) → List (Str × Addr)
  | [], acc => acc
  | (n, k) :: r, acc => closN c r (if (k == .free) = true then (n, c n) :: acc else acc)
theorem closureFor_of {scope : Scope} {env : Env} {c : Str → Addr} (h : ∀ p ∈ scope.names, p.2 = .free → env.cells.lookup p.1 = some (c p.1)) : closureFor scope env = pure (closN c scope.names []) := by
  unfold closureFor
  have key : ∀ (l : List (Str × NameKind)) (acc : List (Str × Addr)), (∀ p ∈ l, p.2 = .free → env.cells.lookup p.1 = some (c p.1)) →
      (forIn l acc fun (x : Str × NameKind) (r : List (Str × Addr)) => match x with
        | (name, kind) => if (kind == NameKind.free) = true then do let y ← cellOf env name; pure (ForInStep.yield ((name, y) :: r)) else pure (ForInStep.yield r) : Sem (List (Str × Addr))) = pure (closN c l acc) := by
    intro l
    induction l with
    | nil => intro acc _; rfl
    | cons p l ih =>
      intro acc hp
      obtain ⟨n, k⟩ := p
      rw [List.forIn_cons]
      by_cases hk : (k == NameKind.free) = true
      · have hkf : k = .free := by simpa using hk
        have hc := hp (n, k) List.mem_cons_self hkf
        have e : cellOf env n = pure (c n) := by unfold cellOf; rw [show env.cells.lookup n = some (c n) from hc]
        simp only [hk, if_true, e]
        have := ih ((n, c n) :: acc) fun q hq => hp q (List.mem_cons_of_mem _ hq)
        unfold closN
        rw [if_pos hk, ← this]
        rfl
      · simp only [hk, if_false]
        have := ih acc fun q hq => hp q (List.mem_cons_of_mem _ hq)
        unfold closN
        rw [if_neg hk, ← this]
        rfl
  have k2 := key scope.names [] h
  first
    | exact k2
    | (refine Eq.trans ?_ k2; rfl)
    | (simp only [bind_pure]; exact k2)
theorem closN_acc (c : Str → Addr) : ∀ (l : List (Str × NameKind)) (acc : List (Str × Addr)) (p : Str × Addr), p ∈ closN c l acc → p ∈ acc ∨ (p.2 = c p.1 ∧ (p.1, NameKind.free) ∈ l)
  | [], acc, p, h => .inl h
  | (n, k) :: r, acc, p, h => by
    unfold closN at h
    rcases closN_acc c r _ p h with h | ⟨h1, h2⟩
    · by_cases hk : (k == NameKind.free) = true
      · rw [if_pos hk] at h
        rcases List.mem_cons.mp h with rfl | h
        · have hkf : k = .free := by simpa using hk
          exact .inr ⟨rfl, by rw [hkf]; exact List.mem_cons_self⟩
        · exact .inl h
      · rw [if_neg hk] at h; exact .inl h
    · exact .inr ⟨h1, List.mem_cons_of_mem _ h2⟩
theorem closN_has (c : Str → Addr) : ∀ (l : List (Str × NameKind)) (acc : List (Str × Addr)) (n : Str), ((n, NameKind.free) ∈ l ∨ (n, c n) ∈ acc) → (n, c n) ∈ closN c l acc
  | [], acc, n, h => by
    rcases h with h | h
    · exact absurd h (by simp)
    · exact h
  | (m, k) :: r, acc, n, h => by
    unfold closN
    refine closN_has c r _ n ?_
    rcases h with h | h
    · rcases List.mem_cons.mp h with e | h
      · cases e
        exact .inr (by rw [if_pos (by decide)]; exact List.mem_cons_self)
      · exact .inl h
    · by_cases hk : (k == NameKind.free) = true
      · rw [if_pos hk]; exact .inr (List.mem_cons_of_mem _ h)
      · rw [if_neg hk]; exact .inr h
theorem lookup_of_all {l : List (Str × Addr)} {c : Str → Addr} (h : ∀ p ∈ l, p.2 = c p.1) {n : Str} (hm : (n, c n) ∈ l) : l.lookup n = some (c n) := by
  induction l with
  | nil => exact absurd hm (by simp)
  | cons p r ih =>
    obtain ⟨m, a⟩ := p
    by_cases e : n = m
    · subst e
      have : a = c n := h (n, a) List.mem_cons_self
      simp [List.lookup_cons, this]
    · have e' : (n == m) = false := by simpa using e
      simp only [List.lookup_cons, e']
      refine ih (fun q hq => h q (List.mem_cons_of_mem _ hq)) ?_
      rcases List.mem_cons.mp hm with z | z
      · cases z; exact absurd rfl e
      · exact z
theorem closN_all (c : Str → Addr) (l : List (Str × NameKind)) : ∀ p ∈ closN c l [], p.2 = c p.1 := fun p hp => by
  rcases closN_acc c l [] p hp with h | h
  · exact absurd h (by simp)
  · exact h.1
theorem closN_lookup {c : Str → Addr} {l : List (Str × NameKind)} {n : Str} (h : (n, NameKind.free) ∈ l) : (closN c l []).lookup n = some (c n) :=
  lookup_of_all (closN_all c l) (closN_has c l [] n (.inl h))
theorem of_closN {c : Str → Addr} {l : List (Str × NameKind)} {n : Str} {a : Addr} (h : (closN c l []).lookup n = some a) : a = c n ∧ (n, NameKind.free) ∈ l := by
  have hm := PySem.mem_of_lookup h
  rcases closN_acc c l [] (n, a) hm with z | z
  · exact absurd z (by simp)
  · exact z
theorem comp_loop {prog : Program} {w : World} {A : Around} {R : Result → Shared → Prop} {s : Shared} {elt target iter : Expr} {ifs : List Expr} {scope : Scope} {pos : Pos} {it acc : Value} {env : Env} (I : Nat → Shared → Prop)
    (turn : ∀ n s, I n s → wpAny (model prog w) A (pyNext it) (fun r s₁ => match r with
      | none => R (.ok .next) s₁
      | some v => wpAny (model prog w) A (letOwnedTupleGo target it v) (fun _ s₁' => wpAny (model prog w) A (assign target env v) (fun _ s₂ =>
          wpAny (model prog w) A (forIn ifs true fun c r => if r = true then do let ok ← isTrue c env (eval c env); pure (ForInStep.yield ok) else pure (ForInStep.yield r)) (fun ok s₃ =>
            if ok = true then wpAny (model prog w) A (eval elt env) (fun x s₄ =>
              wpAny (model prog w) A (call (.builtin "list.append") [acc, x]) (fun _ s₅ => ∃ m, m < n ∧ I m s₅) (fun _ _ => False) s₄) (fun _ _ => False) s₃
            else ∃ m, m < n ∧ I m s₃) (fun _ _ => False) s₂) (fun _ _ => False) s₁') (fun _ _ => False) s₁) (fun _ _ => False) s)
    (n : Nat) (h : I n s) : codeAny (model prog w) A (.compLoop (.ListComp elt [⟨target, iter, ifs, 0⟩] scope pos) 0 it acc env) R s := by
  refine codeAny_loop rfl I (fun n s hI => ?_) n h
  show wpAny _ A ((compTurn (.ListComp elt [⟨target, iter, ifs, 0⟩] scope pos) 0 it acc env).onRaise (fun x => do noteFrame x env; theTreesLotGoes x)) _ _ s
  refine wpAny_noted ?_
  rw [compTurn_list]
  refine wpAny_bind (wpAny_standAt (wpAny_bind (wpAny_mono (turn n s hI) (fun r s₁ h₁ => ?_) fun _ _ h' => h'.elim)))
  cases r with
  | none => exact wpAny_pure h₁
  | some v =>
    refine wpAny_bind (wpAny_mono h₁ (fun _ s₁' h₁' => ?_) fun _ _ h' => h'.elim)
    refine wpAny_bind (wpAny_mono h₁' (fun _ s₂ h₂ => wpAny_bind (wpAny_mono h₂ (fun ok s₃ h₃ => ?_) fun _ _ h' => h'.elim)) fun _ _ h' => h'.elim)
    cases ok with
    | false => exact wpAny_pure ⟨rfl, h₃⟩
    | true =>
      exact wpAny_bind (wpAny_bind (wpAny_mono h₃ (fun x s₄ h₄ => wpAny_bind (wpAny_mono h₄ (fun _ s₅ h₅ => wpAny_pure (wpAny_pure ⟨rfl, h₅⟩)) fun _ _ h' => h'.elim)) fun _ _ h' => h'.elim))
def compCx (X : Cx) (scope : Scope) (cl : List (Str × Addr)) (s₀ : Shared) (H₀ : Hp) (ex : List Addr) (N' : List Str) : Cx :=
  { X with N := N', s₀ := s₀, H₀ := H₀, env := compEnvC scope cl s₀.heap.objs.size X.env, outer := X.stack, stack := X.stack, ex := ex, fn := fun _ => false, pn := [], xe := fun _ _ => False }
theorem relabel_free {scope : Scope} {env : Env} (hcell : ∀ y ∈ scope.names, y.2 ≠ .cell) {x : Str} (h : (relabel scope env).names.lookup x = some .cell ∨ (relabel scope env).names.lookup x = some .free) : (x, NameKind.free) ∈ scope.names := by
  have key : ∀ k', (k' = .cell ∨ k' = .free) → (relabel scope env).names.lookup x = some k' → (x, NameKind.free) ∈ scope.names := fun k' hk h => by
    have hm := PySem.mem_of_lookup h
    obtain ⟨⟨n, k⟩, hn, e⟩ := List.mem_map.mp hm
    by_cases hc : (k == NameKind.free && env.scope.kind == .function && env.kindOf n == some .cell) = true
    · dsimp only at e
      rw [if_pos hc] at e
      cases e
      have : k = .free := by
        simp only [Bool.and_eq_true] at hc
        simpa using hc.1.1
      rw [this] at hn; exact hn
    · dsimp only at e
      rw [if_neg hc] at e
      cases e
      rcases hk with rfl | rfl
      · exact absurd rfl (hcell _ hn)
      · exact hn
  rcases h with h | h
  · exact key _ (.inl rfl) h
  · exact key _ (.inr rfl) h
def PIfs (X : Cx) (ifs : List Expr) (t : TT3) : Prop :=
  ∀ (pins : List (Addr × Obj)) (s : Shared) (σv : L2.St) (H : Hp) (σ : Lo) (M : Mem) (Q : Bool → Mem → Prop), Inv X pins σv H s → SRel X.K M H σ σv → MRel X.K M H → t σ M Q →
    wpAny (model X.prog X.w) X.A (forIn ifs true fun c r => if r = true then do let ok ← isTrue c X.env (eval c X.env); pure (ForInStep.yield ok) else pure (ForInStep.yield r)) (TP3 X pins σv M H Q) X.xe s
def tTrue3 : TT3 := fun _ M Q => Q true M
theorem pifs_nil {X : Cx} : PIfs X [] tTrue3 := fun pins s σv H σ M Q I hS hM h => by
  rw [List.forIn_nil]
  exact wpAny_pure ⟨M, H, I, .refl, hM, h⟩
abbrev TG3 := D → Lo → Mem → (Lo → Mem → Prop) → Prop
def dnG (K : PySem.W.Frag) (g : TG3) : TG := fun v σv H Q2 => ∃ d σ M Q, Rep K M H d v ∧ SRel K M H σ σv ∧ MRel K M H ∧ g d σ M Q ∧ ∀ σ' σv' M' H', Step M H M' H' → MRel K M' H' → SRel K M' H' σ' σv' → Q σ' M' → Q2 σv' H'
def PG3 (X : Cx) (tg : Expr) (g : TG3) : Prop := PG X tg (dnG X.K g)
theorem PG.weak {X : Cx} {tg : Expr} {g1 g2 : TG} (h : PG X tg g1) (hw : ∀ v σ H Q, g2 v σ H Q → g1 v σ H Q) : PG X tg g2 := fun pins s σ H v u Q I r q => h pins s σ H v u Q I r (hw _ _ _ _ q)
def gName3 (i : Nat) : TG3 := fun d σ M Q => Q (σ.set i (some d)) M
theorem pg3_name {X : Cx} {i : Nat} {x : Str} {pos : Pos} (hN : X.N.Nodup) (hi : X.N[i]? = some x) (hx : Loc X.env.scope x) (hf : X.fn x = true ∨ X.env.scope.names.lookup x = some .local := by first | exact .inl rfl | exact .inr rfl | assumption) : PG3 X (.Name x pos) (gName3 i) :=
  PG.weak (pg_name hN hi hx hf) fun v σv H Q2 ⟨d, σ, M, Q, r, hS, hM, h, k⟩ => k (σ.set i (some d)) _ M H .refl hM (hS.set r i) h
def setAll {α : Type} : List (Option α) → List Nat → List α → List (Option α)
  | σ, i :: is, x :: xs => setAll (σ.set i (some x)) is xs
  | σ, _, _ => σ
def gSet (is : List Nat) : TGs := fun vs σ H Q => vs.length = is.length ∧ Q (setAll σ is vs) H
theorem PGs.weak {X : Cx} {ts : List Expr} {g1 g2 : TGs} (h : PGs X ts g1) (hw : ∀ v σ H Q, g2 v σ H Q → g1 v σ H Q) : PGs X ts g2 := fun pins s σ H v u Q I r q => h pins s σ H v u Q I r (hw _ _ _ _ q)
theorem pgs3_nil {X : Cx} : PGs X [] (gSet []) := PGs.weak pgs_nil fun vs σ H Q hx0 => by
  obtain ⟨hl, q⟩ := hx0
  have e : vs = [] := List.length_eq_zero_iff.mp hl
  subst e
  exact ⟨rfl, q⟩
theorem pgs3_cons {X : Cx} {i : Nat} {is : List Nat} {x : Str} {pos : Pos} {es : List Expr} (hN : X.N.Nodup) (hi : X.N[i]? = some x) (hx : Loc X.env.scope x) (h2 : PGs X es (gSet is))
    (hf : X.fn x = true ∨ X.env.scope.names.lookup x = some .local := by first | exact .inl rfl | exact .inr rfl | assumption)
    (hs : (assignEach (.Name x pos :: es) X.env).map (·.2) = assign (.Name x pos) X.env :: (assignEach es X.env).map (·.2) := by rfl) : PGs X (.Name x pos :: es) (gSet (i :: is)) :=
  PGs.weak (pgs_cons (pg_name hN hi hx hf) h2 hs) fun vs σ H Q hx0 => by
    obtain ⟨hl, q⟩ := hx0
    cases vs with
    | nil => cases hl
    | cons v r => exact ⟨v, r, rfl, by simpa using hl, q⟩
theorem setAll_rel {K : PySem.W.Frag} {M : Mem} {H : Hp} : ∀ {is : List Nat} {ds : List D} {vs : List V} {σ : Lo} {σv : L2.St}, Reps K M H ds vs → SRel K M H σ σv → SRel K M H (setAll σ is ds) (setAll σv is vs)
  | [], ds, vs, σ, σv, r, hS => by cases ds <;> cases vs <;> exact hS
  | i :: is, _, _, σ, σv, .nil, hS => hS
  | i :: is, _, _, σ, σv, .cons a b, hS => setAll_rel (is := is) b (hS.set a i)
def gTup3 (is : List Nat) : TG3 := fun d σ M Q => ∃ ds, d = .tup ds ∧ ds.length = is.length ∧ Q (setAll σ is ds) M
theorem pg3_tup {X : Cx} {es : List Expr} {k : Nat} {pos : Pos} {is : List Nat} (hc : X.calm = true) (h : PGs X es (gSet is))
    (hn : (assignEach es X.env).length = is.length := by rfl) (hst : (assignEach es X.env).findIdx? (·.1) = none := by rfl) : PG3 X (.Tuple es k pos) (gTup3 is) :=
  PG.weak (pg_tup hc h hn hst) fun v σv H Q2 hx0 => by
    obtain ⟨d, σ, M, Q, r, hS, hM, ⟨ds, e, hl, q⟩, kk⟩ := hx0
    subst e
    cases r with
    | tup h1 rs => exact ⟨_, _, rfl, SqT.of3 h1, by rw [← rs.length]; exact hl, by rw [← rs.length]; exact hl, kk _ _ M H .refl hM (setAll_rel rs hS) q⟩
def tAsg3 (g : TG3) (te : TE3) : TS3 := fun T σ M => te σ M fun d M1 => g d σ M1 T.nx
theorem ps3_asg {X : Cx} {tg e : Expr} {te : TE3} {g : TG3} {pos : Pos} (he : PE3 X e te) (hg : PG3 X tg g) (hs : swapsWithSole [tg] e pos.line X.env = pure false := by rfl) (hw : swappedStores [tg] e X.env = pure none := by rfl)
    (h1 : (assignEach [tg] X.env).map (·.2) = [assign tg X.env] := by rfl) : PS3 X (.Assign [tg] e pos) (tAsg3 g te) := PS3.of (ps_asg he.dn hg hs hw h1) fun pins s σv H σ M T I hS hM h =>
  ⟨σ, M, _, hS, hM, h, fun d v M' H' st m r q => ⟨d, σ, M', _, r, hS.mono st, m, q, fun σ' σv' M2 H2 st2 m2 r2 q2 => ⟨σ', M2, st.trans st2, m2, r2, q2⟩⟩⟩
def tForG3 (ti : TI3) (g : TG3) (tb : TS3) : TS3 := fun T σ M => ti σ M fun ds M1 => ∃ Pv : Nat → Lo → Mem → Prop, Pv 0 σ M1 ∧
  (∀ k d σ M, ds[k]? = some d → Pv k σ M → g d σ M fun σ' M' => tb { T with nx := Pv (k + 1), ct := Pv (k + 1), bk := T.nx } σ' M') ∧ ∀ σ M, Pv ds.length σ M → T.nx σ M
theorem ps3_forG {X : Cx} {tg iter : Expr} {body : List Stmt} {ti : TI3} {g : TG3} {tb : TS3} {pos : Pos} (hp : PassesOwn (model X.prog X.w) X.A X.env X.xe) (hc : X.calm = true) (hi : PI3 X tg iter ti)
    (hg : PG3 X tg g) (hb : PSs3 X body tb) (hs : ∀ y, foldedSetIterable iter X.env y = pure y := by intro _; rfl) :
    PS3 X (.For tg iter body [] pos) (tForG3 ti g tb) := PS3.of (ps_for hp hc hi hg hb.dn hs) fun pins s σv H σ M T I hS hM h => by
  refine ⟨σ, M, _, hS, hM, h, fun ds J M1 H1 st1 m1 wk ⟨Pv, p0, turn, done⟩ => ?_⟩
  refine ⟨fun k m σv' H' => m = ds.length - k ∧ k ≤ ds.length ∧ ∃ σ' M', Step M1 H1 M' H' ∧ MRel X.K M' H' ∧ SRel X.K M' H' σ' σv' ∧ Pv k σ' M', ⟨_, rfl, Nat.zero_le _, σ, M1, .refl, m1, hS.mono st1, p0⟩, ?_⟩
  rintro k m σv' H' ⟨rfl, hk, σ', M', st', m', hS', pk⟩
  obtain ⟨go, yld, stop⟩ := wk M' H' st'
  by_cases hlt : k < ds.length
  · refine .inr ⟨go k hlt, fun σ2 H2 => ∃ σ'' M'', Step M1 H1 M'' H2 ∧ MRel X.K M'' H2 ∧ SRel X.K M'' H2 σ'' σ2 ∧ Pv (k + 1) σ'' M'', ?_, ?_⟩
    · rintro σ2 H2 ⟨σ'', M'', q⟩
      exact ⟨ds.length - (k + 1), by lia, rfl, hlt, σ'', M'', q⟩
    · intro y H'' hy
      obtain ⟨rfl, ry⟩ := yld k ds[k] y H'' (by simp [hlt]) hy
      refine ⟨ds[k], σ', M', _, ry, hS', m', turn k ds[k] σ' M' (by simp [hlt]) pk, fun σ9 v9 M9 H9 s9 m9 r9 q9 => ?_⟩
      refine ⟨σ9, M9, _, r9, m9, q9, ?_⟩
      have s8 := st'.trans s9
      exact ⟨fun σ2 v2 M2 H2 s2 m2 r2 q2 => ⟨σ2, M2, s8.trans s2, m2, r2, q2⟩, fun σ2 v2 M2 H2 s2 m2 r2 q2 => ⟨σ2, M2, (st1.trans s8).trans s2, m2, r2, q2⟩,
        fun σ2 v2 M2 H2 s2 m2 r2 q2 => ⟨σ2, M2, s8.trans s2, m2, r2, q2⟩, fun d v2 M2 H2 s2 m2 r2 q2 => ⟨d, M2, (st1.trans s8).trans s2, m2, r2, q2⟩⟩
  · have e : k = ds.length := by lia
    subst e
    exact .inl ⟨stop _ (Nat.le_refl _), σ', M', st1.trans st', m', hS', done σ' M' pk⟩
end L3
set_option Elab.async false
set_option linter.all false
set_option maxRecDepth 100000
namespace L3
open PySem PySem.Spec PyProof.Rows L2
theorem lookup_mapk {f : Str × NameKind → Str × NameKind} (hf : ∀ p, (f p).1 = p.1) {x : Str} : ∀ {l : List (Str × NameKind)}, (l.map f).lookup x = (l.lookup x).map fun k => (f (x, k)).2
  | [] => rfl
  | (n, k) :: r => by
    have h1 := hf (n, k)
    rw [List.map_cons]
    generalize hq : f (n, k) = q at h1 ⊢
    obtain ⟨q1, q2⟩ := q
    cases h1
    rw [List.lookup_cons, List.lookup_cons]
    by_cases e : x = n
    · subst e
      simp [hq]
    · have e' : (x == n) = false := by simpa using e
      rw [e']
      exact lookup_mapk hf
theorem relabel_lookup {scope : Scope} {env : Env} {x : Str} : (relabel scope env).names.lookup x = (scope.names.lookup x).map fun k => if (k == NameKind.free && env.scope.kind == .function && env.kindOf x == some .cell) = true then NameKind.cell else k := by
  have := lookup_mapk (f := fun p => if (p.2 == NameKind.free && env.scope.kind == .function && env.kindOf p.1 == some .cell) = true then (p.1, NameKind.cell) else (p.1, p.2)) (fun p => by split <;> rfl) (x := x) (l := scope.names)
  refine this.trans ?_
  congr 1
  funext k
  split <;> rfl
theorem relabel_free' {scope : Scope} {env : Env} {x : Str} (h : scope.names.lookup x = some .free) : (relabel scope env).names.lookup x = some .cell ∨ (relabel scope env).names.lookup x = some .free := by
  rw [relabel_lookup, h, Option.map_some]
  split
  · exact .inl rfl
  · exact .inr rfl
def tComp3 (ti : TI3) (n : Nat) (slots : List Nat) (g : TG3) (tt : TT3) (te : TE3) : TE3 := fun σ M Q => ti σ M fun ds M1 => ∀ p, M1 p = none → ∃ Pv : Nat → List D → Mem → Prop, Pv 0 [] (mput M1 p (.lst [])) ∧
  (∀ k d acc M, ds[k]? = some d → Pv k acc M → g d (List.replicate n none ++ slots.map fun j => (σ[j]?).getD none) M fun σ' M0 => tt σ' M0 fun b M' =>
    if b = true then te σ' M' fun e M'' => M'' p = some (.lst acc) ∧ acc.length < sizeLine ∧ Pv (k + 1) (acc ++ [e]) (mput M'' p (.lst (acc ++ [e]))) else Pv (k + 1) acc M') ∧
  ∀ acc M, Pv ds.length acc M → M p = some (.lst acc) ∧ Q (.lst acc) (mdel M p)
def WkE (K : PySem.W.Frag) (J : It) (ds : List D) (M : Mem) (H : Hp) : Prop := ∀ M' H', Step M H M' H' → MRel K M' H' →
  (∀ i, i < ds.length → J.go i H') ∧ (∀ i d x H'', ds[i]? = some d → J.yld i H' x H'' → Step M' H' M' H'' ∧ MRel K M' H'' ∧ Rep K M' H'' d x) ∧ J.stop ds.length H'
def dnIE (K : PySem.W.Frag) (t : TI3) : TI := fun σv H R2 => ∃ σ M R, SRel K M H σ σv ∧ MRel K M H ∧ t σ M R ∧ ∀ ds J M' H', Step M H M' H' → MRel K M' H' → WkE K J ds M' H' → R ds M' → R2 J H'
def PI3E (X : Cx) (tg iter : Expr) (t : TI3) : Prop := PI X tg iter (dnIE X.K t)
theorem PI3.toE {X : Cx} {tg iter : Expr} {t : TI3} (h : PI3 X tg iter t) : PI3E X tg iter t := PI.weak h fun σv H R2 ⟨σ, M, R, hS, hM, ht, k⟩ => ⟨σ, M, R, hS, hM, ht, fun ds J M' H' st m wk => k ds J M' H' st m fun M2 H2 st2 m2 =>
  let ⟨go, yld, stop⟩ := wk M2 H2 st2
  ⟨go, fun i d x H'' e y => by obtain ⟨rfl, r⟩ := yld i d x H'' e y; exact ⟨.refl, m2, r⟩, stop _ (Nat.le_refl _)⟩⟩
def tCompF (ti : TI3) (n : Nat) (slots : List Nat) (g : TG3) (tt : TT3) (te : TE3) (F : Addr → List D → Mem → Prop) (σ : Lo) (M : Mem) : Prop := ti σ M fun ds M1 => ∀ p, M1 p = none → ∃ Pv : Nat → List D → Mem → Prop, Pv 0 [] (mput M1 p (.lst [])) ∧
  (∀ k d acc M, ds[k]? = some d → Pv k acc M → g d (List.replicate n none ++ slots.map fun j => (σ[j]?).getD none) M fun σ' M0 => tt σ' M0 fun b M' =>
    if b = true then te σ' M' fun e M'' => M'' p = some (.lst acc) ∧ acc.length < sizeLine ∧ Pv (k + 1) (acc ++ [e]) (mput M'' p (.lst (acc ++ [e]))) else Pv (k + 1) acc M') ∧
  ∀ acc M, Pv ds.length acc M → M p = some (.lst acc) ∧ F p acc M
set_option maxHeartbeats 2000000 in
theorem comp_core {X : Cx} {elt tg iter : Expr} {pos : Pos} {ifs : List Expr} {scope : Scope} {tns caps : List Str} {slots : List Nat} {ti : TI3} {g : TG3} {tt : TT3} {te : TE3}
    (hc : X.calm = true) (hi : PI3E X tg iter ti) (hkind : scope.kind = .function) (hcell : ∀ y ∈ scope.names, y.2 ≠ .cell)
    (hnames : ∀ y ∈ scope.names, y.2 = .local → scope.names.lookup y.1 = some .local)
    (hfree : ∀ y ∈ scope.names, y.2 = .free → X.env.kindOf y.1 = some .cell ∨ X.env.kindOf y.1 = some .free)
    (hcf : ∀ y ∈ caps, scope.names.lookup y = some .free) (hcaps : slots.map (fun j => X.N[j]?) = caps.map some)
    (hgk : ∀ d M Q (cs : Lo), g d (List.replicate tns.length none ++ cs) M Q → g d (List.replicate tns.length none ++ cs) M (fun σ' M' => σ'.drop tns.length = cs ∧ Q σ' M'))
    (hg : ∀ cl s₀ H₀ ex, PG3 (compCx X scope cl s₀ H₀ ex (tns ++ caps)) tg g)
    (ht : ∀ cl s₀ H₀ ex, PIfs (compCx X scope cl s₀ H₀ ex (tns ++ caps)) ifs tt) (he : ∀ cl s₀ H₀ ex, PE3 (compCx X scope cl s₀ H₀ ex (tns ++ caps)) elt te)
    (hs : ∀ y, foldedSetIterable iter X.env y = pure y)
    {use : Option (Value → Sem Unit)} {Post : Value → Shared → Prop} {pins : List (Addr × Obj)} {s : Shared} {σv : L2.St} {H : Hp} {σ : Lo} {M : Mem} {F : Addr → List L3.D → Mem → Prop} (I : Inv X pins σv H s) (hS : SRel X.K M H σ σv) (hM : MRel X.K M H) (h : tCompF ti tns.length slots g tt te F σ M)
    (fin : ∀ (D C : Addr) (acc : List L3.D) (H5 : Hp) (M5 : Mem) (s6 : Shared) (m : Str → Option Value), s6.heap.Ns C m → Inv X pins σv H5 s6 → H5 C = none → C ≠ X.env.locals → C ∉ X.fs → X.s₀.heap.objs.size ≤ C → (∀ x c, X.env.cells.lookup x = some c → c ≠ C) → (∀ p ∈ X.pn ++ pins, p.1 ≠ C) →
      Step M H M5 H5 → MRel X.K M5 H5 → M5 D = some (.lst acc) → F D acc M5 → compPost (model X.prog X.w) X.A X.xe use Post (.ref D) C (.ok .next) s6) :
    wpAny (model X.prog X.w) X.A (comprehension (.ListComp elt [⟨tg, iter, ifs, 0⟩] scope pos) scope X.env (firstIterPos [⟨tg, iter, ifs, 0⟩] pos) (newList []) false (firstIter [⟨tg, iter, ifs, 0⟩] X.env) use) Post X.xe s := by
  have hclos : closureFor scope X.env = pure (closN (fun n => (X.env.cells.lookup n).getD 0) scope.names []) := closureFor_of fun p hp hk => by
    obtain ⟨a, e⟩ := I.ok.has p.1 (hfree p hp hk)
    rw [e]; rfl
  have cellsOf : ∀ x c, (closN (fun n => (X.env.cells.lookup n).getD 0) scope.names []).lookup x = some c → X.env.cells.lookup x = some c := fun x c e => by
    obtain ⟨e1, e2⟩ := of_closN e
    obtain ⟨a, e3⟩ := I.ok.has x (hfree _ e2 rfl)
    rw [e3] at e1
    rw [e3, e1]; rfl
  have clHas : ∀ n, (n, NameKind.free) ∈ scope.names → ∃ c, (closN (fun n => (X.env.cells.lookup n).getD 0) scope.names []).lookup n = some c := fun n hn => ⟨_, closN_lookup hn⟩
  generalize closN (fun n => (X.env.cells.lookup n).getD 0) scope.names [] = cl at hclos cellsOf clHas
  refine wpAny_comprehension_free rfl hs hclos hkind hnames ?_
  refine thn (hi pins s σv H (fun J H2 => ∃ ds M1, Step M H M1 H2 ∧ MRel X.K M1 H2 ∧ WkE X.K J ds M1 H2 ∧ _) I ⟨σ, M, _, hS, hM, h, fun ds J M1 H1 st m wk q => ⟨ds, M1, st, m, wk, q⟩⟩) fun v s1 h1 => thn h1 fun itv s2 h2 => ?_
  obtain ⟨it, fp, tn, J, H2, e0, I2, T, st2, f2, ds, M1, stp, m1, wk, cont⟩ := h2
  subst e0
  refine wpAny_newObj_type ?_
  have I3 := I2.lnew (its := []) (ys := []) (t' := s2.toks) .nil (Nat.zero_le _)
  have hget : ∀ b o, s2.heap.get? b = some o → ({ s2 with heap := s2.heap.push { cls := .type "list", data := .seq #[] }, toks := s2.toks } : Shared).heap.get? b = some o := fun b o e => Heap.get?_push_of_some _ e
  have hsz : s2.heap.objs.size < ({ s2 with heap := s2.heap.push { cls := .type "list", data := .seq #[] }, toks := s2.toks } : Shared).heap.objs.size := Heap.lt_size (Heap.get?_push_size _ rfl)
  change wpAny _ _ _ _ _ ({ s2 with heap := s2.heap.push { cls := .type "list", data := .seq #[] }, toks := s2.toks } : Shared)
  change Inv X pins σv _ ({ s2 with heap := s2.heap.push { cls := .type "list", data := .seq #[] }, toks := s2.toks } : Shared) at I3
  have hos3 : ({ s2 with heap := s2.heap.push { cls := .type "list", data := .seq #[] }, toks := s2.toks } : Shared).os = s2.os := rfl
  generalize ({ s2 with heap := s2.heap.push { cls := .type "list", data := .seq #[] }, toks := s2.toks } : Shared) = s3 at I3 hget hsz hos3 ⊢
  refine wpAny_newFunctionEnv hcell (fun _ hx => absurd hx (by simp)) (fun h4 hns hsb => ?_) hkind
  have hDn : H2 s2.heap.objs.size = none := I2.fresh
  have hD : upd H2 s2.heap.objs.size (.lst []) s2.heap.objs.size = some (.lst []) := upd_same
  have fpne : ∀ b ∈ fp, b ≠ s2.heap.objs.size := fun b hb => by
    obtain ⟨o, e, _⟩ := T.obj _ _ st2 b hb
    exact Nat.ne_of_lt (Heap.lt_size e)
  generalize s2.heap.objs.size = D at hDn hD hsz I3 fpne ⊢
  have stD : Step M1 H2 (mput M1 D (.lst [])) (upd H2 D (.lst [])) := Step.put (.inl hDn)
  have mD : MRel X.K (mput M1 D (.lst [])) (upd H2 D (.lst [])) := m1.put (.inl hDn) .nil
  have k4 : ∀ b o, s3.heap.get? b = some o → h4.get? b = some o := fun b o e => (hsb.2 b (Nat.ne_of_lt (Heap.lt_size e))).trans (Heap.get?_push_of_some _ e)
  have fpold : ∀ b ∈ fp, b < s3.heap.objs.size := fun b hb => by
    obtain ⟨o, e, _⟩ := T.obj _ _ st2 b hb
    exact Heap.lt_size (hget b o e)
  have fpD : ∀ b ∈ fp, upd H2 D (.lst []) b = none := fun b hb => by
    rw [upd_ne (fpne b hb)]; exact (f2 b hb).1
  have xok : (compCx X scope cl s3 (upd H2 D (.lst [])) fp (tns ++ caps)).Ok := {
    mod := I.ok.mod
    kind := hkind
    glob := I.ok.glob
    blt := I.ok.blt
    above := Nat.le_refl _
    inj := fun x y c e1 e2 => I.ok.inj x y c (cellsOf x c e1) (cellsOf y c e2)
    has := fun x hx => clHas x (relabel_free hcell hx)
    cab := fun x c hf => by cases hf
    hd := I.ok.hd
    frames := I.ok.frames
    stk := .inl rfl
    exf := fun b hb => ⟨Nat.ne_of_lt (fpold b hb), fun x c e => (f2 b hb).2.2.2.2.1 x c (cellsOf x c e)⟩
    bs := I3.bs
    bsz := Nat.le_trans I3.ok.bsz I3.sz
    noex := fun b o e hb => by
      rcases (f2 b hb).2.2.2.1 with z | z
      · exact I.ok.noex b o e z
      · exact absurd (Nat.lt_of_lt_of_le (Heap.lt_size e) (Nat.le_trans I.ok.bsz z)) (Nat.lt_irrefl _)
    exfs := fun b hb z => by
      rcases List.mem_cons.mp (I2.stkSub b z) with z | z
      · exact (f2 b hb).2.1 z
      · exact (f2 b hb).2.2.1 z
    funs := I3.stack
    frf := I3.stkFree }
  have I4 : Inv (compCx X scope cl s3 (upd H2 D (.lst [])) fp (tns ++ caps)) [] (List.replicate tns.length none ++ slots.map fun j => (σv[j]?).getD none) (upd H2 D (.lst [])) { s3 with heap := h4, toks := s3.toks + ([] : List (Str × Value)).length } := {
    ok := xok
    os := rfl
    bare := I3.bare
    base := Un.kept k4
    loc := by
      refine ⟨_, hns, fun i x v e1 e2 vis => ?_⟩
      have hlen : caps.length = slots.length := by
        have := congrArg List.length hcaps
        simpa using this.symm
      have hi : tns.length ≤ i := by
        rcases Nat.lt_or_ge i tns.length with z | z
        · rw [List.getElem?_append_left (by simpa using z), List.getElem?_replicate] at e2
          split at e2 <;> cases e2
        · exact z
      change (tns ++ caps)[i]? = some x at e1
      rw [List.getElem?_append_right hi] at e1
      rw [List.getElem?_append_right (by simpa using hi), List.length_replicate, List.getElem?_map] at e2
      cases e3 : slots[i - tns.length]? with
      | none => rw [e3] at e2; cases e2
      | some j =>
        rw [e3, Option.map_some] at e2
        have e2' : (σv[j]?).getD none = some v := Option.some.inj e2
        have e5 : σv[j]? = some (some v) := by
          cases q : σv[j]? with
          | none => rw [q] at e2'; cases e2'
          | some z => rw [q] at e2'; simp only [Option.getD_some] at e2'; rw [e2']
        have e4 : X.N[j]? = some x := by
          have := congrArg (fun l => l[i - tns.length]?) hcaps
          simp only [List.getElem?_map, e3, e1, Option.map_some] at this
          exact Option.some.inj this
        have hxf := hcf x (List.mem_of_getElem? e1)
        have hk := hfree (x, .free) (PySem.mem_of_lookup hxf) rfl
        obtain ⟨m, hm, hl⟩ := I3.loc
        obtain ⟨u, ru, lk⟩ := hl j x v e4 e5 (hk.elim (fun z => .inr (.inl z)) fun z => .inr (.inr z))
        refine ⟨u, ru, .inr ⟨relabel_free' hxf, ?_⟩⟩
        rcases lk with ⟨z, _⟩ | ⟨_, c, ec, ic⟩
        · rcases hk with y | y <;> (rw [show X.env.kindOf x = _ from z] at y; cases y)
        · obtain ⟨c', ec'⟩ := clHas x (PySem.mem_of_lookup hxf)
          have := cellsOf x c' ec'
          rw [ec] at this
          cases this
          obtain ⟨o, ho, r⟩ := ic
          exact ⟨c, ec', o, k4 _ _ ho, r⟩
    cell := fun x c e => by
      obtain ⟨v, o, ho, r⟩ := I3.cell x c (cellsOf x c e)
      exact ⟨v, o, k4 _ _ ho, r⟩
    free := I3.fresh
    freeC := fun x c e => I3.freeC x c (cellsOf x c e)
    pin := fun p hp => absurd hp (by simp [compCx])
    hok := I3.hok.kept k4
    len := by
      have := congrArg List.length hcaps
      simp at this
      simp [compCx, this] }
  have hlen : caps.length = slots.length := by
    have := congrArg List.length hcaps
    simpa using this.symm
  have stat : ∀ {H' : Hp}, (∀ b ∈ fp, H' b = none) → ∀ b ∈ fp, FpOk (compCx X scope cl s3 (upd H2 D (.lst [])) fp (tns ++ caps)) [] H' b := fun hn b hb =>
    ⟨hn b hb, (xok.exf b hb).1, xok.exfs b hb, .inl hb, (xok.exf b hb).2, fun p hp => absurd hp (by simp [compCx])⟩
  have hMD : M1 D = none := m1.free hDn
  obtain ⟨Pv, p0, turn, done⟩ := cont D hMD
  have hS0 : SRel X.K (mput M1 D (.lst [])) (upd H2 D (.lst [])) (List.replicate tns.length none ++ slots.map fun j => (σ[j]?).getD none) (List.replicate tns.length none ++ slots.map fun j => (σv[j]?).getD none) := by
    refine ⟨by simp, fun i d e => ?_⟩
    rcases Nat.lt_or_ge i tns.length with z | z
    · rw [List.getElem?_append_left (by simpa using z), List.getElem?_replicate] at e
      split at e <;> cases e
    · rw [List.getElem?_append_right (by simpa using z), List.length_replicate, List.getElem?_map] at e ⊢
      cases e3 : slots[i - tns.length]? with
      | none => rw [e3] at e; cases e
      | some j =>
        rw [e3, Option.map_some] at e
        have e2' : (σ[j]?).getD none = some d := Option.some.inj e
        have e5 : σ[j]? = some (some d) := by
          cases q : σ[j]? with
          | none => rw [q] at e2'; cases e2'
          | some z => rw [q] at e2'; simp only [Option.getD_some] at e2'; rw [e2']
        obtain ⟨v, ev, rv⟩ := hS.get j d e5
        exact ⟨v, by rw [Option.map_some, ev]; rfl, rv.mono (stp.trans stD)⟩
  generalize hcs : (slots.map fun j => (σ[j]?).getD none) = cs at turn hS0
  have hcsl : cs.length = caps.length := by rw [← hcs, hlen]; simp
  have loop : codeAny (model X.prog X.w) X.A (.compLoop (.ListComp elt [⟨tg, iter, ifs, 0⟩] scope pos) 0 (.ref it) (.ref D) (compEnvC scope cl s3.heap.objs.size X.env)) (compPost (model X.prog X.w) X.A X.xe use Post (.ref D) s3.heap.objs.size) { s3 with heap := h4, toks := s3.toks + ([] : List (Str × Value)).length } := by
    refine comp_loop (fun n s' => ∃ k acc σv' H' M', n = ds.length - k ∧ k ≤ ds.length ∧ Inv (compCx X scope cl s3 (upd H2 D (.lst [])) fp (tns ++ caps)) [] σv' H' s' ∧ tn k s'.heap ∧ (∀ b ∈ fp, H' b = none) ∧
      Step (mput M1 D (.lst [])) (upd H2 D (.lst [])) M' H' ∧ MRel X.K M' H' ∧ SRel X.K M' H' (List.replicate tns.length none ++ cs) σv' ∧ Pv k acc M') ?_ _ ⟨0, [], _, _, _, rfl, Nat.zero_le _, I4, T.keep _ _ _ st2 fun b hb o e => k4 _ _ (hget _ _ e), fpD, .refl, mD, hS0, p0⟩
    rintro n s5 ⟨k, acc, σv5, H5, M5, rfl, hk, I5, tn5, fr5, st5, m5, hS5, pk⟩
    obtain ⟨go, yld, stop⟩ := wk M5 H5 (stD.trans st5) m5
    by_cases hlt : k < ds.length
    · refine thn (T.item (compCx X scope cl s3 (upd H2 D (.lst [])) fp (tns ++ caps)) rfl rfl rfl hc k [] s5 σv5 H5 (fun _ _ => False) I5 (stat fr5) tn5 (go k hlt)) fun r s6 hx0 => ?_
      obtain ⟨u, hr, h6⟩ := hx0
      subst hr
      refine thn h6 fun _ s7 hx0 => ?_
      obtain ⟨x, H7, I7, r7, y7, tn7, fr7⟩ := hx0
      obtain ⟨sy, my, ry⟩ := yld k ds[k] x H7 (by simp [hlt]) y7
      have I7' := I7.pinned (stat fr7) (T.obj _ _ tn7)
      refine thn (hg cl s3 (upd H2 D (.lst [])) fp _ s7 σv5 _ x u (fun σv' H' => ∃ σ' M', Step M5 H7 M' H' ∧ MRel X.K M' H' ∧ SRel X.K M' H' σ' σv' ∧ _) I7' r7 ⟨ds[k], _, M5, _, ry, hS5.mono sy, my, hgk _ _ _ _ (turn k ds[k] acc M5 (by simp [hlt]) pk), fun σ' σv' M' H' st m r q => ⟨σ', M', st, m, r, q⟩⟩) fun _ s8 hx0 => ?_
      obtain ⟨σ8, H8, I8, σ', M8, st8, m8, hS8, hdr, q8⟩ := hx0
      have again : ∀ (sF : Shared) (HF : Hp) (MF : Mem) (accF : List L3.D), Inv (compCx X scope cl s3 (upd H2 D (.lst [])) fp (tns ++ caps)) ([] ++ pinsAt fp s7.heap) σ8 HF sF → Step M8 H8 MF HF → MRel X.K MF HF → Pv (k + 1) accF MF →
          ∃ m, m < ds.length - k ∧ ∃ k acc σv' H' M', m = ds.length - k ∧ k ≤ ds.length ∧ Inv (compCx X scope cl s3 (upd H2 D (.lst [])) fp (tns ++ caps)) [] σv' H' sF ∧ tn k sF.heap ∧ (∀ b ∈ fp, H' b = none) ∧
            Step (mput M1 D (.lst [])) (upd H2 D (.lst [])) M' H' ∧ MRel X.K M' H' ∧ SRel X.K M' H' (List.replicate tns.length none ++ cs) σv' ∧ Pv k acc M' := by
        intro sF HF MF accF IF stF mF pF
        refine ⟨ds.length - (k + 1), by lia, k + 1, accF, σ8, HF, MF, rfl, hlt, IF.unpinned, T.keep _ _ _ tn7 fun b hb o e => (IF.pin (b, o) (List.mem_append_right _ (List.mem_append_right _ (mem_pinsAt hb e)))).1, fun b hb => ?_, ((st5.trans sy).trans st8).trans stF, mF, ?_, pF⟩
        · obtain ⟨o, e, d⟩ := T.obj _ _ tn7 b hb
          exact (IF.pin (b, o) (List.mem_append_right _ (List.mem_append_right _ (mem_pinsAt hb e)))).2.1
        · refine SRel.mono stF ⟨?_, fun i d e => ?_⟩
          · have := I8.len
            rw [this, List.length_append, List.length_replicate, hcsl]
            simp [compCx]
          · rcases Nat.lt_or_ge i tns.length with z | z
            · rw [List.getElem?_append_left (by simpa using z), List.getElem?_replicate] at e
              split at e <;> cases e
            · rw [List.getElem?_append_right (by simpa using z), List.length_replicate, ← hdr, List.getElem?_drop] at e
              have : tns.length + (i - tns.length) = i := by lia
              rw [this] at e
              exact hS8.get i d e
      refine thn (ht cl s3 (upd H2 D (.lst [])) fp _ s8 σ8 H8 σ' M8 _ I8 hS8 m8 q8) fun ok s9 hx0 => ?_
      obtain ⟨M9, H9, I9, st9, m9, q9⟩ := hx0
      cases ok with
      | false => exact again s9 H9 M9 acc I9 st9 m9 q9
      | true =>
        refine thn (he cl s3 (upd H2 D (.lst [])) fp _ s9 σ8 H9 σ' M9 _ I9 (hS8.mono st9) m9 q9) fun xv s10 hx0 => ?_
        obtain ⟨e, v, M10, H10, I10, st10, m10, r10, rep10, hMp, hlt2, q10⟩ := hx0
        obtain ⟨ho, hHo, rO⟩ := m10 D _ hMp
        cases ho <;> first | exact (rO : False).elim | skip
        rename_i vs
        have rO' : Reps X.K M10 H10 acc vs := rO
        refine thn (mt_append _ s10 σ8 H10 (.ref D) [v] (.ref D) [xv] (fun w H' => H' = upd H10 D (.lst (vs ++ [v]))) I10 rfl (.cons r10 .nil) ⟨D, vs, v, rfl, rfl, hHo, by rw [← rO'.length]; exact hlt2, rfl⟩) fun _ s11 hx0 => ?_
        obtain ⟨w, H11, I11, _, e11⟩ := hx0
        subst e11
        exact again s11 _ _ _ I11 (st9.trans (st10.trans (Step.put (.inr (by rw [hMp]; simp))))) (m10.put (.inr (by rw [hMp]; simp)) (o := .lst (acc ++ [e])) (Reps.append rO' (.cons rep10 .nil))) q10
    · have e : k = ds.length := by lia
      subst e
      refine thn (T.done (compCx X scope cl s3 (upd H2 D (.lst [])) fp (tns ++ caps)) rfl rfl rfl hc _ [] s5 σv5 H5 (fun _ _ => False) I5 (stat fr5) tn5 stop) fun r s6 hx0 => ?_
      obtain ⟨hr, I6⟩ := hx0
      subst hr
      obtain ⟨m, hn, _⟩ := I6.loc
      obtain ⟨hp, hq⟩ := done acc M5 pk
      refine fin D s3.heap.objs.size acc H5 M5 s6 m hn (I3.call' (ch := fp) I6.os I6.base I6.hok I6.bare (fun b hb => ⟨(f2 b hb).2.2.2.1, (f2 b hb).2.1, (f2 b hb).2.2.2.2.1, (f2 b hb).2.2.2.2.2⟩)) I6.free (Nat.ne_of_gt I3.lt) (I3.nofs (Nat.le_refl _)) I3.sz (fun x c e z => ?_) (fun p hp z => absurd (Heap.lt_size (I3.pin p hp).1) (by rw [z]; exact Nat.lt_irrefl _)) ((stp.trans stD).trans st5) m5 hp hq
      obtain ⟨v, q⟩ := I3.cell x c e
      exact absurd q.lt (by rw [z]; exact Nat.lt_irrefl _)
  exact codeAny_compStart_list loop (T.self _ _ _ _ _ (T.keep _ _ _ st2 fun b hb o e => k4 _ _ (hget _ _ e)) loop)
theorem pe3_compE {X : Cx} {elt tg iter : Expr} {pos : Pos} {ifs : List Expr} {scope : Scope} {tns caps : List Str} {slots : List Nat} {ti : TI3} {g : TG3} {tt : TT3} {te : TE3}
    (hc : X.calm = true) (hi : PI3E X tg iter ti) (hkind : scope.kind = .function) (hcell : ∀ y ∈ scope.names, y.2 ≠ .cell)
    (hnames : ∀ y ∈ scope.names, y.2 = .local → scope.names.lookup y.1 = some .local)
    (hfree : ∀ y ∈ scope.names, y.2 = .free → X.env.kindOf y.1 = some .cell ∨ X.env.kindOf y.1 = some .free)
    (hcf : ∀ y ∈ caps, scope.names.lookup y = some .free) (hcaps : slots.map (fun j => X.N[j]?) = caps.map some)
    (hgk : ∀ d M Q (cs : Lo), g d (List.replicate tns.length none ++ cs) M Q → g d (List.replicate tns.length none ++ cs) M (fun σ' M' => σ'.drop tns.length = cs ∧ Q σ' M'))
    (hg : ∀ cl s₀ H₀ ex, PG3 (compCx X scope cl s₀ H₀ ex (tns ++ caps)) tg g)
    (ht : ∀ cl s₀ H₀ ex, PIfs (compCx X scope cl s₀ H₀ ex (tns ++ caps)) ifs tt) (he : ∀ cl s₀ H₀ ex, PE3 (compCx X scope cl s₀ H₀ ex (tns ++ caps)) elt te)
    (hs : ∀ y, foldedSetIterable iter X.env y = pure y := by intro _; rfl) :
    PE3 X (.ListComp elt [⟨tg, iter, ifs, 0⟩] scope pos) (tComp3 ti tns.length slots g tt te) := by
  intro pins s σv H σ M Q I hS hM h
  rw [eval_ListComp]
  refine comp_core hc hi hkind hcell hnames hfree hcf hcaps hgk hg ht he hs (use := none) (F := fun p acc M => Q (.lst acc) (mdel M p)) I hS hM h fun D C acc H5 M5 s6 m hn I7 c1 c2 c3 c4 c5 c6 st m5 hp hq => ?_
  obtain ⟨mF, rF, sF⟩ := Vs.frzL hp X.K H5 (.ref D) m5 .ref
  exact ⟨m, hn, fun h' sb => ⟨.lst acc, .ref D, mdel M5 D, H5, I7.turned (t' := s6.toks) (it := C) (fun b o hb e => (sb.2 b hb).trans e) c1 c2 (.inr c4) c5 c6, st.less sF, mF, rfl, rF, hq⟩⟩
theorem pe3_comp {X : Cx} {elt tg iter : Expr} {pos : Pos} {ifs : List Expr} {scope : Scope} {tns caps : List Str} {slots : List Nat} {ti : TI3} {g : TG3} {tt : TT3} {te : TE3}
    (hc : X.calm = true) (hi : PI3 X tg iter ti) (hkind : scope.kind = .function) (hcell : ∀ y ∈ scope.names, y.2 ≠ .cell)
    (hnames : ∀ y ∈ scope.names, y.2 = .local → scope.names.lookup y.1 = some .local)
    (hfree : ∀ y ∈ scope.names, y.2 = .free → X.env.kindOf y.1 = some .cell ∨ X.env.kindOf y.1 = some .free)
    (hcf : ∀ y ∈ caps, scope.names.lookup y = some .free) (hcaps : slots.map (fun j => X.N[j]?) = caps.map some)
    (hgk : ∀ d M Q (cs : Lo), g d (List.replicate tns.length none ++ cs) M Q → g d (List.replicate tns.length none ++ cs) M (fun σ' M' => σ'.drop tns.length = cs ∧ Q σ' M'))
    (hg : ∀ cl s₀ H₀ ex, PG3 (compCx X scope cl s₀ H₀ ex (tns ++ caps)) tg g)
    (ht : ∀ cl s₀ H₀ ex, PIfs (compCx X scope cl s₀ H₀ ex (tns ++ caps)) ifs tt) (he : ∀ cl s₀ H₀ ex, PE3 (compCx X scope cl s₀ H₀ ex (tns ++ caps)) elt te)
    (hs : ∀ y, foldedSetIterable iter X.env y = pure y := by intro _; rfl) :
    PE3 X (.ListComp elt [⟨tg, iter, ifs, 0⟩] scope pos) (tComp3 ti tns.length slots g tt te) := pe3_compE hc hi.toE hkind hcell hnames hfree hcf hcaps hgk hg ht he hs
end L3
set_option Elab.async false
set_option linter.all false
set_option maxRecDepth 100000
namespace L3
open PySem L2
section
variable {t u : TS3} {T : Ends3} {σ : Lo} {M : Mem} {Q : DK} {QB : Bool → Mem → Prop} {QA : List D → Mem → Prop} {c tA tB : TT3} {te ta tb tc : TE3} {tas : TA3} {i : Nat} {d x y : D} {r r' : R3} {ru : U3} {rc : C3} {sp : Sp3}
theorem rd_seq (h : t { T with nx := u T } σ M) : tSeq3 t u T σ M := h
theorem rd_ifs (h : c σ M fun b M1 => if b = true then t T σ M1 else u T σ M1) : tIfS3 c t u T σ M := h
theorem rd_test (h : te σ M fun x M' => ∃ k, x = .bl k ∧ QB k M') : tTest3 te σ M QB := h
theorem rd_op (h : ta σ M fun x M1 => tb σ M1 fun y M2 => r x y M2 Q) : tOp3 r ta tb σ M Q := h
theorem rd_var {i : Nat} (e : σ[i]? = some (some d)) (h : Q d M) : tVar3 i σ M Q := by unfold tVar3; rw [e]; exact h
theorem rd_c (h : Q d M) : tC3 d σ M Q := h
theorem rd_ret (h : te σ M T.rt) : tRet3 te T σ M := h
theorem rd_set (h : te σ M fun d M1 => T.nx (σ.set i (some d)) M1) : tSet3 i te T σ M := h
theorem rd_drop (h : te σ M fun _ M1 => T.nx σ M1) : tDrop3 te T σ M := h
theorem rd_next (h : T.nx σ M) : tNext3 T σ M := h
theorem rd_call (h : tas σ M fun ds M1 => sp ds M1 Q) : tCall3 sp tas σ M Q := h
theorem rd_cb (h : tas σ M fun ds M1 => rc ds M1 Q) : tCB3 rc tas σ M Q := h
theorem rd_nil (h : QA [] M) : tNil3 σ M QA := h
theorem rd_cons (h : te σ M fun x M1 => tas σ M1 fun xs M2 => QA (x :: xs) M2) : tCons3 te tas σ M QA := h
theorem rd_tupE (h : tas σ M fun xs M1 => xs.length ≤ sizeLine ∧ Q (.tup xs) M1) : tTup3 tas σ M Q := h
theorem rd_lstE (h : tas σ M fun xs M1 => xs.length ≤ sizeLine ∧ Q (.lst xs) M1) : tLst3 tas σ M Q := h
theorem rd_and (h : tA σ M fun c M1 => if c = true then tB σ M1 QB else QB false M1) : tAnd3 tA tB σ M QB := h
theorem rd_or (h : tA σ M fun c M1 => if c = true then QB true M1 else tB σ M1 QB) : tOr3 tA tB σ M QB := h
theorem rd_not (h : tA σ M fun c M1 => QB (!c) M1) : tNot3 tA σ M QB := h
theorem rd_andV (h : ta σ M fun x M1 => ∃ c, x = .bl c ∧ if c = true then tb σ M1 Q else Q (.bl false) M1) : tAndV3 ta tb σ M Q := h
theorem rd_orV (h : ta σ M fun x M1 => ∃ c, x = .bl c ∧ if c = true then Q (.bl true) M1 else tb σ M1 Q) : tOrV3 ta tb σ M Q := h
theorem rd_np {QO : Option Int → Mem → Prop} (h : QO none M) : tNoPart3 σ M QO := h
theorem rd_part {QO : Option Int → Mem → Prop} (h : te σ M fun x M1 => match x with | .int i => QO (some i) M1 | _ => False) : tPart3 te σ M QO := h
theorem rd_bl {b : Bool} {P : Bool → Prop} (h : P b) : ∃ k, D.bl b = .bl k ∧ P k := ⟨b, rfl, h⟩
theorem rd_iteT {P R : Prop} (h : P) : if true = true then P else R := by rw [if_pos rfl]; exact h
theorem rd_iteF {P R : Prop} (h : R) : if false = true then P else R := by rw [if_neg Bool.false_ne_true]; exact h
theorem rd_dec {c P R : Prop} [Decidable c] (h1 : c → P) (h2 : ¬ c → R) : if decide c = true then P else R := by
  by_cases h : c
  · rw [decide_eq_true h, if_pos rfl]; exact h1 h
  · rw [decide_eq_false h, if_neg Bool.false_ne_true]; exact h2 h
theorem rd_I0 {g : Int → Int → D} {i j : Int} (h : Q (g i j) M) : rI30 g (.int i) (.int j) M Q := h
theorem rd_I {C : Int → Int → Prop} {g : Int → Int → D} {i j : Int} (hc : C i j) (h : Q (g i j) M) : rI3 C g (.int i) (.int j) M Q := ⟨hc, h⟩
theorem rd_addI {i j : Int} (h : Q (.int (i + j)) M) : rAdd3 (.int i) (.int j) M Q := h
theorem rd_addS {a b : Str} (hl : a.length + b.length ≤ sizeLine) (h : Q (.str (a ++ b)) M) : rAdd3 (.str a) (.str b) M Q := ⟨hl, h⟩
theorem rd_addL {a b : List D} (hl : a.length + b.length ≤ sizeLine) (h : Q (.lst (a ++ b)) M) : rAdd3 (.lst a) (.lst b) M Q := ⟨hl, h⟩
theorem rd_addT {a b : List D} (hl : a.length + b.length ≤ sizeLine) (h : Q (.tup (a ++ b)) M) : rAdd3 (.tup a) (.tup b) M Q := ⟨hl, h⟩
theorem rd_eqS {a b : Str} (h : Q (.bl (a == b)) M) : rEq3 (.str a) (.str b) M Q := .inr ⟨a, b, rfl, rfl, h⟩
theorem rd_ne (hx : dOk x) (hy : dOk y) (h : Q (.bl (!PyData.eqv (pyD x) (pyD y))) M) : rNe3 x y M Q := .inl ⟨hx, hy, h⟩
theorem rd_ixL {ds : List D} {i : Int} (e : atI ds i = some d) (h : Q d M) : rIx3 (.lst ds) (.int i) M Q := ⟨d, e, h⟩
theorem rd_ixT {ds : List D} {i : Int} (e : atI ds i = some d) (h : Q d M) : rIx3 (.tup ds) (.int i) M Q := ⟨d, e, h⟩
theorem rd_ixS {z : Str} {i : Int} {c : Nat} (hl : z.length ≤ sizeLine) (e : atI z.cps.toList i = some c) (h : Q (.str ⟨#[c]⟩) M) : rIx3 (.str z) (.int i) M Q := ⟨hl, c, e, h⟩
theorem rd_lenL {ds : List D} (h : Q (.int ds.length) M) : rLen3 [.lst ds] M Q := h
theorem rd_lenT {ds : List D} (h : Q (.int ds.length) M) : rLen3 [.tup ds] M Q := h
theorem rd_lenS {z : Str} (hl : z.length ≤ sizeLine) (h : Q (.int z.length) M) : rLen3 [.str z] M Q := ⟨hl, h⟩
theorem rd_abs {i : Int} (h : Q (.int (if i < 0 then -i else i)) M) : rAbs3 [.int i] M Q := h
theorem rd_intB {b : Bool} (h : Q (.int (if b then 1 else 0)) M) : rInt3 [.bl b] M Q := h
theorem rd_isi {N : String} (ho : okTy d) (hN : N = "bool" ∨ N = "int" ∨ N = "str" ∨ N = "tuple" ∨ N = "list") (h : Q (.bl (isIn (tyN d) N)) M) : rIsi3 [d, .ty N] M Q := ⟨ho, hN, h⟩
theorem rd_for {ti : TI3} {tb : TS3} (h : ti σ M fun ds M1 => ∃ Pv : Nat → Lo → Mem → Prop, Pv 0 σ M1 ∧
  (∀ k d σ M, ds[k]? = some d → Pv k σ M → tb { T with nx := Pv (k + 1), ct := Pv (k + 1), bk := T.nx } (σ.set i (some d)) M) ∧ ∀ σ M, Pv ds.length σ M → T.nx σ M) : tFor3 ti i tb T σ M := h
theorem rd_rng {R : List D → Mem → Prop} (h : tas σ M fun ds M1 => match ds with | [.int j] => -(2 ^ 62) ≤ j ∧ j < 2 ^ 62 ∧ R ((List.range j.toNat).map fun k => D.int (k : Nat)) M1 | _ => False) : iRng3 tas σ M R := h
end
theorem atI_mem {α : Type} {ds : List α} {n : Int} (h0 : 0 ≤ n) (h1 : n < (ds.length : Int)) : ∃ d, atI ds n = some d ∧ d ∈ ds := by
  obtain ⟨k, rfl⟩ : ∃ k : Nat, n = (k : Int) := ⟨n.toNat, by lia⟩
  have hk : k < ds.length := by lia
  exact ⟨ds[k], atI_nat (by simp [hk]), List.getElem_mem hk⟩
theorem intOkD {i : Int} : dOk (.int i) := ⟨rfl, rfl, by simp [pyD, PyData.depth]⟩
end L3
set_option Elab.async false
set_option linter.all false
set_option maxRecDepth 100000
namespace L3
open PySem L2
local macro_rules | `(tactic| walk_at "r1") => `(tactic| first | (with_reducible first | refine rd_seq ?_ | refine rd_ifs ?_ | refine rd_test ?_ | refine rd_op ?_ | refine rd_un ?_ | refine rd_c ?_ | refine rd_ret ?_ | refine rd_set ?_ | refine rd_drop ?_ | refine rd_next ?_ | refine rd_call ?_ | refine rd_cb ?_ | refine rd_nil ?_ | refine rd_cons ?_ | refine rd_tupE ?_ | refine rd_lstE ?_ | refine rd_and ?_ | refine rd_or ?_ | refine rd_not ?_ | refine rd_andV ?_ | refine rd_orV ?_ | refine rd_notV ?_ | refine rd_if3 ?_ | refine rd_chain ?_ | refine rd_sl ?_ | refine rd_np ?_ | refine rd_part ?_ | refine rd_bl ?_ | refine rd_iteT ?_ | refine rd_iteF ?_ | refine rd_I0 ?_ | refine rd_U ?_ | refine rd_addI ?_ | refine rd_lenL ?_ | refine rd_lenT ?_ | refine rd_abs ?_ | refine rd_intI ?_ | refine rd_intB ?_ | refine rd_listL ?_ | refine rd_listT ?_ | refine rd_slL ?_ | refine rd_isN ?_ | refine rd_isntN ?_ | refine rd_for ?_ | refine rd_rng ?_) | ((with_reducible show tVar3 _ _ _ _); refine rd_var rfl ?_) | ((with_reducible show _ ∧ _); refine ⟨(by first | decide | (simp only [List.length_cons, List.length_nil]; decide)), ?_⟩))
local macro_rules | `(tactic| walk_at "rd") => `(tactic| repeat walk_at "r1")
theorem inr_ne {x y : Str} (h : ¬ x = y) : ¬ (Sum.inr x : Key) = Sum.inr y := fun z => h (Sum.inr.inj z)
theorem ints_ok : ∀ ns : List Int, plains (ns.map D.int) = true ∧ PyData.canLayAll0 (pyDs (ns.map D.int)) = true ∧ PyData.depthAll (pyDs (ns.map D.int)) = 0
  | [] => ⟨rfl, rfl, rfl⟩
  | n :: ns => by
    obtain ⟨h1, h2, h3⟩ := ints_ok ns
    simp [List.map_cons, plains, plain, pyDs, pyD, PyData.canLayAll0, PyData.canLay0, PyData.depthAll, PyData.depth, h1, h2, h3]
theorem dOk_ints (ns : List Int) : dOk (.lst (ns.map D.int)) := by
  obtain ⟨h1, h2, h3⟩ := ints_ok ns
  refine ⟨by simpa [plain] using h1, by simpa [pyD, PyData.canLay0] using h2, ?_⟩
  simp [pyD, PyData.depth, h3]
theorem rd_dp {td ty tv : TE3} {T : Ends3} {σ : Lo} {M : Mem} (h : tv σ M fun d M1 => td σ M1 fun x M2 => ty σ M2 fun y M3 => ∃ k a kds, dK? y = some k ∧ x = .ref a ∧ M3 a = some (.dct kds) ∧ kds.length < sizeLine ∧ T.nx σ (mput M3 a (.dct (putD kds k d)))) : tDPut3 td ty tv T σ M := h
theorem big200 {x : Int} (h0 : 0 < x) (h : x < 2 ^ 200) : CDivB 0 x := by
  refine ⟨h0, ?_⟩
  have h2 : x.natAbs < 2 ^ 200 := by lia
  exact Nat.lt_trans h2 (Nat.pow_lt_pow_right (by decide) (by decide))
theorem at_ints {ns : List Int} {a : Int} (h0 : 0 ≤ a) (h : a < (ns.length : Int)) : ∃ c, atI (ns.map D.int) a = some (D.int c) := by
  obtain ⟨k, rfl⟩ : ∃ k : Nat, a = (k : Int) := ⟨a.toNat, by lia⟩
  have hk : k < ns.length := by lia
  exact ⟨ns[k], atI_nat (by simp [hk])⟩
end L3
set_option Elab.async false
set_option linter.all false
set_option maxRecDepth 100000
namespace L3
open PySem PySem.Spec PyProof.Rows L2
theorem draw_list {prog : Program} {w : World} {A : Around} {E : Value → Shared → Prop} {it l : Addr} : ∀ {n : Nat} {s : Shared} {items : Array Value} {i : Nat} {Q : List Value → Shared → Prop}, s.heap.IsListIter it l i → s.heap.IsList l items → it ≠ l → i + n ≤ items.size →
    (∀ h', h'.IsListIter it l (i + n) → Heap.SameBut it s.heap h' → Q ((items.toList.drop i).take n) { s with heap := h' }) → wpAny (model prog w) A (PySem.draw (.ref it) n) Q E s
  | 0, s, items, i, Q, hi, hl, hne, hn, k => by
    unfold PySem.draw
    exact wpAny_pure (by simpa using k s.heap hi ⟨rfl, fun _ _ => rfl⟩)
  | n + 1, s, items, i, Q, hi, hl, hne, hn, k => by
    have hlt : i < items.size := by lia
    unfold PySem.draw
    refine wpAny_bind (wpAny_pyNext_list_item hi hl (x := items[i]) (by simp [hlt]) fun h' hi' sb => ?_)
    have hl' : h'.IsList l items := by
      obtain ⟨o, ho, r⟩ := hl
      exact ⟨o, (sb.2 l (Ne.symm hne)).trans ho, r⟩
    refine wpAny_bind (wpAny_holding (draw_list (n := n) (s := { s with heap := h' }) (i := i + 1) hi' hl' hne (by lia) fun h2 hi2 sb2 => wpAny_pure ?_))
    have e : items.toList.drop i = items[i] :: items.toList.drop (i + 1) := by
      rw [List.drop_eq_getElem_cons (by simpa using hlt)]
      simp
    have := k h2 (by rw [show i + (n + 1) = i + 1 + n by lia]; exact hi2) ⟨sb2.1.trans sb.1, fun b hb => (sb2.2 b hb).trans (sb.2 b hb)⟩
    rw [e, List.take_succ_cons] at this
    exact this
theorem unpack_list {prog : Program} {w : World} {A : Around} {E : Value → Shared → Prop} {s : Shared} {l : Addr} {items : Array Value} {targets : List (Bool × (Value → Sem Unit))} {Q : Unit → Shared → Prop} (ha : A.handled = none) (hl : s.heap.IsList l items)
    (hn : targets.length = items.size) (hst : targets.findIdx? (·.1) = none)
    (k : ∀ h', Heap.ExtBut s.heap.objs.size s.heap h' → wpAny (model prog w) A (assignInOrder (targets.map (·.2)) items.toList) Q E { s with heap := h' }) : wpAny (model prog w) A (PySem.unpack (.ref l) targets) Q E s := by
  obtain ⟨o, ho, hc, n, hd⟩ := id hl
  have hlt := Heap.lt_size ho
  unfold PySem.unpack
  rw [hst]
  refine wpAny_bind (wpAny_holding ?_)
  unfold PySem.unpackItems
  refine wpAny_bind ?_
  unfold PySem.notIterableAtAll
  refine wpAny_bind (wpAny_specialOf (T := "list") ⟨o, ho, hc⟩ (F.slot_list_iter).1 ?_)
  refine wpAny_pure ?_
  refine wpAny_bind (wpAny_holding (wpAny_pyIter_list hl ?_))
  refine wpAny_bind (wpAny_holding (draw_list (i := 0) (l := l) (items := items) ⟨_, Heap.get?_push_size _ rfl, rfl, rfl⟩ ⟨o, Heap.get?_push_of_some _ ho, hc, n, hd⟩ (Nat.ne_of_gt hlt) (by lia) fun h' hi' sb => ?_))
  have e : (items.toList.drop 0).take targets.length = items.toList := by rw [List.drop_zero, List.take_of_length_le (by simp [hn])]
  rw [e]
  have hlen : ¬ items.toList.length < targets.length := by simp [hn]
  simp only [hlen, if_false]
  have hl' : h'.IsList l items := ⟨o, (sb.2 l (Nat.ne_of_lt hlt)).trans (Heap.get?_push_of_some _ ho), hc, n, hd⟩
  refine wpAny_bind (wpAny_holding (wpAny_pyNext_list_end ha hi' hl' (by simp [hn]) fun h2 eb => ?_))
  refine wpAny_pure (k h2 fun b ob hb hob => eb b ob hb ((sb.2 b hb).trans (Heap.get?_push_of_some _ hob)))
def gLst3 (is : List Nat) : TG3 := fun d σ M Q => ∃ ds, d = .lst ds ∧ ds.length = is.length ∧ Q (setAll σ is ds) M
theorem pg3_lst {X : Cx} {es : List Expr} {k : Nat} {pos : Pos} {is : List Nat} (hc : X.calm = true) (h : PGs X es (gSet is))
    (hn : (assignEach es X.env).length = is.length := by rfl) (hst : (assignEach es X.env).findIdx? (·.1) = none := by rfl) : PG3 X (.Tuple es k pos) (gLst3 is) := by
  rintro pins s σv H v u Q2 I r ⟨d, σ, M, Q, rep, hS, hM, ⟨ds, e, hl, q⟩, kk⟩
  subst e
  cases rep with
  | lst h1 rs =>
    cases r
    obtain ⟨its, rv, pl, hz⟩ := I.list (SqL.of3 h1)
    rw [assign_Tuple]
    refine wpAny_bind (wpAny_standAt (unpack_list (I.ok.hd hc) pl.isList (by rw [hn, ← hl, rs.length, rv.length]; simp) hst fun h' hx => ?_))
    have I1 : Inv X pins σv H { s with heap := h' } := I.kept (t' := s.toks) fun b o e => hx b o (Nat.ne_of_lt (Heap.lt_size e)) e
    exact h pins _ σv H _ _ Q2 I1 (by simpa using rv) ⟨by rw [← rs.length]; exact hl, kk _ _ M H .refl hM (setAll_rel rs hS) q⟩
theorem gk_name {i n : Nat} (hi : i < n) (d : D) (M : Mem) (Q : Lo → Mem → Prop) (cs : Lo) (h : gName3 i d (List.replicate n none ++ cs) M Q) : gName3 i d (List.replicate n none ++ cs) M (fun σ' M' => σ'.drop n = cs ∧ Q σ' M') := by
  refine ⟨?_, h⟩
  rw [List.drop_set_of_lt hi, List.drop_left' (by simp)]
abbrev M3 := D → List D → Mem → DK → Prop
def MtR3 (X : Cx) (id : String) (r : M3) : Prop :=
  ∀ (pins : List (Addr × Obj)) (s : Shared) (σv : L2.St) (H : Hp) (M : Mem) (x : D) (xs : List D) (xv : V) (xvs : List V) (v : Value) (us : List Value) (Q : DK), Inv X pins σv H s → MRel X.K M H → RelV xv v → Vals xvs us → Rep X.K M H x xv → Reps X.K M H xs xvs → r x xs M Q →
    wpAny (model X.prog X.w) X.A (call (.builtin id) (v :: us)) (EP3 X pins σv M H Q) X.xe s
def tyD (T : String) (M : Mem) : D → Prop
  | .str _ => T = "str"
  | .lst _ => T = "list"
  | .ref a => (T = "list" ∧ ∃ ds, M a = some (.lst ds)) ∨ (T = "dict" ∧ ∃ ds, M a = some (.dct ds))
  | _ => False
theorem tyD_V {X : Cx} {T : String} {M : Mem} {H : Hp} {d : D} {v : V} (m : MRel X.K M H) (r : Rep X.K M H d v) (h : tyD T M d) : tyV X.K T v H := by
  cases r with
  | str => exact h
  | lst h1 _ => exact .inl ⟨h, _, SqL.of3 h1⟩
  | ref =>
    rcases h with ⟨rfl, ds, e⟩ | ⟨rfl, ds, e⟩
    · obtain ⟨ho, e1, r⟩ := m _ _ e
      cases ho <;> first | exact (r : False).elim | skip
      exact .inl ⟨rfl, _, .inl (.inl e1)⟩
    · obtain ⟨ho, e1, r⟩ := m _ _ e
      cases ho <;> first | exact (r : False).elim | skip
      exact .inr (.inr (.inl ⟨rfl, .inl ⟨_, e1⟩⟩))
  | dct h1 _ => exact h.elim
  | _ => exact h.elim
def tBM3 (T : String) (r : M3) (to : TE3) (t : TA3) : TE3 := fun σ M Q => to σ M fun x M1 => tyD T M1 x ∧ t σ M1 fun xs M2 => r x xs M2 Q
section
variable {X : Cx} {o e : Expr} {es : List Expr} {to : TE3} {t : TA3} {name : Str} {apos cpos : Pos} {T id : String} {r : M3}
theorem pe3_bm (pa : PlainAttrs T) (slot : Slot T name id) (hty : typeOf (.builtin id) = pure (.type "method_descriptor")) (hm : MtR3 X id r) (ho : PE3 X o to) (ha : PA3 X (e :: es) t)
    (hbase : attributeBase o name X.env (eval o X.env) = eval o X.env := by rfl)
    (hfew : ((backTo cpos (starEach (e :: es) X.env)).all (fun x => !x.1) && (backToKw cpos (keywordEach [] X.env)).all (fun x => x.1.isSome)
      && decide ((e :: es).length + ([] : List Keyword).length + (if ([] : List Keyword).isEmpty then 0 else 1) < 30)) = true := by rfl)
    (hline : (apos.endLine == cpos.line) = true := by rfl) (hs : starEach (e :: es) X.env = (false, eval e X.env) :: starEach es X.env := by rfl) (hplain : (backTo cpos (starEach es X.env)).any (·.1) = false := by rfl) :
    PE3 X (.Call (.Attribute o name apos) (e :: es) [] cpos) (tBM3 T r to t) := by
  intro pins s σv H σ M Q I hS hM h
  refine wpAny_Call_method_late hbase hfew hline rfl (thn (ho pins s σv H σ M _ I hS hM h) fun v s1 ⟨d, xv, M1, H1, I1, st1, m1, r1, p1, ty, q1⟩ => ?_)
  obtain ⟨h1, h2⟩ := tyV_is I1 r1 (tyD_V m1 p1 ty)
  refine ⟨T, id, pa, slot, hty, h1, h2, ?_⟩
  have hA := ha cpos pins s1 σv H1 σ M1 _ I1 (hS.mono st1) m1 q1
  rw [hs] at hA ⊢
  refine Calls.callWith_builtin (by show (false || (backTo cpos (starEach es X.env)).any (·.1)) = false; rw [hplain] <;> rfl) (Calls.evalArgs_plain ?_)
  exact thn hA fun us s2 ⟨ds, vs, M2, H2, I2, st2, m2, rv2, p2, q2⟩ => thn (hm pins s2 σv H2 M2 d ds xv vs v us Q I2 m2 r1 rv2 (p1.mono st2) p2 q2) fun _ _ z => z.trans (st1.trans st2)
theorem MtR3.of {id : String} {r : M3} {r2 : V → List V → Hp → VK → Prop} (h : MtM X id r2) (hr : ∀ H M x xs xv xvs Q, MRel X.K M H → Rep X.K M H x xv → Reps X.K M H xs xvs → r x xs M Q → r2 xv xvs H (Up X.K M H Q)) : MtR3 X id r := by
  intro pins s σv H M x xs xv xvs v us Q I m rv rvs px pxs q
  exact thn (h pins s σv H xv xvs v us _ I rv rvs (hr H M x xs xv xvs Q m px pxs q)) fun _ _ z => ep_up z
theorem reps1 {K : PySem.W.Frag} {M : Mem} {H : Hp} {d : D} {vs : List V} (r : Reps K M H [d] vs) : ∃ v, vs = [v] ∧ Rep K M H d v := by
  cases r with
  | cons a b => cases b; exact ⟨_, rfl, a⟩
def rAppend3 : M3 := fun x xs M Q => ∃ a ds y, x = .ref a ∧ xs = [y] ∧ M a = some (.lst ds) ∧ ds.length < sizeLine ∧ Q .non (mput M a (.lst (ds ++ [y])))
theorem m3_append : MtR3 X "list.append" rAppend3 := MtR3.of mt_append fun H M x xs xv xvs Q m px pxs hx0 => by
  obtain ⟨a, ds, y, e1, e2, hm, hl, q⟩ := hx0
  subst e1 e2
  cases px
  obtain ⟨yv, rfl, py⟩ := reps1 pxs
  obtain ⟨ho, e3, r⟩ := m _ _ hm
  cases ho <;> first | exact (r : False).elim | skip
  rename_i vs
  have r' : Reps X.K M H ds vs := r
  refine ⟨a, vs, _, rfl, rfl, e3, by rw [← r'.length]; exact hl, .non, _, Step.put (.inr (by rw [hm]; simp)), m.put (.inr (by rw [hm]; simp)) (o := .lst (ds ++ [y])) (Reps.append r' (.cons py .nil)), .non, q⟩
end
def compOk (env : Env) (scope : Scope) (caps : List Str) : Bool :=
  (scope.names.all fun y => match y.2 with
    | .free => (match env.kindOf y.1 with | some .cell => true | some .free => true | _ => false)
    | .cell => false
    | .local => (match scope.names.lookup y.1 with | some .local => true | _ => false)
    | _ => true) && caps.all fun y => match scope.names.lookup y with | some .free => true | _ => false
theorem pe3_compB {X : Cx} {elt tg iter : Expr} {pos : Pos} {ifs : List Expr} {scope : Scope} (tns caps : List Str) (slots : List Nat) {ti : TI3} {g : TG3} {tt : TT3} {te : TE3}
    (hc : X.calm = true) (hi : PI3 X tg iter ti) (hkind : scope.kind = .function) (hok : compOk X.env scope caps = true) (hcaps : slots.map (fun j => X.N[j]?) = caps.map some)
    (hgk : ∀ d M Q (cs : Lo), g d (List.replicate tns.length none ++ cs) M Q → g d (List.replicate tns.length none ++ cs) M (fun σ' M' => σ'.drop tns.length = cs ∧ Q σ' M'))
    (hg : ∀ cl s₀ H₀ ex, PG3 (compCx X scope cl s₀ H₀ ex (tns ++ caps)) tg g)
    (ht : ∀ cl s₀ H₀ ex, PIfs (compCx X scope cl s₀ H₀ ex (tns ++ caps)) ifs tt) (he : ∀ cl s₀ H₀ ex, PE3 (compCx X scope cl s₀ H₀ ex (tns ++ caps)) elt te)
    (hs : ∀ y, foldedSetIterable iter X.env y = pure y := by intro _; rfl) :
    PE3 X (.ListComp elt [⟨tg, iter, ifs, 0⟩] scope pos) (tComp3 ti tns.length slots g tt te) := by
  unfold compOk at hok
  rw [Bool.and_eq_true, List.all_eq_true, List.all_eq_true] at hok
  obtain ⟨h1, h2⟩ := hok
  refine pe3_comp hc hi hkind (fun y hy e => ?_) (fun y hy e => ?_) (fun y hy e => ?_) (fun y hy => ?_) hcaps hgk hg ht he hs
  · have := h1 y hy; rw [e] at this; cases this
  · have := h1 y hy
    rw [e] at this
    dsimp only at this
    split at this
    · assumption
    · cases this
  · have := h1 y hy
    rw [e] at this
    dsimp only at this
    split at this
    · exact .inl (by assumption)
    · exact .inr (by assumption)
    · cases this
  · have := h2 y hy
    split at this
    · assumption
    · cases this
def tFrz3 (i : Nat) (t : TS3) : TS3 := fun T σ M => ∃ a ds, σ[i]? = some (some (.ref a)) ∧ M a = some (.lst ds) ∧ t T (σ.set i (some (.lst ds))) (mdel M a)
theorem pss3_frz {X : Cx} {sts : List Stmt} {t : TS3} (i : Nat) (h : PSs3 X sts t) : PSs3 X sts (tFrz3 i t) := by
  rintro pins s σv H σ M T I hS hM ⟨a, ds, e1, e2, q⟩
  obtain ⟨m, r, sub⟩ := Vs.frzL e2 X.K H (.ref a) hM .ref
  have st : Step M H (mdel M a) H := ⟨fun _ _ h _ => h, fun b h => .inl (sub b h)⟩
  have hS' : SRel X.K (mdel M a) H (σ.set i (some (.lst ds))) σv := by
    refine ⟨by simp [hS.len], fun j d e => ?_⟩
    rw [List.getElem?_set] at e
    by_cases hij : i = j
    · subst hij
      have hl : i < σ.length := (List.getElem?_eq_some_iff.mp e1).1
      rw [if_pos rfl, if_pos hl] at e
      cases e
      obtain ⟨v, ev, rv⟩ := hS.get i _ e1
      cases rv
      exact ⟨_, ev, r⟩
    · rw [if_neg hij] at e
      obtain ⟨v, ev, rv⟩ := hS.get j d e
      exact ⟨v, ev, rv.mono st⟩
  exact thn (h pins s σv H _ _ T I hS' m q) fun _ _ z => z.trans st
end L3
set_option Elab.async false
set_option linter.all false
set_option maxRecDepth 100000
namespace L3
open PySem L2
section
variable {t u : TS3} {T : Ends3} {σ : Lo} {M : Mem} {Q : DK} {QB : Bool → Mem → Prop} {QA : List D → Mem → Prop} {c tA tB : TT3} {te ta tb tc to : TE3} {tas : TA3} {i : Nat} {d x y : D} {r r' : R3} {g : TG3} {ti : TI3} {tt : TT3} {slots : List Nat} {n : Nat}
theorem rd_asg (h : te σ M fun d M1 => g d σ M1 T.nx) : tAsg3 g te T σ M := h
theorem rd_gName {QG : Lo → Mem → Prop} (h : QG (σ.set i (some d)) M) : gName3 i d σ M QG := h
theorem rd_gTup {is : List Nat} {ds : List D} {QG : Lo → Mem → Prop} (hl : ds.length = is.length) (h : QG (setAll σ is ds) M) : gTup3 is (.tup ds) σ M QG := ⟨ds, rfl, hl, h⟩
theorem rd_gLst {is : List Nat} {ds : List D} {QG : Lo → Mem → Prop} (hl : ds.length = is.length) (h : QG (setAll σ is ds) M) : gLst3 is (.lst ds) σ M QG := ⟨ds, rfl, hl, h⟩
theorem rd_true (h : QB true M) : tTrue3 σ M QB := h
theorem rd_bm {ty : String} {rm : M3} (h : to σ M fun x M1 => tyD ty M1 x ∧ tas σ M1 fun xs M2 => rm x xs M2 Q) : tBM3 ty rm to tas σ M Q := h
theorem rd_append {a : Addr} {ds : List D} (hm : M a = some (.lst ds)) (hl : ds.length < sizeLine) (h : Q .non (mput M a (.lst (ds ++ [y])))) : rAppend3 (.ref a) [y] M Q := ⟨a, ds, y, rfl, rfl, hm, hl, h⟩
theorem rd_frz {a : Addr} {ds : List D} (e : σ[i]? = some (some (.ref a))) (hm : M a = some (.lst ds)) (h : t T (σ.set i (some (.lst ds))) (mdel M a)) : tFrz3 i t T σ M := ⟨a, ds, e, hm, h⟩
def CompB (g : TG3) (tt : TT3) (te : TE3) (σ0 : Lo) (ds : List D) (M1 : Mem) (Q : DK) : Prop := ∀ p, M1 p = none → ∃ Pv : Nat → List D → Mem → Prop, Pv 0 [] (mput M1 p (.lst [])) ∧
  (∀ k d acc M, ds[k]? = some d → Pv k acc M → g d σ0 M fun σ' M0 => tt σ' M0 fun b M' =>
    if b = true then te σ' M' fun e M'' => M'' p = some (.lst acc) ∧ acc.length < sizeLine ∧ Pv (k + 1) (acc ++ [e]) (mput M'' p (.lst (acc ++ [e]))) else Pv (k + 1) acc M') ∧
  ∀ acc M, Pv ds.length acc M → M p = some (.lst acc) ∧ Q (.lst acc) (mdel M p)
theorem rd_comp (h : ti σ M fun ds M1 => CompB g tt te (List.replicate n none ++ slots.map fun j => (σ[j]?).getD none) ds M1 Q) : tComp3 ti n slots g tt te σ M Q := h
theorem rd_forG {tb : TS3} (h : ti σ M fun ds M1 => ∃ Pv : Nat → Lo → Mem → Prop, Pv 0 σ M1 ∧
  (∀ k d σ M, ds[k]? = some d → Pv k σ M → g d σ M fun σ' M' => tb { T with nx := Pv (k + 1), ct := Pv (k + 1), bk := T.nx } σ' M') ∧ ∀ σ M, Pv ds.length σ M → T.nx σ M) : tForG3 ti g tb T σ M := h
def onTup (R : List D → Mem → Prop) : DK := fun d M1 => match d with | .tup ds => R ds M1 | _ => False
def onLst (R : List D → Mem → Prop) : DK := fun d M1 => match d with | .lst ds => R ds M1 | _ => False
theorem rd_iTup {R : List D → Mem → Prop} (h : te σ M (onTup R)) : iTup3 te σ M R := h
theorem rd_iList {R : List D → Mem → Prop} (h : te σ M (onLst R)) : iList3 te σ M R := h
theorem rd_onTup {R : List D → Mem → Prop} {ds : List D} (h : R ds M) : onTup R (.tup ds) M := h
theorem rd_onLst {R : List D → Mem → Prop} {ds : List D} (h : R ds M) : onLst R (.lst ds) M := h
end
theorem rd_iteTe {b : Bool} {P R : Prop} (e : b = true) (h : P) : if b = true then P else R := by rw [if_pos e]; exact h
theorem rd_iteFe {b : Bool} {P R : Prop} (e : b = false) (h : R) : if b = true then P else R := by rw [if_neg (by rw [e]; exact Bool.false_ne_true)]; exact h
theorem rd_eqv {x y : D} {b : Bool} {M : Mem} {Q : DK} (hx : dOk x) (hy : dOk y) (e : PyData.eqv (pyD x) (pyD y) = b) (h : Q (.bl b) M) : rEq3 x y M Q := .inl ⟨hx, hy, by rw [e]; exact h⟩
theorem eqvI (x y : Int) : PyData.eqv (pyD (.int x)) (pyD (.int y)) = (x == y) := by simp [pyD, PyData.eqv]
theorem rd_eqI {x y : Int} {M : Mem} {Q : DK} (h : Q (.bl (x == y)) M) : rEq3 (.int x) (.int y) M Q := rd_eqv intOkD intOkD (eqvI x y) h
theorem mdel_ne {M : Mem} {a b : Addr} (h : b ≠ a) : mdel M a b = M b := by unfold mdel; rw [if_neg h]
theorem mdel_same {M : Mem} {a : Addr} : mdel M a a = none := by unfold mdel; rw [if_pos rfl]
end L3
set_option Elab.async false
set_option linter.all false
set_option maxRecDepth 100000
namespace L3
open PySem PySem.Spec PyProof.Rows L2
section
variable {X : Cx} {a b e : Expr} {ta tb te : TE3} {pos : Pos}
def rMin3 : C3 := fun ds M Q => match ds with
  | [.int i, .int j] => Q (.int (if j < i then j else i)) M
  | _ => False
def rTuple3 : C3 := fun ds M Q => match ds with
  | [.lst xs] => Q (.tup xs) M
  | [.tup xs] => Q (.tup xs) M
  | [.ref a] => ∃ xs, M a = some (.lst xs) ∧ Q (.tup xs) M
  | _ => False
theorem c3_tuple : CallR3 X (.type "tuple") rTuple3 := CallR3.of call_tuple_of fun H M xs xvs Q m px q => by
  rcases px with _ | ⟨pd, ps⟩; (exact (q : False).elim); rcases ps with _ | ⟨p2, ps2⟩; rotate_left; (first | exact (q : False).elim | (cases pd <;> exact (q : False).elim))
  cases pd with
  | lst h r => exact ⟨_, _, rfl, .inl ⟨SqL.of3 h, fun l hl => ⟨_, M, Step.lay hl, m.lay hl, .tup (.inl ⟨.inl upd_same, m.free hl⟩) (r.mono (Step.lay hl)), q⟩⟩⟩
  | tup h r => exact ⟨_, _, rfl, .inr ⟨SqT.of3 h, _, M, .refl, m, .tup h r, q⟩⟩
  | ref =>
    obtain ⟨ds, hm, q⟩ := q
    obtain ⟨ho, e1, r⟩ := m _ _ hm
    cases ho <;> first | exact r.elim | skip
    have r' : Reps X.K M H ds _ := r
    exact ⟨_, _, rfl, .inl ⟨.inl (.inl e1), fun l hl => ⟨_, M, Step.lay hl, m.lay hl, .tup (.inl ⟨.inl upd_same, m.free hl⟩) (r'.mono (Step.lay hl)), q⟩⟩⟩
  | _ => exact (q : False).elim
def rStr3 : C3 := fun ds M Q => match ds with
  | [.int i] => i.natAbs.log2 < 1920 ∧ Q (.str (toString i)) M
  | _ => False
theorem c3_str : CallR3 X (.type "str") rStr3 := CallR3.of call_str_int fun H M xs xvs Q m px q => by
  rcases px with _ | ⟨pd, ps⟩; (exact (q : False).elim); rcases ps with _ | ⟨p2, ps2⟩; rotate_left; (first | exact (q : False).elim | (cases pd <;> exact (q : False).elim))
  cases pd with
  | int => exact ⟨_, rfl, q.1, up0 m .str q.2⟩
  | _ => exact (q : False).elim
def rAny3 : C3 := fun ds M Q => ∃ bs : List Bool, ds = [.lst (bs.map D.bl)] ∧ Q (.bl (bs.any id)) M
theorem bools_of {K : PySem.W.Frag} {M : Mem} {H : Hp} : ∀ {bs : List Bool} {vs : List V} {its : List Value}, Reps K M H (bs.map D.bl) vs → Vals vs its → its = bs.map Value.bool
  | [], _, _, r, v => by cases r; cases v; rfl
  | b :: bs, _, _, .cons p1 p2, v => by
    cases p1
    cases v with
    | cons i1 i2 =>
      cases i1
      rw [bools_of p2 i2]; rfl
theorem range_any (bs : List Bool) : (List.range (bs.map Value.bool).toArray.size).any (fun i => bs.getD i false) = bs.any id := by
  rw [List.size_toArray, List.length_map, Bool.eq_iff_iff, List.any_eq_true, List.any_eq_true]
  constructor
  · rintro ⟨i, hi, h⟩
    have hi' : i < bs.length := by simpa using hi
    exact ⟨bs[i], List.getElem_mem hi', by simpa [List.getD, hi'] using h⟩
  · rintro ⟨x, hx, h⟩
    obtain ⟨i, hi, rfl⟩ := List.getElem_of_mem hx
    exact ⟨i, by simpa using hi, by simpa [List.getD, hi] using h⟩
theorem truth_bools {P : Program} {w : World} {A : Around} (bs : List Bool) : TruthOf P w A (fun i v => (bs.map Value.bool).toArray[i]? = some v) (fun i => bs.getD i false) := by
  intro i v s Q E hv hq
  simp only [List.getElem?_toArray, List.getElem?_map] at hv
  cases e : bs[i]? with
  | none => rw [e] at hv; cases hv
  | some b =>
    rw [e] at hv
    cases hv
    have e2 : bs.getD i false = b := by simp [List.getD, e]
    have hq' : Q (bs.getD i false) s := hq
    rw [e2] at hq'
    exact wpAny_truthy_bool hq'
theorem c3_any (hc : X.calm = true) : CallR3 X (.builtin "any") rAny3 := by
  rintro pins s σv H M xs xvs us Q I m rv px ⟨bs, rfl, q⟩
  obtain ⟨xv, rfl, p1⟩ := reps1 px
  obtain ⟨u, rfl, ru⟩ := vals1 rv
  cases p1 with
  | lst h1 r1 =>
    cases ru
    obtain ⟨its, ri, pl, hz⟩ := I.list (SqL.of3 h1)
    have key := bools_of r1 ri
    subst key
    obtain ⟨o, ho, hcl, n, hd⟩ := id pl.isList
    have hlt := Heap.lt_size ho
    refine call_any_walk (wpAny_pyIter_list pl.isList ?_)
    refine ⟨s.heap.objs.size, _, _, _, _, _, _, rfl, Walks.list (A := X.A.in1) (by exact I.ok.hd hc) s.heap.objs.size _ (Nat.ne_of_lt hlt) _, ⟨⟨_, Heap.get?_push_size _ rfl, rfl, rfl⟩, ⟨o, Heap.get?_push_of_some _ ho, hcl, n, hd⟩⟩, truth_bools bs, fun h' tk k => ?_⟩
    rw [range_any]
    exact ⟨_, .bl _, M, H, I.kept (t' := tk) fun b ob e => k b ob (by simp; exact Nat.ne_of_lt (Heap.lt_size e)) (Heap.get?_push_of_some _ e), .refl, m, rfl, .bl, q⟩
def joinOk (x : Str) (ys : List Str) : Prop := (ys.map fun y => y.length).sum + ys.length * x.length ≤ 16777216
def rJoin3 : M3 := fun x xs M Q => ∃ z, ∃ ys : List Str, x = .str z ∧ xs = [.lst (ys.map D.str)] ∧ joinOk z ys ∧ Q (.str (Txt.join z ys)) M
theorem strs_of {K : PySem.W.Frag} {M : Mem} {H : Hp} : ∀ {ys : List Str} {vs : List V} {its : List Value}, Reps K M H (ys.map D.str) vs → Vals vs its → StrsAre its ys
  | [], _, _, r, v => by cases r; cases v; exact .nil
  | y :: ys, _, _, .cons p1 p2, v => by
    cases p1
    cases v with
    | cons i1 i2 =>
      obtain ⟨t, rfl⟩ := i1
      exact .cons y t (strs_of p2 i2)
theorem m3_join : MtR3 X "str.join" rJoin3 := by
  rintro pins s σv H M x xs xv xvs v us Q I m rv rvs px pxs ⟨z, ys, rfl, rfl, hj, q⟩
  obtain ⟨yv, rfl, py⟩ := reps1 pxs
  obtain ⟨u, rfl, ru⟩ := vals1 rvs
  cases px
  obtain ⟨t, rfl⟩ := rv
  cases py with
  | lst h1 r1 =>
    cases ru
    obtain ⟨its, ri, pl, hz⟩ := I.list (SqL.of3 h1)
    exact join_list pl.isList (by simpa using strs_of r1 ri) hj fun t' k => ⟨_, .str _, M, H, I.tok k, .refl, m, ⟨_, rfl⟩, .str, q⟩
def subIn (z w : Str) : Bool := !(Builtin.Str.occurrences w z 0 w.length 1).isEmpty
def seqD (M : Mem) : D → Option (List D)
  | .lst ds => some ds
  | .tup ds => some ds
  | .ref a => match M a with | some (.lst ds) => some ds | _ => none
  | _ => none
def rIn3 (neg : Bool) : R3 := fun x y M Q => (∃ z w, x = .str z ∧ y = .str w ∧ Q (.bl (neg ^^ subIn z w)) M) ∨ ∃ z, ∃ ys : List Str, x = .str z ∧ seqD M y = some (ys.map D.str) ∧ Q (.bl (neg ^^ ys.any (· == z))) M
theorem strsV_of {K : PySem.W.Frag} {M : Mem} {H : Hp} : ∀ {ys : List Str} {vs : List V}, Reps K M H (ys.map D.str) vs → vs = ys.map V.str
  | [], _, r => by cases r; rfl
  | y :: ys, _, .cons p1 p2 => by
    cases p1
    rw [strsV_of p2]; rfl
theorem seqD_sq {K : PySem.W.Frag} {M : Mem} {H : Hp} {y : D} {yv : V} {ds : List D} (m : MRel K M H) (r : Rep K M H y yv) (e : seqD M y = some ds) : ∃ p vs, yv = .ref p ∧ (SqL K H p vs ∨ SqT K H p vs) ∧ Reps K M H ds vs := by
  cases r with
  | tup h r => cases e; exact ⟨_, _, rfl, .inr (SqT.of3 h), r⟩
  | lst h r => cases e; exact ⟨_, _, rfl, .inl (SqL.of3 h), r⟩
  | @ref a =>
    unfold seqD at e
    dsimp only at e
    cases hm : M a with
    | none => rw [hm] at e; cases e
    | some o =>
      rw [hm] at e
      cases o with
      | dct _ => cases e
      | dt _ => cases e
      | lst xs =>
        cases e
        obtain ⟨ho, e1, r⟩ := m _ _ hm
        cases ho <;> first | exact (r : False).elim | skip
        exact ⟨_, _, rfl, .inl (.inl (.inl e1)), r⟩
  | _ => cases e
theorem in_strs {z : Str} {ys : List Str} : inV (.str z) (ys.map V.str) = ys.any (· == z) := by
  unfold inV
  rw [List.any_map]
  rfl
theorem flat_strs (ys : List Str) : (ys.map V.str).all flatV = true := by
  rw [List.all_map, List.all_eq_true]
  intro _ _; rfl
theorem o3_in : OpR3 X (compareOp .In) (rIn3 false) := by
  rintro pins s σv H M x y xv yv v u Q I m rx ry px py (⟨z, w, rfl, rfl, q⟩ | ⟨z, ys, rfl, hy, q⟩)
  · cases px; cases py
    exact thn (op_in_str pins s σv H _ _ v u _ I rx ry ⟨z, w, rfl, rfl, up0 m .bl (by rw [Bool.false_xor] at q; exact q)⟩) fun _ _ h => ep_up h
  · cases px
    obtain ⟨p, vs, rfl, sq, r⟩ := seqD_sq m py hy
    have e := strsV_of r
    subst e
    exact thn (op_in_seq pins s σv H _ _ v u _ I rx ry ⟨p, _, rfl, sq, rfl, flat_strs ys, up0 m .bl (by rw [in_strs]; rw [Bool.false_xor] at q; exact q)⟩) fun _ _ h => ep_up h
def tFmt3 (te : TE3) : TE3 := fun σ M Q => te σ M fun d M1 => match d with
  | .str z => z.length ≤ sizeLine ∧ Q (.str z) M1
  | .int i => i.natAbs.log2 < 1920 ∧ Q (.str (toString i)) M1
  | _ => False
theorem pe3_fmt (he : PE3 X e te) : PE3 X (.FormattedValue e (-1) none pos) (tFmt3 te) := by
  intro pins s σv H σ M Q I hS hM h
  refine wpAny_FormattedValue_plain (thn (he pins s σv H σ M _ I hS hM h) fun v s1 ⟨d, xv, M1, H1, I1, st1, m1, r1, p1, q1⟩ => ?_)
  cases p1 <;> first | exact (q1 : False).elim | skip
  · rename_i i
    obtain ⟨t, rfl⟩ := r1
    exact wpAny_formatField_int q1.1 ⟨_, .str _, M1, H1, I1.tok _, st1, m1, ⟨_, rfl⟩, .str, q1.2⟩
  · rename_i z
    obtain ⟨t, rfl⟩ := r1
    exact wpAny_formatField_str ⟨_, .str _, M1, H1, I1, st1, m1, ⟨_, rfl⟩, .str, q1.2⟩ ⟨_, .str _, M1, H1, I1.tok _, st1, m1, ⟨_, rfl⟩, .str, q1.2⟩ q1.1
def tParts3 : List TE3 → Str → TE3
  | [], out => fun _ M Q => out.length ≤ sizeLine ∧ Q (.str out) M
  | te :: r, out => fun σ M Q => te σ M fun d M1 => match d with
    | .str y => (out ++ y).length ≤ sizeLine ∧ tParts3 r (out ++ y) σ M1 Q
    | _ => False
def PJ3 (X : Cx) (vs : List Expr) (ts : List TE3) : Prop :=
  ∀ (out : Str) (pins : List (Addr × Obj)) (s : Shared) (σv : L2.St) (H : Hp) (σ : Lo) (M : Mem) (Q : DK), Inv X pins σv H s → SRel X.K M H σ σv → MRel X.K M H → tParts3 ts out σ M Q →
    wpAny (model X.prog X.w) X.A (joinParts out (evalEach vs X.env)) (EP3 X pins σv M H Q) X.xe s
theorem pj3_nil : PJ3 X [] [] := fun out pins s σv H σ M Q I hS hM h => joinParts_nil ⟨_, .str _, M, H, I.tok _, .refl, hM, ⟨_, rfl⟩, .str, h.2⟩ h.1
theorem pj3_cons {vs : List Expr} {ts : List TE3} (he : PE3 X e te) (hr : PJ3 X vs ts) (hs : evalEach (e :: vs) X.env = eval e X.env :: evalEach vs X.env := by rfl) : PJ3 X (e :: vs) (te :: ts) := by
  intro out pins s σv H σ M Q I hS hM h
  rw [hs]
  refine joinParts_cons (thn (he pins s σv H σ M _ I hS hM h) fun v s1 ⟨d, xv, M1, H1, I1, st1, m1, r1, p1, q1⟩ => ?_)
  cases p1 <;> first | exact (q1 : False).elim | skip
  obtain ⟨t, rfl⟩ := r1
  exact ⟨q1.1, thn (hr _ pins s1 σv H1 σ M1 Q I1 (hS.mono st1) m1 q1.2) fun _ _ z => z.trans st1⟩
def tJoin3 (ts : List TE3) : TE3 := tParts3 ts Str.empty
theorem pe3_fstr {v1 v2 : Expr} {rest : List Expr} {ts : List TE3} (h : PJ3 X (v1 :: v2 :: rest) ts) (hs : evalEach (v1 :: v2 :: rest) X.env = eval v1 X.env :: eval v2 X.env :: evalEach rest X.env := by rfl) : PE3 X (.JoinedStr (v1 :: v2 :: rest) pos) (tJoin3 ts) := by
  intro pins s σv H σ M Q I hS hM q
  refine JoinedStr_many ?_
  have := h Str.empty pins s σv H σ M Q I hS hM q
  rw [hs] at this
  exact this
end
end L3
namespace L3
open PySem PySem.Spec PyProof.Rows L2
section
variable {X : Cx} {e : Expr} {te : TE3} {pos : Pos}
def rSlS : V → Option Int → Option Int → Hp → VK → Prop := fun x lo hi H Q => ∃ z, x = .str z ∧ z.length ≤ sizeLine ∧ Q (.str (Txt.slice z lo hi)) H
theorem sl_str : SlR X rSlS := by
  intro pins s σ H x v vl vu lo hi sl Q I rx hs pl pu h
  obtain ⟨z, rfl, hz, q⟩ := h
  obtain ⟨t, rfl⟩ := rx
  refine ⟨"str", _, PyProof.Rows.slot_str_getitem.lookup, typeIs_str _ _ _, ?_⟩
  obtain ⟨l, rfl, el⟩ : ∃ l : Option (Int × Tok), vl = partValue l ∧ lo = l.map (·.1) := by
    cases pl with
    | none => exact ⟨none, rfl, rfl⟩
    | int i t => exact ⟨some (i, t), rfl, rfl⟩
  obtain ⟨u, rfl, eu⟩ : ∃ u : Option (Int × Tok), vu = partValue u ∧ hi = u.map (·.1) := by
    cases pu with
    | none => exact ⟨none, rfl, rfl⟩
    | int i t => exact ⟨some (i, t), rfl, rfl⟩
  subst el eu
  refine wpAny_getItem_str_slice (st := none) (l := l) (u := u) hs rfl ?_
  have hle : (Txt.slice z (l.map (·.1)) (u.map (·.1))).length ≤ sizeLine := Nat.le_trans (Txt.slice_le _ _ _) hz
  unfold sliceMade slicePicked
  unfold Txt.slice at q hle
  split
  · rename_i hc
    split at q
    · exact ⟨.str _, H, I, ⟨_, rfl⟩, q⟩
    · rename_i hn
      exact absurd hc hn
  · rename_i hc
    split at hle
    · rename_i hn
      exact absurd hn hc
    · rename_i hn
      rw [if_neg hn] at q
      exact ⟨hle, .str _, H, I.tok _, ⟨_, rfl⟩, q⟩
def rSlA3 : D → Option Int → Option Int → Mem → DK → Prop := fun x lo hi M Q => match x with
  | .lst ds => Q (.lst (cutD ds lo hi)) M
  | .tup ds => ¬ (HT.sIx ds.length 0 lo = 0 ∧ HT.sIx ds.length ds.length hi = ds.length) ∧ Q (.tup (cutD ds lo hi)) M
  | .str z => z.length ≤ sizeLine ∧ Q (.str (Txt.slice z lo hi)) M
  | _ => False
def tSlA3 (te : TE3) (tl th : TO3) : TE3 := fun σ M Q => te σ M fun x M1 => tl σ M1 fun l M2 => th σ M2 fun u M3 => rSlA3 x l u M3 Q
theorem pe3_slA {lo hi : Option Expr} {tl th : TO3} {p2 : Pos} (he : PE3 X e te) (hl : PO3 X lo tl) (hu : PO3 X hi th) :
    PE3 X (.Subscript e (.Slice lo hi none p2) pos) (tSlA3 te tl th) := by
  intro pins s σv H σ M Q I hS hM h
  refine Subscript_ (thn (he pins s σv H σ M _ I hS hM h) fun v s1 ⟨x, xv, M1, H1, I1, st1, m1, rv1, p1, q1⟩ => ?_)
  refine wpAny_Slice (thn (hl pins s1 σv H1 σ M1 _ I1 (hS.mono st1) m1 q1) fun vl s2 ⟨l, M2, H2, I2, st2, m2, pl, q2⟩ => thn (hu pins s2 σv H2 σ M2 _ I2 (hS.mono (st1.trans st2)) m2 q2) fun vu s3 ⟨u, M3, H3, I3, st3, m3, pu, q3⟩ => ?_)
  rw [evalPart_none]
  refine wpAny_pure ?_
  have I4 : Inv X pins σv H3 { s3 with heap := s3.heap.push { cls := .type "slice", data := .fields #[vl, vu, .none] } } := I3.kept (t' := s3.toks) fun b ob q => Heap.get?_push_of_some _ q
  have p3 := p1.mono (st2.trans st3)
  have fin : (rSlL X.K xv l u H3 (Up X.K M3 H3 Q) ∨ rSlT X.K xv l u H3 (Up X.K M3 H3 Q)) ∨ rSlS xv l u H3 (Up X.K M3 H3 Q) := by
    cases x <;> first | exact (q3 : False).elim | skip
    · cases p3
      exact .inr ⟨_, rfl, q3.1, up0 m3 .str q3.2⟩
    · cases p3 with | tup h1 r =>
      obtain ⟨hw, q⟩ := q3
      rw [r.length] at hw
      exact .inl (.inr ⟨_, _, rfl, SqT.of3 h1, hw, fun p hp => ⟨_, M3, Step.lay hp, m3.lay hp, .tup (.inl ⟨.inl upd_same, m3.free hp⟩) ((r.cut l u).mono (Step.lay hp)), q⟩⟩)
    · cases p3 with | lst h1 r =>
      refine .inl (.inl ⟨_, _, rfl, SqL.of3 h1, fun p hp => ?_⟩)
      exact ⟨_, M3, Step.lay hp, m3.lay hp, .lst (.inl ⟨.inl upd_same, m3.free hp⟩) ((r.cut l u).mono (Step.lay hp)), q3⟩
  obtain ⟨T, id, hT, ht, hg⟩ := ((sl_list.or sl_tup).or sl_str) pins { s3 with heap := s3.heap.push { cls := .type "slice", data := .fields #[vl, vu, .none] } } σv H3 xv v vl vu l u s3.heap.objs.size _ I4 rv1 (Heap.IsSliceOf.new ..) pl pu fin
  show wpAny (model X.prog X.w) X.A (subscriptTail e (.Slice lo hi none p2) v (.ref s3.heap.objs.size)) (EP3 X pins σv M H Q) X.xe { s3 with heap := s3.heap.push { cls := .type "slice", data := .fields #[vl, vu, .none] } }
  exact tail_any (ops := [.ref s3.heap.objs.size, v]) ht hT (thn hg fun _ _ z => (ep_up z).trans ((st1.trans st2).trans st3)) (by with_unfolding_all rfl)
end
theorem fnOk_zero {P : Program} {w : World} {K : PySem.W.Frag} {mg : Str → Option Value} {base : Heap} {k : Nat} {f : Addr} {fd : FuncData} {ps : List Str} {sp : Nat → Sp3} (hl : ∀ n ds M Q, sp n ds M Q → ds.length = ps.length) (hz : ∀ ds M Q, ¬ sp 0 ds M Q) :
    FnOk P w K mg base CX0 k f fd ps (dnSp K (sp 0)) := ⟨fun vs H Q E ⟨ds, M, Q3, r, _, h, _⟩ => absurd h (hz _ _ _), fun A outer s H args us vs Q E hr he hb hv ⟨ds, M, Q3, r, _, h, _⟩ => absurd h (hz _ _ _)⟩
theorem b3_any : bootBuiltins "any" = some (.builtin "any") := by decide +kernel
end L3
set_option Elab.async false
set_option linter.all false
set_option maxRecDepth 100000
namespace L3
open PySem PySem.Spec PyProof.Rows L2
def tI (n : Int) : Str := Str.ofString (toString n)
def dg (m : Nat) : List Nat := (Nat.toDigits 10 m).map Char.toNat
theorem cps_nat (m : Nat) : (tI (m : Int)).cps.toList = dg m := W.KIN.signs_num m
theorem dg_len {m k : Nat} (hk : 0 < k) (h : m < 10 ^ k) : (dg m).length ≤ k := by
  unfold dg
  rw [List.length_map]
  exact (Nat.length_toDigits_le_iff (by decide) hk).mpr h
theorem str_ext {x y : Str} (h : x.cps.toList = y.cps.toList) : x = y := by
  obtain ⟨⟨a⟩⟩ := x
  obtain ⟨⟨b⟩⟩ := y
  cases h
  rfl
theorem cps_app (x y : Str) : (x ++ y).cps.toList = x.cps.toList ++ y.cps.toList := by
  show (x.cps ++ y.cps).toList = _
  simp
theorem cps_neg (m : Nat) : (tI (Int.negSucc m)).cps.toList = 45 :: dg (m + 1) := by
  have e : toString (Int.negSucc m) = "-" ++ toString ((m + 1 : Nat) : Int) := rfl
  unfold tI
  rw [e, Str.ofString_eq_toList]
  have h := cps_nat (m + 1)
  unfold tI at h
  rw [Str.ofString_eq_toList] at h
  simp only [String.toList_append, List.map_append] at h ⊢
  rw [h]
  rfl
theorem len_cps (x : Str) : x.length = x.cps.toList.length := by
  show x.cps.size = _
  simp
theorem rd_iteNT {P R : Prop} (h : R) : if (!true) = true then P else R := h
theorem rd_any {bs : List Bool} {M : Mem} {Q : DK} (h : Q (.bl (bs.any id)) M) : rAny3 [.lst (bs.map D.bl)] M Q := ⟨bs, rfl, h⟩
theorem rd_strI {i : Int} {M : Mem} {Q : DK} (hz : i.natAbs.log2 < 1920) (h : Q (.str (tI i)) M) : rStr3 [.int i] M Q := ⟨hz, h⟩
theorem rd_slA {te : TE3} {tl th : TO3} {σ : Lo} {M : Mem} {Q : DK} (h : te σ M fun x M1 => tl σ M1 fun l M2 => th σ M2 fun u M3 => rSlA3 x l u M3 Q) : tSlA3 te tl th σ M Q := h
theorem rd_slAS {z : Str} {l u : Option Int} {M : Mem} {Q : DK} (hz : z.length ≤ sizeLine) (h : Q (.str (Txt.slice z l u)) M) : rSlA3 (.str z) l u M Q := ⟨hz, h⟩
theorem rd_slAL {ds : List D} {l u : Option Int} {M : Mem} {Q : DK} (h : Q (.lst (cutD ds l u)) M) : rSlA3 (.lst ds) l u M Q := h
theorem rd_parts0 {out : Str} {σ : Lo} {M : Mem} {Q : DK} (hl : out.length ≤ sizeLine) (h : Q (.str out) M) : tParts3 [] out σ M Q := ⟨hl, h⟩
def onPart (r : List TE3) (out : Str) (σ : Lo) (Q : DK) : DK := fun d M1 => match d with
  | .str y => (out ++ y).length ≤ sizeLine ∧ tParts3 r (out ++ y) σ M1 Q
  | _ => False
theorem rd_parts {te : TE3} {r : List TE3} {out : Str} {σ : Lo} {M : Mem} {Q : DK} (h : te σ M (onPart r out σ Q)) : tParts3 (te :: r) out σ M Q := h
theorem rd_onPart {r : List TE3} {out y : Str} {σ : Lo} {M : Mem} {Q : DK} (hl : (out ++ y).length ≤ sizeLine) (h : tParts3 r (out ++ y) σ M Q) : onPart r out σ Q (.str y) M := ⟨hl, h⟩
theorem rd_join3 {ts : List TE3} {σ : Lo} {M : Mem} {Q : DK} (h : tParts3 ts Str.empty σ M Q) : tJoin3 ts σ M Q := h
def onFmt (Q : DK) : DK := fun d M1 => match d with
  | .str z => z.length ≤ sizeLine ∧ Q (.str z) M1
  | .int i => i.natAbs.log2 < 1920 ∧ Q (.str (toString i)) M1
  | _ => False
theorem rd_fmt {te : TE3} {σ : Lo} {M : Mem} {Q : DK} (h : te σ M (onFmt Q)) : tFmt3 te σ M Q := h
theorem rd_onFmtS {z : Str} {M : Mem} {Q : DK} (hz : z.length ≤ sizeLine) (h : Q (.str z) M) : onFmt Q (.str z) M := ⟨hz, h⟩
theorem rd_lstM {tas : TA3} {σ : Lo} {M : Mem} {Q : DK} (h : tas σ M fun xs M1 => xs.length ≤ sizeLine ∧ ∀ p, M1 p = none → Q (.ref p) (mput M1 p (.lst xs))) : tLstM3 tas σ M Q := h
end L3
set_option Elab.async false
set_option linter.all false
set_option maxRecDepth 100000
namespace L3
open PySem PySem.Spec PyProof.Rows L2
section
variable {X : Cx} {a b e : Expr} {ta tb te : TE3} {t : TA3} {pos p : Pos}
def rExt3 : M3 := fun x xs M Q => ∃ a b ds es, x = .ref a ∧ xs = [.ref b] ∧ M a = some (.lst ds) ∧ M b = some (.lst es) ∧ ds.length + es.length ≤ sizeLine ∧ Q .non (mput M a (.lst (ds ++ es)))
theorem m3_extend : MtR3 X "list.extend" rExt3 := MtR3.of mt_extend fun H M x xs xv xvs Q m px pxs hx0 => by
  obtain ⟨a, b, ds, es, e1, e2, ha, hb, hl, q⟩ := hx0
  subst e1 e2
  cases px
  obtain ⟨yv, rfl, py⟩ := reps1 pxs
  cases py
  obtain ⟨ho, h3, r⟩ := m _ _ ha
  cases ho <;> first | exact (r : False).elim | skip
  rename_i vs
  obtain ⟨ho2, h4, r2⟩ := m _ _ hb
  cases ho2 <;> first | exact (r2 : False).elim | skip
  rename_i us
  have r' : Reps X.K M H ds vs := r
  have r2' : Reps X.K M H es us := r2
  exact ⟨a, b, vs, us, rfl, rfl, h3, h4, by rw [← r'.length, ← r2'.length]; exact hl, .non, _, Step.put (.inr (by rw [ha]; simp)), m.put (.inr (by rw [ha]; simp)) (o := .lst (ds ++ es)) (Reps.append r' r2'), .non, q⟩
theorem strs_reps {K : PySem.W.Frag} {M : Mem} {H : Hp} : ∀ l : List Str, Reps K M H (l.map D.str) (l.map V.str)
  | [] => .nil
  | x :: l => .cons .str (strs_reps l)
end
end L3
set_option Elab.async false
set_option linter.all false
set_option maxRecDepth 100000
namespace L3
open PySem PySem.Spec PyProof.Rows L2
section
variable {T : Ends3} {σ : Lo} {M : Mem} {Q : DK} {QB : Bool → Mem → Prop} {d x y : D}
theorem rd_tupL {ds : List D} (h : Q (.tup ds) M) : rTuple3 [.lst ds] M Q := h
theorem rd_tupR {a : Addr} {ds : List D} (hm : M a = some (.lst ds)) (h : Q (.tup ds) M) : rTuple3 [.ref a] M Q := ⟨ds, hm, h⟩
theorem rd_lenR {a : Addr} {ds : List D} (hm : M a = some (.lst ds)) (h : Q (.int ds.length) M) : rLen3 [.ref a] M Q := ⟨ds, hm, h⟩
theorem rd_inL {z : Str} {y : D} {ys : List Str} {neg : Bool} (e : seqD M y = some (ys.map D.str)) (h : Q (.bl (neg ^^ ys.any (· == z))) M) : rIn3 neg (.str z) y M Q := .inr ⟨z, ys, rfl, e, h⟩
theorem rd_dgetR {a : Addr} {kds : List (Key × D)} {k : Str} (hm : M a = some (.dct kds)) (hv : valD kds (.inr k) = some d) (h : Q d M) : rDGet3 (.ref a) (.str k) M Q := ⟨.inr k, d, rfl, ⟨kds, hm, hv⟩, h⟩
end
theorem comp_all {ds acc : List D} {P : Nat → D → D → Prop} (hl : acc.length = ds.length) (h : ∀ (k : Nat) d e, ds[k]? = some d → acc[k]? = some e → P k d e) : ∀ e ∈ acc, ∃ (k : Nat) (d : D), ds[k]? = some d ∧ P k d e := fun e he => by
  obtain ⟨k, hk, rfl⟩ := List.getElem_of_mem he
  have hk' : k < ds.length := by rw [← hl]; exact hk
  exact ⟨k, ds[k], by simp, h k ds[k] _ (by simp) (by simp)⟩
theorem exists_map {α : Type} {f : α → D} {P : α → Prop} : ∀ {l : List D}, (∀ e ∈ l, ∃ c, e = f c ∧ P c) → ∃ cs : List α, l = cs.map f ∧ ∀ c ∈ cs, P c
  | [], _ => ⟨[], rfl, fun _ h => by cases h⟩
  | e :: l, h => by
    obtain ⟨c, rfl, hc⟩ := h e List.mem_cons_self
    obtain ⟨cs, rfl, hcs⟩ := exists_map fun x hx => h x (List.mem_cons_of_mem _ hx)
    exact ⟨c :: cs, rfl, fun x hx => by
      rcases List.mem_cons.mp hx with rfl | hx
      · exact hc
      · exact hcs x hx⟩
theorem rd_joinL {z : Str} {ys : List Str} {M : Mem} {Q : DK} (hj : joinOk z ys) (h : Q (.str (Txt.join z ys)) M) : rJoin3 (.str z) [.lst (ys.map D.str)] M Q := ⟨z, ys, rfl, rfl, hj, h⟩
theorem rd_ite2 {b : Bool} {P R : Prop} (h1 : P) (h2 : R) : if b = true then P else R := by cases b <;> assumption
theorem comp_map {α : Type} {gt : TG3} {tt : TT3} {te : TE3} {σ0 : Lo} {M1 : Mem} {Q : DK} (l : List α) (f g : α → D) (hl : l.length < sizeLine)
    (turn : ∀ a ∈ l, ∀ M2 (R : D → Mem → Prop) (F : Mem → Prop), (∀ x, M1 x ≠ none → M2 x = M1 x) → R (g a) M2 → gt (f a) σ0 M2 fun σ' M3 => tt σ' M3 fun bb M4 => if bb = true then te σ' M4 R else F M4)
    (done : Q (.lst (l.map g)) M1) : CompB gt tt te σ0 (l.map f) M1 Q := by
  intro p hp
  refine ⟨fun k acc M2 => acc = (l.take k).map g ∧ M2 p = some (.lst acc) ∧ ∀ a, a ≠ p → M2 a = M1 a, ⟨rfl, mput_same, fun a ha => mput_ne ha⟩, ?_, ?_⟩
  · rintro k d acc M2 hd ⟨rfl, hacc, hsame⟩
    have hk : k < l.length := by simpa using (List.getElem?_eq_some_iff.mp hd).1
    have hdk : d = f l[k] := by
      rw [List.getElem?_map, List.getElem?_eq_getElem hk] at hd
      exact (Option.some.inj hd).symm
    subst hdk
    refine turn l[k] (List.getElem_mem hk) M2 _ _ (fun a ha => hsame a (by rintro rfl; exact ha hp)) ⟨hacc, by simp; lia, ?_, mput_same, fun a ha => by rw [mput_ne ha]; exact hsame a ha⟩
    rw [List.take_succ, List.getElem?_eq_getElem hk, List.map_append]
    rfl
  · rintro acc M2 ⟨rfl, hacc, hsame⟩
    have hlen : (l.map f).length = l.length := by simp
    rw [hlen, List.take_length] at hacc ⊢
    have : mdel M2 p = M1 := funext fun a => by
      by_cases ha : a = p
      · subst ha; rw [mdel_same, hp]
      · rw [mdel_ne ha]; exact hsame a ha
    rw [this]
    exact ⟨hacc, done⟩
end L3
set_option Elab.async false
set_option linter.all false
set_option maxRecDepth 100000
namespace L3
open PySem PySem.Spec PyProof.Rows L2
end L3
set_option Elab.async false
set_option linter.all false
set_option maxRecDepth 100000
namespace L3
open PySem PySem.Spec PyProof.Rows L2
end L3
set_option Elab.async false
set_option linter.all false
set_option maxRecDepth 100000
namespace L3
open PySem PySem.Spec PyProof.Rows L2
section
variable {X : Cx} {o i e : Expr} {to ti te : TE3} {pos p : Pos}
end
end L3
set_option Elab.async false
set_option linter.all false
set_option maxRecDepth 100000
namespace L3
open PySem PySem.Spec PyProof.Rows L2
theorem ps3_setC {y : Str} {py spos : Pos} {iy : Nat} {X : Cx} {elt tg iter : Expr} {pos : Pos} {ifs : List Expr} {scope : Scope} {tns caps : List Str} {slots : List Nat} {ti : TI3} {g : TG3} {tt : TT3} {te : TE3}
    (hc : X.calm = true) (hi : PI3E X tg iter ti) (hkind : scope.kind = .function) (hcell : ∀ y ∈ scope.names, y.2 ≠ .cell)
    (hnames : ∀ y ∈ scope.names, y.2 = .local → scope.names.lookup y.1 = some .local)
    (hfree : ∀ y ∈ scope.names, y.2 = .free → X.env.kindOf y.1 = some .cell ∨ X.env.kindOf y.1 = some .free)
    (hcf : ∀ y ∈ caps, scope.names.lookup y = some .free) (hcaps : slots.map (fun j => X.N[j]?) = caps.map some)
    (hgk : ∀ d M Q (cs : Lo), g d (List.replicate tns.length none ++ cs) M Q → g d (List.replicate tns.length none ++ cs) M (fun σ' M' => σ'.drop tns.length = cs ∧ Q σ' M'))
    (hg : ∀ cl s₀ H₀ ex, PG3 (compCx X scope cl s₀ H₀ ex (tns ++ caps)) tg g)
    (ht : ∀ cl s₀ H₀ ex, PIfs (compCx X scope cl s₀ H₀ ex (tns ++ caps)) ifs tt) (he : ∀ cl s₀ H₀ ex, PE3 (compCx X scope cl s₀ H₀ ex (tns ++ caps)) elt te)
    (hN : X.N.Nodup) (hiy : X.N[iy]? = some y) (hy : Loc X.env.scope y) (hsw : swapsWith (.ListComp elt [⟨tg, iter, ifs, 0⟩] scope pos) (some (.Name y py)) spos.line X.env = pure true) (hf : X.fn y = true ∨ X.env.scope.names.lookup y = some .local)
    (hs : ∀ y, foldedSetIterable iter X.env y = pure y := by intro _; rfl) :
    PS3 X (.Assign [.Name y py] (.ListComp elt [⟨tg, iter, ifs, 0⟩] scope pos) spos) (tSet3 iy (tComp3 ti tns.length slots g tt te)) := by
  intro pins s σv H σ M T0 I hS hM h
  rw [exec_Assign_Name_used _ _ _ _ hsw]
  refine wpAny_bind (wpAny_standAt (wpAny_bind ?_))
  rw [arm_evalThenUse_ListComp]
  refine wpAny_bind ?_
  refine comp_core hc hi hkind hcell hnames hfree hcf hcaps hgk hg ht he hs (use := some (assign (.Name y py) X.env)) (F := fun p acc M => T0.nx (σ.set iy (some (.lst acc))) (mdel M p)) I hS hM h fun D C acc H5 M5 s6 m hn I7 c1 c2 c3 c4 c5 c6 st m5 hp hq => ?_
  obtain ⟨mF, rF, sF⟩ := Vs.frzL hp X.K H5 (.ref D) m5 .ref
  obtain ⟨oC, es, ep, hoC, hdC, rC⟩ := hn
  have pinC : Inv X (pins ++ [(C, oC)]) σv H5 s6 := I7.pins_of fun p hp => by
    rcases List.mem_append.mp hp with z | z
    · exact I7.pin p (List.mem_append_right _ z)
    · cases List.mem_singleton.mp z
      exact ⟨hoC, c1, c2, c3, fun v z => by rw [hdC] at z; cases z⟩
  show wpAny (model X.prog X.w) X.A (assign (.Name y py) X.env (.ref D)) _ X.xe s6
  refine wpAny_assign_Name (store_ok pinC hN hiy hy (v := .ref D) rfl (fun s7 I8 => ?_) hf)
  have hp8 := (I8.pin (C, oC) (List.mem_append_right _ (List.mem_append_right _ List.mem_cons_self))).1
  refine ⟨m, ⟨oC, es, ep, hp8, hdC, rC⟩, fun h' sb => wpAny_pure (wpAny_pure ?_)⟩
  have I9 : Inv X pins (σv.set iy (some (.ref D))) H5 { s7 with heap := h', toks := s7.toks } := I8.unpinned.turned (it := C) (fun b o hb e => (sb.2 b hb).trans e) c1 c2 (.inr c4) c5 c6
  exact ⟨_, _, mdel M5 D, H5, I9, st.less sF, mF, ((hS.mono st).mono ⟨fun _ _ h _ => h, fun b h => .inl (sF b h)⟩).set rF iy, hq⟩
theorem ps3_setCBE {X : Cx} {elt tg iter : Expr} {pos py spos : Pos} {y : Str} {ifs : List Expr} {scope : Scope} (iy : Nat) (tns caps : List Str) (slots : List Nat) {ti : TI3} {g : TG3} {tt : TT3} {te : TE3}
    (hc : X.calm = true) (hi : PI3E X tg iter ti) (hkind : scope.kind = .function) (hok : compOk X.env scope caps = true) (hcaps : slots.map (fun j => X.N[j]?) = caps.map some)
    (hgk : ∀ d M Q (cs : Lo), g d (List.replicate tns.length none ++ cs) M Q → g d (List.replicate tns.length none ++ cs) M (fun σ' M' => σ'.drop tns.length = cs ∧ Q σ' M'))
    (hg : ∀ cl s₀ H₀ ex, PG3 (compCx X scope cl s₀ H₀ ex (tns ++ caps)) tg g)
    (ht : ∀ cl s₀ H₀ ex, PIfs (compCx X scope cl s₀ H₀ ex (tns ++ caps)) ifs tt) (he : ∀ cl s₀ H₀ ex, PE3 (compCx X scope cl s₀ H₀ ex (tns ++ caps)) elt te)
    (hN : X.N.Nodup) (hiy : X.N[iy]? = some y) (hy : Loc X.env.scope y) (hf : X.fn y = true ∨ X.env.scope.names.lookup y = some .local)
    (hsw : swapsWith (.ListComp elt [⟨tg, iter, ifs, 0⟩] scope pos) (some (.Name y py)) spos.line X.env = pure true := by rfl)
    (hs : ∀ y, foldedSetIterable iter X.env y = pure y := by intro _; rfl) :
    PS3 X (.Assign [.Name y py] (.ListComp elt [⟨tg, iter, ifs, 0⟩] scope pos) spos) (tSet3 iy (tComp3 ti tns.length slots g tt te)) := by
  unfold compOk at hok
  rw [Bool.and_eq_true, List.all_eq_true, List.all_eq_true] at hok
  obtain ⟨h1, h2⟩ := hok
  refine ps3_setC hc hi hkind (fun y hy e => ?_) (fun y hy e => ?_) (fun y hy e => ?_) (fun y hy => ?_) hcaps hgk hg ht he hN hiy hy hsw hf hs
  · have := h1 y hy; rw [e] at this; cases this
  · have := h1 y hy
    rw [e] at this
    dsimp only at this
    split at this
    · assumption
    · cases this
  · have := h1 y hy
    rw [e] at this
    dsimp only at this
    split at this
    · exact .inl (by assumption)
    · exact .inr (by assumption)
    · cases this
  · have := h2 y hy
    split at this
    · assumption
    · cases this
theorem ps3_setCB {X : Cx} {elt tg iter : Expr} {pos py spos : Pos} {y : Str} {ifs : List Expr} {scope : Scope} (iy : Nat) (tns caps : List Str) (slots : List Nat) {ti : TI3} {g : TG3} {tt : TT3} {te : TE3}
    (hc : X.calm = true) (hi : PI3 X tg iter ti) (hkind : scope.kind = .function) (hok : compOk X.env scope caps = true) (hcaps : slots.map (fun j => X.N[j]?) = caps.map some)
    (hgk : ∀ d M Q (cs : Lo), g d (List.replicate tns.length none ++ cs) M Q → g d (List.replicate tns.length none ++ cs) M (fun σ' M' => σ'.drop tns.length = cs ∧ Q σ' M'))
    (hg : ∀ cl s₀ H₀ ex, PG3 (compCx X scope cl s₀ H₀ ex (tns ++ caps)) tg g)
    (ht : ∀ cl s₀ H₀ ex, PIfs (compCx X scope cl s₀ H₀ ex (tns ++ caps)) ifs tt) (he : ∀ cl s₀ H₀ ex, PE3 (compCx X scope cl s₀ H₀ ex (tns ++ caps)) elt te)
    (hN : X.N.Nodup) (hiy : X.N[iy]? = some y) (hy : Loc X.env.scope y) (hf : X.fn y = true ∨ X.env.scope.names.lookup y = some .local)
    (hsw : swapsWith (.ListComp elt [⟨tg, iter, ifs, 0⟩] scope pos) (some (.Name y py)) spos.line X.env = pure true := by rfl)
    (hs : ∀ y, foldedSetIterable iter X.env y = pure y := by intro _; rfl) :
    PS3 X (.Assign [.Name y py] (.ListComp elt [⟨tg, iter, ifs, 0⟩] scope pos) spos) (tSet3 iy (tComp3 ti tns.length slots g tt te)) :=
  ps3_setCBE iy tns caps slots hc hi.toE hkind hok hcaps hgk hg ht he hN hiy hy hf hsw hs
end L3
set_option Elab.async false
set_option linter.all false
set_option maxRecDepth 100000
namespace L2
open PySem PySem.Spec PyProof.Rows
section
variable {X : Cx} {tg : Expr}
end
end L2
namespace L3
open PySem PySem.Spec PyProof.Rows L2
section
variable {X : Cx} {a b c e : Expr} {t : TA3} {te : TE3} {p pos : Pos}
end
end L3
set_option Elab.async false
set_option linter.all false
set_option maxRecDepth 100000
namespace L3
open PySem PySem.Spec PyProof.Rows L2
def isStar : Expr → Bool
  | .Starred .. => true
  | _ => false
theorem star_cons {e : Expr} (h : isStar e = false) (es : List Expr) (env : Env) : starEach (e :: es) env = (false, eval e env) :: starEach es env := by
  cases e <;> first | rfl | cases h
theorem pa3_k {X : Cx} {e : Expr} {es : List Expr} {te : TE3} {t : TA3} (ha : PE3 X e te) (hr : PA3 X es t) (hs : isStar e = false := by rfl) : PA3 X (e :: es) (tCons3 te t) := pa3_cons ha hr (star_cons hs es _)
theorem pa3_s {X : Cx} {x : Str} {j : Nat} {pos : Pos} {es : List Expr} {t : TA3} (hr : PA3 X es t) : PA3 X (.Constant (.str x) j pos :: es) (tCons3 (tC3 (.str x)) t) := pa3_k pe3_str hr
end L3
set_option Elab.async false
set_option linter.all false
set_option maxRecDepth 100000
namespace L3
open PySem PySem.Spec PyProof.Rows L2
section
variable {X : Cx} {e i : Expr} {te ti : TE3} {pos : Pos}
def tAug3 (i : Nat) (te : TE3) : TS3 := fun T σ M => ∃ a, σ[i]? = some (some (.int a)) ∧ te σ M fun d M1 => ∃ b, d = .int b ∧ T.nx (σ.set i (some (.int (a + b)))) M1
theorem ps3_aug {i : Nat} {x : Str} {pos' : Pos} (hN : X.N.Nodup) (hi : X.N[i]? = some x) (hx : Loc X.env.scope x) (he : PE3 X e te) (hf : X.fn x = true ∨ X.env.scope.names.lookup x = some .local := by first | exact .inl rfl | exact .inr rfl | assumption) :
    PS3 X (.AugAssign (.Name x pos') .Add e pos) (tAug3 i te) := PS3.of (ps_aug hN hi hx he.dn ip_add hf) fun pins s σv H σ M T I hS hM h => by
  obtain ⟨a, e1, h⟩ := h
  obtain ⟨v, e2, r⟩ := hS.get _ _ e1
  cases r
  refine ⟨.int a, e2, σ, M, _, hS, hM, h, fun d v M' H' st m r q => ?_⟩
  obtain ⟨b, rfl, q⟩ := q
  cases r
  exact ⟨a, b, rfl, rfl, _, M', st, m, (hS.mono st).set .int _, q⟩
theorem rd_aug {i : Nat} {a : Int} {T : Ends3} {σ : Lo} {M : Mem} (e : σ[i]? = some (some (.int a))) (h : te σ M fun d M1 => ∃ b, d = .int b ∧ T.nx (σ.set i (some (.int (a + b)))) M1) : tAug3 i te T σ M := ⟨a, e, h⟩
def rMulS3 : R3 := fun x y M Q => ∃ z n, x = .str z ∧ y = .int n ∧ MulOk z n ∧ Q (.str (Txt.mul z n)) M
theorem o3_mulS : OpR3 X (binaryOp .Mult) rMulS3 := by
  rintro pins s σv H M x y xv yv v u Q I m rx ry px py ⟨z, n, rfl, rfl, ok, q⟩
  cases px
  cases py
  obtain ⟨t, rfl⟩ := rx
  obtain ⟨t', rfl⟩ := ry
  exact SB.mul ok fun t' k => ⟨_, .str _, M, H, I.tok _, .refl, m, ⟨_, rfl⟩, .str, q⟩
theorem rd_mulS {z : Str} {n : Int} {M : Mem} {Q : DK} (ok : MulOk z n) (h : Q (.str (Txt.mul z n)) M) : rMulS3 (.str z) (.int n) M Q := ⟨z, n, rfl, rfl, ok, h⟩
def listD (M : Mem) (x : D) (ds : List D) : Prop := x = .lst ds ∨ ∃ a, x = .ref a ∧ M a = some (.lst ds)
theorem listD_sq {K : PySem.W.Frag} {M : Mem} {H : Hp} {x : D} {v : V} {ds : List D} (m : MRel K M H) (r : Rep K M H x v) (e : listD M x ds) : ∃ p vs, v = .ref p ∧ SqL K H p vs ∧ Reps K M H ds vs := by
  rcases e with rfl | ⟨a, rfl, ha⟩
  · cases r with | lst h r => exact ⟨_, _, rfl, SqL.of3 h, r⟩
  · cases r
    obtain ⟨ho, e1, r⟩ := m _ _ ha
    cases ho <;> first | exact (r : False).elim | skip
    exact ⟨_, _, rfl, .inl (.inl e1), r⟩
def rAddM3 : R3 := fun x y M Q => ∃ ds es, listD M x ds ∧ listD M y es ∧ ds.length + es.length ≤ sizeLine ∧ ∀ p, M p = none → Q (.ref p) (mput M p (.lst (ds ++ es)))
theorem o3_addM : OpR3 X (binaryOp .Add) rAddM3 := by
  rintro pins s σv H M x y xv yv v u Q I m rx ry px py ⟨ds, es, hx, hy, hz, q⟩
  obtain ⟨p1, vs1, rfl, s1, r1⟩ := listD_sq m px hx
  obtain ⟨p2, vs2, rfl, s2, r2⟩ := listD_sq m py hy
  cases rx; cases ry
  obtain ⟨its, e1, p1, z1⟩ := I.list s1
  obtain ⟨its2, e2, p2, z2⟩ := I.list s2
  obtain ⟨⟨cls, dd, data, sl⟩, ho, hc, n, hd⟩ := p1.isList
  obtain ⟨⟨cls2, dd2, data2, sl2⟩, ho2, hc2, n2, hd2⟩ := p2.isList
  simp only at hc hd hc2 hd2
  subst hc hd hc2 hd2
  have l1 := r1.length
  have l2 := r2.length
  have l3 := e1.length
  have l4 := e2.length
  refine concat_meets ⟨_, ho, rfl⟩ ⟨_, ho2, rfl⟩ noFill_list_add seq_list_add PySem.F.slot_list_add PySem.F.entry_list_add (PySem.F.args_list_add_2 _ _) (list_addW _ _ _ _ n n2 dd dd2 sl sl2 (by simp; lia)) ⟨ho, ho2, ?_⟩
  have ea : its.toArray ++ its2.toArray = (its ++ its2).toArray := by simp
  rw [ea]
  have hf := I.fresh
  have rr := r1.append r2
  exact ⟨.ref s.heap.objs.size, .ref s.heap.objs.size, mput M s.heap.objs.size (.lst (ds ++ es)), _, I.lnew (t' := s.toks) (e1.append e2) (by rw [List.length_append]; lia), Step.put (.inl hf), m.put (.inl hf) rr, rfl, .ref, q _ (m.free hf)⟩
theorem rd_addM {x y : D} {ds es : List D} {M : Mem} {Q : DK} (hx : listD M x ds) (hy : listD M y es) (hz : ds.length + es.length ≤ sizeLine) (h : ∀ p, M p = none → Q (.ref p) (mput M p (.lst (ds ++ es)))) : rAddM3 x y M Q := ⟨ds, es, hx, hy, hz, h⟩
def rJoinT3 : M3 := fun x xs M Q => ∃ z, ∃ ys : List Str, x = .str z ∧ xs = [.tup (ys.map D.str)] ∧ joinOk z ys ∧ Q (.str (Txt.join z ys)) M
theorem m3_joinT : MtR3 X "str.join" rJoinT3 := by
  rintro pins s σv H M x xs xv xvs v us Q I m rv rvs px pxs ⟨z, ys, rfl, rfl, hj, q⟩
  obtain ⟨yv, rfl, py⟩ := reps1 pxs
  obtain ⟨u, rfl, ru⟩ := vals1 rvs
  cases px
  obtain ⟨t, rfl⟩ := rv
  cases py with
  | tup h1 r1 =>
    cases ru
    obtain ⟨its, ri, pl, hz⟩ := I.tuple (SqT.of3 h1)
    exact join_tuple pl (by simpa using strs_of r1 ri) hj fun t' k => ⟨_, .str _, M, H, I.tok k, .refl, m, ⟨_, rfl⟩, .str, q⟩
theorem rd_joinT {z : Str} {ys : List Str} {M : Mem} {Q : DK} (hj : joinOk z ys) (h : Q (.str (Txt.join z ys)) M) : rJoinT3 (.str z) [.tup (ys.map D.str)] M Q := ⟨z, ys, rfl, rfl, hj, h⟩
theorem pe3_globT {x : Str} {xs : List Str} (hg : Gl X x) (hm : ∃ a, X.mg x = some (.ref a) ∧ KTup X.K a (xs.map V.str)) (hd : (x == ("__debug__" : Str)) = false := by decide) : PE3 X (.Name x pos) (tC3 (.tup (xs.map D.str))) := by
  obtain ⟨a, hm, k⟩ := hm
  exact pe3_glob (v := .ref a) hg hm rfl (fun _ _ => .tup (.inr k) (strs_reps xs)) hd
def entW (P : Params) (r : Str × Tok × Addr) : DictEntry := ⟨PyData.keyHash P r.1, .str r.1 r.2.1, .ref r.2.2⟩
inductive GRows (K : PySem.W.Frag) : List (Str × Tok × Addr) → List (Str × List Str) → Prop
  | nil : GRows K [] []
  | cons {s : Str} {t : Tok} {b : Addr} {xs : List Str} {rows : List (Str × Tok × Addr)} {tbl : List (Str × List Str)} : KTup K b (xs.map V.str) → GRows K rows tbl → GRows K ((s, t, b) :: rows) ((s, xs) :: tbl)
def GDict (K : PySem.W.Frag) (P : Params) (a : Addr) (tbl : List (Str × List Str)) : Prop := ∃ (rows : List (Str × Tok × Addr)) (ep : Nat), K.lookup a = some ⟨.type "dict", none, .dict (rows.map (entW P)).toArray ep, #[]⟩ ∧ (rows.map (·.1)).Nodup ∧ GRows K rows tbl
def rowsV (rows : List (Str × Tok × Addr)) : List (Key × Value) := rows.map fun r => (Sum.inr r.1, .ref r.2.2)
theorem grows_look {K : PySem.W.Frag} {rows : List (Str × Tok × Addr)} {tbl : List (Str × List Str)} (h : GRows K rows tbl) {w : Str} {xs : List Str} (e : tbl.lookup w = some xs) : ∃ b, valueAt (rowsV rows) (Sum.inr w) = some (.ref b) ∧ KTup K b (xs.map V.str) := by
  induction h with
  | nil => cases e
  | @cons s t b ys rows tbl k _ ih =>
    rw [List.lookup_cons] at e
    by_cases hw : w = s
    · subst hw
      simp only [beq_self_eq_true] at e
      cases e
      exact ⟨b, by simp [valueAt, rowsV], k⟩
    · have hne : (w == s) = false := by simpa using hw
      rw [hne] at e
      obtain ⟨b', h1, h2⟩ := ih e
      refine ⟨b', ?_, h2⟩
      have : ¬ (Sum.inr s : Key) = Sum.inr w := fun z => hw (Sum.inr.inj z).symm
      unfold valueAt rowsV at h1 ⊢
      rw [List.map_cons, List.find?_cons_of_neg (by simpa using this)]
      exact h1
theorem rows_pairs {P : Program} {w : World} : ∀ rows : List (Str × Tok × Addr), Pairs (mixKind P w) (rows.map (entW w.params)) (rowsV rows)
  | [] => .nil
  | r :: rows => .cons (mixKind_str P w r.1 r.2.1) rfl (rows_pairs rows)
theorem gdict_of {P : Program} {w : World} {K : PySem.W.Frag} {h : Heap} {a : Addr} {rows : List (Str × Tok × Addr)} {ep : Nat} (hk : h.get? a = some ⟨.type "dict", none, .dict (rows.map (entW w.params)).toArray ep, #[]⟩) (hn : (rows.map (·.1)).Nodup) : h.DictOf (mixKind P w) a (rowsV rows) := by
  refine ⟨_, _, ep, hk, ⟨rfl, rfl, rfl⟩, rfl, fun e he => ?_, by simpa using rows_pairs rows, ?_⟩
  · obtain ⟨s, t, b, _, rfl⟩ : ∃ s t b, (s, t, b) ∈ rows ∧ entW w.params (s, t, b) = e := by simpa using he
    exact ⟨.inr s, mixKind_str P w s t, rfl⟩
  · have : (rowsV rows).map (·.1) = (rows.map (·.1)).map Sum.inr := by unfold rowsV; rw [List.map_map, List.map_map]; rfl
    rw [this]
    exact List.Pairwise.map _ (fun a b hab hc => hab (Sum.inr.inj hc)) hn
def tGD3 (tbl : List (Str × List Str)) (ti : TE3) : TE3 := fun σ M Q => ti σ M fun d M1 => ∃ w xs, d = .str w ∧ tbl.lookup w = some xs ∧ Q (.tup (xs.map D.str)) M1
theorem pe3_gd {x : Str} {tbl : List (Str × List Str)} {p1 : Pos} (hg : Gl X x) (hm : ∃ a, X.mg x = some (.ref a) ∧ GDict X.K X.w.params a tbl) (hi : PE3 X i ti) (hs : NoSl i) (hd : (x == ("__debug__" : Str)) = false := by decide) : PE3 X (.Subscript (.Name x p1) i pos) (tGD3 tbl ti) := by
  obtain ⟨a, hm, rows, ep, hk, hn, gr⟩ := hm
  intro pins s σv H σ M Q I hS hM h
  refine subD_of PySem.F.slot_dict_getitem.lookup hs (thn (pe3_glob (d := .ref a) (v := .ref a) hg hm rfl (fun _ _ => .ref) hd pins s σv H σ M (fun d M1 => d = .ref a ∧ ti σ M1 fun d M1 => ∃ w xs, d = .str w ∧ tbl.lookup w = some xs ∧ Q (.tup (xs.map D.str)) M1) I hS hM ⟨rfl, h⟩) fun u s1 ⟨d, v, M1, H1, I1, st1, m1, r1, p1, e1, q1⟩ => ?_)
  subst e1
  cases p1
  obtain rfl : u = Value.ref a := r1
  refine thn (hi pins s1 σv H1 σ M1 _ I1 (hS.mono st1) m1 q1) fun iv s2 ⟨y, yv, M2, H2, I2, st2, m2, r2, p2, w, xs, e2, hl, q2⟩ => ?_
  subst e2
  cases p2
  have dd : s2.heap.DictOf (mixKind X.prog X.w) a (rowsV rows) := gdict_of (K := X.K) (I2.kIn a _ hk) hn
  obtain ⟨b, hv, kt⟩ := grows_look gr hl
  exact ⟨dd.typeIs, wpAny_getItem_of (kV_is (k := .inr w) r2) dd.mapOf hv ⟨_, .ref b, M2, H2, I2.tok _, st1.trans st2, m2, rfl, .tup (.inr kt) (strs_reps xs), q2⟩⟩
theorem rd_gd {tbl : List (Str × List Str)} {σ : Lo} {M : Mem} {Q : DK} (h : ti σ M fun d M1 => ∃ w xs, d = .str w ∧ tbl.lookup w = some xs ∧ Q (.tup (xs.map D.str)) M1) : tGD3 tbl ti σ M Q := h
end
end L3
set_option Elab.async false
set_option linter.all false
set_option maxRecDepth 100000
namespace L3
open PySem PySem.Spec PyProof.Rows L2
def tForR3 (te : TE3) (g : TG3) (tb : TS3) : TS3 := fun T σ M => te σ M fun d M1 => ∃ a ds, d = .ref a ∧ M1 a = some (.lst ds) ∧ ∃ Pv : Nat → Lo → Mem → Prop, Pv 0 σ M1 ∧
  (∀ k d σ M, ds[k]? = some d → Pv k σ M → M a = some (.lst ds) ∧ g d σ M fun σ' M' => tb { T with nx := Pv (k + 1), ct := Pv (k + 1), bk := T.nx } σ' M') ∧ ∀ σ M, Pv ds.length σ M → M a = some (.lst ds) ∧ T.nx σ M
theorem mref_sq {K : PySem.W.Frag} {M : Mem} {H : Hp} {a : Addr} {ds : List D} (m : MRel K M H) (h : M a = some (.lst ds)) : ∃ vs, SqL K H a vs ∧ Reps K M H ds vs := by
  obtain ⟨ho, e1, r⟩ := m _ _ h
  cases ho <;> first | exact (r : False).elim | skip
  exact ⟨_, .inl (.inl e1), r⟩
theorem ps3_forR {X : Cx} {tg iter : Expr} {body : List Stmt} {te : TE3} {g : TG3} {tb : TS3} {pos : Pos} (hp : PassesOwn (model X.prog X.w) X.A X.env X.xe) (hc : X.calm = true) (ha : PE3 X iter te)
    (hg : PG3 X tg g) (hb : PSs3 X body tb) (hs : ∀ y, foldedSetIterable iter X.env y = pure y := by intro _; rfl) :
    PS3 X (.For tg iter body [] pos) (tForR3 te g tb) := PS3.of (ps_for hp hc (pi_list ha.dn) hg hb.dn hs) fun pins s σv H σ M T I hS hM h => by
  refine ⟨σ, M, _, hS, hM, h, fun d v M1 H1 st1 m1 r q => ?_⟩
  obtain ⟨a, ds, rfl, hMa, Pv, p0, turn, done⟩ := q
  cases r
  obtain ⟨vs, sq, _⟩ := mref_sq m1 hMa
  refine ⟨a, rfl, ⟨vs, sq⟩, ?_⟩
  refine ⟨fun k m σv' H' => m = ds.length - k ∧ k ≤ ds.length ∧ ∃ σ' M', Step M1 H1 M' H' ∧ MRel X.K M' H' ∧ SRel X.K M' H' σ' σv' ∧ Pv k σ' M', ⟨_, rfl, Nat.zero_le _, σ, M1, .refl, m1, hS.mono st1, p0⟩, ?_⟩
  rintro k m σv' H' ⟨rfl, hk, σ', M', st', m', hS', pk⟩
  by_cases hlt : k < ds.length
  · obtain ⟨hma, tk⟩ := turn k ds[k] σ' M' (by simp [hlt]) pk
    obtain ⟨us, sq', rs⟩ := mref_sq m' hma
    obtain ⟨u, hu, ru⟩ := rs.get (i := k) (d := ds[k]) (by simp [hlt])
    refine .inr ⟨⟨us, u, sq', hu⟩, fun σ2 H2 => ∃ σ'' M'', Step M1 H1 M'' H2 ∧ MRel X.K M'' H2 ∧ SRel X.K M'' H2 σ'' σ2 ∧ Pv (k + 1) σ'' M'', ?_, ?_⟩
    · rintro σ2 H2 ⟨σ'', M'', q⟩
      exact ⟨ds.length - (k + 1), by lia, rfl, hlt, σ'', M'', q⟩
    · intro y H'' hy
      obtain ⟨rfl, hy⟩ := hy
      have hy2 := hy us sq'
      rw [hu] at hy2
      cases hy2
      refine ⟨ds[k], σ', M', _, ru, hS', m', tk, fun σ9 v9 M9 H9 s9 m9 r9 q9 => ?_⟩
      refine ⟨σ9, M9, _, r9, m9, q9, ?_⟩
      have s8 := st'.trans s9
      exact ⟨fun σ2 v2 M2 H2 s2 m2 r2 q2 => ⟨σ2, M2, s8.trans s2, m2, r2, q2⟩, fun σ2 v2 M2 H2 s2 m2 r2 q2 => ⟨σ2, M2, (st1.trans s8).trans s2, m2, r2, q2⟩,
        fun σ2 v2 M2 H2 s2 m2 r2 q2 => ⟨σ2, M2, s8.trans s2, m2, r2, q2⟩, fun d v2 M2 H2 s2 m2 r2 q2 => ⟨d, M2, (st1.trans s8).trans s2, m2, r2, q2⟩⟩
  · have e : k = ds.length := by lia
    subst e
    obtain ⟨hma, dn⟩ := done σ' M' pk
    obtain ⟨us, sq', rs⟩ := mref_sq m' hma
    exact .inl ⟨⟨us, sq', by rw [rs.length]; exact Nat.le_refl _⟩, σ', M', st1.trans st', m', hS', dn⟩
theorem rd_forR {te : TE3} {g : TG3} {tb : TS3} {T : Ends3} {σ : Lo} {M : Mem} (h : te σ M fun d M1 => ∃ a ds, d = .ref a ∧ M1 a = some (.lst ds) ∧ ∃ Pv : Nat → Lo → Mem → Prop, Pv 0 σ M1 ∧
  (∀ k d σ M, ds[k]? = some d → Pv k σ M → M a = some (.lst ds) ∧ g d σ M fun σ' M' => tb { T with nx := Pv (k + 1), ct := Pv (k + 1), bk := T.nx } σ' M') ∧ ∀ σ M, Pv ds.length σ M → M a = some (.lst ds) ∧ T.nx σ M) : tForR3 te g tb T σ M := h
end L3
set_option Elab.async false
set_option linter.all false
set_option maxRecDepth 100000
namespace MK
open PySem L2 L3
def ten30 : Int := 1000000000000000000000000000000
def bnd (n : Int) : Prop := -ten30 < n ∧ n < ten30
mutual
inductive Ex where
  | none | num (n : Int) | var (x : Str) | op (s : Str) (a b : Ex) | make (r : Str) (as : Exs)
inductive Exs where
  | nil | cons (a : Ex) (r : Exs)
end
mutual
def eD : Ex → D
  | .none => .tup [.str "none"]
  | .num n => .tup [.str "number", .int n]
  | .var x => .tup [.str "var", .str x]
  | .op s a b => .tup [.str "op", .str s, eD a, eD b]
  | .make r as => .tup [.str "make", .str r, .tup (eDs as)]
def eDs : Exs → List D
  | .nil => []
  | .cons a r => eD a :: eDs r
end
mutual
def nd : Ex → Nat
  | .none => 1
  | .num _ => 1
  | .var _ => 1
  | .op _ a b => 1 + nd a + nd b
  | .make _ as => 1 + nds as
def nds : Exs → Nat
  | .nil => 0
  | .cons a r => nd a + nds r
end
mutual
def dp : Ex → Nat
  | .none => 1
  | .num _ => 1
  | .var _ => 1
  | .op _ a b => 1 + max (dp a) (dp b)
  | .make _ as => 1 + dps as
def dps : Exs → Nat
  | .nil => 0
  | .cons a r => max (dp a) (dps r)
end
def exl : Exs → Nat
  | .nil => 0
  | .cons _ r => exl r + 1
end MK
set_option Elab.async false
set_option linter.all false
set_option maxRecDepth 100000
namespace P2
open PySem L2 L3
def penO (ns : List Int) (a l : Int) : MO := .dct [(.inr "script", .lst (ns.map D.int)), (.inr "at", .int a), (.inr "great", .int l)]
def Pen (M : Mem) (p : Addr) (b : Nat) : Prop := ∃ ns a l, M p = some (penO ns a l) ∧ ns.length ≤ 1000 ∧ 0 ≤ a ∧ a ≤ (b : Int) ∧ 0 ≤ l
def spPen : Sp3 := fun ds M Q => ∃ ns : List Int, ds = [.lst (ns.map D.int)] ∧ ns.length ≤ 1000 ∧ ∀ p M', M p = none → Pen M' p 0 → Same3 p M M' → Q (.ref p) M'
def spDraw : Sp3 := fun ds M Q => ∃ p many b, ds = [.ref p, .int many] ∧ Pen M p b ∧ b < 2 ^ 30 ∧ 0 < many ∧ many < 2 ^ 200 ∧ ∀ n M', 0 ≤ n → n < many → Pen M' p (b + 1) → Same3 p M M' → Q (.int n) M'
theorem pen_mono {M : Mem} {p : Addr} {b c : Nat} (h : Pen M p b) (hc : b ≤ c) : Pen M p c := by
  obtain ⟨ns, a, l, h1, h2, h3, h4, h5⟩ := h
  exact ⟨ns, a, l, h1, h2, h3, by lia, h5⟩
theorem draw {p : Addr} {many : Int} {b : Nat} {M : Mem} {Q : DK} (hP : Pen M p b) (hb : b < 2 ^ 30) (h0 : 0 < many) (h1 : many < 2 ^ 200) (h : ∀ n M', 0 ≤ n → n < many → Pen M' p (b + 1) → Same3 p M M' → Q (.int n) M') : spDraw [.ref p, .int many] M Q :=
  ⟨p, many, b, rfl, hP, hb, h0, h1, h⟩
theorem pen_same {M M' : Mem} {p q : Addr} {b : Nat} (h : Pen M q b) (s : Same3 p M M') (hn : q ≠ p) : Pen M' q b := by
  obtain ⟨ns, a, l, h1, h2⟩ := h
  exact ⟨ns, a, l, by rw [s q hn]; exact h1, h2⟩
theorem pen_put {M : Mem} {p q : Addr} {b : Nat} {o : MO} (h : Pen M q b) (hn : q ≠ p) : Pen (mput M p o) q b := pen_same h (fun a ha => mput_ne ha) hn
theorem pen_ne {M : Mem} {p q : Addr} {b : Nat} (h : Pen M q b) (hp : M p = none) : q ≠ p := by
  rintro rfl
  obtain ⟨ns, a, l, h1, _⟩ := h
  rw [hp] at h1; cases h1
theorem pen_del {M : Mem} {p a : Addr} {b : Nat} (h : Pen M p b) (hn : p ≠ a) : Pen (mdel M a) p b := pen_same h (p := a) (fun _ hb => mdel_ne hb) hn
theorem comp_penN {g : TG3} {tt : TT3} {te : TE3} {σ0 : Lo} {M1 : Mem} {Q : DK} {ds : List D} {q : Addr} {b : Nat} (c : Nat) (P : Nat → D → D → Prop) (hP : Pen M1 q b) (hl : ds.length < sizeLine)
    (turn : ∀ (k : Nat) d M2 (R : D → Mem → Prop) (F : Mem → Prop), ds[k]? = some d → Pen M2 q (b + c * k) → (∀ a, M1 a ≠ none → a ≠ q → M2 a = M1 a) → (∀ e M5, P k d e → Pen M5 q (b + c * (k + 1)) → Same3 q M2 M5 → R e M5) →
      g d σ0 M2 fun σ' M3 => tt σ' M3 fun bb M4 => if bb = true then te σ' M4 R else F M4)
    (done : ∀ (acc : List D) M2, acc.length = ds.length → (∀ (k : Nat) d e, ds[k]? = some d → acc[k]? = some e → P k d e) → Pen M2 q (b + c * ds.length) → Same3 q M1 M2 → Q (.lst acc) M2) : CompB g tt te σ0 ds M1 Q := by
  intro p hp
  have hqp := pen_ne hP hp
  refine ⟨fun k acc M2 => acc.length = k ∧ (∀ (j : Nat) d e, ds[j]? = some d → acc[j]? = some e → P j d e) ∧ Pen M2 q (b + c * k) ∧ M2 p = some (.lst acc) ∧ ∀ a, a ≠ q → a ≠ p → M2 a = M1 a, ⟨rfl, fun j d e _ h => by simp at h, by rw [Nat.mul_zero, Nat.add_zero]; exact pen_put hP hqp, mput_same, fun a _ ha => mput_ne ha⟩, ?_, ?_⟩
  · rintro k d acc M2 hd ⟨hk, hall, hpen, hacc, hsame⟩
    have hkl : k < ds.length := (List.getElem?_eq_some_iff.mp hd).1
    refine turn k d M2 _ _ hd hpen (fun a ha hq => hsame a hq (by rintro rfl; exact ha hp)) fun e M5 he hp5 hs5 => ?_
    refine ⟨by rw [hs5 p (Ne.symm hqp)]; exact hacc, by lia, by simp [hk], fun j d' e' hd' he' => ?_, pen_put hp5 hqp, mput_same, fun a ha1 ha2 => ?_⟩
    · rcases Nat.lt_or_ge j acc.length with hj | hj
      · rw [List.getElem?_append_left hj] at he'
        exact hall j d' e' hd' he'
      · rw [List.getElem?_append_right hj] at he'
        have hj0 : j - acc.length = 0 := by
          rcases Nat.eq_zero_or_pos (j - acc.length) with z | z
          · exact z
          · rw [List.getElem?_eq_none (by simp; lia)] at he'; cases he'
        rw [hj0] at he'
        cases he'
        have : j = k := by lia
        subst this
        rw [hd] at hd'; cases hd'
        exact he
    · rw [mput_ne ha2, hs5 a ha1]; exact hsame a ha1 ha2
  · rintro acc M2 ⟨hk, hall, hpen, hacc, hsame⟩
    refine ⟨hacc, done acc (mdel M2 p) hk hall ?_ fun a ha => ?_⟩
    · exact pen_same hpen (p := p) (fun a ha => mdel_ne ha) hqp
    · by_cases hap : a = p
      · subst hap; rw [mdel_same, hp]
      · rw [mdel_ne hap]; exact hsame a ha hap
end P2
set_option Elab.async false
set_option linter.all false
set_option maxRecDepth 100000
namespace P2
open PySem L2 L3
open MK (Ex Exs eD eDs nd nds dp dps exl bnd ten30)
mutual
def exT : Ex → Str
  | .none => "none"
  | .num n => tI n
  | .var x => x
  | .op s a b => "(" ++ exT a ++ " " ++ s ++ " " ++ exT b ++ ")"
  | .make r as => "make " ++ r ++ "(" ++ Txt.join ", " (exTs as) ++ ")"
def exTs : Exs → List Str
  | .nil => []
  | .cons a r => exT a :: exTs r
end
mutual
def wf : Ex → Prop
  | .none => True
  | .num n => bnd n
  | .var x => x.length ≤ 20
  | .op s a b => s.length = 1 ∧ wf a ∧ wf b
  | .make r as => r.length ≤ 20 ∧ exl as ≤ 3 ∧ wfs as
def wfs : Exs → Prop
  | .nil => True
  | .cons a r => wf a ∧ wfs r
end
def rl (x : Str × Nat) : D := .tup [.str x.1, .int x.2]
def FactsOk (M : Mem) (f p : Addr) : Prop := ∃ (kds : List (Key × D)) (r : Addr) (ns : List Str) (rs : List (Str × Nat)), M f = some (.dct kds) ∧ valD kds (.inr "names") = some (.lst (ns.map D.str)) ∧ valD kds (.inr "rules") = some (.ref r) ∧ M r = some (.lst (rs.map rl)) ∧
  (ns ≠ [] ∧ ns.length ≤ 9 ∧ ∀ x ∈ ns, x.length ≤ 20) ∧ (rs ≠ [] ∧ rs.length ≤ 8 ∧ ∀ x ∈ rs, x.1.length ≤ 20 ∧ x.2 ≤ 3) ∧ f ≠ p ∧ r ≠ p
def spLetters : Sp3 := fun ds M Q => ∃ p b, ∃ n : Int, ds = [.ref p, .int n] ∧ Pen M p b ∧ b + 12 < 2 ^ 30 ∧ 0 ≤ n ∧ n ≤ 10 ∧ ∀ x M', (x.length : Int) = n → Pen M' p (b + 10) → Same3 p M M' → Q (.str x) M'
def spNames : Sp3 := fun ds M Q => ∃ p b, ∃ n : Int, ds = [.ref p, .int n] ∧ Pen M p b ∧ b + 30 < 2 ^ 30 ∧ 0 ≤ n ∧ n ≤ 9 ∧ ∀ (ys : List Str) M', (ys.length : Int) = n → (∀ y ∈ ys, y.length ≤ 20) → Pen M' p (b + 20) → Same3 p M M' → Q (.lst (ys.map D.str)) M'
def spNumber : Sp3 := fun ds M Q => ∃ p b, ds = [.ref p] ∧ Pen M p b ∧ b + 12 < 2 ^ 30 ∧ ∀ n M', bnd n → Pen M' p (b + 10) → Same3 p M M' → Q (.int n) M'
def spLeaf : Sp3 := fun ds M Q => ∃ p f b, ds = [.ref p, .ref f] ∧ FactsOk M f p ∧ Pen M p b ∧ b + 30 < 2 ^ 30 ∧ ∀ x M', wf x → nd x = 1 → dp x = 1 → Pen M' p (b + 20) → Same3 p M M' → Q (.tup [eD x, .str (exT x)]) M'
def cst : Nat → Nat
  | 0 => 0
  | n + 1 => 3 * cst n + 40
def spExpr (n : Nat) : Sp3 := fun ds M Q => ∃ p f b, ∃ deep parts : Nat, ds = [.ref p, .ref f, .int deep, .int parts] ∧ FactsOk M f p ∧ Pen M p b ∧ b + cst n < 2 ^ 30 ∧ (1 ≤ parts ∧ parts ≤ 9) ∧ (1 ≤ deep ∧ deep ≤ n ∧ deep ≤ 4) ∧
  ∀ x M', wf x → nd x ≤ parts → dp x ≤ deep → Pen M' p (b + cst n) → Same3 p M M' → Q (.tup [eD x, .str (exT x)]) M'
def spWT : Sp3 := fun ds M Q => ∃ e, ds = [eD e] ∧ (e = .none ∨ ∃ n, e = .num n ∧ bnd n) ∧ Q (.str (exT e)) M
def spET (n : Nat) : Sp3 := fun ds M Q => ∃ e, ds = [eD e] ∧ wf e ∧ dp e ≤ n ∧ nd e ≤ 9 ∧ Q (.str (exT e)) M
end P2
set_option Elab.async false
set_option linter.all false
set_option maxRecDepth 100000
namespace P2
open PySem L2 L3
abbrev N_worth_text : List Str := ["worth"]
def t_worth_text : TS3 :=
    (tSeq3 (tIfS3 (tTest3 (tOp3 rEq3 (tOp3 rIx3 (tVar3 0) (tC3 (.int 0))) (tC3 (.str "none")))) (tRet3 (tC3 (.str "none"))) tNext3)
    (tSeq3 (tIfS3 (tTest3 (tOp3 rEq3 (tOp3 rIx3 (tVar3 0) (tC3 (.int 0))) (tC3 (.str "giver")))) (tRet3 (tJoin3 [(tC3 (.str "#")), (tFmt3 (tOp3 rIx3 (tVar3 0) (tC3 (.int 1))))])) tNext3)
    (tRet3 (tCB3 rStr3 (tCons3 (tOp3 rIx3 (tVar3 0) (tC3 (.int 1))) tNil3)))))
theorem st_worth_text (d0 : D) : start3 N_worth_text [d0] = [some d0] := rfl
abbrev N_expression_text : List Str := ["expression", "args"]
def t_expression_text (q_expression_text : Sp3) : TS3 :=
    (tSeq3 (tIfS3 (tTest3 (tOp3 rEq3 (tOp3 rIx3 (tVar3 0) (tC3 (.int 0))) (tC3 (.str "op")))) (tRet3 (tJoin3 [(tC3 (.str "(")), (tFmt3 (tCall3 q_expression_text (tCons3 (tOp3 rIx3 (tVar3 0) (tC3 (.int 2))) tNil3))), (tC3 (.str " ")), (tFmt3 (tOp3 rIx3 (tVar3 0) (tC3 (.int 1)))), (tC3 (.str " ")), (tFmt3 (tCall3 q_expression_text (tCons3 (tOp3 rIx3 (tVar3 0) (tC3 (.int 3))) tNil3))), (tC3 (.str ")"))])) tNext3)
    (tSeq3 (tIfS3 (tTest3 (tOp3 rEq3 (tOp3 rIx3 (tVar3 0) (tC3 (.int 0))) (tC3 (.str "make")))) (tSeq3 (tSet3 1 (tBM3 "str" rJoin3 (tC3 (.str ", ")) (tCons3 (tComp3 (iTup3 (tOp3 rIx3 (tVar3 0) (tC3 (.int 2)))) 1 [] (gName3 0) tTrue3 (tCall3 q_expression_text (tCons3 (tVar3 0) tNil3))) tNil3)))
    (tRet3 (tJoin3 [(tC3 (.str "make ")), (tFmt3 (tOp3 rIx3 (tVar3 0) (tC3 (.int 1)))), (tC3 (.str "(")), (tFmt3 (tVar3 1)), (tC3 (.str ")"))]))) tNext3)
    (tSeq3 (tIfS3 (tTest3 (tOp3 rEq3 (tOp3 rIx3 (tVar3 0) (tC3 (.int 0))) (tC3 (.str "var")))) (tRet3 (tOp3 rIx3 (tVar3 0) (tC3 (.int 1)))) tNext3)
    (tRet3 (tCall3 spWT (tCons3 (tVar3 0) tNil3))))))
theorem st_expression_text (d0 : D) : start3 N_expression_text [d0] = [some d0, none] := rfl
abbrev N__law_pen : List Str := ["_law_script"]
def t__law_pen : TS3 :=
    (tRet3 (tDispM3 [((tC3 (.str "script")), (tVar3 0)), ((tC3 (.str "at")), (tC3 (.int 0))), ((tC3 (.str "great")), (tC3 (.int 0)))]))
theorem st__law_pen (d0 : D) : start3 N__law_pen [d0] = [some d0] := rfl
abbrev N__law_draw : List Str := ["_law_pen_here", "_law_many", "_law_digit", "_law_script", "_law_at", "_law_cell", "_law_number_here"]
def t__law_draw : TS3 :=
    (tSeq3 (tIfS3 (tTest3 (tOp3 rGt3 (tOp3 rDGet3 (tVar3 0) (tC3 (.str "great"))) (tC3 (.int 0)))) (tSeq3 (tSet3 2 (tOp3 rMod3 (tOp3 rDGet3 (tVar3 0) (tC3 (.str "great"))) (tVar3 1)))
    (tSeq3 (tDPut3 (tVar3 0) (tC3 (.str "great")) (tOp3 rFdiv3 (tOp3 rDGet3 (tVar3 0) (tC3 (.str "great"))) (tVar3 1)))
    (tRet3 (tVar3 2)))) tNext3)
    (tSeq3 (tSet3 3 (tOp3 rDGet3 (tVar3 0) (tC3 (.str "script"))))
    (tSeq3 (tSet3 4 (tOp3 rDGet3 (tVar3 0) (tC3 (.str "at"))))
    (tSeq3 (tDPut3 (tVar3 0) (tC3 (.str "at")) (tOp3 rAdd3 (tVar3 4) (tC3 (.int 1))))
    (tSeq3 (tSet3 5 (tOp3 rAdd3 (tOp3 rMul3 (tC3 (.int 60169)) (tVar3 4)) (tC3 (.int 77))))
    (tSeq3 (tIfS3 (tTest3 (tOp3 rNe3 (tVar3 3) (tLst3 tNil3))) (tSet3 5 (tOp3 rIx3 (tVar3 3) (tOp3 rMod3 (tVar3 4) (tCB3 rLen3 (tCons3 (tVar3 3) tNil3))))) tNext3)
    (tSeq3 (tIfS3 (tAnd3 (tTest3 (tOp3 rLt3 (tVar3 4) (tCB3 rLen3 (tCons3 (tVar3 3) tNil3)))) (tTest3 (tOp3 rGe3 (tCB3 rAbs3 (tCons3 (tVar3 5) tNil3)) (tOp3 rPow3 (tC3 (.int 10)) (tC3 (.int 18)))))) (tSeq3 (tDPut3 (tVar3 0) (tC3 (.str "great")) (tOp3 rFdiv3 (tCB3 rAbs3 (tCons3 (tVar3 5) tNil3)) (tVar3 1)))
    (tRet3 (tOp3 rMod3 (tCB3 rAbs3 (tCons3 (tVar3 5) tNil3)) (tVar3 1)))) tNext3)
    (tSeq3 (tSet3 6 (tOp3 rMod3 (tOp3 rMul3 (tOp3 rAdd3 (tOp3 rAdd3 (tOp3 rMod3 (tVar3 5) (tC3 (.int 2147483563))) (tOp3 rMul3 (tC3 (.int 6151)) (tVar3 4))) (tC3 (.int 1))) (tC3 (.int 40014))) (tC3 (.int 2147483563))))
    (tSeq3 (tSet3 6 (tOp3 rMod3 (tOp3 rAdd3 (tOp3 rAdd3 (tOp3 rMul3 (tVar3 6) (tVar3 6)) (tOp3 rMul3 (tC3 (.int 60013)) (tVar3 6))) (tVar3 4)) (tC3 (.int 2147483399))))
    (tSeq3 (tSet3 6 (tOp3 rMod3 (tOp3 rAdd3 (tOp3 rAdd3 (tOp3 rMul3 (tVar3 6) (tVar3 6)) (tOp3 rMul3 (tC3 (.int 30011)) (tVar3 6))) (tC3 (.int 7))) (tC3 (.int 2147483353))))
    (tRet3 (tOp3 rMod3 (tOp3 rFdiv3 (tVar3 6) (tC3 (.int 32))) (tVar3 1)))))))))))))
theorem st__law_draw (d0 d1 : D) : start3 N__law_draw [d0, d1] = [some d0, some d1, none, none, none, none, none] := rfl
abbrev N__law_letters : List Str := ["_law_pen_here", "_law_many"]
def t__law_letters : TS3 :=
    (tRet3 (tBM3 "str" rJoin3 (tC3 (.str "")) (tCons3 (tComp3 (iRng3 (tCons3 (tVar3 1) tNil3)) 1 [0] (gName3 0) tTrue3 (tOp3 rIx3 (tC3 (.str "abcdefghijklmnopqrstuvwxyz")) (tCall3 spDraw (tCons3 (tVar3 1) (tCons3 (tC3 (.int 26)) tNil3))))) tNil3)))
theorem st__law_letters (d0 d1 : D) : start3 N__law_letters [d0, d1] = [some d0, some d1] := rfl
abbrev N__law_names : List Str := ["_law_pen_here", "_law_many", "_law_letters_here", "_law_stem", "_law_at", "_law_turn", "_law_shut", "_law_found", "_law_k"]
def t__law_names : TS3 :=
    (tSeq3 (tSet3 2 (tC3 (.str "abcdefghijklmnopqrstuvwxyz")))
    (tSeq3 (tSet3 3 (tCall3 spLetters (tCons3 (tVar3 0) (tCons3 (tCall3 spDraw (tCons3 (tVar3 0) (tCons3 (tC3 (.int 8)) tNil3))) tNil3))))
    (tSeq3 (tSet3 4 (tCall3 spDraw (tCons3 (tVar3 0) (tCons3 (tOp3 rAdd3 (tCB3 rLen3 (tCons3 (tVar3 3) tNil3)) (tC3 (.int 1))) tNil3))))
    (tSeq3 (tSet3 5 (tCall3 spDraw (tCons3 (tVar3 0) (tCons3 (tC3 (.int 26)) tNil3))))
    (tSeq3 (tSet3 6 (tTup3 (tCons3 (tC3 (.str "any")) (tCons3 (tC3 (.str "ask")) (tCons3 (tC3 (.str "cast")) (tCons3 (tC3 (.str "catch")) (tCons3 (tC3 (.str "close")) (tCons3 (tC3 (.str "else")) (tCons3 (tC3 (.str "end")) (tCons3 (tC3 (.str "fault")) (tCons3 (tC3 (.str "give")) (tCons3 (tC3 (.str "if")) (tCons3 (tC3 (.str "last")) (tCons3 (tC3 (.str "leave")) tNil3))))))))))))))
    (tSeq3 (tSet3 6 (tOp3 rAdd3 (tVar3 6) (tTup3 (tCons3 (tC3 (.str "make")) (tCons3 (tC3 (.str "none")) (tCons3 (tC3 (.str "note")) (tCons3 (tC3 (.str "on")) (tCons3 (tC3 (.str "rule")) (tCons3 (tC3 (.str "try")) (tCons3 (tC3 (.str "while")) tNil3))))))))))
    (tSeq3 (tSet3 7 (tLstM3 tNil3))
    (tSeq3 (tFor3 (iRng3 (tCons3 (tVar3 1) tNil3)) 8 (tDrop3 (tBM3 "list" rAppend3 (tVar3 7) (tCons3 (tOp3 rAdd3 (tOp3 rAdd3 (tSlA3 (tVar3 3) tNoPart3 (tPart3 (tVar3 4))) (tOp3 rIx3 (tVar3 2) (tOp3 rMod3 (tOp3 rAdd3 (tVar3 5) (tVar3 8)) (tC3 (.int 26))))) (tSlA3 (tVar3 3) (tPart3 (tVar3 4)) tNoPart3)) tNil3))))
    (tFrz3 7 (tSeq3 (tIfS3 (tTest3 (tCB3 rAny3 (tCons3 (tComp3 (iList3 (tVar3 7)) 1 [6] (gName3 0) tTrue3 (tOp3 (rIn3 false) (tVar3 0) (tVar3 1))) tNil3))) (tRet3 (tComp3 (iList3 (tVar3 7)) 1 [] (gName3 0) tTrue3 (tOp3 rAdd3 (tVar3 0) (tC3 (.str "q"))))) tNext3)
    (tRet3 (tVar3 7))))))))))))
theorem st__law_names (d0 d1 : D) : start3 N__law_names [d0, d1] = [some d0, some d1, none, none, none, none, none, none, none] := rfl
abbrev N__law_number : List Str := ["_law_pen_here", "_law_number_here", "_law_k"]
def t__law_number : TS3 :=
    (tSeq3 (tSet3 1 (tCall3 spDraw (tCons3 (tVar3 0) (tCons3 (tC3 (.int 12)) tNil3))))
    (tSeq3 (tIfS3 (tTest3 (tOp3 rEq3 (tCall3 spDraw (tCons3 (tVar3 0) (tCons3 (tC3 (.int 2)) tNil3))) (tC3 (.int 1)))) (tFor3 (iRng3 (tCons3 (tOp3 rAdd3 (tC3 (.int 4)) (tCall3 spDraw (tCons3 (tVar3 0) (tCons3 (tC3 (.int 2)) tNil3)))) tNil3)) 2 (tSet3 1 (tOp3 rMod3 (tOp3 rAdd3 (tOp3 rMul3 (tVar3 1) (tOp3 rPow3 (tC3 (.int 10)) (tC3 (.int 6)))) (tCall3 spDraw (tCons3 (tVar3 0) (tCons3 (tOp3 rPow3 (tC3 (.int 10)) (tC3 (.int 6))) tNil3)))) (tOp3 rPow3 (tC3 (.int 10)) (tC3 (.int 30)))))) tNext3)
    (tRet3 (tOp3 rMul3 (tVar3 1) (tOp3 rSub3 (tC3 (.int 1)) (tOp3 rMul3 (tC3 (.int 2)) (tCall3 spDraw (tCons3 (tVar3 0) (tCons3 (tC3 (.int 2)) tNil3)))))))))
theorem st__law_number (d0 : D) : start3 N__law_number [d0] = [some d0, none, none] := rfl
abbrev N__law_leaf : List Str := ["_law_pen_here", "_law_facts", "_law_way", "_law_number_here", "_law_name"]
def t__law_leaf : TS3 :=
    (tSeq3 (tSet3 2 (tCall3 spDraw (tCons3 (tVar3 0) (tCons3 (tC3 (.int 5)) tNil3))))
    (tSeq3 (tIfS3 (tTest3 (tOp3 rEq3 (tVar3 2) (tC3 (.int 0)))) (tRet3 (tTup3 (tCons3 (tTup3 (tCons3 (tC3 (.str "none")) tNil3)) (tCons3 (tC3 (.str "none")) tNil3)))) tNext3)
    (tSeq3 (tIfS3 (tTest3 (tOp3 rLt3 (tVar3 2) (tC3 (.int 3)))) (tSeq3 (tSet3 3 (tCall3 spNumber (tCons3 (tVar3 0) tNil3)))
    (tRet3 (tTup3 (tCons3 (tTup3 (tCons3 (tC3 (.str "number")) (tCons3 (tVar3 3) tNil3))) (tCons3 (tCB3 rStr3 (tCons3 (tVar3 3) tNil3)) tNil3))))) tNext3)
    (tSeq3 (tSet3 4 (tOp3 rIx3 (tOp3 rDGet3 (tVar3 1) (tC3 (.str "names"))) (tCall3 spDraw (tCons3 (tVar3 0) (tCons3 (tCB3 rLen3 (tCons3 (tOp3 rDGet3 (tVar3 1) (tC3 (.str "names"))) tNil3)) tNil3)))))
    (tRet3 (tTup3 (tCons3 (tTup3 (tCons3 (tC3 (.str "var")) (tCons3 (tVar3 4) tNil3))) (tCons3 (tVar3 4) tNil3))))))))
theorem st__law_leaf (d0 d1 : D) : start3 N__law_leaf [d0, d1] = [some d0, some d1, none, none, none] := rfl
abbrev N__law_expression : List Str := ["_law_pen_here", "_law_facts", "_law_deep", "_law_parts", "_law_way", "_law_sign", "_law_share", "_law_left", "_law_right", "_law_name", "_law_count", "_law_args", "_law_text"]
def t__law_expression (q__law_expression : Sp3) : TS3 :=
    (tSeq3 (tSet3 4 (tCall3 spDraw (tCons3 (tVar3 0) (tCons3 (tC3 (.int 5)) tNil3))))
    (tSeq3 (tIfS3 (tAnd3 (tTest3 (tOp3 rGt3 (tVar3 2) (tC3 (.int 1)))) (tAnd3 (tTest3 (tOp3 rGt3 (tVar3 3) (tC3 (.int 2)))) (tTest3 (tOp3 rLt3 (tVar3 4) (tC3 (.int 2)))))) (tSeq3 (tSet3 5 (tOp3 rIx3 (tC3 (.str "+-*<=")) (tCall3 spDraw (tCons3 (tVar3 0) (tCons3 (tC3 (.int 5)) tNil3)))))
    (tSeq3 (tSet3 6 (tOp3 rAdd3 (tC3 (.int 1)) (tCall3 spDraw (tCons3 (tVar3 0) (tCons3 (tOp3 rSub3 (tVar3 3) (tC3 (.int 2))) tNil3)))))
    (tSeq3 (tSet3 7 (tCall3 q__law_expression (tCons3 (tVar3 0) (tCons3 (tVar3 1) (tCons3 (tOp3 rSub3 (tVar3 2) (tC3 (.int 1))) (tCons3 (tVar3 6) tNil3))))))
    (tSeq3 (tSet3 8 (tCall3 q__law_expression (tCons3 (tVar3 0) (tCons3 (tVar3 1) (tCons3 (tOp3 rSub3 (tVar3 2) (tC3 (.int 1))) (tCons3 (tOp3 rSub3 (tOp3 rSub3 (tVar3 3) (tC3 (.int 1))) (tVar3 6)) tNil3))))))
    (tRet3 (tTup3 (tCons3 (tTup3 (tCons3 (tC3 (.str "op")) (tCons3 (tVar3 5) (tCons3 (tOp3 rIx3 (tVar3 7) (tC3 (.int 0))) (tCons3 (tOp3 rIx3 (tVar3 8) (tC3 (.int 0))) tNil3))))) (tCons3 (tOp3 rAdd3 (tOp3 rAdd3 (tOp3 rAdd3 (tOp3 rAdd3 (tOp3 rAdd3 (tOp3 rAdd3 (tC3 (.str "(")) (tOp3 rIx3 (tVar3 7) (tC3 (.int 1)))) (tC3 (.str " "))) (tVar3 5)) (tC3 (.str " "))) (tOp3 rIx3 (tVar3 8) (tC3 (.int 1)))) (tC3 (.str ")"))) tNil3)))))))) tNext3)
    (tSeq3 (tAsg3 (gTup3 [9, 10]) (tOp3 rIx3 (tOp3 rDGet3 (tVar3 1) (tC3 (.str "rules"))) (tCall3 spDraw (tCons3 (tVar3 0) (tCons3 (tCB3 rLen3 (tCons3 (tOp3 rDGet3 (tVar3 1) (tC3 (.str "rules"))) tNil3)) tNil3)))))
    (tSeq3 (tIfS3 (tAnd3 (tTest3 (tOp3 rEq3 (tVar3 4) (tC3 (.int 2)))) (tOr3 (tTest3 (tOp3 rEq3 (tVar3 10) (tC3 (.int 0)))) (tAnd3 (tTest3 (tOp3 rGt3 (tVar3 2) (tC3 (.int 1)))) (tTest3 (tOp3 rGt3 (tVar3 3) (tVar3 10)))))) (tSeq3 (tSet3 11 (tComp3 (iRng3 (tCons3 (tVar3 10) tNil3)) 1 [0, 1, 2, 10, 3] (gName3 0) tTrue3 (tCall3 q__law_expression (tCons3 (tVar3 1) (tCons3 (tVar3 2) (tCons3 (tOp3 rSub3 (tVar3 3) (tC3 (.int 1))) (tCons3 (tOp3 rFdiv3 (tOp3 rSub3 (tVar3 5) (tC3 (.int 1))) (tVar3 4)) tNil3)))))))
    (tSeq3 (tSet3 12 (tOp3 rAdd3 (tOp3 rAdd3 (tOp3 rAdd3 (tOp3 rAdd3 (tC3 (.str "make ")) (tVar3 9)) (tC3 (.str "("))) (tBM3 "str" rJoin3 (tC3 (.str ", ")) (tCons3 (tComp3 (iList3 (tVar3 11)) 1 [] (gName3 0) tTrue3 (tOp3 rIx3 (tVar3 0) (tC3 (.int 1)))) tNil3))) (tC3 (.str ")"))))
    (tRet3 (tTup3 (tCons3 (tTup3 (tCons3 (tC3 (.str "make")) (tCons3 (tVar3 9) (tCons3 (tCB3 rTuple3 (tCons3 (tComp3 (iList3 (tVar3 11)) 1 [] (gName3 0) tTrue3 (tOp3 rIx3 (tVar3 0) (tC3 (.int 0)))) tNil3)) tNil3)))) (tCons3 (tVar3 12) tNil3)))))) tNext3)
    (tRet3 (tCall3 spLeaf (tCons3 (tVar3 0) (tCons3 (tVar3 1) tNil3))))))))
theorem st__law_expression (d0 d1 d2 d3 : D) : start3 N__law_expression [d0, d1, d2, d3] = [some d0, some d1, some d2, some d3, none, none, none, none, none, none, none, none, none] := rfl
end P2
set_option Elab.async false
set_option linter.all false
set_option maxRecDepth 100000
open L3
local macro_rules | `(tactic| walk_at "r2") => `(tactic| first | (with_reducible first | refine rd_seq ?_ | refine rd_ifs ?_ | refine rd_test ?_ | refine rd_op ?_ | refine rd_un ?_ | refine rd_c ?_ | refine rd_ret ?_ | refine rd_set ?_ | refine rd_drop ?_ | refine rd_next ?_ | refine rd_call ?_ | refine rd_cb ?_ | refine rd_nil ?_ | refine rd_cons ?_ | refine rd_tupE ?_ | refine rd_lstE ?_ | refine rd_and ?_ | refine rd_or ?_ | refine rd_not ?_ | refine rd_andV ?_ | refine rd_orV ?_ | refine rd_notV ?_ | refine rd_if3 ?_ | refine rd_chain ?_ | refine rd_sl ?_ | refine rd_np ?_ | refine rd_part ?_ | refine rd_bl ?_ | refine rd_iteT ?_ | refine rd_iteF ?_ | refine rd_iteNT ?_ | refine rd_iteNF ?_ | refine rd_I0 ?_ | refine rd_U ?_ | refine rd_addI ?_ | refine rd_lenL ?_ | refine rd_lenT ?_ | refine rd_abs ?_ | refine rd_intI ?_ | refine rd_intB ?_ | refine rd_listL ?_ | refine rd_listT ?_ | refine rd_slL ?_ | refine rd_isN ?_ | refine rd_isntN ?_ | refine rd_asg ?_ | refine rd_gName ?_ | refine rd_true ?_ | refine rd_bm ?_ | refine rd_slA ?_ | refine rd_slAL ?_ | refine rd_intTI ?_ | refine rd_intTB ?_ | refine rd_join3 ?_ | refine rd_parts ?_ | refine rd_fmt ?_ | refine rd_lstM ?_ | refine rd_minI ?_ | refine rd_tupL ?_ | refine rd_tupT ?_ | refine rd_comp ?_ | refine rd_forG ?_ | refine rd_iStr ?_ | refine rd_iTup ?_ | refine rd_iList ?_ | refine rd_onStr ?_ | refine rd_onTup ?_ | refine rd_onLst ?_ | refine rd_eqI ?_ | refine rd_neI ?_ | refine rd_eqB ?_ | refine rd_neB ?_ | refine rd_eqS ?_ | refine rd_neS ?_ | refine rd_for ?_ | refine rd_rng ?_) | ((with_reducible show tVar3 _ _ _ _); refine rd_var rfl ?_) | ((with_reducible show _ ∧ _); refine ⟨(by first | decide | (simp only [List.length_cons, List.length_nil]; decide)), ?_⟩))
local macro_rules | `(tactic| walk_at "rd") => `(tactic| repeat walk_at "r2")
namespace P2
open PySem L2 L3
open MK (Ex Exs eD eDs nd nds dp dps exl bnd ten30)
theorem k_sa : ¬ (("script" : Str) = "at") := by decide +kernel
theorem k_sg : ¬ (("script" : Str) = "great") := by decide +kernel
theorem k_ag : ¬ (("at" : Str) = "great") := by decide +kernel
theorem k_ga : ¬ (("great" : Str) = "at") := by decide +kernel
theorem merge_pen (x y z : D) : mergeD [] [(.inr "script", x), (.inr "at", y), (.inr "great", z)] = ([(.inr "script", x), (.inr "at", y), (.inr "great", z)] : List (Key × D)) := by
  simp [mergeD, putD, inr_ne k_sa, inr_ne k_sg, inr_ne k_ag]
theorem put_great (x y z d : D) : putD [(.inr "script", x), (.inr "at", y), (.inr "great", z)] (.inr "great") d = ([(.inr "script", x), (.inr "at", y), (.inr "great", d)] : List (Key × D)) := by
  simp [putD, inr_ne k_sg, inr_ne k_ag]
theorem put_at (x y z d : D) : putD [(.inr "script", x), (.inr "at", y), (.inr "great", z)] (.inr "at") d = ([(.inr "script", x), (.inr "at", d), (.inr "great", z)] : List (Key × D)) := by
  simp [putD, inr_ne k_sa, inr_ne k_ga]
theorem get_great {ns : List Int} {a l : Int} {M : Mem} {p : Addr} {Q : DK} (h : M p = some (penO ns a l)) (q : Q (.int l) M) : rDGet3 (.ref p) (.str "great") M Q :=
  rd_dgetR h (by simp [valD, inr_ne k_sg, inr_ne k_ag]) q
theorem get_at {ns : List Int} {a l : Int} {M : Mem} {p : Addr} {Q : DK} (h : M p = some (penO ns a l)) (q : Q (.int a) M) : rDGet3 (.ref p) (.str "at") M Q :=
  rd_dgetR h (by simp [valD, inr_ne k_sa]) q
theorem get_script {ns : List Int} {a l : Int} {M : Mem} {p : Addr} {Q : DK} (h : M p = some (penO ns a l)) (q : Q (.lst (ns.map D.int)) M) : rDGet3 (.ref p) (.str "script") M Q :=
  rd_dgetR h (by simp [valD]) q
theorem dput_great {ns : List Int} {a l l' : Int} {M : Mem} {p : Addr} {T : Lo → Mem → Prop} {σ : Lo} (h : M p = some (penO ns a l)) (q : T σ (mput M p (penO ns a l'))) :
    ∃ k a' kds, dK? (.str "great") = some k ∧ D.ref p = .ref a' ∧ M a' = some (.dct kds) ∧ kds.length < sizeLine ∧ T σ (mput M a' (.dct (putD kds k (.int l')))) :=
  ⟨_, p, _, rfl, rfl, h, by show 3 < sizeLine; decide, by rw [put_great]; exact q⟩
theorem dput_at {ns : List Int} {a a1 l : Int} {M : Mem} {p : Addr} {T : Lo → Mem → Prop} {σ : Lo} (h : M p = some (penO ns a l)) (q : T σ (mput M p (penO ns a1 l))) :
    ∃ k a' kds, dK? (.str "at") = some k ∧ D.ref p = .ref a' ∧ M a' = some (.dct kds) ∧ kds.length < sizeLine ∧ T σ (mput M a' (.dct (putD kds k (.int a1)))) :=
  ⟨_, p, _, rfl, rfl, h, by show 3 < sizeLine; decide, by rw [put_at]; exact q⟩
theorem len__law_pen : ∀ ds M Q, spPen ds M Q → ds.length = 1 := by rintro _ _ _ ⟨_, rfl, _⟩; rfl
theorem rd__law_pen : ∀ ds M Q, spPen ds M Q → t__law_pen { nx := fun _ M' => View Q .non M', rt := View Q } (start3 N__law_pen ds) M := by
  rintro _ M Q ⟨ns, rfl, hl, q⟩
  rw [st__law_pen]
  unfold t__law_pen
  walk_at "rd"
  intro p hp
  unfold tPairs3
  walk_at "rd"
  unfold tPairs3
  walk_at "rd"
  unfold tPairs3
  walk_at "rd"
  unfold tPairs3
  refine ⟨mput_same, [(.inr "script", _), (.inr "at", _), (.inr "great", _)], rfl, by simp, View.of ?_⟩
  rw [merge_pen, mput_mput]
  exact q p _ hp ⟨ns, 0, 0, mput_same, by lia, by lia, by simp, by lia⟩ fun b hb => mput_ne hb
def tDrawTail : TS3 :=
    (tSeq3 (tSet3 6 (tOp3 rMod3 (tOp3 rMul3 (tOp3 rAdd3 (tOp3 rAdd3 (tOp3 rMod3 (tVar3 5) (tC3 (.int 2147483563))) (tOp3 rMul3 (tC3 (.int 6151)) (tVar3 4))) (tC3 (.int 1))) (tC3 (.int 40014))) (tC3 (.int 2147483563))))
    (tSeq3 (tSet3 6 (tOp3 rMod3 (tOp3 rAdd3 (tOp3 rAdd3 (tOp3 rMul3 (tVar3 6) (tVar3 6)) (tOp3 rMul3 (tC3 (.int 60013)) (tVar3 6))) (tVar3 4)) (tC3 (.int 2147483399))))
    (tSeq3 (tSet3 6 (tOp3 rMod3 (tOp3 rAdd3 (tOp3 rAdd3 (tOp3 rMul3 (tVar3 6) (tVar3 6)) (tOp3 rMul3 (tC3 (.int 30011)) (tVar3 6))) (tC3 (.int 7))) (tC3 (.int 2147483353))))
    (tRet3 (tOp3 rMod3 (tOp3 rFdiv3 (tVar3 6) (tC3 (.int 32))) (tVar3 1))))))
def tDrawRest : TS3 :=
    tSeq3 (tIfS3 (tAnd3 (tTest3 (tOp3 rLt3 (tVar3 4) (tCB3 rLen3 (tCons3 (tVar3 3) tNil3)))) (tTest3 (tOp3 rGe3 (tCB3 rAbs3 (tCons3 (tVar3 5) tNil3)) (tOp3 rPow3 (tC3 (.int 10)) (tC3 (.int 18)))))) (tSeq3 (tDPut3 (tVar3 0) (tC3 (.str "great")) (tOp3 rFdiv3 (tCB3 rAbs3 (tCons3 (tVar3 5) tNil3)) (tVar3 1)))
    (tRet3 (tOp3 rMod3 (tCB3 rAbs3 (tCons3 (tVar3 5) tNil3)) (tVar3 1)))) tNext3)
    tDrawTail
theorem len__law_draw : ∀ ds M Q, spDraw ds M Q → ds.length = 2 := by rintro _ _ _ ⟨_, _, _, rfl, _⟩; rfl
theorem rd__law_draw : ∀ ds M Q, spDraw ds M Q → t__law_draw { nx := fun _ M' => View Q .non M', rt := View Q } (start3 N__law_draw ds) M := by
  rintro _ M Q ⟨p, many, b, rfl, ⟨ns, a, l, hM, hl, ha0, hab, hl0⟩, hb, hm0, hm1, q⟩
  rw [st__law_draw]
  have hdv : ∀ i, CDivB i many := fun i => ⟨hm0, (big200 hm0 hm1).2⟩
  have hb' : (b : Int) < 2 ^ 30 := by
    have : ((2 ^ 30 : Nat) : Int) = (2 : Int) ^ 30 := by decide
    lia
  unfold t__law_draw
  walk_at "rd"
  refine get_great hM ?_
  walk_at "rd"
  refine rd_dec (fun hpos => ?_) (fun hneg => ?_)
  · walk_at "rd"
    refine get_great hM ?_
    walk_at "rd"
    refine rd_I hm0 ?_
    walk_at "rd"
    refine rd_dp ?_
    walk_at "rd"
    refine get_great hM ?_
    walk_at "rd"
    refine rd_I (hdv _) ?_
    walk_at "rd"
    refine dput_great hM ?_
    walk_at "rd"
    exact View.of (q _ _ (Int.emod_nonneg _ (by lia)) (Int.emod_lt_of_pos _ hm0) ⟨ns, a, _, mput_same, hl, ha0, by lia, Int.ediv_nonneg hl0 (by lia)⟩ fun _ h => mput_ne h)
  · walk_at "rd"
    refine get_script hM ?_
    walk_at "rd"
    refine get_at hM ?_
    walk_at "rd"
    refine rd_dp ?_
    walk_at "rd"
    refine dput_at hM ?_
    have hM1 : mput M p (penO ns (a + 1) l) p = some (penO ns (a + 1) l) := mput_same
    walk_at "rd"
    refine rd_I (.inl (.inl ⟨by decide, by decide⟩)) ?_
    walk_at "rd"
    refine rd_ne (dOk_ints ns) ⟨rfl, rfl, by decide⟩ ?_
    have rest : ∀ c : Int, tDrawRest { nx := fun _ M' => View Q .non M', rt := View Q } [some (.ref p), some (.int many), none, some (.lst (ns.map D.int)), some (.int a), some (.int c), none] (mput M p (penO ns (a + 1) l)) := by
      intro c
      have abs0 : 0 ≤ (if c < 0 then -c else c) := by split <;> lia
      have tail : tDrawTail { nx := fun _ M' => View Q .non M', rt := View Q } [some (.ref p), some (.int many), none, some (.lst (ns.map D.int)), some (.int a), some (.int c), none] (mput M p (penO ns (a + 1) l)) := by
        unfold tDrawTail
        walk_at "rd"
        refine rd_I (by decide) ?_
        walk_at "rd"
        refine rd_I (.inl (.inl ⟨by decide, by decide⟩)) ?_
        walk_at "rd"
        refine rd_I (.inl (.inr ⟨by decide, by decide⟩)) ?_
        walk_at "rd"
        refine rd_I (by decide) ?_
        walk_at "rd"
        have z1 := Int.emod_nonneg ((c % 2147483563 + 6151 * a + 1) * 40014) (show (2147483563 : Int) ≠ 0 by decide)
        have z2 := Int.emod_lt_of_pos ((c % 2147483563 + 6151 * a + 1) * 40014) (show (0 : Int) < 2147483563 by decide)
        generalize (c % 2147483563 + 6151 * a + 1) * 40014 % 2147483563 = n1 at z1 z2 ⊢
        refine rd_I (.inl (.inl ⟨by lia, by lia⟩)) ?_
        walk_at "rd"
        refine rd_I (.inl (.inl ⟨by decide, by decide⟩)) ?_
        walk_at "rd"
        refine rd_I (by decide) ?_
        walk_at "rd"
        have y1 := Int.emod_nonneg (n1 * n1 + 60013 * n1 + a) (show (2147483399 : Int) ≠ 0 by decide)
        have y2 := Int.emod_lt_of_pos (n1 * n1 + 60013 * n1 + a) (show (0 : Int) < 2147483399 by decide)
        generalize (n1 * n1 + 60013 * n1 + a) % 2147483399 = n2 at y1 y2 ⊢
        refine rd_I (.inl (.inl ⟨by lia, by lia⟩)) ?_
        walk_at "rd"
        refine rd_I (.inl (.inl ⟨by decide, by decide⟩)) ?_
        walk_at "rd"
        refine rd_I (by decide) ?_
        walk_at "rd"
        refine rd_I ⟨by decide, by decide +kernel⟩ ?_
        walk_at "rd"
        refine rd_I hm0 ?_
        walk_at "rd"
        exact View.of (q _ _ (Int.emod_nonneg _ (by lia)) (Int.emod_lt_of_pos _ hm0) ⟨ns, a + 1, _, mput_same, hl, by lia, by lia, hl0⟩ fun _ h => mput_ne h)
      unfold tDrawRest
      walk_at "rd"
      refine rd_dec (fun hlt => ?_) (fun hge => ?_)
      · walk_at "rd"
        refine rd_I ⟨by decide, by decide, by decide⟩ ?_
        walk_at "rd"
        refine rd_dec (fun h18 => ?_) (fun h18 => ?_)
        · walk_at "rd"
          refine rd_dp ?_
          walk_at "rd"
          refine rd_I (hdv _) ?_
          walk_at "rd"
          refine dput_great hM1 ?_
          walk_at "rd"
          refine rd_I hm0 ?_
          walk_at "rd"
          rw [mput_mput]
          exact View.of (q _ _ (Int.emod_nonneg _ (by lia)) (Int.emod_lt_of_pos _ hm0) ⟨ns, a + 1, _, mput_same, hl, by lia, by lia, Int.ediv_nonneg abs0 (by lia)⟩ fun _ h => mput_ne h)
        · exact tail
      · exact tail
    cases ns with
    | nil =>
      refine rd_bl (show if (!true) = true then _ else _ from ?_)
      exact rd_iteF (rest _)
    | cons n ns =>
      refine rd_bl (show if (!false) = true then _ else _ from ?_)
      refine rd_iteT ?_
      walk_at "rd"
      have hlen : (0 : Int) < ((List.map D.int (n :: ns)).length : Int) := by rw [List.length_map, List.length_cons]; lia
      refine rd_I hlen ?_
      obtain ⟨c, hc⟩ := at_ints (ns := n :: ns) (a := a % ((List.map D.int (n :: ns)).length : Int)) (Int.emod_nonneg _ (by lia)) (by have := Int.emod_lt_of_pos a hlen; simpa using this)
      refine rd_ixL hc ?_
      exact rest c
end P2
set_option Elab.async false
set_option linter.all false
set_option maxRecDepth 100000
open L3
namespace P2
open PySem L2 L3
open MK (Ex Exs eD eDs nd nds dp dps exl bnd ten30)
theorem len_app (x y : Str) : (x ++ y).length = x.length + y.length := by rw [len_cps, cps_app, List.length_append, ← len_cps, ← len_cps]
def abc : Str := "abcdefghijklmnopqrstuvwxyz"
theorem abc_len : abc.cps.toList.length = 26 := by decide +kernel
theorem glue_len (z : Str) : ∀ (ys : List Str) (a : Array Nat), (List.foldl (fun acc (p : Str) => acc ++ z.cps ++ p.cps) a ys).toList.length = a.toList.length + (ys.map fun y => y.length).sum + ys.length * z.length
  | [], a => by simp
  | y :: ys, a => by
    rw [List.foldl_cons, glue_len z ys]
    have e1 : y.length = y.cps.toList.length := len_cps y
    have e2 : z.length = z.cps.toList.length := len_cps z
    simp only [Array.toList_append, List.length_append, List.map_cons, List.sum_cons, List.length_cons, Nat.add_mul, Nat.one_mul, ← e1, ← e2]
    lia
theorem join_len (z : Str) (ys : List Str) : (Txt.join z ys).length ≤ (ys.map fun y => y.length).sum + ys.length * z.length := by
  rw [len_cps]
  show (List.foldl _ ((ys.headD Str.empty).cps) (List.drop 1 ys)).toList.length ≤ _
  cases ys with
  | nil => simp; decide
  | cons y ys =>
    rw [List.drop_one, List.tail_cons]
    refine Nat.le_trans (Nat.le_of_eq (glue_len z ys _)) ?_
    have e1 : y.length = y.cps.toList.length := len_cps y
    simp only [List.headD_cons, List.map_cons, List.sum_cons, List.length_cons, Nat.add_mul, Nat.one_mul, ← e1]
    lia
theorem sum_le {ys : List Str} {m : Nat} (h : ∀ y ∈ ys, y.length ≤ m) : (ys.map fun y => y.length).sum ≤ m * ys.length := by
  induction ys with
  | nil => simp
  | cons y ys ih =>
    rw [List.map_cons, List.sum_cons, List.length_cons, Nat.mul_add]
    have := h y List.mem_cons_self
    have := ih fun x hx => h x (List.mem_cons_of_mem _ hx)
    lia
theorem ones_join (ys : List Str) (h : ∀ y ∈ ys, y.length = 1) : (Txt.join "" ys).length = ys.length := by
  rw [len_cps]
  show (List.foldl _ ((ys.headD Str.empty).cps) (List.drop 1 ys)).toList.length = _
  cases ys with
  | nil => simp; decide
  | cons y ys =>
    rw [List.drop_one, List.tail_cons]
    refine (glue_len "" ys _).trans ?_
    have e1 : y.length = y.cps.toList.length := len_cps y
    have e0 : (("" : Str)).length = 0 := by decide +kernel
    have hs : (ys.map fun y => y.length).sum = ys.length := by
      have h' : ∀ z ∈ ys, z.length = 1 := fun z hz => h z (List.mem_cons_of_mem _ hz)
      clear h e1
      induction ys with
      | nil => rfl
      | cons z zs ih =>
        rw [List.map_cons, List.sum_cons, ih fun x hx => h' x (List.mem_cons_of_mem _ hx), h' z List.mem_cons_self, List.length_cons]; lia
    rw [e0, hs]
    have := h y List.mem_cons_self
    simp only [List.headD_cons, List.length_cons, ← e1]
    lia
theorem len__law_letters : ∀ ds M Q, spLetters ds M Q → ds.length = 2 := by rintro _ _ _ ⟨_, _, _, rfl, _⟩; rfl
theorem rd__law_letters : ∀ ds M Q, spLetters ds M Q → t__law_letters { nx := fun _ M' => View Q .non M', rt := View Q } (start3 N__law_letters ds) M := by
  rintro _ M Q ⟨p, b, n, rfl, hP, hb, h0, h1, q⟩
  rw [st__law_letters]
  unfold t__law_letters
  walk_at "rd"
  refine ⟨rfl, ?_⟩
  walk_at "rd"
  refine ⟨by lia, by lia, ?_⟩
  walk_at "rd"
  refine comp_penN 1 (fun _ _ e => ∃ x : Str, e = .str x ∧ x.length = 1) hP ?_ ?_ ?_
  · rw [List.length_map, List.length_range, sizeLine_eq]; lia
  · intro k2 d2 M2 R F hd2 hP2 hsame hR
    have hk2 : k2 < n.toNat := by simpa using (List.getElem?_eq_some_iff.mp hd2).1
    walk_at "rd"
    refine draw hP2 (by lia) (by decide) (by decide) fun m M3 m0 m1 hP3 e3 => ?_
    obtain ⟨c, hc, hc1⟩ := atI_mem (ds := abc.cps.toList) m0 (by rw [abc_len]; exact m1)
    refine rd_ixS (by decide +kernel) hc ?_
    exact hR _ _ ⟨_, rfl, rfl⟩ (pen_mono hP3 (by lia)) e3
  intro acc M2 hlen hall hP2 hs2
  obtain ⟨cs, rfl, hcs⟩ := exists_map (f := D.str) (P := fun c => c.length = 1) fun e he => by
    obtain ⟨_, _, _, c, hc, h2⟩ := comp_all hlen hall e he
    exact ⟨c, hc, h2⟩
  have hl2 : cs.length = n.toNat := by simpa using hlen
  walk_at "rd"
  refine rd_joinL ?_ ?_
  · have := sum_le (m := 1) fun y hy => Nat.le_of_eq (hcs y hy)
    unfold joinOk
    rw [show (("" : Str)).length = 0 by decide +kernel]
    lia
  refine View.of (q _ M2 ?_ (pen_mono hP2 (by rw [List.length_map, List.length_range]; lia)) hs2)
  rw [ones_join cs hcs, hl2]; lia
def shutL : List Str := ["any", "ask", "cast", "catch", "close", "else", "end", "fault", "give", "if", "last", "leave", "make", "none", "note", "on", "rule", "try", "while"]
theorem len__law_names : ∀ ds M Q, spNames ds M Q → ds.length = 2 := by rintro _ _ _ ⟨_, _, _, rfl, _⟩; rfl
theorem rd__law_names : ∀ ds M Q, spNames ds M Q → t__law_names { nx := fun _ M' => View Q .non M', rt := View Q } (start3 N__law_names ds) M := by
  rintro _ M Q ⟨p, b, n, rfl, hP, hb, h0, h1, q⟩
  rw [st__law_names]
  unfold t__law_names
  walk_at "rd"
  refine draw hP (by lia) (by decide) (by decide) fun m M1 m0 m1 hP1 e1 => ?_
  walk_at "rd"
  refine ⟨p, b + 1, m, rfl, hP1, by lia, by lia, by lia, fun stem M2 hst hP2 e2 => ?_⟩
  have hsl : stem.length ≤ 7 := by lia
  walk_at "rd"
  refine rd_lenS (by rw [sizeLine_eq]; lia) ?_
  walk_at "rd"
  refine draw hP2 (by lia) (by lia) (by lia) fun at' M3 a0 a1 hP3 e3 => ?_
  walk_at "rd"
  refine draw hP3 (by lia) (by decide) (by decide) fun turn M4 t0 t1 hP4 e4 => ?_
  walk_at "rd"
  refine rd_addT (by simp only [List.length_cons, List.length_nil]; decide) ?_
  walk_at "rd"
  intro f hf
  have hpf := pen_ne hP4 hf
  have ee := e1.trans (e2.trans (e3.trans e4))
  walk_at "rd"
  refine ⟨by lia, by lia, fun k σ M5 => ∃ ys : List Str, ∃ s8, ys.length = k ∧ (∀ y ∈ ys, y.length ≤ 15) ∧ σ = [some (.ref p), some (.int n), some (.str abc), some (.str stem), some (.int at'), some (.int turn), some (.tup (shutL.map D.str)), some (.ref f), s8] ∧ Pen M5 p (b + 14) ∧ M5 f = some (.lst (ys.map D.str)) ∧ ∀ a, a ≠ p → a ≠ f → M5 a = M4 a, ⟨[], _, rfl, (fun _ h => by cases h), rfl, pen_put (pen_mono hP4 (by lia)) hpf, mput_same, fun a _ ha => mput_ne ha⟩, ?_, ?_⟩
  · rintro k d σ M5 hd ⟨ys, s8, hlen, hys, rfl, hP5, hf5, hs5⟩
    have hk : k < n.toNat := by simpa using (List.getElem?_eq_some_iff.mp hd).1
    obtain rfl : d = .int (k : Int) := by
      rw [List.getElem?_map, List.getElem?_range hk] at hd
      exact (Option.some.inj hd).symm
    walk_at "rd"
    refine ⟨.inl ⟨rfl, _, hf5⟩, ?_⟩
    walk_at "rd"
    refine rd_slAS (by rw [sizeLine_eq]; lia) ?_
    walk_at "rd"
    refine rd_I (by decide) ?_
    obtain ⟨c, hc, _⟩ := atI_mem (ds := abc.cps.toList) (n := (turn + (k : Int)) % 26) (Int.emod_nonneg _ (by decide)) (by rw [abc_len]; exact Int.emod_lt_of_pos _ (by decide))
    refine rd_ixS (by decide +kernel) hc ?_
    have l1 := Txt.slice_le stem none (some at')
    have l2 := Txt.slice_le stem (some at') none
    refine rd_addS (by rw [sizeLine_eq]; show _ + 1 ≤ _; lia) ?_
    walk_at "rd"
    refine rd_slAS (by rw [sizeLine_eq]; lia) ?_
    have l3 : ((Txt.slice stem none (some at')) ++ (⟨#[c]⟩ : Str)).length ≤ 8 := by rw [len_app]; show _ + 1 ≤ _; lia
    refine rd_addS (by rw [sizeLine_eq]; lia) ?_
    walk_at "rd"
    refine rd_append hf5 (by rw [List.length_map, sizeLine_eq]; lia) ?_
    refine ⟨ys ++ [_], _, by simp [hlen], fun y hy => ?_, rfl, pen_put hP5 hpf, by rw [mput_same, List.map_append]; rfl, fun a ha1 ha2 => by rw [mput_ne ha2]; exact hs5 a ha1 ha2⟩
    rcases List.mem_append.mp hy with z | z
    · exact hys y z
    · cases List.mem_singleton.mp z
      rw [len_app]; lia
  · rintro σ M5 ⟨ys, s8, hlen, hys, rfl, hP5, hf5, hs5⟩
    have hl2 : ys.length = n.toNat := by simpa using hlen
    refine rd_frz rfl hf5 ?_
    have hP6 := pen_del hP5 hpf
    have hs6 : Same3 p M (mdel M5 f) := fun a ha => by
      by_cases h : a = f
      · subst h; rw [mdel_same, ← ee a ha, hf]
      · rw [mdel_ne h, hs5 a ha h]; exact ee a ha
    walk_at "rd"
    refine comp_map ys D.str (fun y => D.bl (false ^^ shutL.any (· == y))) (by rw [sizeLine_eq]; lia) ?_ ?_
    · intro y hy M7 R F hsame hR
      walk_at "rd"
      refine rd_inL (ys := shutL) rfl ?_
      exact hR
    rw [show ys.map (fun y => D.bl (false ^^ shutL.any (· == y))) = (ys.map (fun y => (false ^^ shutL.any (· == y)))).map D.bl by rw [List.map_map]; rfl]
    walk_at "rd"
    refine rd_any ?_
    walk_at "rd"
    refine rd_ite2 ?_ ?_
    · walk_at "rd"
      refine comp_map ys D.str (fun (y : Str) => D.str (y ++ ("q" : Str))) (by rw [sizeLine_eq]; lia) ?_ ?_
      · intro y hy M7 R F hsame hR
        have hyl := hys y hy
        walk_at "rd"
        refine rd_addS (by rw [sizeLine_eq]; show _ + 1 ≤ _; lia) ?_
        exact hR
      rw [show ys.map (fun (y : Str) => D.str (y ++ ("q" : Str))) = (ys.map (fun (y : Str) => y ++ ("q" : Str))).map D.str by rw [List.map_map]; rfl]
      refine View.of (q _ _ (by rw [List.length_map]; lia) (fun y hy => ?_) (pen_mono hP6 (by lia)) hs6)
      obtain ⟨x, hx, rfl⟩ := List.mem_map.mp hy
      have := hys x hx
      rw [len_app]; show _ + 1 ≤ _; lia
    · walk_at "rd"
      exact View.of (q ys _ (by lia) (fun y hy => Nat.le_trans (hys y hy) (by decide)) (pen_mono hP6 (by lia)) hs6)
theorem len__law_number : ∀ ds M Q, spNumber ds M Q → ds.length = 1 := by rintro _ _ _ ⟨_, _, rfl, _⟩; rfl
theorem e30 : (10 : Int) ^ Int.toNat 30 = ten30 := by decide
theorem rd__law_number : ∀ ds M Q, spNumber ds M Q → t__law_number { nx := fun _ M' => View Q .non M', rt := View Q } (start3 N__law_number ds) M := by
  rintro _ M Q ⟨p, b, rfl, hP, hb, q⟩
  rw [st__law_number]
  unfold t__law_number
  have et : ten30 = 1000000000000000000000000000000 := rfl
  walk_at "rd"
  refine draw hP (by lia) (by decide) (by decide) fun m M1 m0 m1 hP1 e1 => ?_
  walk_at "rd"
  refine draw hP1 (by lia) (by decide) (by decide) fun w M2 w0 w1 hP2 e2 => ?_
  have rest : ∀ (m : Int) (s2 : Option D) (M' : Mem), 0 ≤ m → m < ten30 → Pen M' p (b + 8) → Same3 p M M' → (tRet3 (tOp3 rMul3 (tVar3 1) (tOp3 rSub3 (tC3 (.int 1)) (tOp3 rMul3 (tC3 (.int 2)) (tCall3 spDraw (tCons3 (tVar3 0) (tCons3 (tC3 (.int 2)) tNil3))))))) { nx := fun _ M' => View Q .non M', rt := View Q } [some (.ref p), some (.int m), s2] M' := by
    intro m s2 M' h0 h1 hP' hs'
    walk_at "rd"
    refine draw hP' (by lia) (by decide) (by decide) fun g M3 g0 g1 hP3 e3 => ?_
    walk_at "rd"
    refine rd_I (.inl (.inl ⟨by decide, by decide⟩)) ?_
    walk_at "rd"
    refine rd_I (.inl (.inr ⟨by lia, by lia⟩)) ?_
    refine View.of (q _ M3 ?_ (pen_mono hP3 (by lia)) (hs'.trans e3))
    have : g = 0 ∨ g = 1 := by lia
    rcases this with rfl | rfl <;> (constructor <;> lia)
  walk_at "rd"
  refine rd_ite2 ?_ ?_
  · walk_at "rd"
    refine draw hP2 (by lia) (by decide) (by decide) fun g M3 g0 g1 hP3 e3 => ?_
    walk_at "rd"
    have ee := e1.trans (e2.trans e3)
    refine ⟨by lia, by lia, fun k σ M5 => ∃ (m : Int) (s2 : Option D), 0 ≤ m ∧ m < ten30 ∧ σ = [some (.ref p), some (.int m), s2] ∧ Pen M5 p (b + 3 + k) ∧ Same3 p M M5, ⟨m, _, m0, by lia, rfl, hP3, ee⟩, ?_, ?_⟩
    · rintro k d σ M5 hd ⟨m, s2, hm0, hm1, rfl, hP5, hs5⟩
      have hk : k < (4 + g).toNat := by simpa using (List.getElem?_eq_some_iff.mp hd).1
      walk_at "rd"
      refine rd_I ⟨by decide, by decide, by decide⟩ ?_
      walk_at "rd"
      refine rd_I (.inl (.inr ⟨by decide, by decide⟩)) ?_
      walk_at "rd"
      refine rd_I ⟨by decide, by decide, by decide⟩ ?_
      walk_at "rd"
      refine draw hP5 (by lia) (by decide) (by decide) fun v M6 v0 v1 hP6 e6 => ?_
      walk_at "rd"
      refine rd_I ⟨by decide, by decide, by decide⟩ ?_
      walk_at "rd"
      refine rd_I (by decide) ?_
      exact ⟨_, _, Int.emod_nonneg _ (by decide), by rw [← e30]; exact Int.emod_lt_of_pos _ (by decide), rfl, pen_mono hP6 (by lia), hs5.trans e6⟩
    · rintro σ M5 ⟨m, s2, hm0, hm1, rfl, hP5, hs5⟩
      exact rest m s2 M5 hm0 hm1 (pen_mono hP5 (by rw [List.length_map, List.length_range]; lia)) hs5
  · exact rd_next (rest m none M2 m0 (by lia) (pen_mono hP2 (by lia)) (e1.trans e2))
end P2
set_option Elab.async false
set_option linter.all false
set_option maxRecDepth 100000
open L3
namespace P2
open PySem L2 L3
open MK (Ex Exs eD eDs nd nds dp dps exl bnd ten30)
theorem tI_len {n : Int} (h : bnd n) : (tI n).length ≤ 31 := by
  have et : ten30 = 1000000000000000000000000000000 := rfl
  unfold MK.bnd at h
  rw [et] at h
  cases n with
  | ofNat m =>
    have : (dg m).length ≤ 30 := dg_len (by decide) (by have := h.2; simp only [Int.ofNat_eq_natCast] at this; lia)
    rw [len_cps]
    show (tI (m : Int)).cps.toList.length ≤ _
    rw [cps_nat]; lia
  | negSucc m =>
    have : (dg (m + 1)).length ≤ 30 := dg_len (by decide) (by have := h.1; simp only [Int.negSucc_eq] at this; lia)
    rw [len_cps, cps_neg, List.length_cons]; lia
theorem tI_log {n : Int} (h : bnd n) : n.natAbs.log2 < 1920 := by
  have et : ten30 = 1000000000000000000000000000000 := rfl
  unfold MK.bnd at h
  rw [et] at h
  by_cases h0 : n.natAbs = 0
  · rw [h0]; decide
  · rw [Nat.log2_lt h0]
    have h2 : n.natAbs < 2 ^ 100 := by lia
    exact Nat.lt_of_lt_of_le h2 (Nat.pow_le_pow_right (by decide) (by decide))
theorem exTs_len : ∀ as : Exs, (exTs as).length = exl as
  | .nil => by simp [exTs, MK.exl]
  | .cons a r => by simp [exTs, MK.exl, exTs_len r]
mutual
theorem exT_len : ∀ e : Ex, wf e → (exT e).length ≤ 80 * nd e
  | .none, _ => by simp only [exT, MK.nd]; decide
  | .num n, h => by
    simp only [exT, MK.nd]
    simp only [wf] at h
    have := tI_len h; lia
  | .var x, h => by
    simp only [exT, MK.nd]
    simp only [wf] at h
    lia
  | .op s a b, h => by
    have ia := exT_len a
    have ib := exT_len b
    simp only [exT, MK.nd]
    simp only [wf] at h
    have ia := ia h.2.1
    have ib := ib h.2.2
    have e1 : (("(" : Str)).length = 1 := by decide +kernel
    have e2 : ((" " : Str)).length = 1 := by decide +kernel
    have e3 : ((")" : Str)).length = 1 := by decide +kernel
    simp only [len_app, e1, e2, e3]
    lia
  | .make r as, h => by
    have ia := exTs_sum as
    simp only [exT, MK.nd]
    simp only [wf] at h
    have ia := ia h.2.2
    have e1 : (("make " : Str)).length = 5 := by decide +kernel
    have e2 : (("(" : Str)).length = 1 := by decide +kernel
    have e3 : ((")" : Str)).length = 1 := by decide +kernel
    have e4 : ((", " : Str)).length = 2 := by decide +kernel
    have j := join_len ", " (exTs as)
    rw [e4, exTs_len] at j
    simp only [len_app, e1, e2, e3]
    lia
theorem exTs_sum : ∀ as : Exs, wfs as → ((exTs as).map fun y => y.length).sum ≤ 80 * nds as
  | .nil, _ => by simp [exTs]
  | .cons a r, h => by
    have ia := exT_len a
    have ir := exTs_sum r
    simp only [exTs, MK.nds, List.map_cons, List.sum_cons]
    simp only [wfs] at h
    have ia := ia h.1
    have ir := ir h.2
    lia
end
theorem len_worth_text : ∀ ds M Q, spWT ds M Q → ds.length = 1 := by rintro _ _ _ ⟨_, rfl, _⟩; rfl
theorem rd_worth_text : ∀ ds M Q, spWT ds M Q → t_worth_text { nx := fun _ M' => View Q .non M', rt := View Q } (start3 N_worth_text ds) M := by
  rintro _ M Q ⟨e, rfl, h, q⟩
  rw [st_worth_text]
  unfold t_worth_text
  rcases h with rfl | ⟨n, rfl, hn⟩
  · walk_at "rd"
    simp only [MK.eD]
    refine rd_ixT (d := .str "none") rfl ?_
    walk_at "rd"
    refine rd_iteTe (by decide +kernel) ?_
    walk_at "rd"
    exact View.of q
  · walk_at "rd"
    simp only [MK.eD]
    refine rd_ixT (d := .str "number") rfl ?_
    walk_at "rd"
    refine rd_iteFe (by decide +kernel) ?_
    walk_at "rd"
    refine rd_ixT (d := .str "number") rfl ?_
    walk_at "rd"
    refine rd_iteFe (by decide +kernel) ?_
    walk_at "rd"
    refine rd_ixT (d := .int n) rfl ?_
    walk_at "rd"
    refine rd_strI (tI_log hn) ?_
    exact View.of q
theorem len_expression_text : ∀ n ds M Q, spET n ds M Q → ds.length = 1 := by rintro _ _ _ _ ⟨_, rfl, _⟩; rfl
theorem dp_pos : ∀ e : Ex, 1 ≤ dp e
  | .none => by simp [MK.dp]
  | .num _ => by simp [MK.dp]
  | .var _ => by simp [MK.dp]
  | .op _ _ _ => by simp [MK.dp]
  | .make _ _ => by simp [MK.dp]
theorem zero_expression_text : ∀ ds M Q, ¬ spET 0 ds M Q := by
  rintro _ _ _ ⟨e, rfl, _, h, _⟩
  have := dp_pos e
  lia
def exL : Exs → List Ex
  | .nil => []
  | .cons a r => a :: exL r
theorem eDs_map : ∀ as : Exs, eDs as = (exL as).map eD
  | .nil => rfl
  | .cons a r => by simp [MK.eDs, exL, eDs_map r]
theorem exTs_map : ∀ as : Exs, exTs as = (exL as).map exT
  | .nil => rfl
  | .cons a r => by simp [exTs, exL, exTs_map r]
theorem exl_len : ∀ as : Exs, exl as = (exL as).length
  | .nil => rfl
  | .cons a r => by simp [MK.exl, exL, exl_len r]
theorem exL_mem : ∀ (as : Exs), wfs as → ∀ e ∈ exL as, wf e ∧ nd e ≤ nds as ∧ dp e ≤ dps as
  | .nil, _, e, he => by simp [exL] at he
  | .cons a r, h, e, he => by
    simp only [wfs] at h
    simp only [exL, List.mem_cons] at he
    simp only [MK.nds, MK.dps]
    rcases he with rfl | he
    · exact ⟨h.1, by lia, by lia⟩
    · obtain ⟨h1, h2, h3⟩ := exL_mem r h.2 e he
      exact ⟨h1, by lia, by lia⟩
theorem emp_app (x : Str) : Str.empty ++ x = x := str_ext (by rw [cps_app]; rfl)
theorem rd_expression_text : ∀ n ds M Q, spET (n + 1) ds M Q → t_expression_text (spET n) { nx := fun _ M' => View Q .non M', rt := View Q } (start3 N_expression_text ds) M := by
  rintro n _ M Q ⟨e, rfl, hw, hd, hn, q⟩
  rw [st_expression_text]
  unfold t_expression_text
  have hL := exT_len e hw
  cases e with
  | none =>
    walk_at "rd"
    simp only [MK.eD]
    refine rd_ixT (d := .str "none") rfl ?_
    walk_at "rd"
    refine rd_iteFe (by decide +kernel) ?_
    walk_at "rd"
    refine rd_ixT (d := .str "none") rfl ?_
    walk_at "rd"
    refine rd_iteFe (by decide +kernel) ?_
    walk_at "rd"
    refine rd_ixT (d := .str "none") rfl ?_
    walk_at "rd"
    refine rd_iteFe (by decide +kernel) ?_
    walk_at "rd"
    exact ⟨.none, by simp only [MK.eD], .inl rfl, View.of q⟩
  | num m =>
    walk_at "rd"
    simp only [MK.eD]
    refine rd_ixT (d := .str "number") rfl ?_
    walk_at "rd"
    refine rd_iteFe (by decide +kernel) ?_
    walk_at "rd"
    refine rd_ixT (d := .str "number") rfl ?_
    walk_at "rd"
    refine rd_iteFe (by decide +kernel) ?_
    walk_at "rd"
    refine rd_ixT (d := .str "number") rfl ?_
    walk_at "rd"
    refine rd_iteFe (by decide +kernel) ?_
    walk_at "rd"
    simp only [wf] at hw
    exact ⟨.num m, by simp only [MK.eD], .inr ⟨m, rfl, hw⟩, View.of q⟩
  | var x =>
    walk_at "rd"
    simp only [MK.eD]
    refine rd_ixT (d := .str "var") rfl ?_
    walk_at "rd"
    refine rd_iteFe (by decide +kernel) ?_
    walk_at "rd"
    refine rd_ixT (d := .str "var") rfl ?_
    walk_at "rd"
    refine rd_iteFe (by decide +kernel) ?_
    walk_at "rd"
    refine rd_ixT (d := .str "var") rfl ?_
    walk_at "rd"
    refine rd_iteTe (by decide +kernel) ?_
    walk_at "rd"
    refine rd_ixT (d := .str x) rfl ?_
    exact View.of q
  | op s a b =>
    simp only [wf] at hw
    simp only [MK.nd] at hn hL
    simp only [MK.dp] at hd
    have la := exT_len a hw.2.1
    have lb := exT_len b hw.2.2
    have e1 : (("(" : Str)).length = 1 := by decide +kernel
    have e2 : ((" " : Str)).length = 1 := by decide +kernel
    have e3 : ((")" : Str)).length = 1 := by decide +kernel
    walk_at "rd"
    simp only [MK.eD]
    refine rd_ixT (d := .str "op") rfl ?_
    walk_at "rd"
    refine rd_iteTe (by decide +kernel) ?_
    walk_at "rd"
    refine rd_onPart (by rw [emp_app, e1]; decide) ?_
    rw [emp_app]
    walk_at "rd"
    refine rd_ixT (d := eD a) rfl ?_
    walk_at "rd"
    refine ⟨a, rfl, hw.2.1, by lia, by lia, ?_⟩
    refine rd_onFmtS (by rw [sizeLine_eq]; lia) ?_
    refine rd_onPart (by rw [len_app, e1, sizeLine_eq]; lia) ?_
    walk_at "rd"
    refine rd_onPart (by simp only [len_app, e1, e2]; rw [sizeLine_eq]; lia) ?_
    walk_at "rd"
    refine rd_ixT (d := .str s) rfl ?_
    refine rd_onFmtS (by rw [sizeLine_eq]; lia) ?_
    refine rd_onPart (by simp only [len_app, e1, e2]; rw [sizeLine_eq]; lia) ?_
    walk_at "rd"
    refine rd_onPart (by simp only [len_app, e1, e2]; rw [sizeLine_eq]; lia) ?_
    walk_at "rd"
    refine rd_ixT (d := eD b) rfl ?_
    walk_at "rd"
    refine ⟨b, rfl, hw.2.2, by lia, by lia, ?_⟩
    refine rd_onFmtS (by rw [sizeLine_eq]; lia) ?_
    refine rd_onPart (by simp only [len_app, e1, e2]; rw [sizeLine_eq]; lia) ?_
    walk_at "rd"
    refine rd_onPart (by simp only [len_app, e1, e2, e3]; rw [sizeLine_eq]; lia) ?_
    refine rd_parts0 (by simp only [len_app, e1, e2, e3]; rw [sizeLine_eq]; lia) ?_
    simp only [exT] at q
    exact View.of q
  | make r as =>
    simp only [wf] at hw
    simp only [MK.nd] at hn hL
    simp only [MK.dp] at hd
    obtain ⟨hr, hl, hws⟩ := hw
    have e1 : (("make " : Str)).length = 5 := by decide +kernel
    have e2 : (("(" : Str)).length = 1 := by decide +kernel
    have e3 : ((")" : Str)).length = 1 := by decide +kernel
    have e4 : ((", " : Str)).length = 2 := by decide +kernel
    have j := join_len ", " (exTs as)
    have js := exTs_sum as hws
    rw [e4, exTs_len] at j
    rw [exl_len] at hl
    walk_at "rd"
    simp only [MK.eD]
    refine rd_ixT (d := .str "make") rfl ?_
    walk_at "rd"
    refine rd_iteFe (by decide +kernel) ?_
    walk_at "rd"
    refine rd_ixT (d := .str "make") rfl ?_
    walk_at "rd"
    refine rd_iteTe (by decide +kernel) ?_
    walk_at "rd"
    refine ⟨rfl, ?_⟩
    walk_at "rd"
    refine rd_ixT (d := .tup (eDs as)) rfl ?_
    walk_at "rd"
    rw [eDs_map]
    refine comp_map (exL as) eD (fun e => D.str (exT e)) (by rw [sizeLine_eq]; lia) ?_ ?_
    · intro e he M2 R F hsame hR
      obtain ⟨h1, h2, h3⟩ := exL_mem as hws e he
      walk_at "rd"
      exact ⟨e, rfl, h1, by lia, by lia, hR⟩
    rw [show (exL as).map (fun e => D.str (exT e)) = (exTs as).map D.str by rw [exTs_map, List.map_map]; rfl]
    walk_at "rd"
    refine rd_joinL (by unfold joinOk; rw [e4, exTs_len, exl_len]; lia) ?_
    walk_at "rd"
    refine rd_onPart (by rw [emp_app, e1]; decide) ?_
    rw [emp_app]
    walk_at "rd"
    refine rd_ixT (d := .str r) rfl ?_
    refine rd_onFmtS (by rw [sizeLine_eq]; lia) ?_
    rw [exl_len] at j
    refine rd_onPart (by rw [len_app, e1, sizeLine_eq]; lia) ?_
    walk_at "rd"
    refine rd_onPart (by simp only [len_app, e1, e2]; rw [sizeLine_eq]; lia) ?_
    walk_at "rd"
    refine rd_onFmtS (by rw [sizeLine_eq]; lia) ?_
    refine rd_onPart (by simp only [len_app, e1, e2]; rw [sizeLine_eq]; lia) ?_
    walk_at "rd"
    refine rd_onPart (by simp only [len_app, e1, e2, e3]; rw [sizeLine_eq]; lia) ?_
    refine rd_parts0 (by simp only [len_app, e1, e2, e3]; rw [sizeLine_eq]; lia) ?_
    simp only [exT] at q
    exact View.of q
end P2
set_option Elab.async false
set_option linter.all false
set_option maxRecDepth 100000
open L3
namespace P2
open PySem L2 L3
open MK (Ex Exs eD eDs nd nds dp dps exl bnd ten30)
def tExMk (q__law_expression : Sp3) : TS3 :=
    (tSeq3 (tSet3 11 (tComp3 (iRng3 (tCons3 (tVar3 10) tNil3)) 1 [0, 1, 2, 10, 3] (gName3 0) tTrue3 (tCall3 q__law_expression (tCons3 (tVar3 1) (tCons3 (tVar3 2) (tCons3 (tOp3 rSub3 (tVar3 3) (tC3 (.int 1))) (tCons3 (tOp3 rFdiv3 (tOp3 rSub3 (tVar3 5) (tC3 (.int 1))) (tVar3 4)) tNil3)))))))
    (tSeq3 (tSet3 12 (tOp3 rAdd3 (tOp3 rAdd3 (tOp3 rAdd3 (tOp3 rAdd3 (tC3 (.str "make ")) (tVar3 9)) (tC3 (.str "("))) (tBM3 "str" rJoin3 (tC3 (.str ", ")) (tCons3 (tComp3 (iList3 (tVar3 11)) 1 [] (gName3 0) tTrue3 (tOp3 rIx3 (tVar3 0) (tC3 (.int 1)))) tNil3))) (tC3 (.str ")"))))
    (tRet3 (tTup3 (tCons3 (tTup3 (tCons3 (tC3 (.str "make")) (tCons3 (tVar3 9) (tCons3 (tCB3 rTuple3 (tCons3 (tComp3 (iList3 (tVar3 11)) 1 [] (gName3 0) tTrue3 (tOp3 rIx3 (tVar3 0) (tC3 (.int 0)))) tNil3)) tNil3)))) (tCons3 (tVar3 12) tNil3))))))
def tExRest (q__law_expression : Sp3) : TS3 :=
    (tSeq3 (tAsg3 (gTup3 [9, 10]) (tOp3 rIx3 (tOp3 rDGet3 (tVar3 1) (tC3 (.str "rules"))) (tCall3 spDraw (tCons3 (tVar3 0) (tCons3 (tCB3 rLen3 (tCons3 (tOp3 rDGet3 (tVar3 1) (tC3 (.str "rules"))) tNil3)) tNil3)))))
    (tSeq3 (tIfS3 (tAnd3 (tTest3 (tOp3 rEq3 (tVar3 4) (tC3 (.int 2)))) (tOr3 (tTest3 (tOp3 rEq3 (tVar3 10) (tC3 (.int 0)))) (tAnd3 (tTest3 (tOp3 rGt3 (tVar3 2) (tC3 (.int 1)))) (tTest3 (tOp3 rGt3 (tVar3 3) (tVar3 10)))))) (tExMk q__law_expression) tNext3)
    (tRet3 (tCall3 spLeaf (tCons3 (tVar3 0) (tCons3 (tVar3 1) tNil3))))))
def tExOp (q__law_expression : Sp3) : TS3 :=
    (tSeq3 (tSet3 5 (tOp3 rIx3 (tC3 (.str "+-*<=")) (tCall3 spDraw (tCons3 (tVar3 0) (tCons3 (tC3 (.int 5)) tNil3)))))
    (tSeq3 (tSet3 6 (tOp3 rAdd3 (tC3 (.int 1)) (tCall3 spDraw (tCons3 (tVar3 0) (tCons3 (tOp3 rSub3 (tVar3 3) (tC3 (.int 2))) tNil3)))))
    (tSeq3 (tSet3 7 (tCall3 q__law_expression (tCons3 (tVar3 0) (tCons3 (tVar3 1) (tCons3 (tOp3 rSub3 (tVar3 2) (tC3 (.int 1))) (tCons3 (tVar3 6) tNil3))))))
    (tSeq3 (tSet3 8 (tCall3 q__law_expression (tCons3 (tVar3 0) (tCons3 (tVar3 1) (tCons3 (tOp3 rSub3 (tVar3 2) (tC3 (.int 1))) (tCons3 (tOp3 rSub3 (tOp3 rSub3 (tVar3 3) (tC3 (.int 1))) (tVar3 6)) tNil3))))))
    (tRet3 (tTup3 (tCons3 (tTup3 (tCons3 (tC3 (.str "op")) (tCons3 (tVar3 5) (tCons3 (tOp3 rIx3 (tVar3 7) (tC3 (.int 0))) (tCons3 (tOp3 rIx3 (tVar3 8) (tC3 (.int 0))) tNil3))))) (tCons3 (tOp3 rAdd3 (tOp3 rAdd3 (tOp3 rAdd3 (tOp3 rAdd3 (tOp3 rAdd3 (tOp3 rAdd3 (tC3 (.str "(")) (tOp3 rIx3 (tVar3 7) (tC3 (.int 1)))) (tC3 (.str " "))) (tVar3 5)) (tC3 (.str " "))) (tOp3 rIx3 (tVar3 8) (tC3 (.int 1)))) (tC3 (.str ")"))) tNil3))))))))
theorem t_expr (q__law_expression : Sp3) : t__law_expression q__law_expression =
        (tSeq3 (tSet3 4 (tCall3 spDraw (tCons3 (tVar3 0) (tCons3 (tC3 (.int 5)) tNil3))))
    (tSeq3 (tIfS3 (tAnd3 (tTest3 (tOp3 rGt3 (tVar3 2) (tC3 (.int 1)))) (tAnd3 (tTest3 (tOp3 rGt3 (tVar3 3) (tC3 (.int 2)))) (tTest3 (tOp3 rLt3 (tVar3 4) (tC3 (.int 2)))))) (tExOp q__law_expression) tNext3)
    (tExRest q__law_expression))) := rfl
theorem facts_keep {M M' : Mem} {f p : Addr} (h : FactsOk M f p) (s : ∀ a, M a ≠ none → a ≠ p → M' a = M a) : FactsOk M' f p := by
  obtain ⟨kds, r, ns, rs, h1, h2, h3, h4, h5, h6, h7, h8⟩ := h
  exact ⟨kds, r, ns, rs, by rw [s f (by rw [h1]; simp) h7]; exact h1, h2, h3, by rw [s r (by rw [h4]; simp) h8]; exact h4, h5, h6, h7, h8⟩
theorem facts_same {M M' : Mem} {f p : Addr} (h : FactsOk M f p) (s : Same3 p M M') : FactsOk M' f p := facts_keep h fun a _ ha => s a ha
theorem rd_ixR {a : Addr} {ds : List D} {d : D} {i : Int} {M : Mem} {Q : DK} (hm : M a = some (.lst ds)) (e : atI ds i = some d) (h : Q d M) : rIx3 (.ref a) (.int i) M Q := ⟨ds, d, hm, e, h⟩
theorem len__law_leaf : ∀ ds M Q, spLeaf ds M Q → ds.length = 2 := by rintro _ _ _ ⟨_, _, _, rfl, _⟩; rfl
theorem rd__law_leaf : ∀ ds M Q, spLeaf ds M Q → t__law_leaf { nx := fun _ M' => View Q .non M', rt := View Q } (start3 N__law_leaf ds) M := by
  rintro _ M Q ⟨p, f, b, rfl, hF, hP, hb, q⟩
  rw [st__law_leaf]
  unfold t__law_leaf
  walk_at "rd"
  refine draw hP (by lia) (by decide) (by decide) fun way M1 w0 w1 hP1 e1 => ?_
  obtain ⟨kds, r, ns, rs, hf1, hn1, hr1, hrs1, ⟨ns0, ns1, ns2⟩, ⟨rs0, rs1, rs2⟩, hfp, hrp⟩ := facts_same hF e1
  walk_at "rd"
  by_cases hw0 : way = 0
  · refine rd_iteTe (by simp [hw0]) ?_
    walk_at "rd"
    have := q .none M1 trivial rfl rfl (pen_mono hP1 (by lia)) e1
    simp only [MK.eD, exT] at this
    exact View.of this
  refine rd_iteFe (by simp [hw0]) ?_
  walk_at "rd"
  refine rd_dec (fun h3 => ?_) (fun h3 => ?_)
  · walk_at "rd"
    refine ⟨p, _, rfl, hP1, by lia, fun n M2 hn hP2 e2 => ?_⟩
    walk_at "rd"
    refine rd_strI (tI_log hn) ?_
    walk_at "rd"
    have := q (.num n) M2 (by simp only [wf]; exact hn) rfl rfl (pen_mono hP2 (by lia)) (e1.trans e2)
    simp only [MK.eD, exT] at this
    exact View.of this
  · walk_at "rd"
    refine rd_dgetR hf1 hn1 ?_
    walk_at "rd"
    refine rd_dgetR hf1 hn1 ?_
    walk_at "rd"
    have hpl : 0 < ns.length := by cases ns with | nil => exact absurd rfl ns0 | cons _ _ => simp
    refine draw hP1 (by lia) (by rw [List.length_map]; lia) (by rw [List.length_map]; lia) fun n1 M2 a1 b1 hP2 e2 => ?_
    obtain ⟨d, hd, hm⟩ := atI_mem (ds := ns.map D.str) a1 (by simpa using b1)
    obtain ⟨x, hx, rfl⟩ := List.mem_map.mp hm
    refine rd_ixL hd ?_
    walk_at "rd"
    have := q (.var x) M2 (by simp only [wf]; exact ns2 x hx) rfl rfl (pen_mono hP2 (by lia)) (e1.trans e2)
    simp only [MK.eD, exT] at this
    exact View.of this
def ofL : List Ex → Exs
  | [] => .nil
  | a :: r => .cons a (ofL r)
theorem ofL_eD : ∀ xs : List Ex, eDs (ofL xs) = xs.map eD
  | [] => rfl
  | a :: r => by simp [ofL, MK.eDs, ofL_eD r]
theorem ofL_T : ∀ xs : List Ex, exTs (ofL xs) = xs.map exT
  | [] => rfl
  | a :: r => by simp [ofL, exTs, ofL_T r]
theorem ofL_l : ∀ xs : List Ex, exl (ofL xs) = xs.length
  | [] => rfl
  | a :: r => by simp [ofL, MK.exl, ofL_l r]
theorem ofL_wf : ∀ {xs : List Ex}, (∀ x ∈ xs, wf x) → wfs (ofL xs)
  | [], _ => by simp [ofL, wfs]
  | a :: r, h => by
    simp only [ofL, wfs]
    exact ⟨h a List.mem_cons_self, ofL_wf fun x hx => h x (List.mem_cons_of_mem _ hx)⟩
theorem ofL_nd {m : Nat} : ∀ {xs : List Ex}, (∀ x ∈ xs, nd x ≤ m) → nds (ofL xs) ≤ xs.length * m
  | [], _ => by simp [ofL, MK.nds]
  | a :: r, h => by
    have h1 := h a List.mem_cons_self
    have h2 := ofL_nd fun x hx => h x (List.mem_cons_of_mem _ hx)
    simp only [ofL, MK.nds, List.length_cons, Nat.add_mul, Nat.one_mul]
    lia
theorem ofL_dp {m : Nat} : ∀ {xs : List Ex}, (∀ x ∈ xs, dp x ≤ m) → dps (ofL xs) ≤ m
  | [], _ => by simp [ofL, MK.dps]
  | a :: r, h => by
    have h1 := h a List.mem_cons_self
    have h2 := ofL_dp fun x hx => h x (List.mem_cons_of_mem _ hx)
    simp only [ofL, MK.dps]
    lia
theorem len__law_expression : ∀ n ds M Q, spExpr n ds M Q → ds.length = 4 := by rintro _ _ _ _ ⟨_, _, _, _, _, rfl, _⟩; rfl
theorem zero__law_expression : ∀ ds M Q, ¬ spExpr 0 ds M Q := by
  rintro _ _ _ ⟨_, _, _, deep, _, rfl, _, _, _, _, h, _⟩
  lia
def exP (x : Ex) : D := .tup [eD x, .str (exT x)]
theorem call_expr {n : Nat} {p f : Addr} {b deep parts : Nat} {i j : Int} {M : Mem} {Q : DK} (hi : i = (deep : Int)) (hj : j = (parts : Int)) (hF : FactsOk M f p) (hP : Pen M p b) (hb : b + cst n < 2 ^ 30) (hp : 1 ≤ parts ∧ parts ≤ 9) (hd : 1 ≤ deep ∧ deep ≤ n ∧ deep ≤ 4)
    (q : ∀ x M', wf x → nd x ≤ parts → dp x ≤ deep → Pen M' p (b + cst n) → Same3 p M M' → Q (exP x) M') : spExpr n [.ref p, .ref f, .int i, .int j] M Q := by
  subst hi hj
  exact ⟨p, f, b, deep, parts, rfl, hF, hP, hb, hp, hd, q⟩
section
variable {n : Nat} {M : Mem} {Q : DK} {p f : Addr} {b deep parts : Nat} {way : Int} {X : Lo → Mem → Prop} (hF : FactsOk M f p) (hP : Pen M p (b + 12)) (hb : b + (3 * cst n + 40) < 2 ^ 30) (hp : 1 ≤ parts ∧ parts ≤ 9) (hd : 1 ≤ deep ∧ deep ≤ n + 1 ∧ deep ≤ 4)
  (q : ∀ x M', wf x → nd x ≤ parts → dp x ≤ deep → Pen M' p (b + (3 * cst n + 40)) → Same3 p M M' → Q (exP x) M')
include hF hP hb hp hd q
set_option maxHeartbeats 1000000 in
theorem rd_exOp (h1 : 1 < deep) (h2 : 2 < parts) : tExOp (spExpr n) { nx := X, rt := View Q } [some (.ref p), some (.ref f), some (.int deep), some (.int parts), some (.int way), none, none, none, none, none, none, none, none] M := by
  unfold tExOp
  walk_at "rd"
  refine draw hP (by lia) (by decide) (by decide) fun m M2 m0 m1 hP2 e2 => ?_
  obtain ⟨c, hc, _⟩ := atI_mem (ds := (("+-*<=" : Str)).cps.toList) m0 (by rw [show (("+-*<=" : Str)).cps.toList.length = 5 by decide +kernel]; exact m1)
  refine rd_ixS (by decide +kernel) hc ?_
  walk_at "rd"
  refine draw hP2 (by lia) (by lia) (by lia) fun s M3 s0 s1 hP3 e3 => ?_
  obtain ⟨sh, rfl⟩ : ∃ k : Nat, s = (k : Int) := ⟨s.toNat, by lia⟩
  walk_at "rd"
  refine call_expr (deep := deep - 1) (parts := 1 + sh) (by lia) (by lia) (facts_same hF (e2.trans e3)) hP3 (by lia) (by lia) (by lia) fun x M4 hx hxn hxd hP4 e4 => ?_
  walk_at "rd"
  refine call_expr (deep := deep - 1) (parts := parts - 1 - (1 + sh)) (by lia) (by lia) (facts_same hF (e2.trans (e3.trans e4))) hP4 (by lia) (by lia) (by lia) fun y M5 hy hyn hyd hP5 e5 => ?_
  have lx := exT_len x hx
  have ly := exT_len y hy
  have k1 : (("(" : Str)).length = 1 := by decide +kernel
  have k2 : ((" " : Str)).length = 1 := by decide +kernel
  have k3 : ((")" : Str)).length = 1 := by decide +kernel
  have k4 : ((⟨#[c]⟩ : Str)).length = 1 := rfl
  walk_at "rd"
  refine rd_ixT (d := eD x) rfl ?_
  walk_at "rd"
  refine rd_ixT (d := eD y) rfl ?_
  walk_at "rd"
  refine rd_ixT (d := .str (exT x)) rfl ?_
  refine rd_addS (by simp only [k1]; rw [sizeLine_eq]; lia) ?_
  walk_at "rd"
  refine rd_addS (by simp only [len_app, k1, k2]; rw [sizeLine_eq]; lia) ?_
  walk_at "rd"
  refine rd_addS (by simp only [len_app, k1, k2, k4]; rw [sizeLine_eq]; lia) ?_
  walk_at "rd"
  refine rd_addS (by simp only [len_app, k1, k2, k4]; rw [sizeLine_eq]; lia) ?_
  walk_at "rd"
  refine rd_ixT (d := .str (exT y)) rfl ?_
  refine rd_addS (by simp only [len_app, k1, k2, k4]; rw [sizeLine_eq]; lia) ?_
  walk_at "rd"
  refine rd_addS (by simp only [len_app, k1, k2, k3, k4]; rw [sizeLine_eq]; lia) ?_
  walk_at "rd"
  have := q (.op ⟨#[c]⟩ x y) M5 (by simp only [wf]; exact ⟨rfl, hx, hy⟩) (by simp only [MK.nd]; lia) (by simp only [MK.dp]; lia) (pen_mono hP5 (by lia)) (e2.trans (e3.trans (e4.trans e5)))
  simp only [exP, MK.eD, exT] at this
  exact View.of this
set_option maxHeartbeats 1000000 in
theorem rd_exMk {x : Str} {cnt : Nat} (hx : x.length ≤ 20) (hc : cnt ≤ 3) (h : cnt = 0 ∨ (1 < deep ∧ cnt < parts)) : tExMk (spExpr n) { nx := X, rt := View Q } [some (.ref p), some (.ref f), some (.int deep), some (.int parts), some (.int way), none, none, none, none, some (.str x), some (.int cnt), none, none] M := by
  unfold tExMk
  walk_at "rd"
  refine ⟨by lia, by lia, ?_⟩
  refine comp_penN (cst n) (fun _ _ e => ∃ x, e = exP x ∧ wf x ∧ nd x ≤ (parts - 1) / cnt ∧ dp x ≤ deep - 1) hP ?_ ?_ ?_
  · rw [List.length_map, List.length_range, sizeLine_eq]; lia
  · intro k d M2 R F hd2 hP2 hsame hR
    have hk : k < cnt := by simpa using (List.getElem?_eq_some_iff.mp hd2).1
    have hcn : 0 < cnt := by lia
    have hdp : 1 < deep ∧ cnt < parts := by lia
    have hq1 : 1 ≤ (parts - 1) / cnt := (Nat.le_div_iff_mul_le hcn).mpr (by lia)
    have hq2 : (parts - 1) / cnt ≤ parts - 1 := Nat.div_le_self _ _
    have hmul : cst n * (k + 1) ≤ cst n * 3 := Nat.mul_le_mul_left _ (by lia)
    rw [Nat.mul_add, Nat.mul_one] at hmul
    walk_at "rd"
    refine rd_I ⟨by lia, ?_⟩ ?_
    · have : ((cnt : Int)).natAbs < 2 ^ 10 := by lia
      exact Nat.lt_trans this (Nat.pow_lt_pow_right (by decide) (by decide))
    walk_at "rd"
    refine call_expr (deep := deep - 1) (parts := (parts - 1) / cnt) (by lia) (by rw [Int.natCast_ediv]; congr 1; lia) (facts_keep hF hsame) hP2 (by lia) ⟨hq1, by lia⟩ (by lia) fun y M5 hy hyn hyd hP5 e5 => ?_
    exact hR _ _ ⟨y, rfl, hy, hyn, hyd⟩ (pen_mono hP5 (by rw [Nat.mul_add]; lia)) e5
  intro acc M2 hlen hall hP2 e2
  obtain ⟨xs, rfl, hxs⟩ := exists_map (f := exP) (P := fun x => wf x ∧ nd x ≤ (parts - 1) / cnt ∧ dp x ≤ deep - 1) fun e he => by
    obtain ⟨_, _, _, c, hc, h2⟩ := comp_all hlen hall e he
    exact ⟨c, hc, h2⟩
  have hl2 : xs.length = cnt := by simpa using hlen
  have hL := exTs_sum (ofL xs) (ofL_wf fun y hy => (hxs y hy).1)
  have hN := ofL_nd fun y hy => (hxs y hy).2.1
  have hND : nds (ofL xs) ≤ parts - 1 := by
    rw [hl2] at hN
    exact Nat.le_trans hN (Nat.mul_div_le _ _)
  have J := join_len ", " (xs.map exT)
  rw [ofL_T] at hL
  have k1 : (("make " : Str)).length = 5 := by decide +kernel
  have k2 : (("(" : Str)).length = 1 := by decide +kernel
  have k3 : ((")" : Str)).length = 1 := by decide +kernel
  have k4 : ((", " : Str)).length = 2 := by decide +kernel
  rw [k4, List.length_map, hl2] at J
  have hcm : cst n * ((List.range (cnt : Int).toNat).map fun k => D.int (k : Nat)).length ≤ cst n * 3 := Nat.mul_le_mul_left _ (by rw [List.length_map, List.length_range]; lia)
  walk_at "rd"
  refine rd_addS (by rw [k1, sizeLine_eq]; lia) ?_
  walk_at "rd"
  refine rd_addS (by simp only [len_app, k1, k2]; rw [sizeLine_eq]; lia) ?_
  walk_at "rd"
  refine ⟨rfl, ?_⟩
  walk_at "rd"
  refine comp_map xs exP (fun x => D.str (exT x)) (by rw [sizeLine_eq]; lia) ?_ ?_
  · intro y hy M3 R F hsame hR
    walk_at "rd"
    exact rd_ixT (d := .str (exT y)) rfl hR
  rw [show xs.map (fun x => D.str (exT x)) = (xs.map exT).map D.str by rw [List.map_map]; rfl]
  walk_at "rd"
  refine rd_joinL (by unfold joinOk; rw [k4, List.length_map]; lia) ?_
  refine rd_addS (by simp only [len_app, k1, k2]; rw [sizeLine_eq]; lia) ?_
  walk_at "rd"
  refine rd_addS (by simp only [len_app, k1, k2, k3]; rw [sizeLine_eq]; lia) ?_
  walk_at "rd"
  refine comp_map xs exP eD (by rw [sizeLine_eq]; lia) ?_ ?_
  · intro y hy M3 R F hsame hR
    walk_at "rd"
    exact rd_ixT (d := eD y) rfl hR
  walk_at "rd"
  have := q (.make x (ofL xs)) M2 (by simp only [wf]; exact ⟨hx, by rw [ofL_l]; lia, ofL_wf fun y hy => (hxs y hy).1⟩) (by simp only [MK.nd]; lia) (by
    simp only [MK.dp]
    rcases h with h0 | h0
    · have : xs = [] := List.length_eq_zero_iff.mp (by lia)
      subst this
      simp only [ofL, MK.dps]; lia
    · have := ofL_dp fun y hy => (hxs y hy).2.2
      lia) (pen_mono hP2 (by lia)) e2
  simp only [exP, MK.eD, exT, ofL_eD, ofL_T] at this
  exact View.of this
end
set_option maxHeartbeats 1000000 in
theorem rd_exRest {n : Nat} {M : Mem} {Q : DK} {p f : Addr} {b deep parts : Nat} {way : Int} (hF : FactsOk M f p) (hP : Pen M p (b + 1)) (hb : b + (3 * cst n + 40) < 2 ^ 30) (hp : 1 ≤ parts ∧ parts ≤ 9) (hd : 1 ≤ deep ∧ deep ≤ n + 1 ∧ deep ≤ 4)
    (q : ∀ x M', wf x → nd x ≤ parts → dp x ≤ deep → Pen M' p (b + (3 * cst n + 40)) → Same3 p M M' → Q (exP x) M') :
    tExRest (spExpr n) { nx := fun _ M' => View Q .non M', rt := View Q } [some (.ref p), some (.ref f), some (.int deep), some (.int parts), some (.int way), none, none, none, none, none, none, none, none] M := by
  obtain ⟨kds, r, ns, rs, hf1, hn1, hr1, hrs1, ⟨ns0, ns1, ns2⟩, ⟨rs0, rs1, rs2⟩, hfp, hrp⟩ := id hF
  unfold tExRest
  walk_at "rd"
  refine rd_dgetR hf1 hr1 ?_
  walk_at "rd"
  refine rd_dgetR hf1 hr1 ?_
  walk_at "rd"
  refine rd_lenR hrs1 ?_
  have hpl : 0 < rs.length := by cases rs with | nil => exact absurd rfl rs0 | cons _ _ => simp
  walk_at "rd"
  refine draw hP (by lia) (by rw [List.length_map]; lia) (by rw [List.length_map]; lia) fun m M2 m0 m1 hP2 e2 => ?_
  obtain ⟨d, hd1, hm⟩ := atI_mem (ds := rs.map rl) m0 (by simpa using m1)
  obtain ⟨⟨x, cnt⟩, hx, rfl⟩ := List.mem_map.mp hm
  obtain ⟨hxl, hxc⟩ := rs2 _ hx
  refine rd_ixR (by rw [e2 r hrp]; exact hrs1) hd1 ?_
  refine rd_gTup rfl ?_
  have lf : (tRet3 (tCall3 spLeaf (tCons3 (tVar3 0) (tCons3 (tVar3 1) tNil3)))) { nx := fun _ M' => View Q .non M', rt := View Q } [some (.ref p), some (.ref f), some (.int deep), some (.int parts), some (.int way), none, none, none, none, some (.str x), some (.int cnt), none, none] M2 := by
    walk_at "rd"
    refine ⟨p, f, _, rfl, facts_same hF e2, hP2, by lia, fun y M3 hy hyn hyd hP3 e3 => ?_⟩
    exact View.of (q y M3 hy (by lia) (by lia) (pen_mono hP3 (by lia)) (e2.trans e3))
  have mk : ∀ X, (cnt = 0 ∨ (1 < deep ∧ cnt < parts)) → tExMk (spExpr n) { nx := X, rt := View Q } [some (.ref p), some (.ref f), some (.int deep), some (.int parts), some (.int way), none, none, none, none, some (.str x), some (.int cnt), none, none] M2 := fun X h =>
    rd_exMk (b := b) (facts_same hF e2) (pen_mono hP2 (by lia)) hb hp hd (fun y M3 a1 a2 a3 a4 a5 => q y M3 a1 a2 a3 a4 (e2.trans a5)) hxl hxc h
  walk_at "rd"
  refine rd_ite2 ?_ (rd_iteF (rd_next lf))
  walk_at "rd"
  by_cases hc0 : cnt = 0
  · refine rd_iteTe (by simp [hc0]) (rd_iteT ?_)
    exact mk _ (.inl hc0)
  refine rd_iteFe (by simp [hc0]) ?_
  walk_at "rd"
  refine rd_dec (fun h1 => ?_) (fun h1 => rd_iteF (rd_next lf))
  walk_at "rd"
  refine rd_dec (fun h2 => ?_) (fun h2 => rd_next lf)
  exact mk _ (.inr ⟨by lia, by lia⟩)
set_option maxHeartbeats 1000000 in
theorem rd__law_expression : ∀ n ds M Q, spExpr (n + 1) ds M Q → t__law_expression (spExpr n) { nx := fun _ M' => View Q .non M', rt := View Q } (start3 N__law_expression ds) M := by
  rintro n _ M Q ⟨p, f, b, deep, parts, rfl, hF, hP, hb, hp, hd, q⟩
  rw [st__law_expression, t_expr]
  simp only [cst] at hb q
  walk_at "rd"
  refine draw hP (by lia) (by decide) (by decide) fun way M1 w0 w1 hP1 e1 => ?_
  have rest := rd_exRest (way := way) (facts_same hF e1) hP1 hb hp hd fun y M3 a1 a2 a3 a4 a5 => q y M3 a1 a2 a3 a4 (e1.trans a5)
  walk_at "rd"
  refine rd_dec (fun h1 => ?_) (fun h1 => rd_iteF (rd_next rest))
  walk_at "rd"
  refine rd_dec (fun h2 => ?_) (fun h2 => rd_iteF (rd_next rest))
  walk_at "rd"
  refine rd_dec (fun h3 => ?_) (fun h3 => rd_next rest)
  exact rd_exOp (b := b) (facts_same hF e1) (pen_mono hP1 (by lia)) hb hp hd (fun y M3 a1 a2 a3 a4 a5 => q y M3 a1 a2 a3 a4 (e1.trans a5)) (by lia) (by lia)
end P2
set_option Elab.async false
set_option linter.all false
set_option maxRecDepth 100000
namespace P3
open PySem L2 L3
open P2 (exT wf cst FactsOk)
open MK (Ex eD nd dp)
def kindL : List Str := ["name", "word", "caught", "params", "expression"]
def isK (p : Str) : Bool := kindL.any (· == p)
def tblL : List (Str × List Str) := [("rule", ["rule ", "name", "(", "params", ")"]), ("let", ["name", " = ", "expression"]), ("note", ["note ", "expression"]), ("give", ["name", " = give ", "expression"]), ("on", ["name", " = on ", "expression"]), ("ask", ["name", ", ", "name", " = ask ", "expression", ", ", "expression"]), ("cast", ["name", ", ", "name", " = cast ", "expression", ", ", "word", " ", "expression"]), ("close", ["close ", "expression"]), ("end", ["end ", "expression"]), ("fault", ["fault ", "word", " ", "expression"]), ("leave", ["leave"]), ("if", ["if ", "expression"]), ("else", ["else"]), ("while", ["while ", "expression"]), ("try", ["try"]), ("catch", ["catch ", "caught", " ", "name"]), ("last", ["last"])]
inductive Pt where
  | nm (x : Str) | ps (xs : List Str) | ex (e : Ex)
def ptD : Pt → D
  | .nm x => .str x
  | .ps xs => .tup (xs.map D.str)
  | .ex e => eD e
def ptT : Pt → Str
  | .nm x => x
  | .ps xs => Txt.join ", " xs
  | .ex e => exT e
def ptOk : Pt → Prop
  | .nm x => x.length ≤ 20
  | .ps xs => xs.length ≤ 3 ∧ ∀ x ∈ xs, x.length ≤ 20
  | .ex e => wf e ∧ nd e ≤ 9 ∧ dp e ≤ 5
def kOk (k : Str) : Pt → Prop
  | .nm _ => k = "name" ∨ k = "word" ∨ k = "caught"
  | .ps _ => k = "params"
  | .ex _ => k = "expression"
def fits : List Str → List Pt → Prop
  | [], pts => pts = []
  | p :: ps, pts => if isK p = true then (∃ pt r, pts = pt :: r ∧ kOk p pt ∧ ptOk pt ∧ fits ps r) else fits ps pts
def lineTs : List Str → List Pt → List Str
  | [], _ => []
  | p :: ps, pts => if isK p = true then (match pts with | pt :: r => ptT pt :: lineTs ps r | [] => []) else p :: lineTs ps pts
def pcs (w : Str) : List Str := (tblL.lookup w).getD []
def lfT (w : Str) (pts : List Pt) : Str := Txt.join "" (lineTs (pcs w) pts)
def lnT (b : Nat) (w : Str) (pts : List Pt) : Str := Txt.mul " " (b : Int) ++ lfT w pts
def lnOk (w : Str) (pts : List Pt) : Prop := (∃ ps, tblL.lookup w = some ps) ∧ fits (pcs w) pts
mutual
inductive Dd where
  | leaf (w : Str) (pts : List Pt) | ife (e : Ex) (a b : Bk) | whl (e : Ex) (b : Bk) | tr (b : Bk) (cs : Cs) (l : Bk)
inductive Bk where
  | nil | cons (d : Dd) (r : Bk)
inductive Cs where
  | nil | cons (w x : Str) (b : Bk) (r : Cs)
end
mutual
def ddD : Dd → D
  | .leaf w pts => .tup (.str w :: pts.map ptD)
  | .ife e a b => .tup [.str "if", eD e, .tup (bkD a), .tup (bkD b)]
  | .whl e b => .tup [.str "while", eD e, .tup (bkD b)]
  | .tr b cs l => .tup [.str "try", .tup (bkD b), .tup (csD cs), .tup (bkD l)]
def bkD : Bk → List D
  | .nil => []
  | .cons d r => ddD d :: bkD r
def csD : Cs → List D
  | .nil => []
  | .cons w x b r => .tup [.str w, .str x, .tup (bkD b)] :: csD r
end
def Bk.isNil : Bk → Bool
  | .nil => true
  | _ => false
mutual
def ddL : Nat → Dd → List Str
  | b, .leaf w pts => [lnT b w pts]
  | b, .ife e x y => (lnT b "if" [.ex e] :: bkL (b + 1) x) ++ (if y.isNil then [] else lnT b "else" [] :: bkL (b + 1) y)
  | b, .whl e x => lnT b "while" [.ex e] :: bkL (b + 1) x
  | b, .tr x cs l => ((lnT b "try" [] :: bkL (b + 1) x) ++ csL b cs) ++ (if l.isNil then [] else lnT b "last" [] :: bkL (b + 1) l)
def bkL : Nat → Bk → List Str
  | _, .nil => []
  | b, .cons d r => ddL b d ++ bkL b r
def csL : Nat → Cs → List Str
  | _, .nil => []
  | b, .cons w x k r => (lnT b "catch" [.nm w, .nm x] :: bkL (b + 1) k) ++ csL b r
end
mutual
def okD : Dd → Prop
  | .leaf w pts => lnOk w pts ∧ pts.length ≤ 6 ∧ w ≠ "if" ∧ w ≠ "while" ∧ w ≠ "try"
  | .ife e a b => ptOk (.ex e) ∧ okB a ∧ okB b
  | .whl e b => ptOk (.ex e) ∧ okB b
  | .tr b cs l => okB b ∧ okC cs ∧ okB l
def okB : Bk → Prop
  | .nil => True
  | .cons d r => okD d ∧ okB r
def okC : Cs → Prop
  | .nil => True
  | .cons w x b r => w.length ≤ 20 ∧ x.length ≤ 20 ∧ okB b ∧ okC r
end
mutual
def dpD : Dd → Nat
  | .leaf _ _ => 0
  | .ife _ a b => max (dpB a) (dpB b)
  | .whl _ b => dpB b
  | .tr b cs l => max (dpB b) (max (dpC cs) (dpB l))
def dpB : Bk → Nat
  | .nil => 0
  | .cons d r => max (1 + dpD d) (dpB r)
def dpC : Cs → Nat
  | .nil => 0
  | .cons _ _ b r => max (dpB b) (dpC r)
end
mutual
def ctD : Dd → Nat
  | .leaf _ _ => 1
  | .ife _ a b => 2 + ctB a + ctB b
  | .whl _ b => 1 + ctB b
  | .tr b cs l => 2 + ctB b + ctC cs + ctB l
def ctB : Bk → Nat
  | .nil => 0
  | .cons d r => ctD d + ctB r
def ctC : Cs → Nat
  | .nil => 0
  | .cons _ _ b r => 1 + ctB b + ctC r
end
structure Rl where
  name : Str
  pars : List Str
  blk : Bk
def rD (r : Rl) : D := .tup [.str r.name, .tup (r.pars.map D.str), .tup (bkD r.blk)]
def rL (r : Rl) : List Str := lnT 0 "rule" [.nm r.name, .ps r.pars] :: bkL 1 r.blk
def rOk (r : Rl) : Prop := r.name.length ≤ 20 ∧ (r.pars.length ≤ 3 ∧ ∀ x ∈ r.pars, x.length ≤ 20) ∧ okB r.blk ∧ dpB r.blk ≤ 5 ∧ ctB r.blk ≤ 100
def bookT (bk : List Rl) : Str := Txt.join "\n" (bk.flatMap rL)
def spPart : Sp3 := fun ds M Q => ∃ k pt, ds = [.str k, ptD pt] ∧ kOk k pt ∧ ptOk pt ∧ Q (.str (ptT pt)) M
def spLine : Sp3 := fun ds M Q => ∃ (b : Nat) (w : Str) (pts : List Pt), ds = [.int b, .str w, .tup (pts.map ptD)] ∧ b ≤ 20 ∧ lnOk w pts ∧ pts.length ≤ 6 ∧ Q (.str (lnT b w pts)) M
def back (M : Mem) (Q : DK) (ls : List Str) : Prop := ∀ a, M a = none → Q (.ref a) (mput M a (.lst (ls.map D.str)))
def spHeaded (n : Nat) : Sp3 := fun ds M Q => ∃ (b : Nat) (w : Str) (pts : List Pt) (k : Bk), ds = [.int b, .str w, .tup (pts.map ptD), .tup (bkD k)] ∧ lnOk w pts ∧ pts.length ≤ 6 ∧ okB k ∧ 4 * dpB k + 1 ≤ n ∧ b + dpB k ≤ 20 ∧ ctB k ≤ 100000 ∧ back M Q (lnT b w pts :: bkL (b + 1) k)
def spRest (n : Nat) : Sp3 := fun ds M Q => ∃ (b : Nat) (w : Str) (k : Bk), ds = [.int b, .str w, .tup (bkD k)] ∧ lnOk w [] ∧ okB k ∧ 4 * dpB k + 2 ≤ n ∧ b + dpB k ≤ 20 ∧ ctB k ≤ 100000 ∧ back M Q (if k.isNil then [] else lnT b w [] :: bkL (b + 1) k)
def spTryL (n : Nat) : Sp3 := fun ds M Q => ∃ (b : Nat) (x : Bk) (cs : Cs) (l : Bk), ds = [.int b, ddD (.tr x cs l)] ∧ okD (.tr x cs l) ∧ 4 * dpD (.tr x cs l) + 3 ≤ n ∧ b + dpD (.tr x cs l) ≤ 20 ∧ ctD (.tr x cs l) ≤ 100000 ∧ back M Q (ddL b (.tr x cs l))
def spDeedL (n : Nat) : Sp3 := fun ds M Q => ∃ (b : Nat) (d : Dd), ds = [.int b, ddD d] ∧ okD d ∧ 4 * dpD d + 4 ≤ n ∧ b + dpD d ≤ 20 ∧ ctD d ≤ 100000 ∧ back M Q (ddL b d)
def spBookT : Sp3 := fun ds M Q => ∃ bk : List Rl, ds = [.tup (bk.map rD)] ∧ (∀ r ∈ bk, rOk r) ∧ bk.length ≤ 8 ∧ Q (.str (bookT bk)) M
def FOk (M : Mem) (f p : Addr) : Prop := FactsOk M f p ∧ ∃ kds, ∃ n : Nat, M f = some (.dct kds) ∧ valD kds (.inr "parts") = some (.int n) ∧ 1 ≤ n ∧ n ≤ 9
def spWord : Sp3 := fun ds M Q => ∃ p b, ds = [.ref p] ∧ P2.Pen M p b ∧ b + 30 < 2 ^ 30 ∧ ∀ x M', x.length ≤ 20 → P2.Pen M' p (b + 20) → Same3 p M M' → Q (.str x) M'
def leafOk (w : Str) (pts : List Pt) : Prop := lnOk w pts ∧ pts.length ≤ 6 ∧ w ≠ "if" ∧ w ≠ "while" ∧ w ≠ "try"
def spPlain : Sp3 := fun ds M Q => ∃ p f b c, ds = [.ref p, .ref f, .bl c] ∧ FOk M f p ∧ P2.Pen M p b ∧ b + 11000 < 2 ^ 30 ∧ ∀ w pts M', leafOk w pts → P2.Pen M' p (b + 10000) → Same3 p M M' → Q (.tup [ddD (.leaf w pts), .str (lfT w pts)]) M'
theorem isK_0 : isK "rule " = false := by decide +kernel
theorem isK_1 : isK "name" = true := by decide +kernel
theorem isK_2 : isK "(" = false := by decide +kernel
theorem isK_3 : isK "params" = true := by decide +kernel
theorem isK_4 : isK ")" = false := by decide +kernel
theorem isK_5 : isK " = " = false := by decide +kernel
theorem isK_6 : isK "expression" = true := by decide +kernel
theorem isK_7 : isK "note " = false := by decide +kernel
theorem isK_8 : isK " = give " = false := by decide +kernel
theorem isK_9 : isK " = on " = false := by decide +kernel
theorem isK_10 : isK ", " = false := by decide +kernel
theorem isK_11 : isK " = ask " = false := by decide +kernel
theorem isK_12 : isK " = cast " = false := by decide +kernel
theorem isK_13 : isK "word" = true := by decide +kernel
theorem isK_14 : isK " " = false := by decide +kernel
theorem isK_15 : isK "close " = false := by decide +kernel
theorem isK_16 : isK "end " = false := by decide +kernel
theorem isK_17 : isK "fault " = false := by decide +kernel
theorem isK_18 : isK "leave" = false := by decide +kernel
theorem isK_19 : isK "if " = false := by decide +kernel
theorem isK_20 : isK "else" = false := by decide +kernel
theorem isK_21 : isK "while " = false := by decide +kernel
theorem isK_22 : isK "try" = false := by decide +kernel
theorem isK_23 : isK "catch " = false := by decide +kernel
theorem isK_24 : isK "caught" = true := by decide +kernel
theorem isK_25 : isK "last" = false := by decide +kernel
theorem lk_rule : tblL.lookup ("rule" : Str) = some (["rule ", "name", "(", "params", ")"] : List Str) := by decide +kernel
theorem lk_let : tblL.lookup ("let" : Str) = some (["name", " = ", "expression"] : List Str) := by decide +kernel
theorem lk_note : tblL.lookup ("note" : Str) = some (["note ", "expression"] : List Str) := by decide +kernel
theorem lk_give : tblL.lookup ("give" : Str) = some (["name", " = give ", "expression"] : List Str) := by decide +kernel
theorem lk_on : tblL.lookup ("on" : Str) = some (["name", " = on ", "expression"] : List Str) := by decide +kernel
theorem lk_ask : tblL.lookup ("ask" : Str) = some (["name", ", ", "name", " = ask ", "expression", ", ", "expression"] : List Str) := by decide +kernel
theorem lk_cast : tblL.lookup ("cast" : Str) = some (["name", ", ", "name", " = cast ", "expression", ", ", "word", " ", "expression"] : List Str) := by decide +kernel
theorem lk_close : tblL.lookup ("close" : Str) = some (["close ", "expression"] : List Str) := by decide +kernel
theorem lk_end : tblL.lookup ("end" : Str) = some (["end ", "expression"] : List Str) := by decide +kernel
theorem lk_fault : tblL.lookup ("fault" : Str) = some (["fault ", "word", " ", "expression"] : List Str) := by decide +kernel
theorem lk_leave : tblL.lookup ("leave" : Str) = some (["leave"] : List Str) := by decide +kernel
theorem lk_if : tblL.lookup ("if" : Str) = some (["if ", "expression"] : List Str) := by decide +kernel
theorem lk_else : tblL.lookup ("else" : Str) = some (["else"] : List Str) := by decide +kernel
theorem lk_while : tblL.lookup ("while" : Str) = some (["while ", "expression"] : List Str) := by decide +kernel
theorem lk_try : tblL.lookup ("try" : Str) = some (["try"] : List Str) := by decide +kernel
theorem lk_catch : tblL.lookup ("catch" : Str) = some (["catch ", "caught", " ", "name"] : List Str) := by decide +kernel
theorem lk_last : tblL.lookup ("last" : Str) = some (["last"] : List Str) := by decide +kernel
end P3
set_option Elab.async false
set_option linter.all false
set_option maxRecDepth 100000
namespace P3
open PySem L2 L3
abbrev N_part_text : List Str := ["kind", "part"]
def t_part_text : TS3 :=
    (tSeq3 (tIfS3 (tTest3 (tOp3 rEq3 (tVar3 0) (tC3 (.str "expression")))) (tRet3 (tCall3 (P2.spET 5) (tCons3 (tVar3 1) tNil3))) tNext3)
    (tSeq3 (tIfS3 (tTest3 (tOp3 rEq3 (tVar3 0) (tC3 (.str "params")))) (tRet3 (tBM3 "str" rJoinT3 (tC3 (.str ", ")) (tCons3 (tVar3 1) tNil3))) tNext3)
    (tRet3 (tVar3 1))))
theorem st_part_text (d0 d1 : D) : start3 N_part_text [d0, d1] = [some d0, some d1] := rfl
abbrev N_line_text : List Str := ["blanks", "word", "parts", "texts", "used", "piece"]
def t_line_text : TS3 :=
    (tSeq3 (tSet3 3 (tLstM3 tNil3))
    (tSeq3 (tSet3 4 (tC3 (.int 0)))
    (tSeq3 (tFor3 (iTup3 (tGD3 P3.tblL (tVar3 1))) 5 (tIfS3 (tTest3 (tOp3 (rIn3 false) (tVar3 5) (tC3 (.tup ((["name", "word", "caught", "params", "expression"] : List Str).map D.str))))) (tSeq3 (tDrop3 (tBM3 "list" rAppend3 (tVar3 3) (tCons3 (tCall3 spPart (tCons3 (tVar3 5) (tCons3 (tOp3 rIx3 (tVar3 2) (tVar3 4)) tNil3))) tNil3)))
    (tAug3 4 (tC3 (.int 1)))) (tDrop3 (tBM3 "list" rAppend3 (tVar3 3) (tCons3 (tVar3 5) tNil3)))))
    (tFrz3 3 (tRet3 (tOp3 rAdd3 (tOp3 rMulS3 (tC3 (.str " ")) (tVar3 0)) (tBM3 "str" rJoin3 (tC3 (.str "")) (tCons3 (tVar3 3) tNil3))))))))
theorem st_line_text (d0 d1 d2 : D) : start3 N_line_text [d0, d1, d2] = [some d0, some d1, some d2, none, none, none] := rfl
abbrev N_headed_lines : List Str := ["blanks", "word", "parts", "block", "lines", "deed"]
def t_headed_lines (q_headed_lines q_rest_lines q_try_lines q_deed_lines : Sp3) : TS3 :=
    (tSeq3 (tSet3 4 (tLstM3 (tCons3 (tCall3 spLine (tCons3 (tVar3 0) (tCons3 (tVar3 1) (tCons3 (tVar3 2) tNil3)))) tNil3)))
    (tSeq3 (tFor3 (iTup3 (tVar3 3)) 5 (tDrop3 (tBM3 "list" rExt3 (tVar3 4) (tCons3 (tCall3 q_deed_lines (tCons3 (tOp3 rAdd3 (tVar3 0) (tC3 (.int 1))) (tCons3 (tVar3 5) tNil3))) tNil3))))
    (tRet3 (tVar3 4))))
theorem st_headed_lines (d0 d1 d2 d3 : D) : start3 N_headed_lines [d0, d1, d2, d3] = [some d0, some d1, some d2, some d3, none, none] := rfl
abbrev N_rest_lines : List Str := ["blanks", "word", "block"]
def t_rest_lines (q_headed_lines q_rest_lines q_try_lines q_deed_lines : Sp3) : TS3 :=
    (tSeq3 (tIfS3 (tTest3 (tOp3 rEq3 (tCB3 rLen3 (tCons3 (tVar3 2) tNil3)) (tC3 (.int 0)))) (tRet3 (tLstM3 tNil3)) tNext3)
    (tRet3 (tCall3 q_headed_lines (tCons3 (tVar3 0) (tCons3 (tVar3 1) (tCons3 (tTup3 tNil3) (tCons3 (tVar3 2) tNil3)))))))
theorem st_rest_lines (d0 d1 d2 : D) : start3 N_rest_lines [d0, d1, d2] = [some d0, some d1, some d2] := rfl
abbrev N_try_lines : List Str := ["blanks", "deed", "lines", "caught", "name", "block"]
def t_try_lines (q_headed_lines q_rest_lines q_try_lines q_deed_lines : Sp3) : TS3 :=
    (tSeq3 (tSet3 2 (tCall3 q_headed_lines (tCons3 (tVar3 0) (tCons3 (tC3 (.str "try")) (tCons3 (tTup3 tNil3) (tCons3 (tOp3 rIx3 (tVar3 1) (tC3 (.int 1))) tNil3))))))
    (tSeq3 (tForG3 (iTup3 (tOp3 rIx3 (tVar3 1) (tC3 (.int 2)))) (gTup3 [3, 4, 5]) (tDrop3 (tBM3 "list" rExt3 (tVar3 2) (tCons3 (tCall3 q_headed_lines (tCons3 (tVar3 0) (tCons3 (tC3 (.str "catch")) (tCons3 (tTup3 (tCons3 (tVar3 3) (tCons3 (tVar3 4) tNil3))) (tCons3 (tVar3 5) tNil3))))) tNil3))))
    (tRet3 (tOp3 rAddM3 (tVar3 2) (tCall3 q_rest_lines (tCons3 (tVar3 0) (tCons3 (tC3 (.str "last")) (tCons3 (tOp3 rIx3 (tVar3 1) (tC3 (.int 3))) tNil3))))))))
theorem st_try_lines (d0 d1 : D) : start3 N_try_lines [d0, d1] = [some d0, some d1, none, none, none, none] := rfl
abbrev N_deed_lines : List Str := ["blanks", "deed"]
def t_deed_lines (q_headed_lines q_rest_lines q_try_lines q_deed_lines : Sp3) : TS3 :=
    (tSeq3 (tIfS3 (tTest3 (tOp3 rEq3 (tOp3 rIx3 (tVar3 1) (tC3 (.int 0))) (tC3 (.str "if")))) (tRet3 (tOp3 rAddM3 (tCall3 q_headed_lines (tCons3 (tVar3 0) (tCons3 (tC3 (.str "if")) (tCons3 (tTup3 (tCons3 (tOp3 rIx3 (tVar3 1) (tC3 (.int 1))) tNil3)) (tCons3 (tOp3 rIx3 (tVar3 1) (tC3 (.int 2))) tNil3))))) (tCall3 q_rest_lines (tCons3 (tVar3 0) (tCons3 (tC3 (.str "else")) (tCons3 (tOp3 rIx3 (tVar3 1) (tC3 (.int 3))) tNil3)))))) tNext3)
    (tSeq3 (tIfS3 (tTest3 (tOp3 rEq3 (tOp3 rIx3 (tVar3 1) (tC3 (.int 0))) (tC3 (.str "while")))) (tRet3 (tCall3 q_headed_lines (tCons3 (tVar3 0) (tCons3 (tC3 (.str "while")) (tCons3 (tTup3 (tCons3 (tOp3 rIx3 (tVar3 1) (tC3 (.int 1))) tNil3)) (tCons3 (tOp3 rIx3 (tVar3 1) (tC3 (.int 2))) tNil3)))))) tNext3)
    (tSeq3 (tIfS3 (tTest3 (tOp3 rEq3 (tOp3 rIx3 (tVar3 1) (tC3 (.int 0))) (tC3 (.str "try")))) (tRet3 (tCall3 q_try_lines (tCons3 (tVar3 0) (tCons3 (tVar3 1) tNil3)))) tNext3)
    (tRet3 (tLstM3 (tCons3 (tCall3 spLine (tCons3 (tVar3 0) (tCons3 (tOp3 rIx3 (tVar3 1) (tC3 (.int 0))) (tCons3 (tSlA3 (tVar3 1) (tPart3 (tC3 (.int 1))) tNoPart3) tNil3)))) tNil3))))))
theorem st_deed_lines (d0 d1 : D) : start3 N_deed_lines [d0, d1] = [some d0, some d1] := rfl
abbrev N_book_text : List Str := ["book", "lines", "name", "params", "block"]
def t_book_text : TS3 :=
    (tSeq3 (tSet3 1 (tLstM3 tNil3))
    (tSeq3 (tForG3 (iTup3 (tVar3 0)) (gTup3 [2, 3, 4]) (tDrop3 (tBM3 "list" rExt3 (tVar3 1) (tCons3 (tCall3 (spHeaded 40) (tCons3 (tC3 (.int 0)) (tCons3 (tC3 (.str "rule")) (tCons3 (tTup3 (tCons3 (tVar3 2) (tCons3 (tVar3 3) tNil3))) (tCons3 (tVar3 4) tNil3))))) tNil3))))
    (tFrz3 1 (tRet3 (tBM3 "str" rJoin3 (tC3 (.str "\n")) (tCons3 (tVar3 1) tNil3))))))
theorem st_book_text (d0 : D) : start3 N_book_text [d0] = [some d0, none, none, none, none] := rfl
abbrev N__law_word : List Str := ["_law_pen_here", "_law_shut", "_law_word_here"]
def t__law_word : TS3 :=
    (tSeq3 (tSet3 1 (tLst3 (tCons3 (tC3 (.str "ask")) (tCons3 (tC3 (.str "cast")) (tCons3 (tC3 (.str "catch")) (tCons3 (tC3 (.str "close")) (tCons3 (tC3 (.str "else")) (tCons3 (tC3 (.str "end")) (tCons3 (tC3 (.str "fault")) (tCons3 (tC3 (.str "give")) (tCons3 (tC3 (.str "if")) (tCons3 (tC3 (.str "last")) (tCons3 (tC3 (.str "leave")) (tCons3 (tC3 (.str "make")) (tCons3 (tC3 (.str "none")) tNil3)))))))))))))))
    (tSeq3 (tSet3 1 (tOp3 rAdd3 (tVar3 1) (tLst3 (tCons3 (tC3 (.str "note")) (tCons3 (tC3 (.str "on")) (tCons3 (tC3 (.str "rule")) (tCons3 (tC3 (.str "try")) (tCons3 (tC3 (.str "while")) tNil3))))))))
    (tSeq3 (tSet3 2 (tCall3 P2.spLetters (tCons3 (tVar3 0) (tCons3 (tOp3 rAdd3 (tC3 (.int 1)) (tCall3 P2.spDraw (tCons3 (tVar3 0) (tCons3 (tC3 (.int 8)) tNil3)))) tNil3))))
    (tSeq3 (tIfS3 (tTest3 (tOp3 rEq3 (tCall3 P2.spDraw (tCons3 (tVar3 0) (tCons3 (tC3 (.int 3)) tNil3))) (tC3 (.int 0)))) (tSet3 2 (tOp3 rIx3 (tVar3 1) (tCall3 P2.spDraw (tCons3 (tVar3 0) (tCons3 (tCB3 rLen3 (tCons3 (tVar3 1) tNil3)) tNil3))))) tNext3)
    (tSeq3 (tIfS3 (tTest3 (tOp3 rEq3 (tVar3 2) (tC3 (.str "any")))) (tSet3 2 (tC3 (.str "many"))) tNext3)
    (tRet3 (tVar3 2)))))))
theorem st__law_word (d0 : D) : start3 N__law_word [d0] = [some d0, none, none] := rfl
abbrev N__law_plain : List Str := ["_law_pen_here", "_law_facts", "_law_in_while", "_law_kind", "_law_x", "_law_y", "_law_one", "_law_two", "_law_word_here", "_law_verb", "_law_line"]
def t__law_plain : TS3 :=
    (tSeq3 (tSet3 3 (tCall3 P2.spDraw (tCons3 (tVar3 0) (tCons3 (tC3 (.int 10)) tNil3))))
    (tSeq3 (tAsg3 (gLst3 [4, 5]) (tComp3 (iRng3 (tCons3 (tC3 (.int 2)) tNil3)) 1 [1, 0] (gName3 0) tTrue3 (tOp3 rIx3 (tOp3 rDGet3 (tVar3 1) (tC3 (.str "names"))) (tCall3 P2.spDraw (tCons3 (tVar3 2) (tCons3 (tCB3 rLen3 (tCons3 (tOp3 rDGet3 (tVar3 1) (tC3 (.str "names"))) tNil3)) tNil3))))))
    (tSeq3 (tSet3 6 (tCall3 (P2.spExpr 5) (tCons3 (tVar3 0) (tCons3 (tVar3 1) (tCons3 (tC3 (.int 4)) (tCons3 (tOp3 rDGet3 (tVar3 1) (tC3 (.str "parts"))) tNil3))))))
    (tSeq3 (tSet3 7 (tCall3 (P2.spExpr 5) (tCons3 (tVar3 0) (tCons3 (tVar3 1) (tCons3 (tC3 (.int 4)) (tCons3 (tOp3 rDGet3 (tVar3 1) (tC3 (.str "parts"))) tNil3))))))
    (tSeq3 (tSet3 8 (tCall3 spWord (tCons3 (tVar3 0) tNil3)))
    (tSeq3 (tIfS3 (tTest3 (tOp3 rEq3 (tVar3 3) (tC3 (.int 0)))) (tRet3 (tTup3 (tCons3 (tTup3 (tCons3 (tC3 (.str "let")) (tCons3 (tVar3 4) (tCons3 (tOp3 rIx3 (tVar3 6) (tC3 (.int 0))) tNil3)))) (tCons3 (tOp3 rAdd3 (tOp3 rAdd3 (tVar3 4) (tC3 (.str " = "))) (tOp3 rIx3 (tVar3 6) (tC3 (.int 1)))) tNil3)))) tNext3)
    (tSeq3 (tIfS3 (tTest3 (tOp3 rLt3 (tVar3 3) (tC3 (.int 3)))) (tSeq3 (tSet3 9 (tOp3 rIx3 (tLst3 (tCons3 (tC3 (.str "give")) (tCons3 (tC3 (.str "on")) tNil3))) (tOp3 rSub3 (tVar3 3) (tC3 (.int 1)))))
    (tRet3 (tTup3 (tCons3 (tTup3 (tCons3 (tVar3 9) (tCons3 (tVar3 4) (tCons3 (tOp3 rIx3 (tVar3 6) (tC3 (.int 0))) tNil3)))) (tCons3 (tOp3 rAdd3 (tOp3 rAdd3 (tOp3 rAdd3 (tOp3 rAdd3 (tVar3 4) (tC3 (.str " = "))) (tVar3 9)) (tC3 (.str " "))) (tOp3 rIx3 (tVar3 6) (tC3 (.int 1)))) tNil3))))) tNext3)
    (tSeq3 (tIfS3 (tTest3 (tOp3 rEq3 (tVar3 3) (tC3 (.int 3)))) (tRet3 (tTup3 (tCons3 (tTup3 (tCons3 (tC3 (.str "ask")) (tCons3 (tVar3 4) (tCons3 (tVar3 5) (tCons3 (tOp3 rIx3 (tVar3 6) (tC3 (.int 0))) (tCons3 (tOp3 rIx3 (tVar3 7) (tC3 (.int 0))) tNil3)))))) (tCons3 (tOp3 rAdd3 (tOp3 rAdd3 (tOp3 rAdd3 (tOp3 rAdd3 (tOp3 rAdd3 (tOp3 rAdd3 (tVar3 4) (tC3 (.str ", "))) (tVar3 5)) (tC3 (.str " = ask "))) (tOp3 rIx3 (tVar3 6) (tC3 (.int 1)))) (tC3 (.str ", "))) (tOp3 rIx3 (tVar3 7) (tC3 (.int 1)))) tNil3)))) tNext3)
    (tSeq3 (tIfS3 (tTest3 (tOp3 rEq3 (tVar3 3) (tC3 (.int 4)))) (tSeq3 (tSet3 10 (tOp3 rAdd3 (tOp3 rAdd3 (tOp3 rAdd3 (tOp3 rAdd3 (tOp3 rAdd3 (tOp3 rAdd3 (tOp3 rAdd3 (tOp3 rAdd3 (tVar3 4) (tC3 (.str ", "))) (tVar3 5)) (tC3 (.str " = cast "))) (tOp3 rIx3 (tVar3 6) (tC3 (.int 1)))) (tC3 (.str ", "))) (tVar3 8)) (tC3 (.str " "))) (tOp3 rIx3 (tVar3 7) (tC3 (.int 1)))))
    (tRet3 (tTup3 (tCons3 (tTup3 (tCons3 (tC3 (.str "cast")) (tCons3 (tVar3 4) (tCons3 (tVar3 5) (tCons3 (tOp3 rIx3 (tVar3 6) (tC3 (.int 0))) (tCons3 (tVar3 8) (tCons3 (tOp3 rIx3 (tVar3 7) (tC3 (.int 0))) tNil3))))))) (tCons3 (tVar3 10) tNil3))))) tNext3)
    (tSeq3 (tIfS3 (tTest3 (tOp3 rLt3 (tVar3 3) (tC3 (.int 8)))) (tSeq3 (tSet3 9 (tOp3 rIx3 (tLst3 (tCons3 (tC3 (.str "note")) (tCons3 (tC3 (.str "close")) (tCons3 (tC3 (.str "end")) tNil3)))) (tOp3 rSub3 (tVar3 3) (tC3 (.int 5)))))
    (tRet3 (tTup3 (tCons3 (tTup3 (tCons3 (tVar3 9) (tCons3 (tOp3 rIx3 (tVar3 6) (tC3 (.int 0))) tNil3))) (tCons3 (tOp3 rAdd3 (tOp3 rAdd3 (tVar3 9) (tC3 (.str " "))) (tOp3 rIx3 (tVar3 6) (tC3 (.int 1)))) tNil3))))) tNext3)
    (tSeq3 (tIfS3 (tOr3 (tTest3 (tOp3 rEq3 (tVar3 3) (tC3 (.int 8)))) (tNot3 (tTest3 (tVar3 2)))) (tRet3 (tTup3 (tCons3 (tTup3 (tCons3 (tC3 (.str "fault")) (tCons3 (tVar3 8) (tCons3 (tOp3 rIx3 (tVar3 6) (tC3 (.int 0))) tNil3)))) (tCons3 (tOp3 rAdd3 (tOp3 rAdd3 (tOp3 rAdd3 (tC3 (.str "fault ")) (tVar3 8)) (tC3 (.str " "))) (tOp3 rIx3 (tVar3 6) (tC3 (.int 1)))) tNil3)))) tNext3)
    (tRet3 (tTup3 (tCons3 (tTup3 (tCons3 (tC3 (.str "leave")) tNil3)) (tCons3 (tC3 (.str "leave")) tNil3)))))))))))))))
theorem st__law_plain (d0 d1 d2 : D) : start3 N__law_plain [d0, d1, d2] = [some d0, some d1, some d2, none, none, none, none, none, none, none, none] := rfl
end P3
set_option Elab.async false
set_option linter.all false
set_option maxRecDepth 100000
open L3
local macro_rules | `(tactic| walk_at "r3") => `(tactic| first | (with_reducible first | refine rd_gd ?_) | walk_at "r2")
local macro_rules | `(tactic| walk_at "rd") => `(tactic| repeat walk_at "r3")
namespace P3
open PySem L2 L3
open P2 (exT wf cst FactsOk len_app join_len sum_le exT_len)
open MK (Ex eD nd dp)
theorem lookup_mem {w : Str} {ps : List Str} : ∀ {l : List (Str × List Str)}, l.lookup w = some ps → ∃ v, (v, ps) ∈ l
  | [], h => by cases h
  | (a, b) :: l, h => by
    rw [List.lookup_cons] at h
    cases e : (w == a) with
    | true => rw [e] at h; cases h; exact ⟨a, List.mem_cons_self⟩
    | false =>
      rw [e] at h
      obtain ⟨v, hv⟩ := lookup_mem h
      exact ⟨v, List.mem_cons_of_mem _ hv⟩
theorem tbl_small : ∀ r ∈ tblL, r.2.length ≤ 9 ∧ ∀ p ∈ r.2, p.length ≤ 20 := by decide +kernel
theorem pcs_small {w : Str} (h : ∃ ps, tblL.lookup w = some ps) : (pcs w).length ≤ 9 ∧ ∀ p ∈ pcs w, p.length ≤ 20 := by
  obtain ⟨ps, h⟩ := h
  obtain ⟨v, hv⟩ := lookup_mem h
  have := tbl_small _ hv
  unfold pcs
  rw [h]
  exact this
theorem ptT_len {pt : Pt} (h : ptOk pt) : (ptT pt).length ≤ 800 := by
  cases pt with
  | nm x => simp only [ptOk] at h; simp only [ptT]; lia
  | ps xs =>
    simp only [ptOk] at h
    simp only [ptT]
    have := join_len ", " xs
    have s := sum_le h.2
    rw [show ((", " : Str)).length = 2 by decide +kernel] at this
    lia
  | ex e =>
    simp only [ptOk] at h
    simp only [ptT]
    have := exT_len e h.1
    lia
theorem lineTs_c (p : Str) (ps : List Str) (pts : List Pt) : lineTs (p :: ps) pts = if isK p = true then (match pts with | pt :: r => ptT pt :: lineTs ps r | [] => []) else p :: lineTs ps pts := lineTs.eq_def (p :: ps) pts
theorem lineTs_len : ∀ {ps : List Str} {pts : List Pt}, fits ps pts → (∀ p ∈ ps, p.length ≤ 20) → ∀ y ∈ lineTs ps pts, y.length ≤ 800
  | [], _, _, _, y, hy => by simp [lineTs] at hy
  | p :: ps, pts, h, hp, y, hy => by
    unfold fits at h
    unfold lineTs at hy
    by_cases hk : isK p = true
    · rw [if_pos hk] at h hy
      obtain ⟨pt, r, rfl, h1, h2, h3⟩ := h
      rcases List.mem_cons.mp hy with rfl | hy
      · exact ptT_len h2
      · exact lineTs_len h3 (fun q hq => hp q (List.mem_cons_of_mem _ hq)) y hy
    · rw [if_neg hk] at h hy
      rcases List.mem_cons.mp hy with rfl | hy
      · have := hp _ List.mem_cons_self; lia
      · exact lineTs_len h (fun q hq => hp q (List.mem_cons_of_mem _ hq)) y hy
theorem lineTs_cnt : ∀ (ps : List Str) (pts : List Pt), (lineTs ps pts).length ≤ ps.length
  | [], _ => by simp [lineTs]
  | p :: ps, pts => by
    unfold lineTs
    split
    · split
      · have := lineTs_cnt ps; rename_i r; have := this r; simp; lia
      · simp
    · have := lineTs_cnt ps pts; simp; lia
theorem lfT_len {w : Str} {pts : List Pt} (h : lnOk w pts) : (lfT w pts).length ≤ 7300 := by
  obtain ⟨h1, h2⟩ := h
  obtain ⟨s1, s2⟩ := pcs_small h1
  have a := join_len "" (lineTs (pcs w) pts)
  have b := sum_le (lineTs_len h2 s2)
  have c := lineTs_cnt (pcs w) pts
  rw [show (("" : Str)).length = 0 by decide +kernel] at a
  unfold lfT
  lia
theorem mul_ok (b : Nat) (hb : b ≤ 20) : MulOk " " (b : Int) := by
  have e : ((" " : Str)).length = 1 := by decide +kernel
  refine ⟨by simp; lia, fun h1 h2 => ?_, fun h1 h2 => ?_⟩
  · rw [e]
    have : (b : Int) ≤ 20 := by lia
    have hb0 : (0 : Int) < b := by lia
    have : (1 : Int) ≤ (2 ^ 63 - 1) / (b : Int) := (Int.le_ediv_iff_mul_le hb0).mpr (by lia)
    lia
  · rw [e]
    have : b = 0 ∨ b = 1 ∨ b = 2 ∨ b = 3 ∨ b = 4 ∨ b = 5 ∨ b = 6 ∨ b = 7 ∨ b = 8 ∨ b = 9 ∨ b = 10 ∨ b = 11 ∨ b = 12 ∨ b = 13 ∨ b = 14 ∨ b = 15 ∨ b = 16 ∨ b = 17 ∨ b = 18 ∨ b = 19 ∨ b = 20 := by lia
    rcases this with rfl | rfl | rfl | rfl | rfl | rfl | rfl | rfl | rfl | rfl | rfl | rfl | rfl | rfl | rfl | rfl | rfl | rfl | rfl | rfl | rfl <;> decide +kernel
theorem mul_cps : ∀ b : Nat, b ≤ 20 → (Txt.mul " " (b : Int)).cps.toList = List.replicate b 32 := by decide +kernel
theorem mul_len {b : Nat} (hb : b ≤ 20) : (Txt.mul " " (b : Int)).length ≤ 20 := by rw [len_cps, mul_cps b hb]; simpa using hb
theorem lnT_len {b : Nat} {w : Str} {pts : List Pt} (hb : b ≤ 20) (h : lnOk w pts) : (lnT b w pts).length ≤ 7400 := by
  unfold lnT
  rw [len_app]
  have := mul_len hb
  have := lfT_len h
  lia
theorem len_part_text : ∀ ds M Q, spPart ds M Q → ds.length = 2 := by rintro _ _ _ ⟨_, _, rfl, _⟩; rfl
theorem rd_part_text : ∀ ds M Q, spPart ds M Q → t_part_text { nx := fun _ M' => View Q .non M', rt := View Q } (start3 N_part_text ds) M := by
  rintro _ M Q ⟨k, pt, rfl, hk, ho, q⟩
  rw [st_part_text]
  unfold t_part_text
  walk_at "rd"
  cases pt with
  | ex e =>
    simp only [kOk] at hk
    subst hk
    refine rd_iteTe (by decide +kernel) ?_
    walk_at "rd"
    simp only [ptOk] at ho
    exact ⟨e, rfl, ho.1, ho.2.2, ho.2.1, View.of q⟩
  | ps xs =>
    simp only [kOk] at hk
    subst hk
    refine rd_iteFe (by decide +kernel) ?_
    walk_at "rd"
    refine rd_iteTe (by decide +kernel) ?_
    walk_at "rd"
    refine ⟨rfl, ?_⟩
    walk_at "rd"
    simp only [ptOk] at ho
    refine rd_joinT ?_ ?_
    · have := sum_le ho.2
      unfold joinOk
      rw [show ((", " : Str)).length = 2 by decide +kernel]
      lia
    exact View.of q
  | nm x =>
    simp only [kOk] at hk
    have h1 : (k == Str.ofString "expression") = false := by rcases hk with rfl | rfl | rfl <;> decide +kernel
    have h2 : (k == Str.ofString "params") = false := by rcases hk with rfl | rfl | rfl <;> decide +kernel
    refine rd_iteFe h1 ?_
    walk_at "rd"
    refine rd_iteFe h2 ?_
    walk_at "rd"
    exact View.of q
theorem len_line_text : ∀ ds M Q, spLine ds M Q → ds.length = 3 := by rintro _ _ _ ⟨_, _, _, rfl, _⟩; rfl
theorem drop_at {α : Type} {l : List α} {k : Nat} {d : α} (h : l[k]? = some d) : l.drop k = d :: l.drop (k + 1) := by
  obtain ⟨hk, rfl⟩ := List.getElem?_eq_some_iff.mp h
  exact List.drop_eq_getElem_cons hk
set_option maxHeartbeats 1000000 in
theorem rd_line_text : ∀ ds M Q, spLine ds M Q → t_line_text { nx := fun _ M' => View Q .non M', rt := View Q } (start3 N_line_text ds) M := by
  rintro _ M Q ⟨b, w, pts, rfl, hb, hok, hpl, q⟩
  rw [st_line_text]
  unfold t_line_text
  obtain ⟨⟨ps, hps⟩, hf⟩ := id hok
  obtain ⟨s1, s2⟩ := pcs_small hok.1
  have hpw : pcs w = ps := by unfold pcs; rw [hps]; rfl
  walk_at "rd"
  intro a ha
  walk_at "rd"
  refine ⟨w, ps, rfl, hps, ?_⟩
  rw [← hpw]
  walk_at "rd"
  refine ⟨fun k σ M1 => ∃ (acc : List Str) (done rest : List Pt) (s5 : Option D), acc.length ≤ k ∧ (∀ y ∈ acc, y.length ≤ 800) ∧ pts = done ++ rest ∧ lineTs (pcs w) pts = acc ++ lineTs ((pcs w).drop k) rest ∧ fits ((pcs w).drop k) rest ∧ σ = [some (.int b), some (.str w), some (.tup (pts.map ptD)), some (.ref a), some (.int done.length), s5] ∧ M1 = mput M a (.lst (acc.map D.str)),
    ⟨[], [], pts, none, Nat.le_refl _, (fun _ h => by cases h), rfl, rfl, hf, rfl, rfl⟩, ?_, ?_⟩
  · rintro k d σ M1 hd ⟨acc, done, rest, s5, hl, hacc, rfl, hT, hF, rfl, rfl⟩
    obtain ⟨p, hp, rfl⟩ : ∃ p, (pcs w)[k]? = some p ∧ d = .str p := by
      rw [List.getElem?_map] at hd
      cases e : (pcs w)[k]? with
      | none => rw [e] at hd; cases hd
      | some p => rw [e] at hd; exact ⟨p, rfl, (Option.some.inj hd).symm⟩
    have hk : k < (pcs w).length := (List.getElem?_eq_some_iff.mp hp).1
    rw [drop_at hp] at hT hF
    unfold fits at hF
    rw [lineTs_c] at hT
    walk_at "rd"
    refine rd_inL (ys := kindL) rfl ?_
    walk_at "rd"
    have hx : (false ^^ kindL.any (· == p)) = isK p := by rw [Bool.false_xor]; rfl
    rw [hx]
    by_cases hk2 : isK p = true
    · rw [if_pos hk2] at hF
      refine rd_iteTe hk2 ?_
      obtain ⟨pt, r, rfl, h1, h2, h3⟩ := hF
      walk_at "rd"
      refine ⟨.inl ⟨rfl, _, mput_same⟩, ?_⟩
      walk_at "rd"
      refine rd_ixT (d := ptD pt) (atI_nat (by simp)) ?_
      walk_at "rd"
      refine ⟨p, pt, rfl, h1, h2, ?_⟩
      walk_at "rd"
      refine rd_append mput_same (by rw [List.length_map, sizeLine_eq]; lia) ?_
      refine rd_aug rfl ?_
      walk_at "rd"
      refine ⟨1, rfl, acc ++ [ptT pt], done ++ [pt], r, some (.str p), by simp; lia, fun y hy => ?_, by simp, ?_, h3, ?_, ?_⟩
      · rcases List.mem_append.mp hy with z | z
        · exact hacc y z
        · cases List.mem_singleton.mp z; exact ptT_len h2
      · rw [hT, if_pos hk2]; simp
      · simp
      · rw [mput_mput, List.map_append]; rfl
    · rw [if_neg hk2] at hF
      refine rd_iteFe (by simpa using hk2) ?_
      walk_at "rd"
      refine ⟨.inl ⟨rfl, _, mput_same⟩, ?_⟩
      walk_at "rd"
      refine rd_append mput_same (by rw [List.length_map, sizeLine_eq]; lia) ?_
      refine ⟨acc ++ [p], done, rest, some (.str p), by simp; lia, fun y hy => ?_, rfl, ?_, hF, rfl, ?_⟩
      · rcases List.mem_append.mp hy with z | z
        · exact hacc y z
        · cases List.mem_singleton.mp z; have := s2 _ (List.mem_of_getElem? hp); lia
      · rw [hT, if_neg hk2]; simp
      · rw [mput_mput, List.map_append]; rfl
  · rintro σ M1 ⟨acc, done, rest, s5, hl, hacc, rfl, hT, hF, rfl, rfl⟩
    rw [List.length_map] at hl hT
    rw [List.drop_length] at hT
    have hT2 : lineTs (pcs w) (done ++ rest) = acc := by rw [hT]; simp [lineTs]
    refine rd_frz rfl mput_same ?_
    have hM : mdel (mput M a (.lst (acc.map D.str))) a = M := funext fun x => by
      by_cases hx : x = a
      · subst hx; rw [mdel_same, ha]
      · rw [mdel_ne hx, mput_ne hx]
    rw [hM]
    walk_at "rd"
    refine rd_mulS (mul_ok b hb) ?_
    walk_at "rd"
    refine ⟨rfl, ?_⟩
    walk_at "rd"
    refine rd_joinL ?_ ?_
    · have := sum_le hacc
      unfold joinOk
      rw [show (("" : Str)).length = 0 by decide +kernel]
      lia
    have h5 := lfT_len hok
    have h6 := mul_len hb
    unfold lfT at h5
    rw [hT2] at h5
    refine rd_addS (by rw [sizeLine_eq]; lia) ?_
    unfold lnT lfT at q
    rw [hT2] at q
    exact View.of q
end P3
set_option Elab.async false
set_option linter.all false
set_option maxRecDepth 100000
open L3
namespace P3
open PySem L2 L3
open P2 (exT wf cst FactsOk len_app join_len sum_le exT_len)
open MK (Ex eD nd dp)
theorem fits_0 : fits [] [] := rfl
theorem fits_k {p : Str} {ps : List Str} {pt : Pt} {r : List Pt} (hk : isK p = true) (h1 : kOk p pt) (h2 : ptOk pt) (h : fits ps r) : fits (p :: ps) (pt :: r) := by
  unfold fits
  rw [if_pos hk]
  exact ⟨pt, r, rfl, h1, h2, h⟩
theorem fits_n {p : Str} {ps : List Str} {pts : List Pt} (hk : isK p = false) (h : fits ps pts) : fits (p :: ps) pts := by
  unfold fits
  rw [if_neg (by rw [hk]; exact Bool.false_ne_true)]
  exact h
theorem lineTs_k {p : Str} {ps : List Str} {pt : Pt} {r : List Pt} (hk : isK p = true) : lineTs (p :: ps) (pt :: r) = ptT pt :: lineTs ps r := by rw [lineTs_c, if_pos hk]
theorem lineTs_n {p : Str} {ps : List Str} {pts : List Pt} (hk : isK p = false) : lineTs (p :: ps) pts = p :: lineTs ps pts := by rw [lineTs_c, if_neg (by rw [hk]; exact Bool.false_ne_true)]
theorem glue_cps : ∀ (ys : List Str) (a : Array Nat), (List.foldl (fun acc (p : Str) => acc ++ (("" : Str)).cps ++ p.cps) a ys).toList = a.toList ++ (ys.map fun y => y.cps.toList).flatten
  | [], a => by simp
  | y :: ys, a => by
    rw [List.foldl_cons, glue_cps ys]
    have : (("" : Str)).cps = #[] := by decide +kernel
    rw [this]
    simp
theorem joinE (ys : List Str) : (Txt.join "" ys).cps.toList = (ys.map fun y => y.cps.toList).flatten := by
  show (List.foldl _ ((ys.headD Str.empty).cps) (List.drop 1 ys)).toList = _
  cases ys with
  | nil => rfl
  | cons y ys =>
    rw [List.drop_one, List.tail_cons]
    refine (glue_cps ys _).trans ?_
    simp
theorem pcs_rule : pcs "rule" = (["rule ", "name", "(", "params", ")"] : List Str) := by unfold pcs; rw [lk_rule]; rfl
theorem ok_rule {a : Str} {b : List Str} (ha : a.length ≤ 20) (hb : ptOk (.ps b)) : lnOk "rule" [.nm a, .ps b] := ⟨⟨_, lk_rule⟩, by rw [pcs_rule]; exact (fits_n isK_0 (fits_k isK_1 (.inl rfl) ha (fits_n isK_2 (fits_k isK_3 rfl hb (fits_n isK_4 fits_0)))))⟩
theorem lt_rule (a : Str) (b : List Str) : lineTs (pcs "rule") [.nm a, .ps b] = (["rule ", a, "(", Txt.join ", " b, ")"] : List Str) := by rw [pcs_rule, lineTs_n isK_0, lineTs_k isK_1, lineTs_n isK_2, lineTs_k isK_3, lineTs_n isK_4]; rfl
theorem lf_rule (a : Str) (b : List Str) : lfT "rule" [.nm a, .ps b] = ("rule " : Str) ++ a ++ ("(" : Str) ++ Txt.join ", " b ++ (")" : Str) := by
  refine str_ext ?_
  unfold lfT
  rw [lt_rule, joinE]
  simp only [cps_app, List.map_cons, List.map_nil, List.flatten_cons, List.flatten_nil, List.append_nil, List.append_assoc]
theorem pcs_let : pcs "let" = (["name", " = ", "expression"] : List Str) := by unfold pcs; rw [lk_let]; rfl
theorem ok_let {a : Str} {b : Ex} (ha : a.length ≤ 20) (hb : ptOk (.ex b)) : lnOk "let" [.nm a, .ex b] := ⟨⟨_, lk_let⟩, by rw [pcs_let]; exact (fits_k isK_1 (.inl rfl) ha (fits_n isK_5 (fits_k isK_6 rfl hb fits_0)))⟩
theorem lt_let (a : Str) (b : Ex) : lineTs (pcs "let") [.nm a, .ex b] = ([a, " = ", exT b] : List Str) := by rw [pcs_let, lineTs_k isK_1, lineTs_n isK_5, lineTs_k isK_6]; rfl
theorem lf_let (a : Str) (b : Ex) : lfT "let" [.nm a, .ex b] = a ++ (" = " : Str) ++ exT b := by
  refine str_ext ?_
  unfold lfT
  rw [lt_let, joinE]
  simp only [cps_app, List.map_cons, List.map_nil, List.flatten_cons, List.flatten_nil, List.append_nil, List.append_assoc]
theorem pcs_note : pcs "note" = (["note ", "expression"] : List Str) := by unfold pcs; rw [lk_note]; rfl
theorem ok_note {a : Ex} (ha : ptOk (.ex a)) : lnOk "note" [.ex a] := ⟨⟨_, lk_note⟩, by rw [pcs_note]; exact (fits_n isK_7 (fits_k isK_6 rfl ha fits_0))⟩
theorem lt_note (a : Ex) : lineTs (pcs "note") [.ex a] = (["note ", exT a] : List Str) := by rw [pcs_note, lineTs_n isK_7, lineTs_k isK_6]; rfl
theorem lf_note (a : Ex) : lfT "note" [.ex a] = ("note " : Str) ++ exT a := by
  refine str_ext ?_
  unfold lfT
  rw [lt_note, joinE]
  simp only [cps_app, List.map_cons, List.map_nil, List.flatten_cons, List.flatten_nil, List.append_nil, List.append_assoc]
theorem pcs_give : pcs "give" = (["name", " = give ", "expression"] : List Str) := by unfold pcs; rw [lk_give]; rfl
theorem ok_give {a : Str} {b : Ex} (ha : a.length ≤ 20) (hb : ptOk (.ex b)) : lnOk "give" [.nm a, .ex b] := ⟨⟨_, lk_give⟩, by rw [pcs_give]; exact (fits_k isK_1 (.inl rfl) ha (fits_n isK_8 (fits_k isK_6 rfl hb fits_0)))⟩
theorem lt_give (a : Str) (b : Ex) : lineTs (pcs "give") [.nm a, .ex b] = ([a, " = give ", exT b] : List Str) := by rw [pcs_give, lineTs_k isK_1, lineTs_n isK_8, lineTs_k isK_6]; rfl
theorem lf_give (a : Str) (b : Ex) : lfT "give" [.nm a, .ex b] = a ++ (" = give " : Str) ++ exT b := by
  refine str_ext ?_
  unfold lfT
  rw [lt_give, joinE]
  simp only [cps_app, List.map_cons, List.map_nil, List.flatten_cons, List.flatten_nil, List.append_nil, List.append_assoc]
theorem pcs_on : pcs "on" = (["name", " = on ", "expression"] : List Str) := by unfold pcs; rw [lk_on]; rfl
theorem ok_on {a : Str} {b : Ex} (ha : a.length ≤ 20) (hb : ptOk (.ex b)) : lnOk "on" [.nm a, .ex b] := ⟨⟨_, lk_on⟩, by rw [pcs_on]; exact (fits_k isK_1 (.inl rfl) ha (fits_n isK_9 (fits_k isK_6 rfl hb fits_0)))⟩
theorem lt_on (a : Str) (b : Ex) : lineTs (pcs "on") [.nm a, .ex b] = ([a, " = on ", exT b] : List Str) := by rw [pcs_on, lineTs_k isK_1, lineTs_n isK_9, lineTs_k isK_6]; rfl
theorem lf_on (a : Str) (b : Ex) : lfT "on" [.nm a, .ex b] = a ++ (" = on " : Str) ++ exT b := by
  refine str_ext ?_
  unfold lfT
  rw [lt_on, joinE]
  simp only [cps_app, List.map_cons, List.map_nil, List.flatten_cons, List.flatten_nil, List.append_nil, List.append_assoc]
theorem pcs_ask : pcs "ask" = (["name", ", ", "name", " = ask ", "expression", ", ", "expression"] : List Str) := by unfold pcs; rw [lk_ask]; rfl
theorem ok_ask {a : Str} {b : Str} {c : Ex} {d : Ex} (ha : a.length ≤ 20) (hb : b.length ≤ 20) (hc : ptOk (.ex c)) (hd : ptOk (.ex d)) : lnOk "ask" [.nm a, .nm b, .ex c, .ex d] := ⟨⟨_, lk_ask⟩, by rw [pcs_ask]; exact (fits_k isK_1 (.inl rfl) ha (fits_n isK_10 (fits_k isK_1 (.inl rfl) hb (fits_n isK_11 (fits_k isK_6 rfl hc (fits_n isK_10 (fits_k isK_6 rfl hd fits_0)))))))⟩
theorem lt_ask (a : Str) (b : Str) (c : Ex) (d : Ex) : lineTs (pcs "ask") [.nm a, .nm b, .ex c, .ex d] = ([a, ", ", b, " = ask ", exT c, ", ", exT d] : List Str) := by rw [pcs_ask, lineTs_k isK_1, lineTs_n isK_10, lineTs_k isK_1, lineTs_n isK_11, lineTs_k isK_6, lineTs_n isK_10, lineTs_k isK_6]; rfl
theorem lf_ask (a : Str) (b : Str) (c : Ex) (d : Ex) : lfT "ask" [.nm a, .nm b, .ex c, .ex d] = a ++ (", " : Str) ++ b ++ (" = ask " : Str) ++ exT c ++ (", " : Str) ++ exT d := by
  refine str_ext ?_
  unfold lfT
  rw [lt_ask, joinE]
  simp only [cps_app, List.map_cons, List.map_nil, List.flatten_cons, List.flatten_nil, List.append_nil, List.append_assoc]
theorem pcs_cast : pcs "cast" = (["name", ", ", "name", " = cast ", "expression", ", ", "word", " ", "expression"] : List Str) := by unfold pcs; rw [lk_cast]; rfl
theorem ok_cast {a : Str} {b : Str} {c : Ex} {d : Str} {e : Ex} (ha : a.length ≤ 20) (hb : b.length ≤ 20) (hc : ptOk (.ex c)) (hd : d.length ≤ 20) (he : ptOk (.ex e)) : lnOk "cast" [.nm a, .nm b, .ex c, .nm d, .ex e] := ⟨⟨_, lk_cast⟩, by rw [pcs_cast]; exact (fits_k isK_1 (.inl rfl) ha (fits_n isK_10 (fits_k isK_1 (.inl rfl) hb (fits_n isK_12 (fits_k isK_6 rfl hc (fits_n isK_10 (fits_k isK_13 (.inr (.inl rfl)) hd (fits_n isK_14 (fits_k isK_6 rfl he fits_0)))))))))⟩
theorem lt_cast (a : Str) (b : Str) (c : Ex) (d : Str) (e : Ex) : lineTs (pcs "cast") [.nm a, .nm b, .ex c, .nm d, .ex e] = ([a, ", ", b, " = cast ", exT c, ", ", d, " ", exT e] : List Str) := by rw [pcs_cast, lineTs_k isK_1, lineTs_n isK_10, lineTs_k isK_1, lineTs_n isK_12, lineTs_k isK_6, lineTs_n isK_10, lineTs_k isK_13, lineTs_n isK_14, lineTs_k isK_6]; rfl
theorem lf_cast (a : Str) (b : Str) (c : Ex) (d : Str) (e : Ex) : lfT "cast" [.nm a, .nm b, .ex c, .nm d, .ex e] = a ++ (", " : Str) ++ b ++ (" = cast " : Str) ++ exT c ++ (", " : Str) ++ d ++ (" " : Str) ++ exT e := by
  refine str_ext ?_
  unfold lfT
  rw [lt_cast, joinE]
  simp only [cps_app, List.map_cons, List.map_nil, List.flatten_cons, List.flatten_nil, List.append_nil, List.append_assoc]
theorem pcs_close : pcs "close" = (["close ", "expression"] : List Str) := by unfold pcs; rw [lk_close]; rfl
theorem ok_close {a : Ex} (ha : ptOk (.ex a)) : lnOk "close" [.ex a] := ⟨⟨_, lk_close⟩, by rw [pcs_close]; exact (fits_n isK_15 (fits_k isK_6 rfl ha fits_0))⟩
theorem lt_close (a : Ex) : lineTs (pcs "close") [.ex a] = (["close ", exT a] : List Str) := by rw [pcs_close, lineTs_n isK_15, lineTs_k isK_6]; rfl
theorem lf_close (a : Ex) : lfT "close" [.ex a] = ("close " : Str) ++ exT a := by
  refine str_ext ?_
  unfold lfT
  rw [lt_close, joinE]
  simp only [cps_app, List.map_cons, List.map_nil, List.flatten_cons, List.flatten_nil, List.append_nil, List.append_assoc]
theorem pcs_end : pcs "end" = (["end ", "expression"] : List Str) := by unfold pcs; rw [lk_end]; rfl
theorem ok_end {a : Ex} (ha : ptOk (.ex a)) : lnOk "end" [.ex a] := ⟨⟨_, lk_end⟩, by rw [pcs_end]; exact (fits_n isK_16 (fits_k isK_6 rfl ha fits_0))⟩
theorem lt_end (a : Ex) : lineTs (pcs "end") [.ex a] = (["end ", exT a] : List Str) := by rw [pcs_end, lineTs_n isK_16, lineTs_k isK_6]; rfl
theorem lf_end (a : Ex) : lfT "end" [.ex a] = ("end " : Str) ++ exT a := by
  refine str_ext ?_
  unfold lfT
  rw [lt_end, joinE]
  simp only [cps_app, List.map_cons, List.map_nil, List.flatten_cons, List.flatten_nil, List.append_nil, List.append_assoc]
theorem pcs_fault : pcs "fault" = (["fault ", "word", " ", "expression"] : List Str) := by unfold pcs; rw [lk_fault]; rfl
theorem ok_fault {a : Str} {b : Ex} (ha : a.length ≤ 20) (hb : ptOk (.ex b)) : lnOk "fault" [.nm a, .ex b] := ⟨⟨_, lk_fault⟩, by rw [pcs_fault]; exact (fits_n isK_17 (fits_k isK_13 (.inr (.inl rfl)) ha (fits_n isK_14 (fits_k isK_6 rfl hb fits_0))))⟩
theorem lt_fault (a : Str) (b : Ex) : lineTs (pcs "fault") [.nm a, .ex b] = (["fault ", a, " ", exT b] : List Str) := by rw [pcs_fault, lineTs_n isK_17, lineTs_k isK_13, lineTs_n isK_14, lineTs_k isK_6]; rfl
theorem lf_fault (a : Str) (b : Ex) : lfT "fault" [.nm a, .ex b] = ("fault " : Str) ++ a ++ (" " : Str) ++ exT b := by
  refine str_ext ?_
  unfold lfT
  rw [lt_fault, joinE]
  simp only [cps_app, List.map_cons, List.map_nil, List.flatten_cons, List.flatten_nil, List.append_nil, List.append_assoc]
theorem pcs_leave : pcs "leave" = (["leave"] : List Str) := by unfold pcs; rw [lk_leave]; rfl
theorem ok_leave   : lnOk "leave" [] := ⟨⟨_, lk_leave⟩, by rw [pcs_leave]; exact (fits_n isK_18 fits_0)⟩
theorem lt_leave  : lineTs (pcs "leave") [] = (["leave"] : List Str) := by rw [pcs_leave, lineTs_n isK_18]; rfl
theorem lf_leave  : lfT "leave" [] = ("leave" : Str) := by
  refine str_ext ?_
  unfold lfT
  rw [lt_leave, joinE]
  simp only [cps_app, List.map_cons, List.map_nil, List.flatten_cons, List.flatten_nil, List.append_nil, List.append_assoc]
theorem pcs_if : pcs "if" = (["if ", "expression"] : List Str) := by unfold pcs; rw [lk_if]; rfl
theorem ok_if {a : Ex} (ha : ptOk (.ex a)) : lnOk "if" [.ex a] := ⟨⟨_, lk_if⟩, by rw [pcs_if]; exact (fits_n isK_19 (fits_k isK_6 rfl ha fits_0))⟩
theorem lt_if (a : Ex) : lineTs (pcs "if") [.ex a] = (["if ", exT a] : List Str) := by rw [pcs_if, lineTs_n isK_19, lineTs_k isK_6]; rfl
theorem lf_if (a : Ex) : lfT "if" [.ex a] = ("if " : Str) ++ exT a := by
  refine str_ext ?_
  unfold lfT
  rw [lt_if, joinE]
  simp only [cps_app, List.map_cons, List.map_nil, List.flatten_cons, List.flatten_nil, List.append_nil, List.append_assoc]
theorem pcs_else : pcs "else" = (["else"] : List Str) := by unfold pcs; rw [lk_else]; rfl
theorem ok_else   : lnOk "else" [] := ⟨⟨_, lk_else⟩, by rw [pcs_else]; exact (fits_n isK_20 fits_0)⟩
theorem lt_else  : lineTs (pcs "else") [] = (["else"] : List Str) := by rw [pcs_else, lineTs_n isK_20]; rfl
theorem lf_else  : lfT "else" [] = ("else" : Str) := by
  refine str_ext ?_
  unfold lfT
  rw [lt_else, joinE]
  simp only [cps_app, List.map_cons, List.map_nil, List.flatten_cons, List.flatten_nil, List.append_nil, List.append_assoc]
theorem pcs_while : pcs "while" = (["while ", "expression"] : List Str) := by unfold pcs; rw [lk_while]; rfl
theorem ok_while {a : Ex} (ha : ptOk (.ex a)) : lnOk "while" [.ex a] := ⟨⟨_, lk_while⟩, by rw [pcs_while]; exact (fits_n isK_21 (fits_k isK_6 rfl ha fits_0))⟩
theorem lt_while (a : Ex) : lineTs (pcs "while") [.ex a] = (["while ", exT a] : List Str) := by rw [pcs_while, lineTs_n isK_21, lineTs_k isK_6]; rfl
theorem lf_while (a : Ex) : lfT "while" [.ex a] = ("while " : Str) ++ exT a := by
  refine str_ext ?_
  unfold lfT
  rw [lt_while, joinE]
  simp only [cps_app, List.map_cons, List.map_nil, List.flatten_cons, List.flatten_nil, List.append_nil, List.append_assoc]
theorem pcs_try : pcs "try" = (["try"] : List Str) := by unfold pcs; rw [lk_try]; rfl
theorem ok_try   : lnOk "try" [] := ⟨⟨_, lk_try⟩, by rw [pcs_try]; exact (fits_n isK_22 fits_0)⟩
theorem lt_try  : lineTs (pcs "try") [] = (["try"] : List Str) := by rw [pcs_try, lineTs_n isK_22]; rfl
theorem lf_try  : lfT "try" [] = ("try" : Str) := by
  refine str_ext ?_
  unfold lfT
  rw [lt_try, joinE]
  simp only [cps_app, List.map_cons, List.map_nil, List.flatten_cons, List.flatten_nil, List.append_nil, List.append_assoc]
theorem pcs_catch : pcs "catch" = (["catch ", "caught", " ", "name"] : List Str) := by unfold pcs; rw [lk_catch]; rfl
theorem ok_catch {a : Str} {b : Str} (ha : a.length ≤ 20) (hb : b.length ≤ 20) : lnOk "catch" [.nm a, .nm b] := ⟨⟨_, lk_catch⟩, by rw [pcs_catch]; exact (fits_n isK_23 (fits_k isK_24 (.inr (.inr rfl)) ha (fits_n isK_14 (fits_k isK_1 (.inl rfl) hb fits_0))))⟩
theorem lt_catch (a : Str) (b : Str) : lineTs (pcs "catch") [.nm a, .nm b] = (["catch ", a, " ", b] : List Str) := by rw [pcs_catch, lineTs_n isK_23, lineTs_k isK_24, lineTs_n isK_14, lineTs_k isK_1]; rfl
theorem lf_catch (a : Str) (b : Str) : lfT "catch" [.nm a, .nm b] = ("catch " : Str) ++ a ++ (" " : Str) ++ b := by
  refine str_ext ?_
  unfold lfT
  rw [lt_catch, joinE]
  simp only [cps_app, List.map_cons, List.map_nil, List.flatten_cons, List.flatten_nil, List.append_nil, List.append_assoc]
theorem pcs_last : pcs "last" = (["last"] : List Str) := by unfold pcs; rw [lk_last]; rfl
theorem ok_last   : lnOk "last" [] := ⟨⟨_, lk_last⟩, by rw [pcs_last]; exact (fits_n isK_25 fits_0)⟩
theorem lt_last  : lineTs (pcs "last") [] = (["last"] : List Str) := by rw [pcs_last, lineTs_n isK_25]; rfl
theorem lf_last  : lfT "last" [] = ("last" : Str) := by
  refine str_ext ?_
  unfold lfT
  rw [lt_last, joinE]
  simp only [cps_app, List.map_cons, List.map_nil, List.flatten_cons, List.flatten_nil, List.append_nil, List.append_assoc]
end P3
set_option Elab.async false
set_option linter.all false
set_option maxRecDepth 100000
open L3
namespace P3
open PySem L2 L3
open P2 (exT wf cst FactsOk len_app join_len sum_le exT_len)
open MK (Ex eD nd dp)
theorem cut1 (x : D) (xs : List D) : cutD (x :: xs) (some 1) none = xs := by
  unfold cutD HT.sIx
  simp
def toL : Bk → List Dd
  | .nil => []
  | .cons d r => d :: toL r
def toC : Cs → List (Str × Str × Bk)
  | .nil => []
  | .cons w x b r => (w, x, b) :: toC r
def cD (c : Str × Str × Bk) : D := .tup [.str c.1, .str c.2.1, .tup (bkD c.2.2)]
def cL (b : Nat) (c : Str × Str × Bk) : List Str := lnT b "catch" [.nm c.1, .nm c.2.1] :: bkL (b + 1) c.2.2
theorem bkD_map : ∀ k : Bk, bkD k = (toL k).map ddD
  | .nil => by simp [bkD, toL]
  | .cons d r => by simp [bkD, toL, bkD_map r]
theorem bkL_map (b : Nat) : ∀ k : Bk, bkL b k = (toL k).flatMap (ddL b)
  | .nil => by simp [bkL, toL]
  | .cons d r => by simp [bkL, toL, bkL_map b r]
theorem csD_map : ∀ c : Cs, csD c = (toC c).map cD
  | .nil => by simp [csD, toC]
  | .cons w x b r => by simp [csD, toC, csD_map r, cD]
theorem csL_map (b : Nat) : ∀ c : Cs, csL b c = (toC c).flatMap (cL b)
  | .nil => by simp [csL, toC]
  | .cons w x k r => by simp [csL, toC, csL_map b r, cL]
theorem toL_mem : ∀ {k : Bk}, okB k → ∀ d ∈ toL k, okD d ∧ 1 + dpD d ≤ dpB k ∧ ctD d ≤ ctB k
  | .nil, _, d, hd => by simp [toL] at hd
  | .cons e r, h, d, hd => by
    simp only [okB] at h
    simp only [toL, List.mem_cons] at hd
    simp only [dpB, ctB]
    rcases hd with rfl | hd
    · exact ⟨h.1, by lia, by lia⟩
    · obtain ⟨h1, h2, h3⟩ := toL_mem h.2 d hd
      exact ⟨h1, by lia, by lia⟩
theorem toC_mem : ∀ {k : Cs}, okC k → ∀ c ∈ toC k, c.1.length ≤ 20 ∧ c.2.1.length ≤ 20 ∧ okB c.2.2 ∧ dpB c.2.2 ≤ dpC k ∧ ctB c.2.2 ≤ ctC k
  | .nil, _, d, hd => by simp [toC] at hd
  | .cons w x b r, h, d, hd => by
    simp only [okC] at h
    simp only [toC, List.mem_cons] at hd
    simp only [dpC, ctC]
    rcases hd with rfl | hd
    · exact ⟨h.1, h.2.1, h.2.2.1, by simp; lia, by simp; lia⟩
    · obtain ⟨h1, h2, h3, h4, h5⟩ := toC_mem h.2.2.2 d hd
      exact ⟨h1, h2, h3, by lia, by lia⟩
mutual
theorem ddL_len : ∀ (b : Nat) (d : Dd), (ddL b d).length ≤ ctD d
  | b, .leaf w pts => by simp [ddL, ctD]
  | b, .ife e x y => by
    have h1 := bkL_len (b + 1) x
    have h2 := bkL_len (b + 1) y
    simp only [ddL, ctD]
    split
    · simp; lia
    · simp; lia
  | b, .whl e x => by
    have h1 := bkL_len (b + 1) x
    simp only [ddL, ctD, List.length_cons]
    lia
  | b, .tr x cs l => by
    have h1 := bkL_len (b + 1) x
    have h2 := bkL_len (b + 1) l
    have h3 := csL_len b cs
    simp only [ddL, ctD]
    split
    · simp; lia
    · simp; lia
theorem bkL_len : ∀ (b : Nat) (k : Bk), (bkL b k).length ≤ ctB k
  | b, .nil => by simp [bkL]
  | b, .cons d r => by
    have h1 := ddL_len b d
    have h2 := bkL_len b r
    simp only [bkL, ctB, List.length_append]
    lia
theorem csL_len : ∀ (b : Nat) (k : Cs), (csL b k).length ≤ ctC k
  | b, .nil => by simp [csL]
  | b, .cons w x k r => by
    have h1 := bkL_len (b + 1) k
    have h2 := csL_len b r
    simp only [csL, ctC, List.length_append, List.length_cons]
    lia
end
theorem flat_le {α : Type} (f : α → List Str) : ∀ (l : List α) (i : Nat), ((l.take i).flatMap f).length ≤ (l.flatMap f).length
  | [], i => by simp
  | x :: l, 0 => by simp
  | x :: l, i + 1 => by
    have := flat_le f l i
    simp only [List.take_succ_cons, List.flatMap_cons, List.length_append]
    lia
theorem take_flat {α : Type} (f : α → List Str) {l : List α} {i : Nat} {x : α} (h : l[i]? = some x) : (l.take (i + 1)).flatMap f = (l.take i).flatMap f ++ f x := by
  rw [List.take_succ, h]
  simp
theorem rd_ext {a b : Addr} {ds es : List D} {M : Mem} {Q : DK} (ha : M a = some (.lst ds)) (hb : M b = some (.lst es)) (hl : ds.length + es.length ≤ sizeLine) (h : Q .non (mput M a (.lst (ds ++ es)))) : rExt3 (.ref a) [.ref b] M Q := ⟨a, b, ds, es, rfl, rfl, ha, hb, hl, h⟩
theorem len_headed_lines : ∀ n ds M Q, spHeaded n ds M Q → ds.length = 4 := by rintro _ _ _ _ ⟨_, _, _, _, rfl, _⟩; rfl
theorem len_rest_lines : ∀ n ds M Q, spRest n ds M Q → ds.length = 3 := by rintro _ _ _ _ ⟨_, _, _, rfl, _⟩; rfl
theorem len_try_lines : ∀ n ds M Q, spTryL n ds M Q → ds.length = 2 := by rintro _ _ _ _ ⟨_, _, _, _, rfl, _⟩; rfl
theorem len_deed_lines : ∀ n ds M Q, spDeedL n ds M Q → ds.length = 2 := by rintro _ _ _ _ ⟨_, _, rfl, _⟩; rfl
theorem zero_headed_lines : ∀ ds M Q, ¬ spHeaded 0 ds M Q := by rintro _ _ _ ⟨_, _, _, _, rfl, _, _, _, h, _⟩; lia
theorem zero_rest_lines : ∀ ds M Q, ¬ spRest 0 ds M Q := by rintro _ _ _ ⟨_, _, _, rfl, _, _, h, _⟩; lia
theorem zero_try_lines : ∀ ds M Q, ¬ spTryL 0 ds M Q := by rintro _ _ _ ⟨_, _, _, _, rfl, _, h, _⟩; lia
theorem zero_deed_lines : ∀ ds M Q, ¬ spDeedL 0 ds M Q := by rintro _ _ _ ⟨_, _, rfl, _, h, _⟩; lia
set_option maxHeartbeats 1000000 in
theorem rd_headed_lines : ∀ n ds M Q, spHeaded (n + 1) ds M Q → t_headed_lines (spHeaded n) (spRest n) (spTryL n) (spDeedL n) { nx := fun _ M' => View Q .non M', rt := View Q } (start3 N_headed_lines ds) M := by
  rintro n _ M Q ⟨b, w, pts, k, rfl, hln, hpl, hok, hdp, hb, hct, q⟩
  rw [st_headed_lines]
  unfold t_headed_lines
  walk_at "rd"
  refine ⟨b, w, pts, rfl, by lia, hln, hpl, ?_⟩
  walk_at "rd"
  intro a ha
  walk_at "rd"
  have hlen := bkL_len (b + 1) k
  rw [bkL_map] at hlen
  refine ⟨fun i σ M1 => ∃ s5, σ = [some (.int b), some (.str w), some (.tup (pts.map ptD)), some (.tup (bkD k)), some (.ref a), s5] ∧ M1 a = some (.lst ((lnT b w pts :: ((toL k).take i).flatMap (ddL (b + 1))).map D.str)) ∧ ∀ x, x ≠ a → M x ≠ none → M1 x = M x,
    ⟨none, rfl, by rw [mput_same]; rfl, fun x hx _ => mput_ne hx⟩, ?_, ?_⟩
  · rintro i d σ M1 hd ⟨s5, rfl, hM1, hs1⟩
    rw [bkD_map, List.getElem?_map] at hd
    obtain ⟨dd, hdd, rfl⟩ : ∃ dd, (toL k)[i]? = some dd ∧ d = ddD dd := by
      cases e : (toL k)[i]? with
      | none => rw [e] at hd; cases hd
      | some p => rw [e] at hd; exact ⟨p, rfl, (Option.some.inj hd).symm⟩
    obtain ⟨h1, h2, h3⟩ := toL_mem hok dd (List.mem_of_getElem? hdd)
    have l1 := flat_le (ddL (b + 1)) (toL k) i
    have l2 := ddL_len (b + 1) dd
    walk_at "rd"
    refine ⟨.inl ⟨rfl, _, hM1⟩, ?_⟩
    walk_at "rd"
    refine ⟨b + 1, dd, rfl, h1, by lia, by lia, by lia, fun a2 ha2 => ?_⟩
    have hne : a ≠ a2 := by rintro rfl; rw [hM1] at ha2; cases ha2
    walk_at "rd"
    refine rd_ext (by rw [mput_ne hne]; exact hM1) mput_same (by simp only [List.length_map, List.length_cons]; rw [sizeLine_eq]; lia) ?_
    refine ⟨some (ddD dd), rfl, ?_, fun x hx hx2 => ?_⟩
    · rw [mput_same, take_flat _ hdd]
      simp
    · have : x ≠ a2 := by
        rintro rfl
        rw [hs1 x hx hx2] at ha2
        exact hx2 ha2
      rw [mput_ne hx, mput_ne this]
      exact hs1 x hx hx2
  · rintro σ M1 ⟨s5, rfl, hM1, hs1⟩
    walk_at "rd"
    rw [bkD_map, List.length_map, List.take_length, ← bkL_map] at hM1
    refine View.sub (fun x o hx => ?_) (q a ha)
    by_cases h : x = a
    · subst h; rw [mput_same] at hx; rw [hM1]; exact hx
    · rw [mput_ne h] at hx; rw [hs1 x h (by rw [hx]; simp)]; exact hx
theorem rd_rest_lines : ∀ n ds M Q, spRest (n + 1) ds M Q → t_rest_lines (spHeaded n) (spRest n) (spTryL n) (spDeedL n) { nx := fun _ M' => View Q .non M', rt := View Q } (start3 N_rest_lines ds) M := by
  rintro n _ M Q ⟨b, w, k, rfl, hln, hok, hdp, hb, hct, q⟩
  rw [st_rest_lines]
  unfold t_rest_lines
  walk_at "rd"
  cases k with
  | nil =>
    simp only [bkD, List.length_nil]
    refine rd_iteTe (by decide) ?_
    walk_at "rd"
    intro a ha
    exact View.of (q a ha)
  | cons d r =>
    simp only [bkD, List.length_cons]
    refine rd_iteFe (by simp; lia) ?_
    walk_at "rd"
    exact ⟨b, w, [], .cons d r, by simp only [bkD]; rfl, hln, by decide, hok, by lia, hb, hct, fun a ha => View.of (q a ha)⟩
set_option maxHeartbeats 1000000 in
theorem rd_try_lines : ∀ n ds M Q, spTryL (n + 1) ds M Q → t_try_lines (spHeaded n) (spRest n) (spTryL n) (spDeedL n) { nx := fun _ M' => View Q .non M', rt := View Q } (start3 N_try_lines ds) M := by
  rintro n _ M Q ⟨b, x, cs, l, rfl, hok, hdp, hb, hct, q⟩
  rw [st_try_lines]
  unfold t_try_lines
  simp only [okD] at hok
  simp only [dpD] at hdp hb
  simp only [ctD] at hct
  simp only [ddD]
  walk_at "rd"
  refine rd_ixT (d := .tup (bkD x)) rfl ?_
  walk_at "rd"
  refine ⟨b, "try", [], x, rfl, ok_try, by decide, hok.1, by lia, by lia, by lia, fun a ha => ?_⟩
  walk_at "rd"
  refine rd_ixT (d := .tup (csD cs)) rfl ?_
  walk_at "rd"
  have hlen := csL_len b cs
  rw [csL_map] at hlen
  have hlx := bkL_len (b + 1) x
  have hll := bkL_len (b + 1) l
  refine ⟨fun i σ M1 => ∃ s3 s4 s5, σ = [some (.int b), some (.tup [.str "try", .tup (bkD x), .tup (csD cs), .tup (bkD l)]), some (.ref a), s3, s4, s5] ∧ M1 a = some (.lst (((lnT b "try" [] :: bkL (b + 1) x) ++ ((toC cs).take i).flatMap (cL b)).map D.str)) ∧ ∀ x, x ≠ a → M x ≠ none → M1 x = M x,
    ⟨none, none, none, rfl, by rw [mput_same]; simp, fun x hx _ => mput_ne hx⟩, ?_, ?_⟩
  · rintro i d σ M1 hd ⟨s3, s4, s5, rfl, hM1, hs1⟩
    rw [csD_map, List.getElem?_map] at hd
    obtain ⟨c, hc, rfl⟩ : ∃ c, (toC cs)[i]? = some c ∧ d = cD c := by
      cases e : (toC cs)[i]? with
      | none => rw [e] at hd; cases hd
      | some p => rw [e] at hd; exact ⟨p, rfl, (Option.some.inj hd).symm⟩
    obtain ⟨h1, h2, h3, h4, h5⟩ := toC_mem hok.2.1 c (List.mem_of_getElem? hc)
    have l1 := flat_le (cL b) (toC cs) i
    have l2 := bkL_len (b + 1) c.2.2
    refine rd_gTup rfl ?_
    walk_at "rd"
    refine ⟨.inl ⟨rfl, _, hM1⟩, ?_⟩
    walk_at "rd"
    refine ⟨b, "catch", [.nm c.1, .nm c.2.1], c.2.2, rfl, ok_catch h1 h2, by simp, h3, by lia, by lia, by lia, fun a2 ha2 => ?_⟩
    have hne : a ≠ a2 := by rintro rfl; rw [hM1] at ha2; cases ha2
    walk_at "rd"
    refine rd_ext (by rw [mput_ne hne]; exact hM1) mput_same (by simp only [List.length_map, List.length_cons, List.length_append]; rw [sizeLine_eq]; lia) ?_
    refine ⟨_, _, _, rfl, ?_, fun x hx hx2 => ?_⟩
    · rw [mput_same, take_flat _ hc]
      simp [cL]
    · have : x ≠ a2 := by
        rintro rfl
        rw [hs1 x hx hx2] at ha2
        exact hx2 ha2
      rw [mput_ne hx, mput_ne this]
      exact hs1 x hx hx2
  · rintro σ M1 ⟨s3, s4, s5, rfl, hM1, hs1⟩
    rw [csD_map, List.length_map, List.take_length, ← csL_map] at hM1
    walk_at "rd"
    refine rd_ixT (d := .tup (bkD l)) rfl ?_
    walk_at "rd"
    refine ⟨b, "last", l, rfl, ok_last, hok.2.2, by lia, by lia, by lia, fun a2 ha2 => ?_⟩
    have hne : a ≠ a2 := by rintro rfl; rw [hM1] at ha2; cases ha2
    have hl2 : (if l.isNil = true then ([] : List Str) else lnT b "last" [] :: bkL (b + 1) l).length ≤ 1 + ctB l := by split <;> simp <;> lia
    rw [← csL_map] at hlen
    refine rd_addM (.inr ⟨a, rfl, by rw [mput_ne hne]; exact hM1⟩) (.inr ⟨a2, rfl, mput_same⟩) (by simp only [List.length_map, List.length_append, List.length_cons]; rw [sizeLine_eq]; lia) fun p hp => ?_
    have hpa2 : p ≠ a2 := by rintro rfl; rw [mput_same] at hp; cases hp
    rw [mput_ne hpa2] at hp
    have hpa : p ≠ a := by rintro rfl; rw [hM1] at hp; cases hp
    have hMp : M p = none := by
      cases e : M p with
      | none => rfl
      | some o => rw [hs1 p hpa (by rw [e]; simp), e] at hp; cases hp
    refine View.sub (fun x o hx => ?_) (q p hMp)
    by_cases h : x = p
    · subst h; rw [mput_same] at hx ⊢; rw [← hx]; simp only [ddL, List.map_append]
    · rw [mput_ne h] at hx
      have hxa : x ≠ a := by rintro rfl; rw [hx] at ha; cases ha
      have e1 := hs1 x hxa (by rw [hx]; simp)
      have hxa2 : x ≠ a2 := by rintro rfl; rw [e1, hx] at ha2; cases ha2
      rw [mput_ne h, mput_ne hxa2, e1]; exact hx
set_option maxHeartbeats 1000000 in
theorem rd_deed_lines : ∀ n ds M Q, spDeedL (n + 1) ds M Q → t_deed_lines (spHeaded n) (spRest n) (spTryL n) (spDeedL n) { nx := fun _ M' => View Q .non M', rt := View Q } (start3 N_deed_lines ds) M := by
  rintro n _ M Q ⟨b, d, rfl, hok, hdp, hb, hct, q⟩
  rw [st_deed_lines]
  unfold t_deed_lines
  cases d with
  | leaf w pts =>
    simp only [okD] at hok
    obtain ⟨h1, h2, h3, h4, h5⟩ := hok
    simp only [ddD]
    walk_at "rd"
    refine rd_ixT (d := .str w) (show atI (D.str w :: pts.map ptD) ((0 : Nat) : Int) = _ from atI_nat rfl) ?_
    walk_at "rd"
    refine rd_iteFe (by simpa using h3) ?_
    walk_at "rd"
    refine rd_ixT (d := .str w) (show atI (D.str w :: pts.map ptD) ((0 : Nat) : Int) = _ from atI_nat rfl) ?_
    walk_at "rd"
    refine rd_iteFe (by simpa using h4) ?_
    walk_at "rd"
    refine rd_ixT (d := .str w) (show atI (D.str w :: pts.map ptD) ((0 : Nat) : Int) = _ from atI_nat rfl) ?_
    walk_at "rd"
    refine rd_iteFe (by simpa using h5) ?_
    walk_at "rd"
    refine rd_ixT (d := .str w) (show atI (D.str w :: pts.map ptD) ((0 : Nat) : Int) = _ from atI_nat rfl) ?_
    walk_at "rd"
    refine ⟨by unfold HT.sIx; simp, ?_⟩
    rw [cut1]
    walk_at "rd"
    refine ⟨b, w, pts, rfl, by simp only [dpD] at hb; lia, h1, h2, ?_⟩
    walk_at "rd"
    intro a ha
    have := q a ha
    simp only [ddL] at this
    exact View.of this
  | whl e k =>
    simp only [okD] at hok
    simp only [dpD] at hdp hb
    simp only [ctD] at hct
    simp only [ddD]
    walk_at "rd"
    refine rd_ixT (d := .str "while") rfl ?_
    walk_at "rd"
    refine rd_iteFe (by decide +kernel) ?_
    walk_at "rd"
    refine rd_ixT (d := .str "while") rfl ?_
    walk_at "rd"
    refine rd_iteTe (by decide +kernel) ?_
    walk_at "rd"
    refine rd_ixT (d := eD e) rfl ?_
    walk_at "rd"
    refine rd_ixT (d := .tup (bkD k)) rfl ?_
    walk_at "rd"
    exact ⟨b, "while", [.ex e], k, rfl, ok_while hok.1, by simp, hok.2, by lia, by lia, by lia, fun a ha => View.of (by have := q a ha; simp only [ddL] at this; exact this)⟩
  | tr x cs l =>
    simp only [ddD]
    walk_at "rd"
    refine rd_ixT (d := .str "try") rfl ?_
    walk_at "rd"
    refine rd_iteFe (by decide +kernel) ?_
    walk_at "rd"
    refine rd_ixT (d := .str "try") rfl ?_
    walk_at "rd"
    refine rd_iteFe (by decide +kernel) ?_
    walk_at "rd"
    refine rd_ixT (d := .str "try") rfl ?_
    walk_at "rd"
    refine rd_iteTe (by decide +kernel) ?_
    walk_at "rd"
    exact ⟨b, x, cs, l, by simp only [ddD], hok, by lia, hb, hct, fun a ha => View.of (q a ha)⟩
  | ife e x y =>
    simp only [okD] at hok
    simp only [dpD] at hdp hb
    simp only [ctD] at hct
    simp only [ddD]
    have hlx := bkL_len (b + 1) x
    have hll := bkL_len (b + 1) y
    walk_at "rd"
    refine rd_ixT (d := .str "if") rfl ?_
    walk_at "rd"
    refine rd_iteTe (by decide +kernel) ?_
    walk_at "rd"
    refine rd_ixT (d := eD e) rfl ?_
    walk_at "rd"
    refine rd_ixT (d := .tup (bkD x)) rfl ?_
    walk_at "rd"
    refine ⟨b, "if", [.ex e], x, rfl, ok_if hok.1, by simp, hok.2.1, by lia, by lia, by lia, fun a ha => ?_⟩
    walk_at "rd"
    refine rd_ixT (d := .tup (bkD y)) rfl ?_
    walk_at "rd"
    refine ⟨b, "else", y, rfl, ok_else, hok.2.2, by lia, by lia, by lia, fun a2 ha2 => ?_⟩
    have hne : a ≠ a2 := by rintro rfl; rw [mput_same] at ha2; cases ha2
    have hl2 : (if y.isNil = true then ([] : List Str) else lnT b "else" [] :: bkL (b + 1) y).length ≤ 1 + ctB y := by split <;> simp <;> lia
    refine rd_addM (.inr ⟨a, rfl, by rw [mput_ne hne, mput_same]⟩) (.inr ⟨a2, rfl, mput_same⟩) (by simp only [List.length_map, List.length_append, List.length_cons]; rw [sizeLine_eq]; lia) fun p hp => ?_
    have hpa2 : p ≠ a2 := by rintro rfl; rw [mput_same] at hp; cases hp
    rw [mput_ne hpa2] at hp
    have hpa : p ≠ a := by rintro rfl; rw [mput_same] at hp; cases hp
    rw [mput_ne hpa] at hp
    refine View.sub (fun x o hx => ?_) (q p hp)
    by_cases h : x = p
    · subst h; rw [mput_same] at hx ⊢; rw [← hx]; simp only [ddL, List.map_append]
    · rw [mput_ne h] at hx
      have hxa : x ≠ a := by rintro rfl; rw [hx] at ha; cases ha
      have hxa2 : x ≠ a2 := by rintro rfl; rw [mput_ne hxa, hx] at ha2; cases ha2
      rw [mput_ne h, mput_ne hxa2, mput_ne hxa]; exact hx
end P3
set_option Elab.async false
set_option linter.all false
set_option maxRecDepth 100000
open L3
namespace P3
open PySem L2 L3
open P2 (exT wf cst FactsOk len_app join_len sum_le exT_len)
open MK (Ex eD nd dp)
theorem len_book_text : ∀ ds M Q, spBookT ds M Q → ds.length = 1 := by rintro _ _ _ ⟨_, rfl, _⟩; rfl
theorem rL_len {r : Rl} (h : rOk r) : (rL r).length ≤ 101 := by
  have := bkL_len 1 r.blk
  obtain ⟨_, _, _, _, h5⟩ := h
  unfold rL
  rw [List.length_cons]
  lia
mutual
theorem ddL_short : ∀ (b : Nat) (d : Dd), okD d → b + dpD d ≤ 20 → ∀ y ∈ ddL b d, y.length ≤ 7400
  | b, .leaf w pts, h, hb, y, hy => by
    simp only [okD] at h
    simp only [ddL, List.mem_singleton] at hy
    simp only [dpD] at hb
    subst hy
    exact lnT_len (by lia) h.1
  | b, .ife e x z, h, hb, y, hy => by
    have i1 := bkL_short (b + 1) x
    have i2 := bkL_short (b + 1) z
    simp only [okD] at h
    simp only [dpD] at hb
    simp only [ddL, List.mem_append, List.mem_cons] at hy
    rcases hy with (rfl | hy) | hy
    · exact lnT_len (by lia) (ok_if h.1)
    · exact i1 h.2.1 (by lia) y hy
    · split at hy
      · cases hy
      · rcases List.mem_cons.mp hy with rfl | hy
        · exact lnT_len (by lia) ok_else
        · exact i2 h.2.2 (by lia) y hy
  | b, .whl e x, h, hb, y, hy => by
    have i1 := bkL_short (b + 1) x
    simp only [okD] at h
    simp only [dpD] at hb
    simp only [ddL, List.mem_cons] at hy
    rcases hy with rfl | hy
    · exact lnT_len (by lia) (ok_while h.1)
    · exact i1 h.2 (by lia) y hy
  | b, .tr x cs l, h, hb, y, hy => by
    have i1 := bkL_short (b + 1) x
    have i2 := bkL_short (b + 1) l
    have i3 := csL_short b cs
    simp only [okD] at h
    simp only [dpD] at hb
    simp only [ddL, List.mem_append, List.mem_cons] at hy
    rcases hy with ((rfl | hy) | hy) | hy
    · exact lnT_len (by lia) ok_try
    · exact i1 h.1 (by lia) y hy
    · exact i3 h.2.1 (by lia) y hy
    · split at hy
      · cases hy
      · rcases List.mem_cons.mp hy with rfl | hy
        · exact lnT_len (by lia) ok_last
        · exact i2 h.2.2 (by lia) y hy
theorem bkL_short : ∀ (b : Nat) (k : Bk), okB k → b + dpB k ≤ 21 → ∀ y ∈ bkL b k, y.length ≤ 7400
  | b, .nil, h, hb, y, hy => by simp [bkL] at hy
  | b, .cons d r, h, hb, y, hy => by
    have i1 := ddL_short b d
    have i2 := bkL_short b r
    simp only [okB] at h
    simp only [dpB] at hb
    simp only [bkL, List.mem_append] at hy
    rcases hy with hy | hy
    · exact i1 h.1 (by lia) y hy
    · exact i2 h.2 (by lia) y hy
theorem csL_short : ∀ (b : Nat) (k : Cs), okC k → b + dpC k ≤ 20 → ∀ y ∈ csL b k, y.length ≤ 7400
  | b, .nil, h, hb, y, hy => by simp [csL] at hy
  | b, .cons w x k r, h, hb, y, hy => by
    have i1 := bkL_short (b + 1) k
    have i2 := csL_short b r
    simp only [okC] at h
    simp only [dpC] at hb
    simp only [csL, List.mem_append, List.mem_cons] at hy
    rcases hy with (rfl | hy) | hy
    · exact lnT_len (by lia) (ok_catch h.1 h.2.1)
    · exact i1 h.2.2.1 (by lia) y hy
    · exact i2 h.2.2.2 (by lia) y hy
end
theorem rL_short {r : Rl} (h : rOk r) : ∀ y ∈ rL r, y.length ≤ 7400 := by
  obtain ⟨h1, h2, h3, h4, h5⟩ := h
  intro y hy
  unfold rL at hy
  rcases List.mem_cons.mp hy with rfl | hy
  · exact lnT_len (by decide) (ok_rule h1 h2)
  · exact bkL_short 1 r.blk h3 (by lia) y hy
theorem flat_len {α : Type} (f : α → List Str) {m : Nat} : ∀ (l : List α), (∀ x ∈ l, (f x).length ≤ m) → (l.flatMap f).length ≤ m * l.length
  | [], _ => by simp
  | x :: l, h => by
    have h1 := h x List.mem_cons_self
    have h2 := flat_len f l fun y hy => h y (List.mem_cons_of_mem _ hy)
    simp only [List.flatMap_cons, List.length_append, List.length_cons, Nat.mul_add]
    lia
set_option maxHeartbeats 1000000 in
theorem rd_book_text : ∀ ds M Q, spBookT ds M Q → t_book_text { nx := fun _ M' => View Q .non M', rt := View Q } (start3 N_book_text ds) M := by
  rintro _ M Q ⟨bk, rfl, hok, hl, q⟩
  rw [st_book_text]
  unfold t_book_text
  walk_at "rd"
  intro a ha
  walk_at "rd"
  have hlen := flat_len rL bk fun r hr => rL_len (hok r hr)
  refine ⟨fun i σ M1 => ∃ s2 s3 s4, σ = [some (.tup (bk.map rD)), some (.ref a), s2, s3, s4] ∧ M1 a = some (.lst (((bk.take i).flatMap rL).map D.str)) ∧ ∀ x, x ≠ a → M x ≠ none → M1 x = M x,
    ⟨none, none, none, rfl, by rw [mput_same]; simp, fun x hx _ => mput_ne hx⟩, ?_, ?_⟩
  · rintro i d σ M1 hd ⟨s2, s3, s4, rfl, hM1, hs1⟩
    rw [List.getElem?_map] at hd
    obtain ⟨r, hr, rfl⟩ : ∃ r, bk[i]? = some r ∧ d = rD r := by
      cases e : bk[i]? with
      | none => rw [e] at hd; cases hd
      | some p => rw [e] at hd; exact ⟨p, rfl, (Option.some.inj hd).symm⟩
    have hrok := hok r (List.mem_of_getElem? hr)
    obtain ⟨h1, h2, h3, h4, h5⟩ := id hrok
    have l1 := flat_le rL bk i
    have l2 := rL_len hrok
    refine rd_gTup rfl ?_
    walk_at "rd"
    refine ⟨.inl ⟨rfl, _, hM1⟩, ?_⟩
    walk_at "rd"
    refine ⟨0, "rule", [.nm r.name, .ps r.pars], r.blk, rfl, ok_rule h1 h2, by simp, h3, by lia, by lia, by lia, fun a2 ha2 => ?_⟩
    have hne : a ≠ a2 := by rintro rfl; rw [hM1] at ha2; cases ha2
    have l3 : (lnT 0 "rule" [.nm r.name, .ps r.pars] :: bkL (0 + 1) r.blk).length ≤ 101 := l2
    walk_at "rd"
    refine rd_ext (by rw [mput_ne hne]; exact hM1) mput_same (by rw [List.length_map, List.length_map, sizeLine_eq]; lia) ?_
    refine ⟨_, _, _, rfl, ?_, fun x hx hx2 => ?_⟩
    · rw [mput_same, take_flat _ hr, List.map_append]
      rfl
    · have : x ≠ a2 := by
        rintro rfl
        rw [hs1 x hx hx2] at ha2
        exact hx2 ha2
      rw [mput_ne hx, mput_ne this]
      exact hs1 x hx hx2
  · rintro σ M1 ⟨s2, s3, s4, rfl, hM1, hs1⟩
    rw [List.length_map, List.take_length] at hM1
    refine rd_frz rfl hM1 ?_
    walk_at "rd"
    refine ⟨rfl, ?_⟩
    walk_at "rd"
    refine rd_joinL ?_ ?_
    · have := sum_le (ys := bk.flatMap rL) (m := 7400) fun y hy => by
        obtain ⟨r, hr, hy⟩ := List.mem_flatMap.mp hy
        exact rL_short (hok r hr) y hy
      unfold joinOk
      rw [show (("\n" : Str)).length = 1 by decide +kernel]
      lia
    refine View.sub (fun x o hx => ?_) q
    have hxa : x ≠ a := by rintro rfl; rw [hx] at ha; cases ha
    rw [mdel_ne hxa, hs1 x hxa (by rw [hx]; simp)]; exact hx
theorem len__law_word : ∀ ds M Q, spWord ds M Q → ds.length = 1 := by rintro _ _ _ ⟨_, _, rfl, _⟩; rfl
def shutW : List Str := ["ask", "cast", "catch", "close", "else", "end", "fault", "give", "if", "last", "leave", "make", "none", "note", "on", "rule", "try", "while"]
theorem shutW_len : ∀ x ∈ shutW, x.length ≤ 20 := by decide +kernel
set_option maxHeartbeats 1000000 in
theorem rd__law_word : ∀ ds M Q, spWord ds M Q → t__law_word { nx := fun _ M' => View Q .non M', rt := View Q } (start3 N__law_word ds) M := by
  rintro _ M Q ⟨p, b, rfl, hP, hb, q⟩
  rw [st__law_word]
  unfold t__law_word
  walk_at "rd"
  refine rd_addL (by simp only [List.length_cons, List.length_nil]; decide) ?_
  walk_at "rd"
  refine P2.draw hP (by lia) (by decide) (by decide) fun n M1 n0 n1 hP1 e1 => ?_
  walk_at "rd"
  refine ⟨p, b + 1, 1 + n, rfl, hP1, by lia, by lia, by lia, fun x M2 hx hP2 e2 => ?_⟩
  walk_at "rd"
  refine P2.draw hP2 (by lia) (by decide) (by decide) fun m M3 m0 m1 hP3 e3 => ?_
  walk_at "rd"
  have fin : ∀ (x : Str) (M' : Mem) (s1 : Option D), x.length ≤ 20 → P2.Pen M' p (b + 16) → Same3 p M M' → (tSeq3 (tIfS3 (tTest3 (tOp3 rEq3 (tVar3 2) (tC3 (.str "any")))) (tSet3 2 (tC3 (.str "many"))) tNext3) (tRet3 (tVar3 2))) { nx := fun _ M' => View Q .non M', rt := View Q } [some (.ref p), s1, some (.str x)] M' := by
    intro x M' s1 hx hP' hs'
    walk_at "rd"
    refine rd_ite2 ?_ ?_
    · walk_at "rd"
      exact View.of (q _ M' (by decide +kernel) (P2.pen_mono hP' (by lia)) hs')
    · walk_at "rd"
      exact View.of (q x M' hx (P2.pen_mono hP' (by lia)) hs')
  refine rd_ite2 ?_ ?_
  · walk_at "rd"
    refine P2.draw hP3 (by lia) (by simp) (by simp) fun k M4 k0 k1 hP4 e4 => ?_
    obtain ⟨d, hd, hm⟩ := atI_mem (ds := shutW.map D.str) (n := k) k0 (by simpa [shutW] using k1)
    obtain ⟨y, hy, rfl⟩ := List.mem_map.mp hm
    refine rd_ixL hd ?_
    exact fin y M4 _ (shutW_len y hy) (P2.pen_mono hP4 (by lia)) (e1.trans (e2.trans (e3.trans e4)))
  · exact rd_next (fin x M3 _ (by lia) (P2.pen_mono hP3 (by lia)) (e1.trans (e2.trans e3)))
end P3
set_option Elab.async false
set_option linter.all false
set_option maxRecDepth 100000
open L3
namespace P3
open PySem L2 L3
open P2 (exT wf cst FactsOk len_app join_len sum_le exT_len)
open MK (Ex eD nd dp)
theorem cl_0 : ((" = " : Str)).length = 3 := by decide +kernel
theorem cl_1 : ((" " : Str)).length = 1 := by decide +kernel
theorem cl_2 : ((", " : Str)).length = 2 := by decide +kernel
theorem cl_3 : ((" = ask " : Str)).length = 7 := by decide +kernel
theorem cl_4 : ((" = cast " : Str)).length = 8 := by decide +kernel
theorem cl_5 : (("fault " : Str)).length = 6 := by decide +kernel
theorem cl_6 : (("give" : Str)).length = 4 := by decide +kernel
theorem cl_7 : (("on" : Str)).length = 2 := by decide +kernel
theorem cl_8 : (("note" : Str)).length = 4 := by decide +kernel
theorem cl_9 : (("close" : Str)).length = 5 := by decide +kernel
theorem cl_10 : (("end" : Str)).length = 3 := by decide +kernel
theorem mid3 {x t a b c d : Str} (h : d.cps.toList = a.cps.toList ++ (b.cps.toList ++ c.cps.toList)) : x ++ d ++ t = x ++ a ++ b ++ c ++ t := by
  refine str_ext ?_
  simp only [cps_app, List.append_assoc, h]
theorem mid2 {t a b d : Str} (h : d.cps.toList = a.cps.toList ++ b.cps.toList) : d ++ t = a ++ b ++ t := by
  refine str_ext ?_
  simp only [cps_app, List.append_assoc, h]
theorem ix0 {x : Ex} {M : Mem} {Q : DK} (h : Q (eD x) M) : rIx3 (P2.exP x) (.int 0) M Q := rd_ixT (d := eD x) rfl h
theorem ix1 {x : Ex} {M : Mem} {Q : DK} (h : Q (.str (exT x)) M) : rIx3 (P2.exP x) (.int 1) M Q := rd_ixT (d := .str (exT x)) rfl h
theorem fok_same {M M' : Mem} {f p : Addr} (h : FOk M f p) (s : Same3 p M M') : FOk M' f p := by
  obtain ⟨h1, kds, n, h2, h3⟩ := h
  refine ⟨P2.facts_same h1 s, kds, n, ?_, h3⟩
  obtain ⟨_, _, _, _, _, _, _, _, _, _, hfp, _⟩ := h1
  rw [s f hfp]; exact h2
theorem len__law_plain : ∀ ds M Q, spPlain ds M Q → ds.length = 3 := by rintro _ _ _ ⟨_, _, _, _, rfl, _⟩; rfl
set_option maxHeartbeats 4000000 in
theorem rd__law_plain : ∀ ds M Q, spPlain ds M Q → t__law_plain { nx := fun _ M' => View Q .non M', rt := View Q } (start3 N__law_plain ds) M := by
  rintro _ M Q ⟨p, f, b, c, rfl, hF, hP, hb, q⟩
  rw [st__law_plain]
  unfold t__law_plain
  have hc5 : cst 5 = 4840 := by decide
  walk_at "rd"
  refine P2.draw hP (by lia) (by decide) (by decide) fun kind M1 k0 k1 hP1 e1 => ?_
  have hF1 := fok_same hF e1
  walk_at "rd"
  refine P2.comp_penN 1 (fun _ _ e => ∃ x : Str, e = .str x ∧ x.length ≤ 20) hP1 ?_ ?_ ?_
  · rw [List.length_map, List.length_range, sizeLine_eq]; decide
  · intro k d M2 R F hd2 hP2 hsame hR
    have hk : k < 2 := by simpa using (List.getElem?_eq_some_iff.mp hd2).1
    have hF2 := P2.facts_keep hF1.1 hsame
    obtain ⟨kds, r, ns, rs, hf1, hn1, hr1, hrs1, ⟨ns0, ns1, ns2⟩, _, hfp, hrp⟩ := hF2
    walk_at "rd"
    refine rd_dgetR hf1 hn1 ?_
    walk_at "rd"
    refine rd_dgetR hf1 hn1 ?_
    walk_at "rd"
    have hpl : 0 < ns.length := by cases ns with | nil => exact absurd rfl ns0 | cons _ _ => simp
    refine P2.draw hP2 (by lia) (by rw [List.length_map]; lia) (by rw [List.length_map]; lia) fun n1 M3 a1 b1 hP3 e3 => ?_
    obtain ⟨d, hd, hm⟩ := atI_mem (ds := ns.map D.str) a1 (by simpa using b1)
    obtain ⟨x, hx, rfl⟩ := List.mem_map.mp hm
    refine rd_ixL hd ?_
    exact hR _ _ ⟨x, rfl, ns2 x hx⟩ (P2.pen_mono hP3 (by lia)) e3
  intro acc M2 hlen hall hP2 e2
  obtain ⟨xs, rfl, hxs⟩ := exists_map (f := D.str) (P := fun x => x.length ≤ 20) fun e he => by
    obtain ⟨_, _, _, c, hc, h2⟩ := comp_all hlen hall e he
    exact ⟨c, hc, h2⟩
  have hl2 : xs.length = 2 := by simpa using hlen
  obtain ⟨x, y, rfl⟩ : ∃ x y, xs = [x, y] := by
    match xs, hl2 with
    | [x, y], _ => exact ⟨x, y, rfl⟩
  have hx := hxs x (by simp)
  have hy := hxs y (by simp)
  refine rd_gLst rfl ?_
  have hF2 := fok_same hF1 e2
  obtain ⟨hFa, kds, np, hf2, hv2, hnp⟩ := id hF2
  walk_at "rd"
  refine rd_dgetR hf2 hv2 ?_
  walk_at "rd"
  refine P2.call_expr (deep := 4) (parts := np) rfl rfl hFa hP2 (by rw [hc5, List.length_map, List.length_range]; lia) hnp (by decide) fun g M3 hg hgn hgd hP3 e3 => ?_
  have hF3 := fok_same hF2 e3
  obtain ⟨hFa3, kds3, np3, hf3, hv3, hnp3⟩ := id hF3
  walk_at "rd"
  refine rd_dgetR hf3 hv3 ?_
  walk_at "rd"
  refine P2.call_expr (deep := 4) (parts := np3) rfl rfl hFa3 hP3 (by rw [hc5, List.length_map, List.length_range]; lia) hnp3 (by decide) fun h M4 hh hhn hhd hP4 e4 => ?_
  walk_at "rd"
  refine ⟨p, _, rfl, hP4, by rw [hc5, List.length_map, List.length_range]; lia, fun w M5 hw hP5 e5 => ?_⟩
  have hP5' : P2.Pen M5 p (b + 10000) := P2.pen_mono hP5 (by rw [hc5, List.length_map, List.length_range]; lia)
  have ee := e1.trans (e2.trans (e3.trans (e4.trans e5)))
  have og : ptOk (.ex g) := ⟨hg, by lia, by lia⟩
  have oh : ptOk (.ex h) := ⟨hh, by lia, by lia⟩
  have lg := exT_len g hg
  have lh := exT_len h hh
  walk_at "rd"
  by_cases hk0 : kind = 0
  · refine rd_iteTe (by simp [hk0]) ?_
    walk_at "rd"
    refine ix0 ?_
    walk_at "rd"
    refine rd_addS (by simp only [len_app, cl_0, cl_1, cl_2, cl_3, cl_4, cl_5, cl_6, cl_7, cl_8, cl_9, cl_10]; rw [sizeLine_eq]; lia) ?_
    walk_at "rd"
    refine ix1 ?_
    refine rd_addS (by simp only [len_app, cl_0, cl_1, cl_2, cl_3, cl_4, cl_5, cl_6, cl_7, cl_8, cl_9, cl_10]; rw [sizeLine_eq]; lia) ?_
    walk_at "rd"
    have := q "let" [.nm x, .ex g] M5 ⟨ok_let hx og, by simp, by decide +kernel, by decide +kernel, by decide +kernel⟩ hP5' ee
    rw [lf_let] at this
    simp only [ddD, List.map_cons, List.map_nil, ptD] at this
    exact View.of this
  refine rd_iteFe (by simp [hk0]) ?_
  walk_at "rd"
  refine rd_dec (fun hk3 => ?_) (fun hk3 => ?_)
  · have : kind = 1 ∨ kind = 2 := by lia
    rcases this with rfl | rfl
    · walk_at "rd"
      refine rd_ixL (d := .str "give") rfl ?_
      walk_at "rd"
      refine ix0 ?_
      walk_at "rd"
      refine rd_addS (by simp only [len_app, cl_0, cl_1, cl_2, cl_3, cl_4, cl_5, cl_6, cl_7, cl_8, cl_9, cl_10]; rw [sizeLine_eq]; lia) ?_
      walk_at "rd"
      refine rd_addS (by simp only [len_app, cl_0, cl_1, cl_2, cl_3, cl_4, cl_5, cl_6, cl_7, cl_8, cl_9, cl_10]; rw [sizeLine_eq]; lia) ?_
      walk_at "rd"
      refine rd_addS (by simp only [len_app, cl_0, cl_1, cl_2, cl_3, cl_4, cl_5, cl_6, cl_7, cl_8, cl_9, cl_10]; rw [sizeLine_eq]; lia) ?_
      walk_at "rd"
      refine ix1 ?_
      refine rd_addS (by simp only [len_app, cl_0, cl_1, cl_2, cl_3, cl_4, cl_5, cl_6, cl_7, cl_8, cl_9, cl_10]; rw [sizeLine_eq]; lia) ?_
      walk_at "rd"
      have := q "give" [.nm x, .ex g] M5 ⟨ok_give hx og, by simp, by decide +kernel, by decide +kernel, by decide +kernel⟩ hP5' ee
      rw [lf_give, mid3 (a := " = ") (b := "give") (c := " ") (by decide +kernel)] at this
      simp only [ddD, List.map_cons, List.map_nil, ptD] at this
      exact View.of this
    · walk_at "rd"
      refine rd_ixL (d := .str "on") rfl ?_
      walk_at "rd"
      refine ix0 ?_
      walk_at "rd"
      refine rd_addS (by simp only [len_app, cl_0, cl_1, cl_2, cl_3, cl_4, cl_5, cl_6, cl_7, cl_8, cl_9, cl_10]; rw [sizeLine_eq]; lia) ?_
      walk_at "rd"
      refine rd_addS (by simp only [len_app, cl_0, cl_1, cl_2, cl_3, cl_4, cl_5, cl_6, cl_7, cl_8, cl_9, cl_10]; rw [sizeLine_eq]; lia) ?_
      walk_at "rd"
      refine rd_addS (by simp only [len_app, cl_0, cl_1, cl_2, cl_3, cl_4, cl_5, cl_6, cl_7, cl_8, cl_9, cl_10]; rw [sizeLine_eq]; lia) ?_
      walk_at "rd"
      refine ix1 ?_
      refine rd_addS (by simp only [len_app, cl_0, cl_1, cl_2, cl_3, cl_4, cl_5, cl_6, cl_7, cl_8, cl_9, cl_10]; rw [sizeLine_eq]; lia) ?_
      walk_at "rd"
      have := q "on" [.nm x, .ex g] M5 ⟨ok_on hx og, by simp, by decide +kernel, by decide +kernel, by decide +kernel⟩ hP5' ee
      rw [lf_on, mid3 (a := " = ") (b := "on") (c := " ") (by decide +kernel)] at this
      simp only [ddD, List.map_cons, List.map_nil, ptD] at this
      exact View.of this
  walk_at "rd"
  by_cases hk4 : kind = 3
  · refine rd_iteTe (by simp [hk4]) ?_
    walk_at "rd"
    refine ix0 ?_
    walk_at "rd"
    refine ix0 ?_
    walk_at "rd"
    refine rd_addS (by simp only [len_app, cl_0, cl_1, cl_2, cl_3, cl_4, cl_5, cl_6, cl_7, cl_8, cl_9, cl_10]; rw [sizeLine_eq]; lia) ?_
    walk_at "rd"
    refine rd_addS (by simp only [len_app, cl_0, cl_1, cl_2, cl_3, cl_4, cl_5, cl_6, cl_7, cl_8, cl_9, cl_10]; rw [sizeLine_eq]; lia) ?_
    walk_at "rd"
    refine rd_addS (by simp only [len_app, cl_0, cl_1, cl_2, cl_3, cl_4, cl_5, cl_6, cl_7, cl_8, cl_9, cl_10]; rw [sizeLine_eq]; lia) ?_
    walk_at "rd"
    refine ix1 ?_
    refine rd_addS (by simp only [len_app, cl_0, cl_1, cl_2, cl_3, cl_4, cl_5, cl_6, cl_7, cl_8, cl_9, cl_10]; rw [sizeLine_eq]; lia) ?_
    walk_at "rd"
    refine rd_addS (by simp only [len_app, cl_0, cl_1, cl_2, cl_3, cl_4, cl_5, cl_6, cl_7, cl_8, cl_9, cl_10]; rw [sizeLine_eq]; lia) ?_
    walk_at "rd"
    refine ix1 ?_
    refine rd_addS (by simp only [len_app, cl_0, cl_1, cl_2, cl_3, cl_4, cl_5, cl_6, cl_7, cl_8, cl_9, cl_10]; rw [sizeLine_eq]; lia) ?_
    walk_at "rd"
    have := q "ask" [.nm x, .nm y, .ex g, .ex h] M5 ⟨ok_ask hx hy og oh, by simp, by decide +kernel, by decide +kernel, by decide +kernel⟩ hP5' ee
    rw [lf_ask] at this
    simp only [ddD, List.map_cons, List.map_nil, ptD] at this
    exact View.of this
  refine rd_iteFe (by simp [hk4]) ?_
  walk_at "rd"
  by_cases hk5 : kind = 4
  · refine rd_iteTe (by simp [hk5]) ?_
    walk_at "rd"
    refine rd_addS (by simp only [len_app, cl_0, cl_1, cl_2, cl_3, cl_4, cl_5, cl_6, cl_7, cl_8, cl_9, cl_10]; rw [sizeLine_eq]; lia) ?_
    walk_at "rd"
    refine rd_addS (by simp only [len_app, cl_0, cl_1, cl_2, cl_3, cl_4, cl_5, cl_6, cl_7, cl_8, cl_9, cl_10]; rw [sizeLine_eq]; lia) ?_
    walk_at "rd"
    refine rd_addS (by simp only [len_app, cl_0, cl_1, cl_2, cl_3, cl_4, cl_5, cl_6, cl_7, cl_8, cl_9, cl_10]; rw [sizeLine_eq]; lia) ?_
    walk_at "rd"
    refine ix1 ?_
    refine rd_addS (by simp only [len_app, cl_0, cl_1, cl_2, cl_3, cl_4, cl_5, cl_6, cl_7, cl_8, cl_9, cl_10]; rw [sizeLine_eq]; lia) ?_
    walk_at "rd"
    refine rd_addS (by simp only [len_app, cl_0, cl_1, cl_2, cl_3, cl_4, cl_5, cl_6, cl_7, cl_8, cl_9, cl_10]; rw [sizeLine_eq]; lia) ?_
    walk_at "rd"
    refine rd_addS (by simp only [len_app, cl_0, cl_1, cl_2, cl_3, cl_4, cl_5, cl_6, cl_7, cl_8, cl_9, cl_10]; rw [sizeLine_eq]; lia) ?_
    walk_at "rd"
    refine rd_addS (by simp only [len_app, cl_0, cl_1, cl_2, cl_3, cl_4, cl_5, cl_6, cl_7, cl_8, cl_9, cl_10]; rw [sizeLine_eq]; lia) ?_
    walk_at "rd"
    refine ix1 ?_
    refine rd_addS (by simp only [len_app, cl_0, cl_1, cl_2, cl_3, cl_4, cl_5, cl_6, cl_7, cl_8, cl_9, cl_10]; rw [sizeLine_eq]; lia) ?_
    walk_at "rd"
    refine ix0 ?_
    walk_at "rd"
    refine ix0 ?_
    walk_at "rd"
    have := q "cast" [.nm x, .nm y, .ex g, .nm w, .ex h] M5 ⟨ok_cast hx hy og hw oh, by simp, by decide +kernel, by decide +kernel, by decide +kernel⟩ hP5' ee
    rw [lf_cast] at this
    simp only [ddD, List.map_cons, List.map_nil, ptD] at this
    exact View.of this
  refine rd_iteFe (by simp [hk5]) ?_
  walk_at "rd"
  refine rd_dec (fun hk8 => ?_) (fun hk8 => ?_)
  · have : kind = 5 ∨ kind = 6 ∨ kind = 7 := by lia
    rcases this with rfl | rfl | rfl
    · walk_at "rd"
      refine rd_ixL (d := .str "note") rfl ?_
      walk_at "rd"
      refine ix0 ?_
      walk_at "rd"
      refine rd_addS (by simp only [len_app, cl_0, cl_1, cl_2, cl_3, cl_4, cl_5, cl_6, cl_7, cl_8, cl_9, cl_10]; rw [sizeLine_eq]; lia) ?_
      walk_at "rd"
      refine ix1 ?_
      refine rd_addS (by simp only [len_app, cl_0, cl_1, cl_2, cl_3, cl_4, cl_5, cl_6, cl_7, cl_8, cl_9, cl_10]; rw [sizeLine_eq]; lia) ?_
      walk_at "rd"
      have := q "note" [.ex g] M5 ⟨ok_note og, by simp, by decide +kernel, by decide +kernel, by decide +kernel⟩ hP5' ee
      rw [lf_note, mid2 (a := "note") (b := " ") (by decide +kernel)] at this
      simp only [ddD, List.map_cons, List.map_nil, ptD] at this
      exact View.of this
    · walk_at "rd"
      refine rd_ixL (d := .str "close") rfl ?_
      walk_at "rd"
      refine ix0 ?_
      walk_at "rd"
      refine rd_addS (by simp only [len_app, cl_0, cl_1, cl_2, cl_3, cl_4, cl_5, cl_6, cl_7, cl_8, cl_9, cl_10]; rw [sizeLine_eq]; lia) ?_
      walk_at "rd"
      refine ix1 ?_
      refine rd_addS (by simp only [len_app, cl_0, cl_1, cl_2, cl_3, cl_4, cl_5, cl_6, cl_7, cl_8, cl_9, cl_10]; rw [sizeLine_eq]; lia) ?_
      walk_at "rd"
      have := q "close" [.ex g] M5 ⟨ok_close og, by simp, by decide +kernel, by decide +kernel, by decide +kernel⟩ hP5' ee
      rw [lf_close, mid2 (a := "close") (b := " ") (by decide +kernel)] at this
      simp only [ddD, List.map_cons, List.map_nil, ptD] at this
      exact View.of this
    · walk_at "rd"
      refine rd_ixL (d := .str "end") rfl ?_
      walk_at "rd"
      refine ix0 ?_
      walk_at "rd"
      refine rd_addS (by simp only [len_app, cl_0, cl_1, cl_2, cl_3, cl_4, cl_5, cl_6, cl_7, cl_8, cl_9, cl_10]; rw [sizeLine_eq]; lia) ?_
      walk_at "rd"
      refine ix1 ?_
      refine rd_addS (by simp only [len_app, cl_0, cl_1, cl_2, cl_3, cl_4, cl_5, cl_6, cl_7, cl_8, cl_9, cl_10]; rw [sizeLine_eq]; lia) ?_
      walk_at "rd"
      have := q "end" [.ex g] M5 ⟨ok_end og, by simp, by decide +kernel, by decide +kernel, by decide +kernel⟩ hP5' ee
      rw [lf_end, mid2 (a := "end") (b := " ") (by decide +kernel)] at this
      simp only [ddD, List.map_cons, List.map_nil, ptD] at this
      exact View.of this
  walk_at "rd"
  have flt : (tRet3 (tTup3 (tCons3 (tTup3 (tCons3 (tC3 (.str "fault")) (tCons3 (tVar3 8) (tCons3 (tOp3 rIx3 (tVar3 6) (tC3 (.int 0))) tNil3)))) (tCons3 (tOp3 rAdd3 (tOp3 rAdd3 (tOp3 rAdd3 (tC3 (.str "fault ")) (tVar3 8)) (tC3 (.str " "))) (tOp3 rIx3 (tVar3 6) (tC3 (.int 1)))) tNil3)))) { nx := (tRet3 (tTup3 (tCons3 (tTup3 (tCons3 (tC3 (.str "leave")) tNil3)) (tCons3 (tC3 (.str "leave")) tNil3)))) { nx := fun _ M' => View Q .non M', rt := View Q }, rt := View Q } [some (.ref p), some (.ref f), some (.bl c), some (.int kind), some (.str x), some (.str y), some (P2.exP g), some (P2.exP h), some (.str w), none, none] M5 := by
    walk_at "rd"
    refine ix0 ?_
    walk_at "rd"
    refine rd_addS (by simp only [len_app, cl_0, cl_1, cl_2, cl_3, cl_4, cl_5, cl_6, cl_7, cl_8, cl_9, cl_10]; rw [sizeLine_eq]; lia) ?_
    walk_at "rd"
    refine rd_addS (by simp only [len_app, cl_0, cl_1, cl_2, cl_3, cl_4, cl_5, cl_6, cl_7, cl_8, cl_9, cl_10]; rw [sizeLine_eq]; lia) ?_
    walk_at "rd"
    refine ix1 ?_
    refine rd_addS (by simp only [len_app, cl_0, cl_1, cl_2, cl_3, cl_4, cl_5, cl_6, cl_7, cl_8, cl_9, cl_10]; rw [sizeLine_eq]; lia) ?_
    walk_at "rd"
    have := q "fault" [.nm w, .ex g] M5 ⟨ok_fault hw og, by simp, by decide +kernel, by decide +kernel, by decide +kernel⟩ hP5' ee
    rw [lf_fault] at this
    simp only [ddD, List.map_cons, List.map_nil, ptD] at this
    exact View.of this
  by_cases hk9 : kind = 8
  · exact rd_iteTe (by simp [hk9]) (rd_iteT flt)
  refine rd_iteFe (by simp [hk9]) ?_
  walk_at "rd"
  cases c with
  | false => exact rd_iteT flt
  | true =>
    walk_at "rd"
    have := q "leave" [] M5 ⟨ok_leave, by simp, by decide +kernel, by decide +kernel, by decide +kernel⟩ hP5' ee
    rw [lf_leave] at this
    simp only [ddD, List.map_cons, List.map_nil, ptD] at this
    exact View.of this
end P3
set_option Elab.async false
set_option linter.all false
set_option maxRecDepth 100000
namespace K16
open PySem L2 L3 P3
structure F0 where
  ns : List Str
  r : Addr
  np : Nat
  rs : List (Str × Nat)
def factsO (F : F0) (l : Int) : MO := .dct [(.inr "names", .lst (F.ns.map D.str)), (.inr "rules", .ref F.r), (.inr "parts", .int F.np), (.inr "left", .int l)]
def FOK (F : F0) : Prop := (F.ns ≠ [] ∧ F.ns.length ≤ 9 ∧ ∀ x ∈ F.ns, x.length ≤ 20) ∧ (F.rs ≠ [] ∧ F.rs.length ≤ 8 ∧ ∀ x ∈ F.rs, x.1.length ≤ 20 ∧ x.2 ≤ 3) ∧ (1 ≤ F.np ∧ F.np ≤ 9)
def FL (F : F0) (M : Mem) (f p : Addr) (l : Int) : Prop := M f = some (factsO F l) ∧ M F.r = some (.lst (F.rs.map P2.rl)) ∧ FOK F ∧ f ≠ p ∧ F.r ≠ p
def Ext (p f : Addr) (M M' : Mem) : Prop := ∀ x, x ≠ p → x ≠ f → M x ≠ none → M' x = M x
def ofB : List Dd → Bk
  | [] => .nil
  | d :: r => .cons d (ofB r)
def spBlock (n : Nat) : Sp3 := fun ds M Q => ∃ (p f : Addr) (b : Nat) (F : F0) (l : Int) (c : Bool) (deep : Nat), ds = [.ref p, .ref f, .int deep, .bl c] ∧ FL F M f p l ∧ P2.Pen M p b ∧ b + 1000000 * (6 - deep) + 20000 * (10 * l.toNat + 1) < 2 ^ 30 ∧ (1 ≤ deep ∧ deep ≤ 5 ∧ 2 * (5 - deep) + 1 ≤ n) ∧ l ≤ 6 ∧
  ∀ k a l' M', okB k → k.isNil = false → dpB k ≤ 6 - deep → ctB k + 10 * l'.toNat ≤ 10 * l.toNat + 1 → l' ≤ l → M a = none → M' a = some (.lst ((bkL deep k).map D.str)) → FL F M' f p l' → P2.Pen M' p (b + 10 + 20000 * ctB k) → Ext p f M M' → Q (.tup [.tup (bkD k), .ref a]) M'
def spLong (n : Nat) : Sp3 := fun ds M Q => ∃ (p f : Addr) (b : Nat) (F : F0) (l : Int) (c : Bool) (deep kind : Nat), ds = [.ref p, .ref f, .int deep, .bl c, .int kind] ∧ FL F M f p l ∧ P2.Pen M p b ∧ b + 1000000 * (5 - deep) + 500000 + 20000 * (10 * l.toNat + 10) < 2 ^ 30 ∧ (1 ≤ deep ∧ deep ≤ 4 ∧ 2 * (5 - deep) ≤ n) ∧ l ≤ 6 ∧ (5 ≤ kind ∧ kind ≤ 7) ∧
  ∀ d a l' M', okD d → dpD d ≤ 5 - deep → ctD d + 10 * l'.toNat ≤ 10 * l.toNat + 10 → l' ≤ l → M a = none → M' a = some (.lst ((ddL deep d).map D.str)) → FL F M' f p l' → P2.Pen M' p (b + 10000 + 20000 * (ctD d - 1)) → Ext p f M M' → Q (.tup [ddD d, .ref a]) M'
def PvB (p f dA lA : Addr) (F : F0) (M : Mem) (l : Int) (c : Bool) (deep b k : Nat) (σ : Lo) (M1 : Mem) : Prop := ∃ (acc : List Dd) (l1 : Int) (s6 s7 s8 s9 s10 : Option D), (0 < k → acc ≠ []) ∧ (∀ d ∈ acc, okD d ∧ 1 + dpD d ≤ 6 - deep) ∧ ctB (ofB acc) + 10 * l1.toNat ≤ 10 * l.toNat + 1 ∧ (k = 0 → acc = [] ∧ l1 = l) ∧ l1 ≤ l ∧ σ = [some (.ref p), some (.ref f), some (.int deep), some (.bl c), some (.ref dA), some (.ref lA), s6, s7, s8, s9, s10] ∧ FL F M1 f p l1 ∧ P2.Pen M1 p (b + 1 + k + 20000 * ctB (ofB acc)) ∧ M1 dA = some (.lst (acc.map ddD)) ∧ M1 lA = some (.lst ((acc.flatMap (ddL deep)).map D.str)) ∧ Ext p f M M1
def spBook : Sp3 := fun ds M Q => ∃ p b, ds = [.ref p] ∧ P2.Pen M p b ∧ b + 40000000 < 2 ^ 30 ∧ ∀ bk M', (∀ r ∈ bk, rOk r) → bk.length ≤ 8 → Q (.tup [.tup (bk.map rD), .str (bookT bk)]) M'
end K16
set_option Elab.async false
set_option linter.all false
set_option maxRecDepth 100000
namespace K16
open PySem L2 L3
abbrev N__law_block : List Str := ["_law_pen_here", "_law_facts", "_law_deep", "_law_in_while", "_law_deeds", "_law_lines", "_law_k", "_law_kind", "_law_deed", "_law_line", "_law_more"]
def t__law_block (q__law_block q__law_long : Sp3) : TS3 :=
    (tSeq3 (tSet3 4 (tLstM3 tNil3))
    (tSeq3 (tSet3 5 (tLstM3 tNil3))
    (tSeq3 (tFor3 (iRng3 (tCons3 (tOp3 rAdd3 (tC3 (.int 1)) (tCall3 P2.spDraw (tCons3 (tVar3 0) (tCons3 (tC3 (.int 3)) tNil3)))) tNil3)) 6 (tSeq3 (tSet3 7 (tCall3 P2.spDraw (tCons3 (tVar3 0) (tCons3 (tC3 (.int 8)) tNil3))))
    (tIfS3 (tOr3 (tTest3 (tOp3 rEq3 (tVar3 6) (tC3 (.int 0)))) (tTest3 (tOp3 rGt3 (tOp3 rDGet3 (tVar3 1) (tC3 (.str "left"))) (tC3 (.int 0))))) (tSeq3 (tDPut3 (tVar3 1) (tC3 (.str "left")) (tOp3 rSub3 (tOp3 rDGet3 (tVar3 1) (tC3 (.str "left"))) (tC3 (.int 1))))
    (tSeq3 (tIfS3 (tOr3 (tTest3 (tOp3 rEq3 (tVar3 2) (tC3 (.int 5)))) (tOr3 (tTest3 (tOp3 rLt3 (tVar3 7) (tC3 (.int 5)))) (tTest3 (tOp3 rLt3 (tOp3 rDGet3 (tVar3 1) (tC3 (.str "left"))) (tC3 (.int 1)))))) (tSeq3 (tAsg3 (gTup3 [8, 9]) (tCall3 P3.spPlain (tCons3 (tVar3 0) (tCons3 (tVar3 1) (tCons3 (tVar3 3) tNil3)))))
    (tDrop3 (tBM3 "list" rAppend3 (tVar3 5) (tCons3 (tOp3 rAdd3 (tOp3 rMulS3 (tC3 (.str " ")) (tVar3 2)) (tVar3 9)) tNil3)))) (tSeq3 (tAsg3 (gTup3 [8, 10]) (tCall3 q__law_long (tCons3 (tVar3 0) (tCons3 (tVar3 1) (tCons3 (tVar3 2) (tCons3 (tVar3 3) (tCons3 (tVar3 7) tNil3)))))))
    (tDrop3 (tBM3 "list" rExt3 (tVar3 5) (tCons3 (tVar3 10) tNil3)))))
    (tDrop3 (tBM3 "list" rAppend3 (tVar3 4) (tCons3 (tVar3 8) tNil3))))) tNext3)))
    (tRet3 (tTup3 (tCons3 (tCB3 rTuple3 (tCons3 (tVar3 4) tNil3)) (tCons3 (tVar3 5) tNil3)))))))
theorem st__law_block (d0 d1 d2 d3 : D) : start3 N__law_block [d0, d1, d2, d3] = [some d0, some d1, some d2, some d3, none, none, none, none, none, none, none] := rfl
abbrev N__law_long : List Str := ["_law_pen_here", "_law_facts", "_law_deep", "_law_in_while", "_law_kind", "_law_ahead", "_law_one", "_law_inner", "_law_lines", "_law_elses", "_law_more", "_law_catches", "_law_count", "_law_k", "_law_caught", "_law_x", "_law_block_here", "_law_lasts"]
def t__law_long (q__law_block q__law_long : Sp3) : TS3 :=
    (tSeq3 (tSet3 5 (tOp3 rMulS3 (tC3 (.str " ")) (tVar3 2)))
    (tSeq3 (tSet3 6 (tCall3 (P2.spExpr 5) (tCons3 (tVar3 0) (tCons3 (tVar3 1) (tCons3 (tC3 (.int 4)) (tCons3 (tOp3 rDGet3 (tVar3 1) (tC3 (.str "parts"))) tNil3))))))
    (tSeq3 (tAsg3 (gTup3 [7, 8]) (tCall3 q__law_block (tCons3 (tVar3 0) (tCons3 (tVar3 1) (tCons3 (tOp3 rAdd3 (tVar3 2) (tC3 (.int 1))) (tCons3 (tOrV3 (tVar3 3) (tOp3 rEq3 (tVar3 4) (tC3 (.int 5)))) tNil3))))))
    (tSeq3 (tIfS3 (tTest3 (tOp3 rEq3 (tVar3 4) (tC3 (.int 5)))) (tRet3 (tTup3 (tCons3 (tTup3 (tCons3 (tC3 (.str "while")) (tCons3 (tOp3 rIx3 (tVar3 6) (tC3 (.int 0))) (tCons3 (tVar3 7) tNil3)))) (tCons3 (tOp3 rAddM3 (tLst3 (tCons3 (tOp3 rAdd3 (tOp3 rAdd3 (tVar3 5) (tC3 (.str "while "))) (tOp3 rIx3 (tVar3 6) (tC3 (.int 1)))) tNil3)) (tVar3 8)) tNil3)))) tNext3)
    (tSeq3 (tIfS3 (tTest3 (tOp3 rEq3 (tVar3 4) (tC3 (.int 6)))) (tSeq3 (tSet3 8 (tOp3 rAddM3 (tLst3 (tCons3 (tOp3 rAdd3 (tOp3 rAdd3 (tVar3 5) (tC3 (.str "if "))) (tOp3 rIx3 (tVar3 6) (tC3 (.int 1)))) tNil3)) (tVar3 8)))
    (tSeq3 (tSet3 9 (tTup3 tNil3))
    (tSeq3 (tIfS3 (tTest3 (tOp3 rEq3 (tCall3 P2.spDraw (tCons3 (tVar3 0) (tCons3 (tC3 (.int 2)) tNil3))) (tC3 (.int 1)))) (tSeq3 (tAsg3 (gTup3 [9, 10]) (tCall3 q__law_block (tCons3 (tVar3 0) (tCons3 (tVar3 1) (tCons3 (tOp3 rAdd3 (tVar3 2) (tC3 (.int 1))) (tCons3 (tVar3 3) tNil3))))))
    (tSet3 8 (tOp3 rAddM3 (tOp3 rAddM3 (tVar3 8) (tLst3 (tCons3 (tOp3 rAdd3 (tVar3 5) (tC3 (.str "else"))) tNil3))) (tVar3 10)))) tNext3)
    (tRet3 (tTup3 (tCons3 (tTup3 (tCons3 (tC3 (.str "if")) (tCons3 (tOp3 rIx3 (tVar3 6) (tC3 (.int 0))) (tCons3 (tVar3 7) (tCons3 (tVar3 9) tNil3))))) (tCons3 (tVar3 8) tNil3))))))) tNext3)
    (tSeq3 (tSet3 8 (tOp3 rAddM3 (tLst3 (tCons3 (tOp3 rAdd3 (tVar3 5) (tC3 (.str "try"))) tNil3)) (tVar3 8)))
    (tSeq3 (tSet3 11 (tLstM3 tNil3))
    (tSeq3 (tSet3 12 (tCall3 P2.spDraw (tCons3 (tVar3 0) (tCons3 (tC3 (.int 4)) tNil3))))
    (tSeq3 (tFor3 (iRng3 (tCons3 (tVar3 12) tNil3)) 13 (tSeq3 (tSet3 14 (tOp3 rIx3 (tLst3 (tCons3 (tCall3 P3.spWord (tCons3 (tVar3 0) tNil3)) (tCons3 (tC3 (.str "any")) tNil3))) (tOp3 rFdiv3 (tCall3 P2.spDraw (tCons3 (tVar3 0) (tCons3 (tC3 (.int 3)) tNil3))) (tC3 (.int 2)))))
    (tSeq3 (tSet3 15 (tOp3 rIx3 (tOp3 rDGet3 (tVar3 1) (tC3 (.str "names"))) (tCall3 P2.spDraw (tCons3 (tVar3 0) (tCons3 (tCB3 rLen3 (tCons3 (tOp3 rDGet3 (tVar3 1) (tC3 (.str "names"))) tNil3)) tNil3)))))
    (tSeq3 (tAsg3 (gTup3 [16, 10]) (tCall3 q__law_block (tCons3 (tVar3 0) (tCons3 (tVar3 1) (tCons3 (tOp3 rAdd3 (tVar3 2) (tC3 (.int 1))) (tCons3 (tVar3 3) tNil3))))))
    (tSeq3 (tDrop3 (tBM3 "list" rAppend3 (tVar3 11) (tCons3 (tTup3 (tCons3 (tVar3 14) (tCons3 (tVar3 15) (tCons3 (tVar3 16) tNil3)))) tNil3)))
    (tSet3 8 (tOp3 rAddM3 (tOp3 rAddM3 (tVar3 8) (tLst3 (tCons3 (tOp3 rAdd3 (tOp3 rAdd3 (tOp3 rAdd3 (tOp3 rAdd3 (tVar3 5) (tC3 (.str "catch "))) (tVar3 14)) (tC3 (.str " "))) (tVar3 15)) tNil3))) (tVar3 10))))))))
    (tSeq3 (tSet3 17 (tTup3 tNil3))
    (tSeq3 (tIfS3 (tOr3 (tTest3 (tOp3 rEq3 (tVar3 12) (tC3 (.int 0)))) (tTest3 (tOp3 rEq3 (tCall3 P2.spDraw (tCons3 (tVar3 0) (tCons3 (tC3 (.int 2)) tNil3))) (tC3 (.int 1))))) (tSeq3 (tAsg3 (gTup3 [17, 10]) (tCall3 q__law_block (tCons3 (tVar3 0) (tCons3 (tVar3 1) (tCons3 (tOp3 rAdd3 (tVar3 2) (tC3 (.int 1))) (tCons3 (tVar3 3) tNil3))))))
    (tSet3 8 (tOp3 rAddM3 (tOp3 rAddM3 (tVar3 8) (tLst3 (tCons3 (tOp3 rAdd3 (tVar3 5) (tC3 (.str "last"))) tNil3))) (tVar3 10)))) tNext3)
    (tRet3 (tTup3 (tCons3 (tTup3 (tCons3 (tC3 (.str "try")) (tCons3 (tVar3 7) (tCons3 (tCB3 rTuple3 (tCons3 (tVar3 11) tNil3)) (tCons3 (tVar3 17) tNil3))))) (tCons3 (tVar3 8) tNil3)))))))))))))))
theorem st__law_long (d0 d1 d2 d3 d4 : D) : start3 N__law_long [d0, d1, d2, d3, d4] = [some d0, some d1, some d2, some d3, some d4, none, none, none, none, none, none, none, none, none, none, none, none, none] := rfl
abbrev N__law_book : List Str := ["_law_pen_here", "_law_many", "_law_small", "_law_facts", "_law_name", "_law_book_here", "_law_lines", "_law_count", "_law_at", "_law_params", "_law_block_here", "_law_more"]
def t__law_book : TS3 :=
    (tSeq3 (tSet3 1 (tOp3 rAdd3 (tC3 (.int 1)) (tCall3 P2.spDraw (tCons3 (tVar3 0) (tCons3 (tOp3 rIx3 (tLst3 (tCons3 (tC3 (.int 3)) (tCons3 (tC3 (.int 8)) tNil3))) (tCall3 P2.spDraw (tCons3 (tVar3 0) (tCons3 (tC3 (.int 2)) tNil3)))) tNil3)))))
    (tSeq3 (tSet3 2 (tCB3 rInt3 (tCons3 (tOp3 rGt3 (tVar3 1) (tC3 (.int 3))) tNil3)))
    (tSeq3 (tSet3 3 (tDispM3 [((tC3 (.str "names")), (tCall3 P2.spNames (tCons3 (tVar3 0) (tCons3 (tC3 (.int 9)) tNil3)))), ((tC3 (.str "rules")), (tLstM3 tNil3)), ((tC3 (.str "parts")), (tOp3 rIx3 (tLst3 (tCons3 (tC3 (.int 9)) (tCons3 (tC3 (.int 3)) tNil3))) (tVar3 2))), ((tC3 (.str "left")), (tC3 (.int 0)))]))
    (tSeq3 (tFor3 (iList3 (tCall3 P2.spNames (tCons3 (tVar3 0) (tCons3 (tVar3 1) tNil3)))) 4 (tDrop3 (tBM3 "list" rAppend3 (tOp3 rDGet3 (tVar3 3) (tC3 (.str "rules"))) (tCons3 (tTup3 (tCons3 (tVar3 4) (tCons3 (tCall3 P2.spDraw (tCons3 (tVar3 0) (tCons3 (tC3 (.int 4)) tNil3))) tNil3))) tNil3))))
    (tSeq3 (tSet3 5 (tLstM3 tNil3))
    (tSeq3 (tSet3 6 (tLstM3 tNil3))
    (tSeq3 (tForR3 (tOp3 rDGet3 (tVar3 3) (tC3 (.str "rules"))) (gTup3 [4, 7]) (tSeq3 (tDPut3 (tVar3 3) (tC3 (.str "left")) (tOp3 rIx3 (tLst3 (tCons3 (tC3 (.int 6)) (tCons3 (tC3 (.int 3)) tNil3))) (tVar3 2)))
    (tSeq3 (tSet3 8 (tCall3 P2.spDraw (tCons3 (tVar3 0) (tCons3 (tOp3 rSub3 (tC3 (.int 10)) (tVar3 7)) tNil3))))
    (tSeq3 (tSet3 9 (tSlA3 (tOp3 rDGet3 (tVar3 3) (tC3 (.str "names"))) (tPart3 (tVar3 8)) (tPart3 (tOp3 rAdd3 (tVar3 8) (tVar3 7)))))
    (tSeq3 (tAsg3 (gTup3 [10, 11]) (tCall3 (spBlock 12) (tCons3 (tVar3 0) (tCons3 (tVar3 3) (tCons3 (tC3 (.int 1)) (tCons3 (tC3 (.bl false)) tNil3))))))
    (tSeq3 (tDrop3 (tBM3 "list" rAppend3 (tVar3 5) (tCons3 (tTup3 (tCons3 (tVar3 4) (tCons3 (tCB3 rTuple3 (tCons3 (tVar3 9) tNil3)) (tCons3 (tVar3 10) tNil3)))) tNil3)))
    (tSeq3 (tDrop3 (tBM3 "list" rAppend3 (tVar3 6) (tCons3 (tOp3 rAdd3 (tOp3 rAdd3 (tOp3 rAdd3 (tOp3 rAdd3 (tC3 (.str "rule ")) (tVar3 4)) (tC3 (.str "("))) (tBM3 "str" rJoin3 (tC3 (.str ", ")) (tCons3 (tVar3 9) tNil3))) (tC3 (.str ")"))) tNil3)))
    (tDrop3 (tBM3 "list" rExt3 (tVar3 6) (tCons3 (tVar3 11) tNil3))))))))))
    (tFrz3 6 (tRet3 (tTup3 (tCons3 (tCB3 rTuple3 (tCons3 (tVar3 5) tNil3)) (tCons3 (tBM3 "str" rJoin3 (tC3 (.str "\n")) (tCons3 (tVar3 6) tNil3)) tNil3))))))))))))
theorem st__law_book (d0 : D) : start3 N__law_book [d0] = [some d0, none, none, none, none, none, none, none, none, none, none, none] := rfl
abbrev N_law : List Str := ["_law_script", "_law_book_here", "_law_due", "_law_found"]
def t_law : TS3 :=
    (tSeq3 (tAsg3 (gTup3 [1, 2]) (tCall3 spBook (tCons3 (tCall3 P2.spPen (tCons3 (tVar3 0) tNil3)) tNil3)))
    (tSeq3 (tSet3 3 (tCall3 P3.spBookT (tCons3 (tVar3 1) tNil3)))
    (tRet3 (tAndV3 (tCB3 rIsi3 (tCons3 (tVar3 3) (tCons3 (tC3 (.ty "str")) tNil3))) (tAndV3 (tOp3 rEq3 (tVar3 3) (tVar3 2)) (tOp3 rEq3 (tCall3 P3.spBookT (tCons3 (tVar3 1) tNil3)) (tVar3 2)))))))
theorem st_law (d0 : D) : start3 N_law [d0] = [some d0, none, none, none] := rfl
end K16
set_option Elab.async false
set_option linter.all false
set_option maxRecDepth 100000
open L3
namespace K16
open PySem L2 L3
open P3
open P2 (exT wf cst FactsOk len_app join_len sum_le exT_len)
open MK (Ex eD nd dp)
def tPl : TS3 :=
    (tSeq3 (tAsg3 (gTup3 [8, 9]) (tCall3 P3.spPlain (tCons3 (tVar3 0) (tCons3 (tVar3 1) (tCons3 (tVar3 3) tNil3)))))
    (tDrop3 (tBM3 "list" rAppend3 (tVar3 5) (tCons3 (tOp3 rAdd3 (tOp3 rMulS3 (tC3 (.str " ")) (tVar3 2)) (tVar3 9)) tNil3))))
def tLg (q__law_long : Sp3) : TS3 :=
    (tSeq3 (tAsg3 (gTup3 [8, 10]) (tCall3 q__law_long (tCons3 (tVar3 0) (tCons3 (tVar3 1) (tCons3 (tVar3 2) (tCons3 (tVar3 3) (tCons3 (tVar3 7) tNil3)))))))
    (tDrop3 (tBM3 "list" rExt3 (tVar3 5) (tCons3 (tVar3 10) tNil3))))
def tAp : TS3 :=
    (tDrop3 (tBM3 "list" rAppend3 (tVar3 4) (tCons3 (tVar3 8) tNil3)))
def tMk (q__law_long : Sp3) : TS3 :=
    (tSeq3 (tDPut3 (tVar3 1) (tC3 (.str "left")) (tOp3 rSub3 (tOp3 rDGet3 (tVar3 1) (tC3 (.str "left"))) (tC3 (.int 1))))
    (tSeq3 (tIfS3 (tOr3 (tTest3 (tOp3 rEq3 (tVar3 2) (tC3 (.int 5)))) (tOr3 (tTest3 (tOp3 rLt3 (tVar3 7) (tC3 (.int 5)))) (tTest3 (tOp3 rLt3 (tOp3 rDGet3 (tVar3 1) (tC3 (.str "left"))) (tC3 (.int 1)))))) tPl (tLg q__law_long))
    tAp))
theorem t_block_eq (q__law_block q__law_long : Sp3) : t__law_block q__law_block q__law_long =
        (tSeq3 (tSet3 4 (tLstM3 tNil3))
    (tSeq3 (tSet3 5 (tLstM3 tNil3))
    (tSeq3 (tFor3 (iRng3 (tCons3 (tOp3 rAdd3 (tC3 (.int 1)) (tCall3 P2.spDraw (tCons3 (tVar3 0) (tCons3 (tC3 (.int 3)) tNil3)))) tNil3)) 6 (tSeq3 (tSet3 7 (tCall3 P2.spDraw (tCons3 (tVar3 0) (tCons3 (tC3 (.int 8)) tNil3))))
    (tIfS3 (tOr3 (tTest3 (tOp3 rEq3 (tVar3 6) (tC3 (.int 0)))) (tTest3 (tOp3 rGt3 (tOp3 rDGet3 (tVar3 1) (tC3 (.str "left"))) (tC3 (.int 0))))) (tMk q__law_long) tNext3)))
    (tRet3 (tTup3 (tCons3 (tCB3 rTuple3 (tCons3 (tVar3 4) tNil3)) (tCons3 (tVar3 5) tNil3))))))) := rfl
theorem k_nr : ¬ (("names" : Str) = "rules") := by decide +kernel
theorem k_np : ¬ (("names" : Str) = "parts") := by decide +kernel
theorem k_nl : ¬ (("names" : Str) = "left") := by decide +kernel
theorem k_rp : ¬ (("rules" : Str) = "parts") := by decide +kernel
theorem k_rl : ¬ (("rules" : Str) = "left") := by decide +kernel
theorem k_pl : ¬ (("parts" : Str) = "left") := by decide +kernel
theorem get_left {F : F0} {l : Int} {M : Mem} {f : Addr} {Q : DK} (h : M f = some (factsO F l)) (q : Q (.int l) M) : rDGet3 (.ref f) (.str "left") M Q := rd_dgetR h (by simp [valD, inr_ne k_nl, inr_ne k_rl, inr_ne k_pl]) q
theorem get_names {F : F0} {l : Int} {M : Mem} {f : Addr} {Q : DK} (h : M f = some (factsO F l)) (q : Q (.lst (F.ns.map D.str)) M) : rDGet3 (.ref f) (.str "names") M Q := rd_dgetR h (by simp [valD]) q
theorem get_rules {F : F0} {l : Int} {M : Mem} {f : Addr} {Q : DK} (h : M f = some (factsO F l)) (q : Q (.ref F.r) M) : rDGet3 (.ref f) (.str "rules") M Q := rd_dgetR h (by simp [valD, inr_ne k_nr]) q
theorem get_parts {F : F0} {l : Int} {M : Mem} {f : Addr} {Q : DK} (h : M f = some (factsO F l)) (q : Q (.int F.np) M) : rDGet3 (.ref f) (.str "parts") M Q := rd_dgetR h (by simp [valD, inr_ne k_np, inr_ne k_rp]) q
theorem put_left {F : F0} {l l' : Int} {M : Mem} {f : Addr} {T : Lo → Mem → Prop} {σ : Lo} (h : M f = some (factsO F l)) (q : T σ (mput M f (factsO F l'))) :
    ∃ k a' kds, dK? (.str "left") = some k ∧ D.ref f = .ref a' ∧ M a' = some (.dct kds) ∧ kds.length < sizeLine ∧ T σ (mput M a' (.dct (putD kds k (.int l')))) :=
  ⟨_, f, _, rfl, rfl, h, by show 4 < sizeLine; decide, by
    have : putD [(.inr "names", .lst (F.ns.map D.str)), (.inr "rules", .ref F.r), (.inr "parts", .int F.np), (.inr "left", .int l)] (.inr "left") (.int l') = ([(.inr "names", .lst (F.ns.map D.str)), (.inr "rules", .ref F.r), (.inr "parts", .int F.np), (.inr "left", .int l')] : List (Key × D)) := by
      simp [putD, inr_ne k_nl, inr_ne k_rl, inr_ne k_pl]
    rw [this]; exact q⟩
theorem fl_fok {F : F0} {M : Mem} {f p : Addr} {l : Int} (h : FL F M f p l) : FOk M f p := by
  obtain ⟨h1, h2, ⟨h3, h4, h5⟩, h6, h7⟩ := h
  exact ⟨⟨_, F.r, F.ns, F.rs, h1, by simp [valD], by simp [valD, inr_ne k_nr], h2, h3, h4, h6, h7⟩, _, F.np, h1, by simp [valD, inr_ne k_np, inr_ne k_rp], h5⟩
theorem fl_keep {F : F0} {M M' : Mem} {f p : Addr} {l : Int} (h : FL F M f p l) (e1 : M' f = M f) (e2 : M' F.r = M F.r) : FL F M' f p l := by
  obtain ⟨h1, h2, h3⟩ := h
  exact ⟨by rw [e1]; exact h1, by rw [e2]; exact h2, h3⟩
theorem fl_same {F : F0} {M M' : Mem} {f p : Addr} {l : Int} (h : FL F M f p l) (s : Same3 p M M') : FL F M' f p l := fl_keep h (s f h.2.2.2.1) (s F.r h.2.2.2.2)
theorem fl_rf {F : F0} {M : Mem} {f p : Addr} {l : Int} (h : FL F M f p l) : F.r ≠ f := by
  intro e
  have h1 := h.1
  rw [← e, h.2.1] at h1
  cases h1
theorem fl_put {F : F0} {M : Mem} {f p : Addr} {l l' : Int} (h : FL F M f p l) : FL F (mput M f (factsO F l')) f p l' := ⟨mput_same, by rw [mput_ne (fl_rf h)]; exact h.2.1, h.2.2⟩
theorem fl_other {F : F0} {M : Mem} {f p a : Addr} {l : Int} {o : MO} (h : FL F M f p l) (h1 : a ≠ f) (h2 : a ≠ F.r) : FL F (mput M a o) f p l := fl_keep h (mput_ne (Ne.symm h1)) (mput_ne (Ne.symm h2))
theorem Ext.trans {p f : Addr} {M M1 M2 : Mem} (a : Ext p f M M1) (b : Ext p f M1 M2) : Ext p f M M2 := fun x h1 h2 h3 => by
  have e := a x h1 h2 h3
  rw [b x h1 h2 (by rw [e]; exact h3)]; exact e
theorem Ext.same {p f : Addr} {M M' : Mem} (s : Same3 p M M') : Ext p f M M' := fun x h1 _ _ => s x h1
theorem Ext.put {p f a : Addr} {M : Mem} {o : MO} (h : M a = none ∨ a = f ∨ a = p) : Ext p f M (mput M a o) := fun x h1 h2 h3 => by
  refine mput_ne ?_
  rintro rfl
  rcases h with h | h | h
  · exact h3 h
  · exact h2 h
  · exact h1 h
theorem ofB_D : ∀ ls, bkD (ofB ls) = ls.map ddD
  | [] => by simp [ofB, bkD]
  | l :: r => by simp [ofB, bkD, ofB_D r]
theorem ofB_L (b : Nat) : ∀ ls, bkL b (ofB ls) = ls.flatMap (ddL b)
  | [] => by simp [ofB, bkL]
  | l :: r => by simp [ofB, bkL, ofB_L b r]
theorem ofB_ok : ∀ {ls : List Dd}, (∀ l ∈ ls, okD l) → okB (ofB ls)
  | [], _ => by simp [ofB, okB]
  | l :: r, h => by
    simp only [ofB, okB]
    exact ⟨h l List.mem_cons_self, ofB_ok fun x hx => h x (List.mem_cons_of_mem _ hx)⟩
theorem ofB_dp {m : Nat} : ∀ {ls : List Dd}, (∀ l ∈ ls, 1 + dpD l ≤ m) → dpB (ofB ls) ≤ m
  | [], _ => by simp [ofB, dpB]
  | l :: r, h => by
    have h1 := h l List.mem_cons_self
    have h2 := ofB_dp fun x hx => h x (List.mem_cons_of_mem _ hx)
    simp only [ofB, dpB]; lia
theorem ofB_ct : ∀ (ls : List Dd) (d : Dd), ctB (ofB (ls ++ [d])) = ctB (ofB ls) + ctD d
  | [], d => by simp [ofB, ctB]
  | l :: r, d => by have := ofB_ct r d; simp only [List.cons_append, ofB, ctB]; lia
theorem ofB_nil {ls : List Dd} (h : ls ≠ []) : (ofB ls).isNil = false := by
  cases ls with
  | nil => exact absurd rfl h
  | cons _ _ => rfl
theorem flat_ct (b : Nat) (ls : List Dd) : (ls.flatMap (ddL b)).length ≤ ctB (ofB ls) := by rw [← ofB_L]; exact bkL_len b _
theorem len_ct : ∀ ls : List Dd, ls.length ≤ ctB (ofB ls)
  | [] => by simp
  | l :: r => by
    have := len_ct r
    have : 1 ≤ ctD l := by cases l <;> simp [ctD] <;> lia
    simp only [ofB, ctB, List.length_cons]; lia
section
variable {n : Nat} {T : Ends3} {M : Mem} {p f dA lA : Addr} {F : F0} {l1 : Int} {c : Bool} {deep kn b1 : Nat} {acc : List Dd} {s6 s8 s9 s10 : Option D}
theorem leaf_of {w : Str} {pts : List Pt} (h : leafOk w pts) : okD (.leaf w pts) := by simp only [okD]; exact h
set_option maxHeartbeats 2000000 in
theorem rd_mk (hF : FL F M f p l1) (hP : P2.Pen M p b1) (hb : b1 + 1000000 * (5 - deep) + 500000 + 20000 * (10 * l1.toNat) < 2 ^ 30) (hdp : 1 ≤ deep ∧ deep ≤ 5 ∧ 2 * (5 - deep) + 1 ≤ n + 1) (hl6 : l1 ≤ 6) (hkn : kn < 8) (hal : acc.length ≤ 1000) (hfl2 : (acc.flatMap (ddL deep)).length ≤ 1000)
    (hpd : p ≠ dA) (hpl : p ≠ lA) (hfd : f ≠ dA) (hfl : f ≠ lA) (hrd : F.r ≠ dA) (hrl : F.r ≠ lA) (hdl : dA ≠ lA) (hd : M dA = some (.lst (acc.map ddD))) (hls : M lA = some (.lst ((acc.flatMap (ddL deep)).map D.str)))
    (hnx : ∀ d l2 M3 s8 s9 s10, okD d → 1 + dpD d ≤ 6 - deep → ctD d + 10 * l2.toNat ≤ 10 * l1.toNat + (if l1 ≤ 0 then 1 else 0) → l2 ≤ l1 → FL F M3 f p l2 → P2.Pen M3 p (b1 + 20000 * ctD d) → M3 dA = some (.lst ((acc ++ [d]).map ddD)) → M3 lA = some (.lst (((acc ++ [d]).flatMap (ddL deep)).map D.str)) → (∀ x, x ≠ p → x ≠ f → x ≠ dA → x ≠ lA → M x ≠ none → M3 x = M x) →
      T.nx [some (.ref p), some (.ref f), some (.int deep), some (.bl c), some (.ref dA), some (.ref lA), s6, some (.int kn), s8, s9, s10] M3) :
    tMk (spLong n) T [some (.ref p), some (.ref f), some (.int deep), some (.bl c), some (.ref dA), some (.ref lA), s6, some (.int kn), s8, s9, s10] M := by
  unfold tMk
  walk_at "rd"
  refine rd_dp ?_
  walk_at "rd"
  refine get_left hF.1 ?_
  walk_at "rd"
  refine put_left hF.1 ?_
  have hF2 : FL F (mput M f (factsO F (l1 - 1))) f p (l1 - 1) := fl_put hF
  have hP2 := P2.pen_put (o := factsO F (l1 - 1)) hP (Ne.symm hF.2.2.2.1)
  have hd2 : mput M f (factsO F (l1 - 1)) dA = some (.lst (acc.map ddD)) := by rw [mput_ne (Ne.symm hfd)]; exact hd
  have hls2 : mput M f (factsO F (l1 - 1)) lA = some (.lst ((acc.flatMap (ddL deep)).map D.str)) := by rw [mput_ne (Ne.symm hfl)]; exact hls
  have hx2 : ∀ x, x ≠ p → x ≠ f → x ≠ dA → x ≠ lA → M x ≠ none → mput M f (factsO F (l1 - 1)) x = M x := fun x _ h _ _ _ => mput_ne h
  generalize mput M f (factsO F (l1 - 1)) = M2 at hF2 hP2 hd2 hls2 hx2 ⊢
  have ap : ∀ (d : Dd) (l2 : Int) (M3 : Mem) (s9 s10 : Option D), okD d → 1 + dpD d ≤ 6 - deep → ctD d + 10 * l2.toNat ≤ 10 * l1.toNat + (if l1 ≤ 0 then 1 else 0) → l2 ≤ l1 → FL F M3 f p l2 → P2.Pen M3 p (b1 + 20000 * ctD d) → M3 dA = some (.lst (acc.map ddD)) → M3 lA = some (.lst (((acc ++ [d]).flatMap (ddL deep)).map D.str)) → (∀ x, x ≠ p → x ≠ f → x ≠ dA → x ≠ lA → M x ≠ none → M3 x = M x) →
      tAp T [some (.ref p), some (.ref f), some (.int deep), some (.bl c), some (.ref dA), some (.ref lA), s6, some (.int kn), some (ddD d), s9, s10] M3 := by
    intro d l2 M3 s9 s10 a1 a2 a3 a4 a5 a6 a7 a8 a9
    unfold tAp
    walk_at "rd"
    refine ⟨.inl ⟨rfl, _, a7⟩, ?_⟩
    walk_at "rd"
    refine rd_append a7 (by rw [List.length_map, sizeLine_eq]; lia) ?_
    refine hnx d l2 _ _ _ _ a1 a2 a3 a4 (fl_other a5 (Ne.symm hfd) (Ne.symm hrd)) (P2.pen_put a6 hpd) (by rw [mput_same, List.map_append]; rfl) (by rw [mput_ne (Ne.symm hdl)]; exact a8) fun x h1 h2 h3 h4 h5 => by rw [mput_ne h3]; exact a9 x h1 h2 h3 h4 h5
  have pl : tPl { T with nx := tAp T } [some (.ref p), some (.ref f), some (.int deep), some (.bl c), some (.ref dA), some (.ref lA), s6, some (.int kn), s8, s9, s10] M2 := by
    unfold tPl
    walk_at "rd"
    refine ⟨p, f, b1, c, rfl, fl_fok hF2, hP2, by lia, fun w pts M3 hlf hP3 e3 => ?_⟩
    have hl2 := lfT_len hlf.1
    have hm2 := mul_len (b := deep) (by lia)
    refine rd_gTup rfl ?_
    have hls3 : M3 lA = some (.lst ((acc.flatMap (ddL deep)).map D.str)) := by rw [e3 lA (Ne.symm hpl)]; exact hls2
    walk_at "rd"
    refine ⟨.inl ⟨rfl, _, hls3⟩, ?_⟩
    walk_at "rd"
    refine rd_mulS (mul_ok deep (by lia)) ?_
    walk_at "rd"
    refine rd_addS (by rw [sizeLine_eq]; lia) ?_
    walk_at "rd"
    refine rd_append hls3 (by rw [List.length_map, sizeLine_eq]; lia) ?_
    refine ap (.leaf w pts) (l1 - 1) _ _ _ (leaf_of hlf) (by simp only [dpD]; lia) (by simp only [ctD]; split <;> lia) (by lia) (fl_other (fl_same hF2 e3) (Ne.symm hfl) (Ne.symm hrl)) (P2.pen_put (P2.pen_mono hP3 (by simp only [ctD]; lia)) hpl) (by rw [mput_ne hdl, e3 dA (Ne.symm hpd)]; exact hd2) (by
      rw [mput_same]
      simp only [List.flatMap_append, List.flatMap_cons, List.flatMap_nil, List.append_nil, ddL, List.map_append, List.map_cons, List.map_nil]
      rfl) fun x h1 h2 h3 h4 h5 => by rw [mput_ne h4, e3 x h1]; exact hx2 x h1 h2 h3 h4 h5
  have lg : deep ≤ 4 → 5 ≤ kn → 1 ≤ l1 - 1 → tLg (spLong n) { T with nx := tAp T } [some (.ref p), some (.ref f), some (.int deep), some (.bl c), some (.ref dA), some (.ref lA), s6, some (.int kn), s8, s9, s10] M2 := by
    intro h4 h5 hl
    unfold tLg
    walk_at "rd"
    refine ⟨p, f, b1, F, l1 - 1, c, deep, kn, rfl, hF2, hP2, by lia, ⟨hdp.1, h4, by lia⟩, by lia, ⟨h5, by lia⟩, fun d a l2 M3 hd3 hdp3 hct3 hl3 ha3 hM3 hF3 hP3 hx3 => ?_⟩
    refine rd_gTup rfl ?_
    have hls3 : M3 lA = some (.lst ((acc.flatMap (ddL deep)).map D.str)) := by rw [hx3 lA (Ne.symm hpl) (Ne.symm hfl) (by rw [hls2]; simp)]; exact hls2
    have hd3' : M3 dA = some (.lst (acc.map ddD)) := by rw [hx3 dA (Ne.symm hpd) (Ne.symm hfd) (by rw [hd2]; simp)]; exact hd2
    have hlen := ddL_len deep d
    have hcd : 1 ≤ ctD d := by cases d <;> simp [ctD] <;> lia
    walk_at "rd"
    refine ⟨.inl ⟨rfl, _, hls3⟩, ?_⟩
    walk_at "rd"
    refine rd_ext hls3 hM3 (by rw [List.length_map, List.length_map, sizeLine_eq]; lia) ?_
    refine ap d l2 _ _ _ hd3 (by lia) (by split <;> lia) (by lia) (fl_other hF3 (Ne.symm hfl) (Ne.symm hrl)) (P2.pen_put (P2.pen_mono hP3 (by lia)) hpl) (by rw [mput_ne hdl]; exact hd3') (by
      rw [mput_same]
      simp only [List.flatMap_append, List.flatMap_cons, List.flatMap_nil, List.append_nil, List.map_append]) fun x h1 h2 h3 h4 h5 => by
        have e := hx2 x h1 h2 h3 h4 h5
        rw [mput_ne h4, hx3 x h1 h2 (by rw [e]; exact h5)]; exact e
  walk_at "rd"
  by_cases h5 : deep = 5
  · exact rd_iteTe (by simp [h5]) (rd_iteT pl)
  refine rd_iteFe (by simp; lia) ?_
  walk_at "rd"
  refine rd_dec (fun h6 => rd_iteT pl) (fun h6 => ?_)
  walk_at "rd"
  refine get_left hF2.1 ?_
  walk_at "rd"
  exact rd_dec (fun h7 => pl) (fun h7 => lg (by lia) (by lia) (by lia))
end
theorem len__law_block : ∀ n ds M Q, spBlock n ds M Q → ds.length = 4 := by rintro _ _ _ _ ⟨_, _, _, _, _, _, _, rfl, _⟩; rfl
theorem len__law_long : ∀ n ds M Q, spLong n ds M Q → ds.length = 5 := by rintro _ _ _ _ ⟨_, _, _, _, _, _, _, _, rfl, _⟩; rfl
theorem zero__law_block : ∀ ds M Q, ¬ spBlock 0 ds M Q := by rintro _ _ _ ⟨_, _, _, _, _, _, _, rfl, _, _, _, h, _⟩; lia
theorem zero__law_long : ∀ ds M Q, ¬ spLong 0 ds M Q := by rintro _ _ _ ⟨_, _, _, _, _, _, _, _, rfl, _, _, _, h, _⟩; lia
set_option maxHeartbeats 4000000 in
theorem rd__law_block : ∀ n ds M Q, spBlock (n + 1) ds M Q → t__law_block (spBlock n) (spLong n) { nx := fun _ M' => View Q .non M', rt := View Q } (start3 N__law_block ds) M := by
  rintro n _ M Q ⟨p, f, b, F, l, c, deep, rfl, hF, hP, hb, hdp, hl6, q⟩
  rw [st__law_block]
  rw [t_block_eq]
  have hp0 : M p ≠ none := by obtain ⟨_, _, _, h, _⟩ := hP; rw [h]; simp
  have hf0 : M f ≠ none := by rw [hF.1]; simp
  have hr0 : M F.r ≠ none := by rw [hF.2.1]; simp
  walk_at "rd"
  intro dA hdA
  walk_at "rd"
  intro lA hlA
  have hdl : dA ≠ lA := by rintro rfl; rw [mput_same] at hlA; cases hlA
  rw [mput_ne (Ne.symm hdl)] at hlA
  have hpd : p ≠ dA := by rintro rfl; exact hp0 hdA
  have hpl : p ≠ lA := by rintro rfl; exact hp0 hlA
  have hfd : f ≠ dA := by rintro rfl; exact hf0 hdA
  have hfl : f ≠ lA := by rintro rfl; exact hf0 hlA
  have hrd : F.r ≠ dA := by intro e; rw [e] at hr0; exact hr0 hdA
  have hrl : F.r ≠ lA := by intro e; rw [e] at hr0; exact hr0 hlA
  have hP1 := P2.pen_put (o := .lst []) (P2.pen_put (o := .lst []) hP hpd) hpl
  walk_at "rd"
  refine P2.draw hP1 (by lia) (by decide) (by decide) fun cnt M2 c0 c1 hP2 e2 => ?_
  walk_at "rd"
  refine ⟨by lia, by lia, PvB p f dA lA F M l c deep b,
    ⟨[], l, none, none, none, none, none, (fun h => by lia), (fun _ h => by cases h), by simp only [ofB, ctB]; lia, (fun _ => ⟨rfl, rfl⟩), Int.le_refl _, rfl, fl_same (fl_other (fl_other hF (Ne.symm hfd) (Ne.symm hrd)) (Ne.symm hfl) (Ne.symm hrl)) e2, P2.pen_mono hP2 (by lia), by rw [e2 dA (Ne.symm hpd), mput_ne hdl, mput_same]; rfl, by rw [e2 lA (Ne.symm hpl), mput_same]; rfl, ((Ext.put (.inl hdA)).trans (Ext.put (.inl (by rw [mput_ne (Ne.symm hdl)]; exact hlA)))).trans (Ext.same e2)⟩, ?_, ?_⟩
  · rintro k d σ M1 hdk ⟨acc, l1, s6, s7, s8, s9, s10, hne, hok, hct, hk0, hl1, rfl, hF1, hP3, hd1, hls1, hx1⟩
    have hk : k < (1 + cnt).toNat := by simpa using (List.getElem?_eq_some_iff.mp hdk).1
    obtain rfl : d = .int (k : Int) := by
      rw [List.getElem?_map, List.getElem?_range hk] at hdk
      exact (Option.some.inj hdk).symm
    walk_at "rd"
    refine P2.draw hP3 (by lia) (by decide) (by decide) fun kind M2' kd0 kd1 hP4 e4 => ?_
    obtain ⟨kn, rfl⟩ : ∃ kn : Nat, kind = (kn : Int) := ⟨kind.toNat, by lia⟩
    have hF2 := fl_same hF1 e4
    have hd2 : M2' dA = some (.lst (acc.map ddD)) := by rw [e4 dA (Ne.symm hpd)]; exact hd1
    have hls2 : M2' lA = some (.lst ((acc.flatMap (ddL deep)).map D.str)) := by rw [e4 lA (Ne.symm hpl)]; exact hls1
    have hx2 := hx1.trans (Ext.same e4)
    have hall := len_ct acc
    have hfll := flat_ct deep acc
    have mk : ∀ (T : Ends3) s8 s9 s10, (∀ σ M1, PvB p f dA lA F M l c deep b (k + 1) σ M1 → T.nx σ M1) → (k = 0 ∨ 0 < l1) → tMk (spLong n) T [some (.ref p), some (.ref f), some (.int deep), some (.bl c), some (.ref dA), some (.ref lA), some (.int k), some (.int kn), s8, s9, s10] M2' := by
      intro T s8 s9 s10 hT hor
      refine rd_mk (b1 := b + 2 + k + 20000 * ctB (ofB acc)) hF2 (P2.pen_mono hP4 (by lia)) (by lia) hdp (by lia) (by lia) (by lia) (by lia) hpd hpl hfd hfl hrd hrl hdl hd2 hls2 fun d l2 M3 s8 s9 s10 a1 a2 a3 a4 a5 a6 a7 a8 a9 => ?_
      refine hT _ _ ⟨acc ++ [d], l2, _, _, _, _, _, (fun _ => by simp), fun x hx => ?_, ?_, (fun h => by lia), by lia, rfl, a5, P2.pen_mono a6 (by rw [ofB_ct]; lia), a7, a8, fun x h1 h2 h3 => ?_⟩
      · rcases List.mem_append.mp hx with h | h
        · exact hok x h
        · cases List.mem_singleton.mp h; exact ⟨a1, a2⟩
      · rw [ofB_ct]
        by_cases hl0 : l1 ≤ 0
        · rw [if_pos hl0] at a3
          have hk00 : k = 0 := by lia
          obtain ⟨e1, e2⟩ := hk0 hk00
          subst e1 e2
          simp only [ofB, ctB]; lia
        · rw [if_neg hl0] at a3; lia
      · have hxd : x ≠ dA := by rintro rfl; exact h3 hdA
        have hxl : x ≠ lA := by rintro rfl; exact h3 hlA
        have e := hx2 x h1 h2 h3
        rw [a9 x h1 h2 hxd hxl (by rw [e]; exact h3)]; exact e
    have no : ∀ s8 s9 s10, ¬ k = 0 → PvB p f dA lA F M l c deep b (k + 1) [some (.ref p), some (.ref f), some (.int deep), some (.bl c), some (.ref dA), some (.ref lA), some (.int k), some (.int kn), s8, s9, s10] M2' := fun s8 s9 s10 h =>
      ⟨acc, l1, _, _, _, _, _, (fun _ => hne (by lia)), hok, hct, (fun h => by lia), hl1, rfl, hF2, P2.pen_mono hP4 (by lia), hd2, hls2, hx2⟩
    walk_at "rd"
    by_cases h0 : k = 0
    · exact rd_iteTe (by simp [h0]) (rd_iteT (mk _ _ _ _ (fun _ _ h => h) (.inl h0)))
    refine rd_iteFe (by simp; lia) ?_
    walk_at "rd"
    refine get_left hF2.1 ?_
    walk_at "rd"
    exact rd_dec (fun h1 => mk _ _ _ _ (fun _ _ h => h) (.inr h1)) (fun h1 => rd_next (no _ _ _ h0))
  · rintro σ M1 ⟨acc, l1, s6, s7, s8, s9, s10, hne, hok, hct, hk0, hl1, rfl, hF1, hP3, hd1, hls1, hx1⟩
    rw [List.length_map, List.length_range] at hne hP3
    walk_at "rd"
    refine rd_tupR hd1 ?_
    walk_at "rd"
    have := q (ofB acc) lA l1 M1 (ofB_ok fun d hd => (hok d hd).1) (ofB_nil (hne (by lia))) (ofB_dp fun d hd => (hok d hd).2) hct hl1 hlA (by rw [ofB_L]; exact hls1) hF1 (P2.pen_mono hP3 (by lia)) hx1
    rw [ofB_D] at this
    exact View.of this
end K16
set_option Elab.async false
set_option linter.all false
set_option maxRecDepth 100000
open L3
namespace K16
open PySem L2 L3
open P3
open P2 (exT wf cst FactsOk len_app join_len sum_le exT_len)
open MK (Ex eD nd dp)
def tTR (q__law_block : Sp3) : TS3 :=
    (tSeq3 (tSet3 17 (tTup3 tNil3))
    (tSeq3 (tIfS3 (tOr3 (tTest3 (tOp3 rEq3 (tVar3 12) (tC3 (.int 0)))) (tTest3 (tOp3 rEq3 (tCall3 P2.spDraw (tCons3 (tVar3 0) (tCons3 (tC3 (.int 2)) tNil3))) (tC3 (.int 1))))) (tSeq3 (tAsg3 (gTup3 [17, 10]) (tCall3 q__law_block (tCons3 (tVar3 0) (tCons3 (tVar3 1) (tCons3 (tOp3 rAdd3 (tVar3 2) (tC3 (.int 1))) (tCons3 (tVar3 3) tNil3))))))
    (tSet3 8 (tOp3 rAddM3 (tOp3 rAddM3 (tVar3 8) (tLst3 (tCons3 (tOp3 rAdd3 (tVar3 5) (tC3 (.str "last"))) tNil3))) (tVar3 10)))) tNext3)
    (tRet3 (tTup3 (tCons3 (tTup3 (tCons3 (tC3 (.str "try")) (tCons3 (tVar3 7) (tCons3 (tCB3 rTuple3 (tCons3 (tVar3 11) tNil3)) (tCons3 (tVar3 17) tNil3))))) (tCons3 (tVar3 8) tNil3))))))
def tTry (q__law_block : Sp3) : TS3 :=
    (tSeq3 (tSet3 8 (tOp3 rAddM3 (tLst3 (tCons3 (tOp3 rAdd3 (tVar3 5) (tC3 (.str "try"))) tNil3)) (tVar3 8)))
    (tSeq3 (tSet3 11 (tLstM3 tNil3))
    (tSeq3 (tSet3 12 (tCall3 P2.spDraw (tCons3 (tVar3 0) (tCons3 (tC3 (.int 4)) tNil3))))
    (tSeq3 (tFor3 (iRng3 (tCons3 (tVar3 12) tNil3)) 13 (tSeq3 (tSet3 14 (tOp3 rIx3 (tLst3 (tCons3 (tCall3 P3.spWord (tCons3 (tVar3 0) tNil3)) (tCons3 (tC3 (.str "any")) tNil3))) (tOp3 rFdiv3 (tCall3 P2.spDraw (tCons3 (tVar3 0) (tCons3 (tC3 (.int 3)) tNil3))) (tC3 (.int 2)))))
    (tSeq3 (tSet3 15 (tOp3 rIx3 (tOp3 rDGet3 (tVar3 1) (tC3 (.str "names"))) (tCall3 P2.spDraw (tCons3 (tVar3 0) (tCons3 (tCB3 rLen3 (tCons3 (tOp3 rDGet3 (tVar3 1) (tC3 (.str "names"))) tNil3)) tNil3)))))
    (tSeq3 (tAsg3 (gTup3 [16, 10]) (tCall3 q__law_block (tCons3 (tVar3 0) (tCons3 (tVar3 1) (tCons3 (tOp3 rAdd3 (tVar3 2) (tC3 (.int 1))) (tCons3 (tVar3 3) tNil3))))))
    (tSeq3 (tDrop3 (tBM3 "list" rAppend3 (tVar3 11) (tCons3 (tTup3 (tCons3 (tVar3 14) (tCons3 (tVar3 15) (tCons3 (tVar3 16) tNil3)))) tNil3)))
    (tSet3 8 (tOp3 rAddM3 (tOp3 rAddM3 (tVar3 8) (tLst3 (tCons3 (tOp3 rAdd3 (tOp3 rAdd3 (tOp3 rAdd3 (tOp3 rAdd3 (tVar3 5) (tC3 (.str "catch "))) (tVar3 14)) (tC3 (.str " "))) (tVar3 15)) tNil3))) (tVar3 10))))))))
    (tTR q__law_block)))))
def tIf (q__law_block : Sp3) : TS3 :=
    (tSeq3 (tSet3 8 (tOp3 rAddM3 (tLst3 (tCons3 (tOp3 rAdd3 (tOp3 rAdd3 (tVar3 5) (tC3 (.str "if "))) (tOp3 rIx3 (tVar3 6) (tC3 (.int 1)))) tNil3)) (tVar3 8)))
    (tSeq3 (tSet3 9 (tTup3 tNil3))
    (tSeq3 (tIfS3 (tTest3 (tOp3 rEq3 (tCall3 P2.spDraw (tCons3 (tVar3 0) (tCons3 (tC3 (.int 2)) tNil3))) (tC3 (.int 1)))) (tSeq3 (tAsg3 (gTup3 [9, 10]) (tCall3 q__law_block (tCons3 (tVar3 0) (tCons3 (tVar3 1) (tCons3 (tOp3 rAdd3 (tVar3 2) (tC3 (.int 1))) (tCons3 (tVar3 3) tNil3))))))
    (tSet3 8 (tOp3 rAddM3 (tOp3 rAddM3 (tVar3 8) (tLst3 (tCons3 (tOp3 rAdd3 (tVar3 5) (tC3 (.str "else"))) tNil3))) (tVar3 10)))) tNext3)
    (tRet3 (tTup3 (tCons3 (tTup3 (tCons3 (tC3 (.str "if")) (tCons3 (tOp3 rIx3 (tVar3 6) (tC3 (.int 0))) (tCons3 (tVar3 7) (tCons3 (tVar3 9) tNil3))))) (tCons3 (tVar3 8) tNil3)))))))
def tLR (q__law_block : Sp3) : TS3 :=
    (tSeq3 (tIfS3 (tTest3 (tOp3 rEq3 (tVar3 4) (tC3 (.int 5)))) (tRet3 (tTup3 (tCons3 (tTup3 (tCons3 (tC3 (.str "while")) (tCons3 (tOp3 rIx3 (tVar3 6) (tC3 (.int 0))) (tCons3 (tVar3 7) tNil3)))) (tCons3 (tOp3 rAddM3 (tLst3 (tCons3 (tOp3 rAdd3 (tOp3 rAdd3 (tVar3 5) (tC3 (.str "while "))) (tOp3 rIx3 (tVar3 6) (tC3 (.int 1)))) tNil3)) (tVar3 8)) tNil3)))) tNext3)
    (tSeq3 (tIfS3 (tTest3 (tOp3 rEq3 (tVar3 4) (tC3 (.int 6)))) (tIf q__law_block) tNext3)
    (tTry q__law_block)))
theorem t_long_eq (q__law_block q__law_long : Sp3) : t__law_long q__law_block q__law_long =
        (tSeq3 (tSet3 5 (tOp3 rMulS3 (tC3 (.str " ")) (tVar3 2)))
    (tSeq3 (tSet3 6 (tCall3 (P2.spExpr 5) (tCons3 (tVar3 0) (tCons3 (tVar3 1) (tCons3 (tC3 (.int 4)) (tCons3 (tOp3 rDGet3 (tVar3 1) (tC3 (.str "parts"))) tNil3))))))
    (tSeq3 (tAsg3 (gTup3 [7, 8]) (tCall3 q__law_block (tCons3 (tVar3 0) (tCons3 (tVar3 1) (tCons3 (tOp3 rAdd3 (tVar3 2) (tC3 (.int 1))) (tCons3 (tOrV3 (tVar3 3) (tOp3 rEq3 (tVar3 4) (tC3 (.int 5)))) tNil3))))))
    (tLR q__law_block)))) := rfl
theorem str_assoc (x y z : Str) : x ++ y ++ z = x ++ (y ++ z) := str_ext (by simp only [cps_app, List.append_assoc])
theorem ix0 {x : Ex} {M : Mem} {Q : DK} (h : Q (eD x) M) : rIx3 (P2.exP x) (.int 0) M Q := rd_ixT (d := eD x) rfl h
theorem ix1 {x : Ex} {M : Mem} {Q : DK} (h : Q (.str (exT x)) M) : rIx3 (P2.exP x) (.int 1) M Q := rd_ixT (d := .str (exT x)) rfl h
def ofC : List (Str × Str × Bk) → Cs
  | [] => .nil
  | c :: r => .cons c.1 c.2.1 c.2.2 (ofC r)
theorem ofC_D : ∀ ls, csD (ofC ls) = ls.map cD
  | [] => by simp [ofC, csD]
  | l :: r => by simp [ofC, csD, ofC_D r, cD]
theorem ofC_L (b : Nat) : ∀ ls, csL b (ofC ls) = ls.flatMap (cL b)
  | [] => by simp [ofC, csL]
  | l :: r => by simp [ofC, csL, ofC_L b r, cL]
theorem ofC_ok : ∀ {ls : List (Str × Str × Bk)}, (∀ l ∈ ls, l.1.length ≤ 20 ∧ l.2.1.length ≤ 20 ∧ okB l.2.2) → okC (ofC ls)
  | [], _ => by simp [ofC, okC]
  | l :: r, h => by
    simp only [ofC, okC]
    obtain ⟨h1, h2, h3⟩ := h l List.mem_cons_self
    exact ⟨h1, h2, h3, ofC_ok fun x hx => h x (List.mem_cons_of_mem _ hx)⟩
theorem ofC_dp {m : Nat} : ∀ {ls : List (Str × Str × Bk)}, (∀ l ∈ ls, dpB l.2.2 ≤ m) → dpC (ofC ls) ≤ m
  | [], _ => by simp [ofC, dpC]
  | l :: r, h => by
    have h1 := h l List.mem_cons_self
    have h2 := ofC_dp fun x hx => h x (List.mem_cons_of_mem _ hx)
    simp only [ofC, dpC]; lia
theorem ofC_ct : ∀ (ls : List (Str × Str × Bk)) (c : Str × Str × Bk), ctC (ofC (ls ++ [c])) = ctC (ofC ls) + (1 + ctB c.2.2)
  | [], d => by simp [ofC, ctC]
  | l :: r, d => by have := ofC_ct r d; simp only [List.cons_append, ofC, ctC]; lia
theorem flatC_ct (b : Nat) (ls : List (Str × Str × Bk)) : (ls.flatMap (cL b)).length ≤ ctC (ofC ls) := by rw [← ofC_L]; exact csL_len b _
theorem fresh_back {p f x : Addr} {M M3 : Mem} (h : Ext p f M M3) (hp : M3 p ≠ none) (hf : M3 f ≠ none) (hx : M3 x = none) : M x = none := by
  cases e : M x with
  | none => rfl
  | some o =>
    have h1 : x ≠ p := by rintro rfl; exact hp hx
    have h2 : x ≠ f := by rintro rfl; exact hf hx
    rw [h x h1 h2 (by rw [e]; simp), e] at hx
    cases hx
theorem pen_some {M : Mem} {p : Addr} {b : Nat} (h : P2.Pen M p b) : M p ≠ none := by obtain ⟨_, _, _, h, _⟩ := h; rw [h]; simp
theorem fl_some {F : F0} {M : Mem} {f p : Addr} {l : Int} (h : FL F M f p l) : M f ≠ none := by rw [h.1]; simp
theorem fl_new {F : F0} {M : Mem} {f p a : Addr} {l : Int} {o : MO} (h : FL F M f p l) (ha : M a = none) : FL F (mput M a o) f p l :=
  fl_other h (by rintro rfl; exact fl_some h ha) (by rintro rfl; rw [h.2.1] at ha; cases ha)
theorem pen_new {M : Mem} {p a : Addr} {b : Nat} {o : MO} (h : P2.Pen M p b) (ha : M a = none) : P2.Pen (mput M a o) p b := P2.pen_put h (by rintro rfl; exact pen_some h ha)
theorem c_while : (("while " : Str)).length = 6 := by decide +kernel
theorem c_if : (("if " : Str)).length = 3 := by decide +kernel
theorem c_else : (("else" : Str)).length = 4 := by decide +kernel
theorem c_try : (("try" : Str)).length = 3 := by decide +kernel
theorem c_last : (("last" : Str)).length = 4 := by decide +kernel
theorem c_catch : (("catch " : Str)).length = 6 := by decide +kernel
theorem c_sp : ((" " : Str)).length = 1 := by decide +kernel
section
variable {n : Nat} {M : Mem} {Q : DK} {p f : Addr} {F : F0} {l : Int} {c : Bool} {deep kind b : Nat} {g : Ex} {x : Bk}
def GoalL (p f : Addr) (F : F0) (M : Mem) (l : Int) (deep b : Nat) (Q : DK) : Prop := ∀ d a l' M', okD d → dpD d ≤ 5 - deep → ctD d + 10 * l'.toNat ≤ 10 * l.toNat + 10 → l' ≤ l → M a = none → M' a = some (.lst ((ddL deep d).map D.str)) → FL F M' f p l' → P2.Pen M' p (b + 10000 + 20000 * (ctD d - 1)) → Ext p f M M' → Q (.tup [ddD d, .ref a]) M'
theorem call_block {M2 : Mem} {l1 : Int} {b1 : Nat} {i : Int} {c' : Bool} {K : DK} (hi : i = ((deep + 1 : Nat) : Int)) (hF : FL F M2 f p l1) (hP : P2.Pen M2 p b1) (hb : b1 + 1000000 * (5 - deep) + 20000 * (10 * l1.toNat + 1) < 2 ^ 30) (hdp : 1 ≤ deep ∧ deep ≤ 4 ∧ 2 * (5 - deep) ≤ n + 1) (hl6 : l1 ≤ 6)
    (k : ∀ y a l' M', okB y → y.isNil = false → dpB y ≤ 5 - deep → ctB y + 10 * l'.toNat ≤ 10 * l1.toNat + 1 → l' ≤ l1 → M2 a = none → M' a = some (.lst ((bkL (deep + 1) y).map D.str)) → FL F M' f p l' → P2.Pen M' p (b1 + 10 + 20000 * ctB y) → Ext p f M2 M' → K (.tup [.tup (bkD y), .ref a]) M') :
    spBlock n [.ref p, .ref f, .int i, .bl c'] M2 K := by
  subst hi
  exact ⟨p, f, b1, F, l1, c', deep + 1, rfl, hF, hP, by lia, ⟨by lia, by lia, by lia⟩, hl6, fun y a l' M' h1 h2 h3 h4 h5 h6 h7 h8 h9 h10 => k y a l' M' h1 h2 (by lia) h4 h5 h6 h7 h8 h9 h10⟩
set_option maxHeartbeats 2000000 in
theorem rd_if {M2 : Mem} {l1 : Int} {a1 : Addr} {X : Lo → Mem → Prop} (q : GoalL p f F M l deep b Q) (hF : FL F M2 f p l1) (hP : P2.Pen M2 p (b + 5000 + 20000 * ctB x)) (hb : b + 1000000 * (5 - deep) + 500000 + 20000 * (10 * l.toNat + 10) < 2 ^ 30) (hdp : 1 ≤ deep ∧ deep ≤ 4 ∧ 2 * (5 - deep) ≤ n + 1) (hl6 : l ≤ 6)
    (hg : ptOk (.ex g)) (hx : okB x) (hxd : dpB x ≤ 5 - deep) (hct : ctB x + 10 * l1.toNat ≤ 10 * l.toNat + 1) (hl1 : l1 ≤ l) (hM2 : M2 a1 = some (.lst ((bkL (deep + 1) x).map D.str))) (hx2 : Ext p f M M2) :
    tIf (spBlock n) { nx := X, rt := View Q } [some (.ref p), some (.ref f), some (.int deep), some (.bl c), some (.int kind), some (.str (Txt.mul " " (deep : Int))), some (P2.exP g), some (.tup (bkD x)), some (.ref a1), none, none, none, none, none, none, none, none, none] M2 := by
  unfold tIf
  have lg := exT_len g hg.1
  have hgn := hg.2.1
  have hm2 := mul_len (b := deep) (by lia)
  have hlx := bkL_len (deep + 1) x
  walk_at "rd"
  refine rd_addS (by rw [c_if, sizeLine_eq]; lia) ?_
  walk_at "rd"
  refine ix1 ?_
  refine rd_addS (by rw [len_app, c_if, sizeLine_eq]; lia) ?_
  have hln : Txt.mul " " (deep : Int) ++ "if " ++ exT g = lnT deep "if" [.ex g] := by unfold lnT; rw [lf_if, str_assoc]
  rw [hln]
  walk_at "rd"
  refine rd_addM (.inl rfl) (.inr ⟨a1, rfl, hM2⟩) (by simp only [List.length_cons, List.length_nil, List.length_map]; rw [sizeLine_eq]; lia) fun a2 ha2 => ?_
  have hF3 := fl_new (o := .lst ([D.str (lnT deep "if" [.ex g])] ++ (bkL (deep + 1) x).map D.str)) hF ha2
  have hP3 := pen_new (o := .lst ([D.str (lnT deep "if" [.ex g])] ++ (bkL (deep + 1) x).map D.str)) hP ha2
  have hx3 := hx2.trans (Ext.put (o := .lst ([D.str (lnT deep "if" [.ex g])] ++ (bkL (deep + 1) x).map D.str)) (.inl ha2))
  have ha2M := fresh_back hx2 (pen_some hP) (fl_some hF) ha2
  have hM3 : mput M2 a2 (.lst ([D.str (lnT deep "if" [.ex g])] ++ (bkL (deep + 1) x).map D.str)) a2 = some (.lst ((lnT deep "if" [.ex g] :: bkL (deep + 1) x).map D.str)) := by rw [mput_same]; rfl
  generalize mput M2 a2 (.lst ([D.str (lnT deep "if" [.ex g])] ++ (bkL (deep + 1) x).map D.str)) = M3 at hF3 hP3 hx3 hM3 ⊢
  walk_at "rd"
  refine P2.draw hP3 (by lia) (by decide) (by decide) fun w M4 w0 w1 hP4 e4 => ?_
  have hF4 := fl_same hF3 e4
  have hx4 := hx3.trans (Ext.same e4)
  have hpa2 : a2 ≠ p := by rintro rfl; exact pen_some hP ha2
  have hfa2 : a2 ≠ f := by rintro rfl; exact fl_some hF ha2
  have hM4 : M4 a2 = some (.lst ((lnT deep "if" [.ex g] :: bkL (deep + 1) x).map D.str)) := by rw [e4 a2 hpa2]; exact hM3
  walk_at "rd"
  refine rd_ite2 ?_ ?_
  · walk_at "rd"
    refine call_block (b1 := b + 5001 + 20000 * ctB x) (by lia) hF4 (P2.pen_mono hP4 (by lia)) (by lia) hdp (by lia) fun y a3 l2 M5 hy hyn hyd hyc hyl ha3 hM5 hF5 hP5 hx5 => ?_
    have hly := bkL_len (deep + 1) y
    refine rd_gTup rfl ?_
    have hM5a : M5 a2 = some (.lst ((lnT deep "if" [.ex g] :: bkL (deep + 1) x).map D.str)) := by rw [hx5 a2 hpa2 hfa2 (by rw [hM4]; simp)]; exact hM4
    walk_at "rd"
    refine rd_addS (by rw [c_else, sizeLine_eq]; lia) ?_
    have hle : Txt.mul " " (deep : Int) ++ "else" = lnT deep "else" [] := by unfold lnT; rw [lf_else]
    rw [hle]
    walk_at "rd"
    refine rd_addM (.inr ⟨a2, rfl, hM5a⟩) (.inl rfl) (by simp only [List.length_cons, List.length_nil, List.length_map]; rw [sizeLine_eq]; lia) fun a4 ha4 => ?_
    have h34 : a3 ≠ a4 := by rintro rfl; rw [hM5] at ha4; cases ha4
    walk_at "rd"
    refine rd_addM (.inr ⟨a4, rfl, mput_same⟩) (.inr ⟨a3, rfl, by rw [mput_ne h34]; exact hM5⟩) (by simp only [List.length_cons, List.length_nil, List.length_map, List.length_append]; rw [sizeLine_eq]; lia) fun a5 ha5 => ?_
    have hF6 := fl_new (o := .lst (List.map D.str (lnT deep "if" [.ex g] :: bkL (deep + 1) x) ++ [D.str (lnT deep "else" [])])) hF5 ha4
    have hP6 := pen_new (o := .lst (List.map D.str (lnT deep "if" [.ex g] :: bkL (deep + 1) x) ++ [D.str (lnT deep "else" [])])) hP5 ha4
    have hx6 := (hx4.trans hx5).trans (Ext.put (o := .lst (List.map D.str (lnT deep "if" [.ex g] :: bkL (deep + 1) x) ++ [D.str (lnT deep "else" [])])) (.inl ha4))
    have ha5M := fresh_back hx6 (pen_some hP6) (fl_some hF6) ha5
    walk_at "rd"
    refine ix0 ?_
    walk_at "rd"
    refine View.of ?_
    have key := q (.ife g x y) a5 l2
    simp only [ddD] at key
    exact key _ (by simp only [okD]; exact ⟨hg, hx, hy⟩) (by simp only [dpD]; lia) (by simp only [ctD]; lia) (by lia) ha5M (by
      rw [mput_same]
      simp only [ddL, hyn, List.map_append, List.map_cons, Bool.false_eq_true, if_false, List.append_assoc, List.cons_append, List.nil_append]) (fl_new hF6 ha5) (pen_new (P2.pen_mono hP6 (by simp only [ctD]; lia)) ha5) (hx6.trans (Ext.put (.inl ha5)))
  · walk_at "rd"
    refine ix0 ?_
    walk_at "rd"
    have := q (.ife g x .nil) a2 l1 M4 (by simp only [okD, okB]; exact ⟨hg, hx, trivial⟩) (by simp only [dpD, dpB]; lia) (by simp only [ctD, ctB]; lia) (by lia) ha2M (by
      rw [hM4]
      simp only [ddL, Bk.isNil, if_true, List.append_nil]) hF4 (P2.pen_mono hP4 (by simp only [ctD, ctB]; lia)) hx4
    simp only [ddD, bkD] at this
    exact View.of this
def PvC (p f cA : Addr) (F : F0) (M : Mem) (l1 : Int) (c : Bool) (deep kind b : Nat) (g : Ex) (x : Bk) (cnt : Nat) (k : Nat) (σ : Lo) (M1 : Mem) : Prop := ∃ (cs : List (Str × Str × Bk)) (l2 : Int) (aL : Addr) (s10 s13 s14 s15 s16 : Option D), cs.length = k ∧ (∀ l ∈ cs, l.1.length ≤ 20 ∧ l.2.1.length ≤ 20 ∧ okB l.2.2) ∧ (∀ l ∈ cs, dpB l.2.2 ≤ 5 - deep) ∧ ctC (ofC cs) + 10 * l2.toNat ≤ 10 * l1.toNat + 2 * k ∧ l2 ≤ l1 ∧
  σ = [some (.ref p), some (.ref f), some (.int deep), some (.bl c), some (.int kind), some (.str (Txt.mul " " (deep : Int))), some (P2.exP g), some (.tup (bkD x)), some (.ref aL), none, s10, some (.ref cA), some (.int cnt), s13, s14, s15, s16, none] ∧ FL F M1 f p l2 ∧ P2.Pen M1 p (b + 5010 + 100 * k + 20000 * (ctB x + ctC (ofC cs))) ∧ M1 cA = some (.lst (cs.map cD)) ∧ M aL = none ∧ aL ≠ cA ∧ M1 aL = some (.lst (((lnT deep "try" [] :: bkL (deep + 1) x) ++ cs.flatMap (cL deep)).map D.str)) ∧ Ext p f M M1
set_option maxHeartbeats 2000000 in
theorem rd_tr {M2 : Mem} {l1 l2 : Int} {aL cA : Addr} {cs : List (Str × Str × Bk)} {cnt : Nat} {s10 s13 s14 s15 s16 : Option D} (q : GoalL p f F M l deep b Q) (hF : FL F M2 f p l2) (hP : P2.Pen M2 p (b + 6000 + 20000 * (ctB x + ctC (ofC cs)))) (hb : b + 1000000 * (5 - deep) + 500000 + 20000 * (10 * l.toNat + 10) < 2 ^ 30) (hdp : 1 ≤ deep ∧ deep ≤ 4 ∧ 2 * (5 - deep) ≤ n + 1) (hl6 : l ≤ 6)
    (hx : okB x) (hxd : dpB x ≤ 5 - deep) (hct : ctB x + 10 * l1.toNat ≤ 10 * l.toNat + 1) (hl1 : l1 ≤ l) (hcl : cs.length ≤ 3) (hcs : ∀ l ∈ cs, l.1.length ≤ 20 ∧ l.2.1.length ≤ 20 ∧ okB l.2.2) (hcd : ∀ l ∈ cs, dpB l.2.2 ≤ 5 - deep) (hcc : ctC (ofC cs) + 10 * l2.toNat ≤ 10 * l1.toNat + 2 * cs.length) (hl2 : l2 ≤ l1)
    (hcA : M2 cA = some (.lst (cs.map cD))) (haM : M aL = none) (hac : aL ≠ cA) (hM2 : M2 aL = some (.lst (((lnT deep "try" [] :: bkL (deep + 1) x) ++ cs.flatMap (cL deep)).map D.str))) (hx2 : Ext p f M M2) :
    tTR (spBlock n) { nx := fun _ M' => View Q .non M', rt := View Q } [some (.ref p), some (.ref f), some (.int deep), some (.bl c), some (.int kind), some (.str (Txt.mul " " (deep : Int))), some (P2.exP g), some (.tup (bkD x)), some (.ref aL), none, s10, some (.ref cA), some (.int cnt), s13, s14, s15, s16, none] M2 := by
  unfold tTR
  have hm2 := mul_len (b := deep) (by lia)
  have hlx := bkL_len (deep + 1) x
  have hlc := flatC_ct deep cs
  have hpa : aL ≠ p := by rintro rfl; exact absurd hM2 (by obtain ⟨_, _, _, h, _⟩ := hP; rw [h]; intro e; cases e)
  have hfa : aL ≠ f := by rintro rfl; exact absurd hM2 (by rw [hF.1]; intro e; cases e)
  have hpc : cA ≠ p := by rintro rfl; exact absurd hcA (by obtain ⟨_, _, _, h, _⟩ := hP; rw [h]; intro e; cases e)
  have hfc : cA ≠ f := by rintro rfl; exact absurd hcA (by rw [hF.1]; intro e; cases e)
  have done : ∀ (M3 : Mem) (s10 : Option D), FL F M3 f p l2 → P2.Pen M3 p (b + 6001 + 20000 * (ctB x + ctC (ofC cs))) → M3 cA = some (.lst (cs.map cD)) → M3 aL = some (.lst (((lnT deep "try" [] :: bkL (deep + 1) x) ++ cs.flatMap (cL deep)).map D.str)) → Ext p f M M3 →
      (tRet3 (tTup3 (tCons3 (tTup3 (tCons3 (tC3 (.str "try")) (tCons3 (tVar3 7) (tCons3 (tCB3 rTuple3 (tCons3 (tVar3 11) tNil3)) (tCons3 (tVar3 17) tNil3))))) (tCons3 (tVar3 8) tNil3)))) { nx := fun _ M' => View Q .non M', rt := View Q } [some (.ref p), some (.ref f), some (.int deep), some (.bl c), some (.int kind), some (.str (Txt.mul " " (deep : Int))), some (P2.exP g), some (.tup (bkD x)), some (.ref aL), none, s10, some (.ref cA), some (.int cnt), s13, s14, s15, s16, some (.tup [])] M3 := by
    intro M3 s10 hF3 hP3 hc3 hM3 hx3
    walk_at "rd"
    refine rd_tupR hc3 ?_
    walk_at "rd"
    refine View.of ?_
    have key := q (.tr x (ofC cs) .nil) aL l2 M3
    simp only [ddD, ofC_D, bkD] at key
    refine key (by simp only [okD, okB]; exact ⟨hx, ofC_ok hcs, trivial⟩) (by simp only [dpD, dpB]; have := ofC_dp hcd; lia) (by simp only [ctD, ctB]; lia) (by lia) haM ?_ hF3 (P2.pen_mono hP3 (by simp only [ctD, ctB]; lia)) hx3
    rw [hM3]
    simp only [ddL, Bk.isNil, if_true, List.append_nil, ofC_L]
  have lst : ∀ (M3 : Mem), FL F M3 f p l2 → P2.Pen M3 p (b + 6001 + 20000 * (ctB x + ctC (ofC cs))) → M3 cA = some (.lst (cs.map cD)) → M3 aL = some (.lst (((lnT deep "try" [] :: bkL (deep + 1) x) ++ cs.flatMap (cL deep)).map D.str)) → Ext p f M M3 →
      (tSeq3 (tAsg3 (gTup3 [17, 10]) (tCall3 (spBlock n) (tCons3 (tVar3 0) (tCons3 (tVar3 1) (tCons3 (tOp3 rAdd3 (tVar3 2) (tC3 (.int 1))) (tCons3 (tVar3 3) tNil3))))))
    (tSet3 8 (tOp3 rAddM3 (tOp3 rAddM3 (tVar3 8) (tLst3 (tCons3 (tOp3 rAdd3 (tVar3 5) (tC3 (.str "last"))) tNil3))) (tVar3 10)))) { nx := (tRet3 (tTup3 (tCons3 (tTup3 (tCons3 (tC3 (.str "try")) (tCons3 (tVar3 7) (tCons3 (tCB3 rTuple3 (tCons3 (tVar3 11) tNil3)) (tCons3 (tVar3 17) tNil3))))) (tCons3 (tVar3 8) tNil3)))) { nx := fun _ M' => View Q .non M', rt := View Q }, rt := View Q } [some (.ref p), some (.ref f), some (.int deep), some (.bl c), some (.int kind), some (.str (Txt.mul " " (deep : Int))), some (P2.exP g), some (.tup (bkD x)), some (.ref aL), none, s10, some (.ref cA), some (.int cnt), s13, s14, s15, s16, some (.tup [])] M3 := by
    intro M3 hF3 hP3 hc3 hM3 hx3
    walk_at "rd"
    refine call_block (b1 := b + 6001 + 20000 * (ctB x + ctC (ofC cs))) (by lia) hF3 hP3 (by lia) hdp (by lia) fun y a3 l3 M5 hy hyn hyd hyc hyl ha3 hM5 hF5 hP5 hx5 => ?_
    have hly := bkL_len (deep + 1) y
    refine rd_gTup rfl ?_
    have hM5a : M5 aL = some (.lst (((lnT deep "try" [] :: bkL (deep + 1) x) ++ cs.flatMap (cL deep)).map D.str)) := by rw [hx5 aL hpa hfa (by rw [hM3]; simp)]; exact hM3
    have hM5c : M5 cA = some (.lst (cs.map cD)) := by rw [hx5 cA hpc hfc (by rw [hc3]; simp)]; exact hc3
    walk_at "rd"
    refine rd_addS (by rw [c_last, sizeLine_eq]; lia) ?_
    have hle : Txt.mul " " (deep : Int) ++ "last" = lnT deep "last" [] := by unfold lnT; rw [lf_last]
    rw [hle]
    walk_at "rd"
    refine rd_addM (.inr ⟨aL, rfl, hM5a⟩) (.inl rfl) (by simp only [List.length_cons, List.length_nil, List.length_map, List.length_append]; rw [sizeLine_eq]; lia) fun a4 ha4 => ?_
    have h34 : a3 ≠ a4 := by rintro rfl; rw [hM5] at ha4; cases ha4
    have hc4 : cA ≠ a4 := by rintro rfl; rw [hM5c] at ha4; cases ha4
    walk_at "rd"
    refine rd_addM (.inr ⟨a4, rfl, mput_same⟩) (.inr ⟨a3, rfl, by rw [mput_ne h34]; exact hM5⟩) (by simp only [List.length_cons, List.length_nil, List.length_map, List.length_append]; rw [sizeLine_eq]; lia) fun a5 ha5 => ?_
    have hF6 := fl_new (o := .lst (List.map D.str ((lnT deep "try" [] :: bkL (deep + 1) x) ++ cs.flatMap (cL deep)) ++ [D.str (lnT deep "last" [])])) hF5 ha4
    have hP6 := pen_new (o := .lst (List.map D.str ((lnT deep "try" [] :: bkL (deep + 1) x) ++ cs.flatMap (cL deep)) ++ [D.str (lnT deep "last" [])])) hP5 ha4
    have hx6 := (hx3.trans hx5).trans (Ext.put (o := .lst (List.map D.str ((lnT deep "try" [] :: bkL (deep + 1) x) ++ cs.flatMap (cL deep)) ++ [D.str (lnT deep "last" [])])) (.inl ha4))
    have ha5M := fresh_back hx6 (pen_some hP6) (fl_some hF6) ha5
    have hc5 : cA ≠ a5 := by rintro rfl; rw [mput_ne hc4, hM5c] at ha5; cases ha5
    walk_at "rd"
    refine rd_tupR (ds := cs.map cD) (by rw [mput_ne hc5, mput_ne hc4]; exact hM5c) ?_
    walk_at "rd"
    refine View.of ?_
    have key := q (.tr x (ofC cs) y) a5 l3
    simp only [ddD, ofC_D] at key
    refine key _ (by simp only [okD]; exact ⟨hx, ofC_ok hcs, hy⟩) (by simp only [dpD]; have := ofC_dp hcd; lia) (by simp only [ctD]; lia) (by lia) ha5M ?_ (fl_new hF6 ha5) (pen_new (P2.pen_mono hP6 (by simp only [ctD]; lia)) ha5) (hx6.trans (Ext.put (.inl ha5)))
    rw [mput_same]
    simp only [ddL, hyn, ofC_L, List.map_append, List.map_cons, Bool.false_eq_true, if_false, List.append_assoc, List.cons_append, List.nil_append]
  walk_at "rd"
  refine rd_ite2 (rd_iteT (lst M2 hF (P2.pen_mono hP (by lia)) hcA hM2 hx2)) ?_
  walk_at "rd"
  refine P2.draw hP (by lia) (by decide) (by decide) fun w M4 w0 w1 hP4 e4 => ?_
  walk_at "rd"
  have k1 : M4 cA = some (.lst (cs.map cD)) := by rw [e4 cA hpc]; exact hcA
  have k2 : M4 aL = some (.lst (((lnT deep "try" [] :: bkL (deep + 1) x) ++ cs.flatMap (cL deep)).map D.str)) := by rw [e4 aL hpa]; exact hM2
  exact rd_ite2 (lst M4 (fl_same hF e4) (P2.pen_mono hP4 (by lia)) k1 k2 (hx2.trans (Ext.same e4))) (rd_next (done M4 _ (fl_same hF e4) (P2.pen_mono hP4 (by lia)) k1 k2 (hx2.trans (Ext.same e4))))
end
end K16
set_option Elab.async false
set_option linter.all false
set_option maxRecDepth 100000
open L3
namespace K16
open PySem L2 L3
open P3
open P2 (exT wf cst FactsOk len_app join_len sum_le exT_len)
open MK (Ex eD nd dp)
section
variable {n : Nat} {M : Mem} {Q : DK} {p f : Addr} {F : F0} {l : Int} {c : Bool} {deep kind b : Nat} {g : Ex} {x : Bk}
set_option maxHeartbeats 4000000 in
theorem rd_try {M2 : Mem} {l1 : Int} {a1 : Addr} (q : GoalL p f F M l deep b Q) (hF : FL F M2 f p l1) (hP : P2.Pen M2 p (b + 5000 + 20000 * ctB x)) (hb : b + 1000000 * (5 - deep) + 500000 + 20000 * (10 * l.toNat + 10) < 2 ^ 30) (hdp : 1 ≤ deep ∧ deep ≤ 4 ∧ 2 * (5 - deep) ≤ n + 1) (hl6 : l ≤ 6)
    (hx : okB x) (hxd : dpB x ≤ 5 - deep) (hct : ctB x + 10 * l1.toNat ≤ 10 * l.toNat + 1) (hl1 : l1 ≤ l) (hM2 : M2 a1 = some (.lst ((bkL (deep + 1) x).map D.str))) (hx2 : Ext p f M M2) :
    tTry (spBlock n) { nx := fun _ M' => View Q .non M', rt := View Q } [some (.ref p), some (.ref f), some (.int deep), some (.bl c), some (.int kind), some (.str (Txt.mul " " (deep : Int))), some (P2.exP g), some (.tup (bkD x)), some (.ref a1), none, none, none, none, none, none, none, none, none] M2 := by
  unfold tTry
  have hm2 := mul_len (b := deep) (by lia)
  have hlx := bkL_len (deep + 1) x
  walk_at "rd"
  refine rd_addS (by rw [c_try, sizeLine_eq]; lia) ?_
  have hln : Txt.mul " " (deep : Int) ++ "try" = lnT deep "try" [] := by unfold lnT; rw [lf_try]
  rw [hln]
  walk_at "rd"
  refine rd_addM (.inl rfl) (.inr ⟨a1, rfl, hM2⟩) (by simp only [List.length_cons, List.length_nil, List.length_map]; rw [sizeLine_eq]; lia) fun a2 ha2 => ?_
  have hF3 := fl_new (o := .lst ([D.str (lnT deep "try" [])] ++ (bkL (deep + 1) x).map D.str)) hF ha2
  have hP3 := pen_new (o := .lst ([D.str (lnT deep "try" [])] ++ (bkL (deep + 1) x).map D.str)) hP ha2
  have hx3 := hx2.trans (Ext.put (o := .lst ([D.str (lnT deep "try" [])] ++ (bkL (deep + 1) x).map D.str)) (.inl ha2))
  have ha2M := fresh_back hx2 (pen_some hP) (fl_some hF) ha2
  have hM3 : mput M2 a2 (.lst ([D.str (lnT deep "try" [])] ++ (bkL (deep + 1) x).map D.str)) a2 = some (.lst ((lnT deep "try" [] :: bkL (deep + 1) x).map D.str)) := by rw [mput_same]; rfl
  generalize mput M2 a2 (.lst ([D.str (lnT deep "try" [])] ++ (bkL (deep + 1) x).map D.str)) = M3 at hF3 hP3 hx3 hM3 ⊢
  walk_at "rd"
  intro cA hcA
  have h2c : a2 ≠ cA := by rintro rfl; rw [hM3] at hcA; cases hcA
  have hF4 := fl_new (o := .lst []) hF3 hcA
  have hP4 := pen_new (o := .lst []) hP3 hcA
  have hx4 := hx3.trans (Ext.put (o := .lst []) (.inl hcA))
  have hcp : cA ≠ p := by rintro rfl; exact pen_some hP3 hcA
  have hcf : cA ≠ f := by rintro rfl; exact fl_some hF3 hcA
  have hcr : cA ≠ F.r := by intro e; rw [e, hF3.2.1] at hcA; cases hcA
  have h2p : a2 ≠ p := by rintro rfl; exact absurd hM3 (by obtain ⟨_, _, _, h, _⟩ := hP3; rw [h]; intro e; cases e)
  walk_at "rd"
  refine P2.draw hP4 (by lia) (by decide) (by decide) fun cn M5 cn0 cn1 hP5 e5 => ?_
  obtain ⟨cnt, rfl⟩ : ∃ k : Nat, cn = (k : Int) := ⟨cn.toNat, by lia⟩
  walk_at "rd"
  refine ⟨by lia, by lia, PvC p f cA F M l1 c deep kind b g x cnt, ⟨[], l1, a2, none, none, none, none, none, rfl, (fun _ h => by cases h), (fun _ h => by cases h), by simp only [ofC, ctC]; lia, Int.le_refl _, rfl, fl_same hF4 e5, P2.pen_mono hP5 (by simp only [ofC, ctC]; lia), by rw [e5 cA hcp, mput_same]; rfl, ha2M, h2c, by rw [e5 a2 h2p, mput_ne h2c, hM3]; simp, hx4.trans (Ext.same e5)⟩, ?_, ?_⟩
  · rintro k d σ M6 hdk ⟨cs, l2, aL, s10, s13, s14, s15, s16, hcl, hcs, hcd, hcc, hl2, rfl, hF6, hP6, hc6, haM, hac, hM6, hx6⟩
    have hk : k < cnt := by simpa using (List.getElem?_eq_some_iff.mp hdk).1
    have hpa : aL ≠ p := by rintro rfl; exact absurd hM6 (by obtain ⟨_, _, _, h, _⟩ := hP6; rw [h]; intro e; cases e)
    have hfa : aL ≠ f := by rintro rfl; exact absurd hM6 (by rw [hF6.1]; intro e; cases e)
    have hlc := flatC_ct deep cs
    walk_at "rd"
    refine ⟨p, _, rfl, hP6, by lia, fun w M7 hw hP7 e7 => ?_⟩
    walk_at "rd"
    refine P2.draw hP7 (by lia) (by decide) (by decide) fun v M8 v0 v1 hP8 e8 => ?_
    walk_at "rd"
    refine rd_I ⟨by decide, by decide +kernel⟩ ?_
    obtain ⟨w', hw', hwl⟩ : ∃ w', atI [D.str w, .str "any"] (v / 2) = some (.str w') ∧ w'.length ≤ 20 := by
      have : v / 2 = 0 ∨ v / 2 = 1 := by lia
      rcases this with h | h <;> rw [h]
      · exact ⟨w, rfl, hw⟩
      · exact ⟨"any", rfl, by decide +kernel⟩
    refine rd_ixL hw' ?_
    have hF8 := fl_same (fl_same hF6 e7) e8
    obtain ⟨ns0, ns1, ns2⟩ := hF8.2.2.1.1
    have hnl : 0 < F.ns.length := by
      cases e : F.ns with
      | nil => exact absurd e ns0
      | cons _ _ => simp
    walk_at "rd"
    refine get_names hF8.1 ?_
    walk_at "rd"
    refine get_names hF8.1 ?_
    walk_at "rd"
    refine P2.draw hP8 (by lia) (by rw [List.length_map]; lia) (by rw [List.length_map]; lia) fun u M9 u0 u1 hP9 e9 => ?_
    obtain ⟨dz, hdz, hmz⟩ := atI_mem (ds := F.ns.map D.str) u0 (by simpa using u1)
    obtain ⟨z, hz, rfl⟩ := List.mem_map.mp hmz
    refine rd_ixL hdz ?_
    have hzl := ns2 z hz
    have hF9 := fl_same hF8 e9
    have ee : Same3 p M6 M9 := e7.trans (e8.trans e9)
    have hM9 : M9 aL = some (.lst (((lnT deep "try" [] :: bkL (deep + 1) x) ++ cs.flatMap (cL deep)).map D.str)) := by rw [ee aL hpa]; exact hM6
    have hc9 : M9 cA = some (.lst (cs.map cD)) := by rw [ee cA hcp]; exact hc6
    walk_at "rd"
    refine call_block (b1 := b + 5010 + 100 * k + 20000 * (ctB x + ctC (ofC cs)) + 22) (by lia) hF9 (P2.pen_mono hP9 (by lia)) (by lia) hdp (by lia) fun y a3 l3 M10 hy hyn hyd hyc hyl ha3 hM10 hF10 hP10 hx10 => ?_
    have hly := bkL_len (deep + 1) y
    refine rd_gTup rfl ?_
    have hMa : M10 aL = some (.lst (((lnT deep "try" [] :: bkL (deep + 1) x) ++ cs.flatMap (cL deep)).map D.str)) := by rw [hx10 aL hpa hfa (by rw [hM9]; simp)]; exact hM9
    have hMc : M10 cA = some (.lst (cs.map cD)) := by rw [hx10 cA hcp hcf (by rw [hc9]; simp)]; exact hc9
    walk_at "rd"
    refine ⟨.inl ⟨rfl, _, hMc⟩, ?_⟩
    walk_at "rd"
    refine rd_append hMc (by rw [List.length_map, sizeLine_eq]; lia) ?_
    have h3c : a3 ≠ cA := by rintro rfl; rw [hc9] at ha3; cases ha3
    have hF11 : FL F (mput M10 cA (.lst (cs.map cD ++ [.tup [.str w', .str z, .tup (bkD y)]]))) f p l3 := fl_other hF10 hcf hcr
    have hP11 := P2.pen_put (o := .lst (cs.map cD ++ [.tup [.str w', .str z, .tup (bkD y)]])) hP10 (Ne.symm hcp)
    have hMa11 : mput M10 cA (.lst (cs.map cD ++ [.tup [.str w', .str z, .tup (bkD y)]])) aL = some (.lst (((lnT deep "try" [] :: bkL (deep + 1) x) ++ cs.flatMap (cL deep)).map D.str)) := by rw [mput_ne hac]; exact hMa
    have hM311 : mput M10 cA (.lst (cs.map cD ++ [.tup [.str w', .str z, .tup (bkD y)]])) a3 = some (.lst ((bkL (deep + 1) y).map D.str)) := by rw [mput_ne h3c]; exact hM10
    have hcM : M cA = none := fresh_back hx3 (pen_some hP3) (fl_some hF3) hcA
    have hx11 : Ext p f M (mput M10 cA (.lst (cs.map cD ++ [.tup [.str w', .str z, .tup (bkD y)]]))) := fun y' h1 h2 h3 => by
      rw [mput_ne (by rintro rfl; exact h3 hcM)]
      exact ((hx6.trans (Ext.same ee)).trans hx10) y' h1 h2 h3
    have hc11 : mput M10 cA (.lst (cs.map cD ++ [.tup [.str w', .str z, .tup (bkD y)]])) cA = some (.lst ((cs ++ [(w', z, y)]).map cD)) := by rw [mput_same, List.map_append]; rfl
    generalize mput M10 cA (.lst (cs.map cD ++ [.tup [.str w', .str z, .tup (bkD y)]])) = M11 at hF11 hP11 hMa11 hM311 hx11 hc11 ⊢
    walk_at "rd"
    refine rd_addS (by rw [c_catch, sizeLine_eq]; lia) ?_
    walk_at "rd"
    refine rd_addS (by rw [len_app, c_catch, sizeLine_eq]; lia) ?_
    walk_at "rd"
    refine rd_addS (by simp only [len_app, c_catch, c_sp]; rw [sizeLine_eq]; lia) ?_
    walk_at "rd"
    refine rd_addS (by simp only [len_app, c_catch, c_sp]; rw [sizeLine_eq]; lia) ?_
    have hle : Txt.mul " " (deep : Int) ++ "catch " ++ w' ++ " " ++ z = lnT deep "catch" [.nm w', .nm z] := by unfold lnT; rw [lf_catch]; simp only [str_assoc]
    rw [hle]
    walk_at "rd"
    refine rd_addM (.inr ⟨aL, rfl, hMa11⟩) (.inl rfl) (by simp only [List.length_cons, List.length_nil, List.length_map, List.length_append]; rw [sizeLine_eq]; lia) fun a4 ha4 => ?_
    have h34 : a3 ≠ a4 := by rintro rfl; rw [hM311] at ha4; cases ha4
    have hc4 : cA ≠ a4 := by rintro rfl; rw [hc11] at ha4; cases ha4
    walk_at "rd"
    refine rd_addM (.inr ⟨a4, rfl, mput_same⟩) (.inr ⟨a3, rfl, by rw [mput_ne h34]; exact hM311⟩) (by simp only [List.length_cons, List.length_nil, List.length_map, List.length_append]; rw [sizeLine_eq]; lia) fun a5 ha5 => ?_
    have hF12 := fl_new (o := .lst (List.map D.str ((lnT deep "try" [] :: bkL (deep + 1) x) ++ cs.flatMap (cL deep)) ++ [D.str (lnT deep "catch" [.nm w', .nm z])])) hF11 ha4
    have hP12 := pen_new (o := .lst (List.map D.str ((lnT deep "try" [] :: bkL (deep + 1) x) ++ cs.flatMap (cL deep)) ++ [D.str (lnT deep "catch" [.nm w', .nm z])])) hP11 ha4
    have hx12 := hx11.trans (Ext.put (o := .lst (List.map D.str ((lnT deep "try" [] :: bkL (deep + 1) x) ++ cs.flatMap (cL deep)) ++ [D.str (lnT deep "catch" [.nm w', .nm z])])) (.inl ha4))
    have ha5M := fresh_back hx12 (pen_some hP12) (fl_some hF12) ha5
    have hc5 : cA ≠ a5 := by rintro rfl; rw [mput_ne hc4, hc11] at ha5; cases ha5
    refine ⟨cs ++ [(w', z, y)], l3, a5, _, _, _, _, _, by simp [hcl], fun m hm => ?_, fun m hm => ?_, by rw [ofC_ct]; lia, by lia, rfl, fl_new hF12 ha5, pen_new (P2.pen_mono hP12 (by rw [ofC_ct]; lia)) ha5, by rw [mput_ne hc5, mput_ne hc4]; exact hc11, ha5M, Ne.symm hc5, ?_, hx12.trans (Ext.put (.inl ha5))⟩
    · rcases List.mem_append.mp hm with h | h
      · exact hcs m h
      · cases List.mem_singleton.mp h; exact ⟨hwl, hzl, hy⟩
    · rcases List.mem_append.mp hm with h | h
      · exact hcd m h
      · cases List.mem_singleton.mp h; exact hyd
    · rw [mput_same]
      simp [cL]
  · rintro σ M6 ⟨cs, l2, aL, s10, s13, s14, s15, s16, hcl, hcs, hcd, hcc, hl2, rfl, hF6, hP6, hc6, haM, hac, hM6, hx6⟩
    rw [List.length_map, List.length_range] at hcl hcc hP6
    have hcl3 : cs.length ≤ 3 := by lia
    exact rd_tr q hF6 (P2.pen_mono hP6 (by lia)) hb hdp hl6 hx hxd hct hl1 hcl3 hcs hcd (by rw [hcl]; exact hcc) hl2 hc6 haM hac hM6 hx6
set_option maxHeartbeats 2000000 in
theorem rd_longRest {M2 : Mem} {l1 : Int} {a1 : Addr} (q : GoalL p f F M l deep b Q) (hkd : 5 ≤ kind ∧ kind ≤ 7) (hF : FL F M2 f p l1) (hP : P2.Pen M2 p (b + 5000 + 20000 * ctB x)) (hb : b + 1000000 * (5 - deep) + 500000 + 20000 * (10 * l.toNat + 10) < 2 ^ 30) (hdp : 1 ≤ deep ∧ deep ≤ 4 ∧ 2 * (5 - deep) ≤ n + 1) (hl6 : l ≤ 6)
    (hg : ptOk (.ex g)) (hx : okB x) (hxd : dpB x ≤ 5 - deep) (hct : ctB x + 10 * l1.toNat ≤ 10 * l.toNat + 1) (hl1 : l1 ≤ l) (hM2 : M2 a1 = some (.lst ((bkL (deep + 1) x).map D.str))) (hx2 : Ext p f M M2) :
    tLR (spBlock n) { nx := fun _ M' => View Q .non M', rt := View Q } [some (.ref p), some (.ref f), some (.int deep), some (.bl c), some (.int kind), some (.str (Txt.mul " " (deep : Int))), some (P2.exP g), some (.tup (bkD x)), some (.ref a1), none, none, none, none, none, none, none, none, none] M2 := by
  unfold tLR
  have lg := exT_len g hg.1
  have hgn := hg.2.1
  have hm2 := mul_len (b := deep) (by lia)
  have hlx := bkL_len (deep + 1) x
  walk_at "rd"
  by_cases h5 : kind = 5
  · refine rd_iteTe (by simp [h5]) ?_
    walk_at "rd"
    refine ix0 ?_
    walk_at "rd"
    refine rd_addS (by rw [c_while, sizeLine_eq]; lia) ?_
    walk_at "rd"
    refine ix1 ?_
    refine rd_addS (by rw [len_app, c_while, sizeLine_eq]; lia) ?_
    have hln : Txt.mul " " (deep : Int) ++ "while " ++ exT g = lnT deep "while" [.ex g] := by unfold lnT; rw [lf_while, str_assoc]
    rw [hln]
    walk_at "rd"
    refine rd_addM (.inl rfl) (.inr ⟨a1, rfl, hM2⟩) (by simp only [List.length_cons, List.length_nil, List.length_map]; rw [sizeLine_eq]; lia) fun a2 ha2 => ?_
    have ha2M := fresh_back hx2 (pen_some hP) (fl_some hF) ha2
    walk_at "rd"
    refine View.of ?_
    have key := q (.whl g x) a2 l1
    simp only [ddD] at key
    refine key _ (by simp only [okD]; exact ⟨hg, hx⟩) (by simp only [dpD]; lia) (by simp only [ctD]; lia) hl1 ha2M ?_ (fl_new hF ha2) (pen_new (P2.pen_mono hP (by simp only [ctD]; lia)) ha2) (hx2.trans (Ext.put (.inl ha2)))
    rw [mput_same]
    simp [ddL]
  refine rd_iteFe (by simp; lia) ?_
  walk_at "rd"
  by_cases h6 : kind = 6
  · exact rd_iteTe (by simp [h6]) (rd_if q hF hP hb hdp hl6 hg hx hxd hct hl1 hM2 hx2)
  · exact rd_iteFe (by simp; lia) (rd_next (rd_try q hF hP hb hdp hl6 hx hxd hct hl1 hM2 hx2))
end
set_option maxHeartbeats 2000000 in
theorem rd__law_long : ∀ n ds M Q, spLong (n + 1) ds M Q → t__law_long (spBlock n) (spLong n) { nx := fun _ M' => View Q .non M', rt := View Q } (start3 N__law_long ds) M := by
  rintro n _ M Q ⟨p, f, b, F, l, c, deep, kind, rfl, hF, hP, hb, hdp, hl6, hkd, q⟩
  rw [st__law_long, t_long_eq]
  have hc5 : cst 5 = 4840 := by decide
  walk_at "rd"
  refine rd_mulS (mul_ok deep (by lia)) ?_
  walk_at "rd"
  refine get_parts hF.1 ?_
  walk_at "rd"
  refine P2.call_expr (deep := 4) (parts := F.np) rfl rfl (fl_fok hF).1 hP (by rw [hc5]; lia) hF.2.2.1.2.2 (by decide) fun g M1 hg hgn hgd hP1 e1 => ?_
  rw [hc5] at hP1
  have hnp := hF.2.2.1.2.2.2
  have og : ptOk (.ex g) := ⟨hg, by lia, by lia⟩
  have hF1 := fl_same hF e1
  have rest : ∀ c', spBlock n [.ref p, .ref f, .int ((deep : Int) + 1), .bl c'] M1 fun d M2 => gTup3 [7, 8] d [some (.ref p), some (.ref f), some (.int deep), some (.bl c), some (.int kind), some (.str (Txt.mul " " (deep : Int))), some (P2.exP g), none, none, none, none, none, none, none, none, none, none, none] M2 (tLR (spBlock n) { nx := fun _ M' => View Q .non M', rt := View Q }) := fun c' =>
    call_block (by lia) hF1 hP1 (by lia) hdp hl6 fun y a l' M' h1 h2 h3 h4 h5 h6 h7 h8 h9 h10 => rd_gTup rfl (rd_longRest (fun d a l' M' => q d a l' M') hkd h8 (P2.pen_mono h9 (by lia)) hb hdp hl6 og h1 h3 h4 h5 h7 ((Ext.same e1).trans h10))
  walk_at "rd"
  cases c with
  | true =>
    walk_at "rd"
    exact rest true
  | false =>
    walk_at "rd"
    exact rest _
end K16
set_option Elab.async false
set_option linter.all false
set_option maxRecDepth 100000
open L3
namespace K16
open PySem L2 L3
open P3
open P2 (exT wf cst FactsOk len_app join_len sum_le exT_len)
open MK (Ex eD nd dp)
theorem merge_f (x y z w : D) : mergeD [] [(.inr "names", x), (.inr "rules", y), (.inr "parts", z), (.inr "left", w)] = ([(.inr "names", x), (.inr "rules", y), (.inr "parts", z), (.inr "left", w)] : List (Key × D)) := by
  simp [mergeD, putD, inr_ne k_nr, inr_ne k_np, inr_ne k_rp, inr_ne k_nl, inr_ne k_rl, inr_ne k_pl]
theorem cut_strs2 (ns : List Str) (a c : Nat) : ∃ ps : List Str, cutD (ns.map D.str) (some (a : Int)) (some ((a : Int) + (c : Int))) = ps.map D.str ∧ ps.length ≤ c ∧ ∀ x ∈ ps, x ∈ ns := by
  refine ⟨(ns.drop (min a ns.length)).take (min (a + c) ns.length - min a ns.length), ?_, ?_, fun x hx => List.mem_of_mem_drop (List.mem_of_mem_take hx)⟩
  · unfold cutD
    rw [show ((a : Int) + (c : Int)) = ((a + c : Nat) : Int) by lia, HT.sIx_nat, HT.sIx_nat, List.length_map, ← List.map_drop, ← List.map_take]
  · rw [List.length_take]; lia
theorem mul0 : Txt.mul " " ((0 : Nat) : Int) = "" := by decide +kernel
theorem nil_app (x : Str) : (("" : Str)) ++ x = x := str_ext (by rw [cps_app, show (("" : Str)).cps.toList = [] by decide +kernel]; rfl)
theorem c_rule : (("rule " : Str)).length = 5 := by decide +kernel
theorem c_op : (("(" : Str)).length = 1 := by decide +kernel
theorem c_cl : ((")" : Str)).length = 1 := by decide +kernel
theorem c_cm : ((", " : Str)).length = 2 := by decide +kernel
def PvK (p f bA lA : Addr) (F : F0) (many : Nat) (sm : Int) (b k : Nat) (σ : Lo) (M1 : Mem) : Prop := ∃ (bk : List Rl) (l1 : Int) (s4 s7 s8 s9 s10 s11 : Option D), bk.length = k ∧ (∀ r ∈ bk, rOk r) ∧ σ = [some (.ref p), some (.int many), some (.int sm), some (.ref f), s4, some (.ref bA), some (.ref lA), s7, s8, s9, s10, s11] ∧ FL F M1 f p l1 ∧ P2.Pen M1 p (b + 2000000 * k) ∧ M1 bA = some (.lst (bk.map rD)) ∧ M1 lA = some (.lst ((bk.flatMap rL).map D.str))
theorem len__law_book : ∀ ds M Q, spBook ds M Q → ds.length = 1 := by rintro _ _ _ ⟨_, _, rfl, _⟩; rfl
set_option maxHeartbeats 4000000 in
theorem rd__law_book : ∀ ds M Q, spBook ds M Q → t__law_book { nx := fun _ M' => View Q .non M', rt := View Q } (start3 N__law_book ds) M := by
  rintro _ M Q ⟨p, b, rfl, hP, hb, q⟩
  rw [st__law_book]
  unfold t__law_book
  walk_at "rd"
  refine P2.draw hP (by lia) (by decide) (by decide) fun w M1 w0 w1 hP1 e1 => ?_
  obtain ⟨n, hn, hn1, hn2⟩ : ∃ n : Int, atI [D.int 3, .int 8] w = some (.int n) ∧ 3 ≤ n ∧ n ≤ 8 := by
    have : w = 0 ∨ w = 1 := by lia
    rcases this with rfl | rfl
    · exact ⟨3, rfl, by decide, by decide⟩
    · exact ⟨8, rfl, by decide, by decide⟩
  refine rd_ixL hn ?_
  walk_at "rd"
  refine P2.draw hP1 (by lia) (by lia) (by lia) fun k M2 k0 k1 hP2 e2 => ?_
  obtain ⟨many, hmany⟩ : ∃ many : Nat, 1 + k = (many : Int) := ⟨(1 + k).toNat, by lia⟩
  walk_at "rd"
  rw [hmany]
  obtain ⟨sm, hsm, hsm2⟩ : ∃ sm : Int, (if decide ((3 : Int) < (many : Int)) = true then (1 : Int) else 0) = sm ∧ (sm = 0 ∨ sm = 1) := by
    cases decide ((3 : Int) < (many : Int))
    · exact ⟨0, rfl, .inl rfl⟩
    · exact ⟨1, rfl, .inr rfl⟩
  rw [hsm]
  intro f hf
  have hpf := P2.pen_ne hP2 hf
  have hP3 := P2.pen_put (o := .dct []) hP2 hpf
  unfold tPairs3
  walk_at "rd"
  refine ⟨p, _, 9, rfl, hP3, by lia, by lia, by lia, fun ys M3 hyl hys hP4 e3 => ?_⟩
  unfold tPairs3
  walk_at "rd"
  intro r hr
  have hpr := P2.pen_ne hP4 hr
  have hf3 : M3 f = some (.dct []) := by rw [e3 f (Ne.symm hpf), mput_same]
  have hfr : f ≠ r := by rintro rfl; rw [hf3] at hr; cases hr
  have hP5 := P2.pen_put (o := .lst []) hP4 hpr
  unfold tPairs3
  walk_at "rd"
  obtain ⟨np, hnp, hnp1⟩ : ∃ n : Nat, atI [D.int 9, .int 3] sm = some (.int n) ∧ (1 ≤ n ∧ n ≤ 9) := by
    rcases hsm2 with rfl | rfl
    · exact ⟨9, rfl, by decide, by decide⟩
    · exact ⟨3, rfl, by decide, by decide⟩
  refine rd_ixL hnp ?_
  unfold tPairs3
  walk_at "rd"
  unfold tPairs3
  refine ⟨by rw [mput_ne hfr]; exact hf3, [(.inr "names", _), (.inr "rules", _), (.inr "parts", _), (.inr "left", _)], rfl, by simp, ?_⟩
  rw [merge_f]
  have hP6 := P2.pen_put (o := .dct [(.inr "names", .lst (ys.map D.str)), (.inr "rules", .ref r), (.inr "parts", .int np), (.inr "left", .int 0)]) hP5 hpf
  walk_at "rd"
  refine ⟨p, _, many, rfl, hP6, by lia, by lia, by lia, fun zs M4 hzl hzs hP7 e4 => ?_⟩
  walk_at "rd"
  refine ⟨fun k σ M5 => ∃ (rs : List (Str × Nat)) (s4 : Option D), rs.length = k ∧ (∀ x ∈ rs, x.1.length ≤ 20 ∧ x.2 ≤ 3) ∧ σ = [some (.ref p), some (.int many), some (.int sm), some (.ref f), s4, none, none, none, none, none, none, none] ∧ P2.Pen M5 p (b + 100 + k) ∧ M5 f = some (factsO ⟨ys, r, np, rs⟩ 0) ∧ M5 r = some (.lst (rs.map P2.rl)),
    ⟨[], none, rfl, (fun _ h => by cases h), rfl, P2.pen_mono hP7 (by lia), by rw [e4 f (Ne.symm hpf), mput_same]; rfl, by rw [e4 r (Ne.symm hpr), mput_ne (Ne.symm hfr), mput_same]; rfl⟩, ?_, ?_⟩
  · rintro k2 d σ M5 hd2 ⟨rs, s4', hrl, hrs, rfl, hP8, hf8, hr8⟩
    have hk2 : k2 < zs.length := by simpa using (List.getElem?_eq_some_iff.mp hd2).1
    obtain ⟨z, hz, rfl⟩ := List.mem_map.mp (List.mem_of_getElem? hd2)
    walk_at "rd"
    refine get_rules hf8 ?_
    refine ⟨.inl ⟨rfl, _, hr8⟩, ?_⟩
    walk_at "rd"
    refine P2.draw hP8 (by lia) (by decide) (by decide) fun m M6 m0 m1 hP9 e9 => ?_
    obtain ⟨cn, rfl⟩ : ∃ c : Nat, m = (c : Int) := ⟨m.toNat, by lia⟩
    walk_at "rd"
    have hr9 : M6 r = some (.lst (rs.map P2.rl)) := by rw [e9 r (Ne.symm hpr)]; exact hr8
    refine rd_append hr9 (by rw [List.length_map, sizeLine_eq]; lia) ?_
    refine ⟨rs ++ [(z, cn)], _, by simp [hrl], fun x hx => ?_, rfl, P2.pen_put (P2.pen_mono hP9 (by lia)) hpr, by rw [mput_ne hfr, e9 f (Ne.symm hpf)]; exact hf8, by rw [mput_same, List.map_append]; rfl⟩
    rcases List.mem_append.mp hx with h | h
    · exact hrs x h
    · cases List.mem_singleton.mp h
      exact ⟨hzs z hz, by lia⟩
  rintro σ M5 ⟨rs, s4', hrl, hrs, rfl, hP8, hf8, hr8⟩
  rw [List.length_map] at hrl hP8
  have hFL : FL ⟨ys, r, np, rs⟩ M5 f p 0 := ⟨hf8, hr8, ⟨⟨by rintro rfl; simp at hyl, by show ys.length ≤ 9; lia, hys⟩, ⟨by rintro rfl; simp at hrl; lia, by show rs.length ≤ 8; lia, hrs⟩, hnp1⟩, Ne.symm hpf, Ne.symm hpr⟩
  generalize hFe : (⟨ys, r, np, rs⟩ : F0) = F at hFL hf8
  have hrs8 : F.rs.length ≤ 8 := hFL.2.2.1.2.1.2.1
  walk_at "rd"
  intro bA hbA
  have hF6 := fl_new (o := .lst []) hFL hbA
  have hP9 := pen_new (o := .lst []) hP8 hbA
  walk_at "rd"
  intro lA hlA
  have hF7 := fl_new (o := .lst []) hF6 hlA
  have hP10 := pen_new (o := .lst []) hP9 hlA
  have hbl : bA ≠ lA := by rintro rfl; rw [mput_same] at hlA; cases hlA
  have hpb : bA ≠ p := by rintro rfl; exact pen_some hP8 hbA
  have hfb : bA ≠ f := by rintro rfl; exact fl_some hFL hbA
  have hrb : bA ≠ F.r := by intro e; rw [e, hFL.2.1] at hbA; cases hbA
  have hpl : lA ≠ p := by rintro rfl; exact pen_some hP9 hlA
  have hfl : lA ≠ f := by rintro rfl; exact fl_some hF6 hlA
  have hrl2 : lA ≠ F.r := by intro e; rw [e, hF6.2.1] at hlA; cases hlA
  walk_at "rd"
  refine rd_forR ?_
  walk_at "rd"
  refine get_rules hF7.1 ?_
  refine ⟨F.r, _, rfl, hF7.2.1, PvK p f bA lA F many sm (b + 200), ⟨[], 0, s4', none, none, none, none, none, rfl, (fun _ h => by cases h), rfl, hF7, P2.pen_mono hP10 (by lia), by rw [mput_ne hbl, mput_same]; rfl, by rw [mput_same]; rfl⟩, ?_, ?_⟩
  · rintro k2 d σ M6 hd2 ⟨bk, l1, s4, s7, s8, s9, s10, s11, hbl2, hbk, rfl, hF8, hP11, hb8, hl8⟩
    refine ⟨hF8.2.1, ?_⟩
    rw [List.getElem?_map] at hd2
    obtain ⟨⟨nm, cn⟩, hnm, rfl⟩ : ∃ x, F.rs[k2]? = some x ∧ d = P2.rl x := by
      cases e : F.rs[k2]? with
      | none => rw [e] at hd2; cases hd2
      | some x => rw [e] at hd2; exact ⟨x, rfl, (Option.some.inj hd2).symm⟩
    have hk2 : k2 < F.rs.length := (List.getElem?_eq_some_iff.mp hnm).1
    obtain ⟨hnl, hcn⟩ := hF8.2.2.1.2.1.2.2 _ (List.mem_of_getElem? hnm)
    simp only at hnl hcn
    refine rd_gTup rfl ?_
    walk_at "rd"
    refine rd_dp ?_
    walk_at "rd"
    obtain ⟨v, hv, hv6⟩ : ∃ v : Int, atI [D.int 6, .int 3] sm = some (.int v) ∧ (0 ≤ v ∧ v ≤ 6) := by
      rcases hsm2 with rfl | rfl
      · exact ⟨6, rfl, by decide, by decide⟩
      · exact ⟨3, rfl, by decide, by decide⟩
    refine rd_ixL hv ?_
    walk_at "rd"
    refine put_left hF8.1 ?_
    have hF9 : FL F (mput M6 f (factsO F v)) f p v := fl_put hF8
    have hP12 := P2.pen_put (o := factsO F v) hP11 (Ne.symm hF8.2.2.2.1)
    have hb9 : mput M6 f (factsO F v) bA = some (.lst (bk.map rD)) := by rw [mput_ne hfb]; exact hb8
    have hl9 : mput M6 f (factsO F v) lA = some (.lst ((bk.flatMap rL).map D.str)) := by rw [mput_ne hfl]; exact hl8
    generalize mput M6 f (factsO F v) = M7 at hF9 hP12 hb9 hl9 ⊢
    walk_at "rd"
    refine P2.draw hP12 (by lia) (by lia) (by lia) fun at' M8 a0 a1 hP13 e13 => ?_
    obtain ⟨an, rfl⟩ : ∃ a : Nat, at' = (a : Int) := ⟨at'.toNat, by lia⟩
    have hF10 := fl_same hF9 e13
    walk_at "rd"
    refine get_names hF10.1 ?_
    walk_at "rd"
    obtain ⟨ps, hps, hpl3, hpm⟩ := cut_strs2 F.ns an cn
    rw [hps]
    have hpar : ps.length ≤ 3 ∧ ∀ x ∈ ps, x.length ≤ 20 := ⟨by lia, fun x hx => hF10.2.2.1.1.2.2 x (hpm x hx)⟩
    have hb10 : M8 bA = some (.lst (bk.map rD)) := by rw [e13 bA hpb]; exact hb9
    have hl10 : M8 lA = some (.lst ((bk.flatMap rL).map D.str)) := by rw [e13 lA hpl]; exact hl9
    walk_at "rd"
    refine ⟨p, f, _, F, v, false, 1, rfl, hF10, hP13, by lia, ⟨by decide, by decide, by decide⟩, hv6.2, fun y a l' M9 hy hyn hyd hyc hyl ha hMa hF11 hP14 hx9 => ?_⟩
    refine rd_gTup rfl ?_
    have hb11 : M9 bA = some (.lst (bk.map rD)) := by rw [hx9 bA hpb hfb (by rw [hb10]; simp)]; exact hb10
    have hl11 : M9 lA = some (.lst ((bk.flatMap rL).map D.str)) := by rw [hx9 lA hpl hfl (by rw [hl10]; simp)]; exact hl10
    have hab : a ≠ bA := by rintro rfl; rw [hb10] at ha; cases ha
    have hal : a ≠ lA := by rintro rfl; rw [hl10] at ha; cases ha
    have hR : rOk ⟨nm, ps, y⟩ := ⟨hnl, hpar, hy, by show dpB y ≤ 5; lia, by show ctB y ≤ 100; lia⟩
    have hfl3 := flat_len rL bk fun r hr => rL_len (hbk r hr)
    have hly := bkL_len 1 y
    have J := join_len ", " ps
    have S := sum_le hpar.2
    rw [c_cm] at J
    walk_at "rd"
    refine ⟨.inl ⟨rfl, _, hb11⟩, ?_⟩
    walk_at "rd"
    refine rd_append hb11 (by rw [List.length_map, sizeLine_eq]; lia) ?_
    have hl12 : mput M9 bA (.lst (bk.map rD ++ [.tup [.str nm, .tup (ps.map D.str), .tup (bkD y)]])) lA = some (.lst ((bk.flatMap rL).map D.str)) := by rw [mput_ne (Ne.symm hbl)]; exact hl11
    walk_at "rd"
    refine ⟨.inl ⟨rfl, _, hl12⟩, ?_⟩
    walk_at "rd"
    refine rd_addS (by rw [c_rule, sizeLine_eq]; lia) ?_
    walk_at "rd"
    refine rd_addS (by simp only [len_app, c_rule, c_op]; rw [sizeLine_eq]; lia) ?_
    walk_at "rd"
    refine ⟨rfl, ?_⟩
    walk_at "rd"
    refine rd_joinL (by unfold joinOk; rw [c_cm]; lia) ?_
    refine rd_addS (by simp only [len_app, c_rule, c_op]; rw [sizeLine_eq]; lia) ?_
    walk_at "rd"
    refine rd_addS (by simp only [len_app, c_rule, c_op, c_cl]; rw [sizeLine_eq]; lia) ?_
    have hhd : lnT 0 "rule" [.nm nm, .ps ps] = "rule " ++ nm ++ "(" ++ Txt.join ", " ps ++ ")" := by unfold lnT; rw [mul0, lf_rule, nil_app]
    rw [← hhd]
    walk_at "rd"
    refine rd_append hl12 (by rw [List.length_map, sizeLine_eq]; lia) ?_
    walk_at "rd"
    refine ⟨.inl ⟨rfl, _, mput_same⟩, ?_⟩
    walk_at "rd"
    refine rd_ext mput_same (by rw [mput_ne hal, mput_ne hab]; exact hMa) (by simp only [List.length_append, List.length_map, List.length_cons, List.length_nil]; rw [sizeLine_eq]; lia) ?_
    refine ⟨bk ++ [⟨nm, ps, y⟩], l', _, _, _, _, _, _, by simp [hbl2], fun x hx => ?_, rfl, fl_other (fl_other (fl_other hF11 hfb hrb) hfl hrl2) hfl hrl2, P2.pen_put (P2.pen_put (P2.pen_put (P2.pen_mono hP14 (by lia)) (Ne.symm hpb)) (Ne.symm hpl)) (Ne.symm hpl), ?_, ?_⟩
    · rcases List.mem_append.mp hx with h | h
      · exact hbk x h
      · cases List.mem_singleton.mp h; exact hR
    · rw [mput_ne hbl, mput_ne hbl, mput_same, List.map_append]; rfl
    · rw [mput_same]
      simp [rL]
  · rintro σ M6 ⟨bk, l1, s4, s7, s8, s9, s10, s11, hbl2, hbk, rfl, hF8, hP11, hb8, hl8⟩
    refine ⟨hF8.2.1, ?_⟩
    rw [List.length_map] at hbl2
    have hfl3 := flat_len rL bk fun r hr => rL_len (hbk r hr)
    refine rd_frz rfl hl8 ?_
    walk_at "rd"
    refine rd_tupR (ds := bk.map rD) (by rw [mdel_ne hbl]; exact hb8) ?_
    walk_at "rd"
    refine ⟨rfl, ?_⟩
    walk_at "rd"
    refine rd_joinL ?_ ?_
    · have := sum_le (ys := bk.flatMap rL) (m := 7400) fun y hy => by
        obtain ⟨r, hr, hy⟩ := List.mem_flatMap.mp hy
        exact rL_short (hbk r hr) y hy
      unfold joinOk
      rw [show (("\n" : Str)).length = 1 by decide +kernel]
      lia
    walk_at "rd"
    exact View.of (q bk _ hbk (by lia))
theorem rd_isiS {x : Str} {M : Mem} {Q : DK} (h : Q (.bl true) M) : rIsi3 [.str x, .ty "str"] M Q := rd_isi trivial (by decide) (by simpa [tyN, isIn] using h)
theorem len_law : ∀ ds M Q, L3.spLaw3 ds M Q → ds.length = 1 := by rintro _ _ _ ⟨_, rfl, _⟩; rfl
set_option maxHeartbeats 2000000 in
theorem rd_law : ∀ ds M Q, L3.spLaw3 ds M Q → t_law { nx := fun _ M' => View Q .non M', rt := View Q } (start3 N_law ds) M := by
  rintro _ M Q ⟨ns, rfl, hl, hM, q⟩
  rw [st_law]
  unfold t_law
  walk_at "rd"
  refine ⟨ns, rfl, by lia, fun p M1 hp hP1 e1 => ?_⟩
  walk_at "rd"
  refine ⟨p, _, rfl, hP1, by decide, fun bk M2 hbk hbl => ?_⟩
  refine rd_gTup rfl ?_
  walk_at "rd"
  refine ⟨bk, rfl, hbk, hbl, ?_⟩
  walk_at "rd"
  refine rd_isiS ?_
  walk_at "rd"
  refine rd_iteTe (by simp) ?_
  walk_at "rd"
  refine ⟨bk, rfl, hbk, hbl, ?_⟩
  walk_at "rd"
  rw [show (bookT bk == bookT bk) = true by simp]
  exact View.of (q _)
end K16
set_option Elab.async false
set_option linter.all false
set_option maxRecDepth 100000
namespace K16
open PySem PySem.Spec PyProof.Rows L2 L3
open L3 renaming pa3_k → zA, pa3_nil → zB, pss3_cons → zC, pe3_int → zD, pe3_str → zE, pe3_op → zF, pe3_call → zG, pss3_one → zH, ps3_set → zI, o3_add → zJ, pe3_ix → zK, ps3_ret → zL, pe3_tup → zM, pt3_cmp → zN, pss3_nil → zO, pgs3_cons → zP, ps3_if → zQ, pe3_dget → zR, pe3_callB → zS, pa3_s → zT, o3_eq → zU, pe3_bm → zV, pj3_cons → zW, ps3_expr → zX, pgs3_nil → zY, pe3_lst → zZ, pe3_lstM → yA, pe3_callTy → yB, m3_append → yC, pg3_tup → yD, pi3_range1 → yE, o3_addM → yF, ps3_asg → yG, pe3_compB → yH, pps3_cons → yI, pg3_name → yJ, pifs_nil → yK, o3_sub → yL, o3_mod → yM, o3_mul → yN, c3_len → yO, m3_join → yP, ps3_for → yQ, m3_extend → yR, pe3_fmt → yS, po3_some → yT, ps3_dput → yU, c3_tuple → yV, o3_fdiv → yW, pw3_and → yX, pe3_cmp → yY, pw3_or1 → yZ, pss3_frz → wA, pw3_and1 → wB, pw3_or → wC, o3_gt → wD, o3_lt → wE, pe3_slA → wF, pe3_fstr → wG, po3_none → wH, o3_pow → wI, pi3_t → wJ, pi3_l → wK
def top (i : Nat) : Stmt := PySem.Challenge.pw_handedon_k16_books_written.main.body.getD i (.Pass ⟨0, 0, 0, 0⟩)
structure Blt (mg : Str → Option Value) : Prop where
  abs_ : mg "abs" = none
  any_ : mg "any" = none
  int_ : mg "int" = none
  isinstance_ : mg "isinstance" = none
  len_ : mg "len" = none
  range_ : mg "range" = none
  str_ : mg "str" = none
  tuple_ : mg "tuple" = none
structure Cst (K : PySem.W.Frag) (P : Params) (mg : Str → Option Value) : Prop where
  KINDS_ : ∃ a, mg "KINDS" = some (.ref a) ∧ KTup K a ((["name", "word", "caught", "params", "expression"] : List Str).map V.str)
  LINES_ : ∃ a, mg "LINES" = some (.ref a) ∧ GDict K P a P3.tblL
section
variable {P : Program} {w : World} {K : PySem.W.Frag} {mg : Str → Option Value} {base : Heap}
abbrev s0x : Stmt := top 1
theorem sc0x : FnScope P2.N_worth_text ["worth"] (defScope s0x) := ⟨rfl, rfl, rfl, by decide +kernel, rfl, by decide +kernel, by decide +kernel⟩
set_option maxHeartbeats 4000000 in
theorem dv0x {f : Addr} {cdv : Value} {A : Around} {outer : List Env} {s : Shared} {H : Hp} {E : XK} (B : Blt mg) (C : Cst K w.params mg)
    (hr : Room 0 (A.deeper (envOfC "worth_text" (defScope s0x) s.heap.objs.size f cdv))) :
    PSs3 (cxOf CX0 P w K mg base P2.N_worth_text "worth_text" (defScope s0x) f cdv A outer s H E).nox (defBody s0x) P2.t_worth_text := by
    unfold P2.t_worth_text
    refine zC ?_ ?_
    · exact (zQ (zN (zU hr) (zK (pv3 0) zD (fun _ _ => rfl)) zE (nomark _)) (zH (zL zE)) zO)
    refine zC ?_ ?_
    · exact (zQ (zN (zU hr) (zK (pv3 0) zD (fun _ _ => rfl)) zE (nomark _)) (zH (zL (wG (zW zE (zW (yS (zK (pv3 0) zD (fun _ _ => rfl))) pj3_nil))))) zO)
    exact zH (zL (yB c3_str rfl B.str_ b3_str (zA (zK (pv3 0) zD (fun _ _ => rfl)) zB)))
set_option maxHeartbeats 4000000 in
theorem ok0x {f : Addr} {fd : FuncData} (B : Blt mg) (C : Cst K w.params mg) (F : FnAt K mg "worth_text" s0x ["worth"] f fd) : FnOk P w K mg base CX0 1 f fd ["worth"] (dnSp K P2.spWT) :=
  L3.Fun.ok3 F.fn sc0x P2.len_worth_text fun cdv A outer s H E hr => ⟨P2.t_worth_text, @dv0x P w K mg base f cdv A outer s H E B C hr, P2.rd_worth_text⟩
abbrev s1x : Stmt := top 5
theorem sc1x : FnScope P2.N_expression_text ["expression"] (defScope s1x) := ⟨rfl, rfl, rfl, by decide +kernel, rfl, by decide +kernel, by decide +kernel⟩
set_option maxHeartbeats 4000000 in
theorem dv1x {f : Addr} {cdv : Value} {A : Around} {outer : List Env} {s : Shared} {H : Hp} {E : XK} (B : Blt mg) (C : Cst K w.params mg) {f0x : Addr} {fd0x : FuncData} (A0x : FnAt K mg "worth_text" s0x ["worth"] f0x fd0x) (G0x : FnOk P w K mg base CX0 1 f0x fd0x ["worth"] (dnSp K P2.spWT)) {kr : Nat} {q1x : Sp3} {f1x : Addr} {fd1x : FuncData} (A1x : FnAt K mg "expression_text" s1x ["expression"] f1x fd1x) (G1x : FnOk P w K mg base CX0 kr f1x fd1x ["expression"] (dnSp K q1x)) (hkr : 2 ≤ kr)
    (hr : Room kr (A.deeper (envOfC "expression_text" (defScope s1x) s.heap.objs.size f cdv))) :
    PSs3 (cxOf CX0 P w K mg base P2.N_expression_text "expression_text" (defScope s1x) f cdv A outer s H E).nox (defBody s1x) (P2.t_expression_text q1x) := by
    unfold P2.t_expression_text
    refine zC ?_ ?_
    · exact (zQ (zN (zU hr) (zK (pv3 0) zD (fun _ _ => rfl)) zE (nomark _)) (zH (zL (wG (zW zE (zW (yS (zG G1x hr rfl A1x.gl A1x.fn.kp A1x.bd (zA (zK (pv3 0) zD (fun _ _ => rfl)) zB))) (zW zE (zW (yS (zK (pv3 0) zD (fun _ _ => rfl))) (zW zE (zW (yS (zG G1x hr rfl A1x.gl A1x.fn.kp A1x.bd (zA (zK (pv3 0) zD (fun _ _ => rfl)) zB))) (zW zE pj3_nil)))))))))) zO)
    refine zC ?_ ?_
    · exact (zQ (zN (zU hr) (zK (pv3 0) zD (fun _ _ => rfl)) zE (nomark _)) (zC (zI (i := 1) sc1x.nd rfl (Or.inl rfl) (zV F.plainAttrs_str F.slot_str_join F.type_str_join yP zE (zA (yH ["arg"] [] [] rfl (wJ (zK (pv3 0) zD (fun _ _ => rfl))) rfl (by first | rfl | kernel_rfl) rfl (gk_name (by decide)) (fun cl s₀ H₀ ex => (yJ (i := 0) (show List.Nodup (["arg"] : List Str) by decide +kernel) rfl (Or.inl rfl) (Or.inr rfl))) (fun cl s₀ H₀ ex => yK) (fun cl s₀ H₀ ex => (zG G1x hr rfl A1x.gl A1x.fn.kp A1x.bd (zA (pv3 0) zB)))) zB)))
    (zH (zL (wG (zW zE (zW (yS (zK (pv3 0) zD (fun _ _ => rfl))) (zW zE (zW (yS (pv3 1)) (zW zE pj3_nil))))))))) zO)
    refine zC ?_ ?_
    · exact (zQ (zN (zU hr) (zK (pv3 0) zD (fun _ _ => rfl)) zE (nomark _)) (zH (zL (zK (pv3 0) zD (fun _ _ => rfl)))) zO)
    exact zH (zL (zG G0x (hr.mono (by omega)) rfl A0x.gl A0x.fn.kp A0x.bd (zA (pv3 0) zB)))
set_option maxHeartbeats 4000000 in
theorem ok1x {f : Addr} {fd : FuncData} (B : Blt mg) (C : Cst K w.params mg) {f0x : Addr} {fd0x : FuncData} (A0x : FnAt K mg "worth_text" s0x ["worth"] f0x fd0x) (G0x : FnOk P w K mg base CX0 1 f0x fd0x ["worth"] (dnSp K P2.spWT)) {kr lv : Nat} {f1x : Addr} {fd1x : FuncData} (A1x : FnAt K mg "expression_text" s1x ["expression"] f1x fd1x) (G1x : FnOk P w K mg base CX0 kr f1x fd1x ["expression"] (dnSp K (P2.spET lv))) (hkr : 2 ≤ kr) (F : FnAt K mg "expression_text" s1x ["expression"] f fd) : FnOk P w K mg base CX0 (kr + 1) f fd ["expression"] (dnSp K (P2.spET (lv + 1))) :=
  L3.Fun.ok3 F.fn sc1x (P2.len_expression_text (lv + 1)) fun cdv A outer s H E hr => ⟨P2.t_expression_text (P2.spET lv), dv1x B C A0x G0x A1x G1x hkr hr, P2.rd_expression_text lv⟩
theorem grp1x (B : Blt mg) (C : Cst K w.params mg) {f0x : Addr} {fd0x : FuncData} (A0x : FnAt K mg "worth_text" s0x ["worth"] f0x fd0x) (G0x : FnOk P w K mg base CX0 1 f0x fd0x ["worth"] (dnSp K P2.spWT)) {f1x : Addr} {fd1x : FuncData} (A1x : FnAt K mg "expression_text" s1x ["expression"] f1x fd1x) : ∀ lv : Nat, FnOk P w K mg base CX0 (2 + lv) f1x fd1x ["expression"] (dnSp K (P2.spET lv))
  | 0 => fnOk_zero P2.len_expression_text P2.zero_expression_text
  | lv + 1 => by
    obtain G1x := grp1x B C A0x G0x A1x lv
    exact ok1x B C A0x G0x A1x G1x (Nat.le_add_right _ _) A1x
abbrev s2x : Stmt := top 6
theorem sc2x : FnScope P3.N_part_text ["kind", "part"] (defScope s2x) := ⟨rfl, rfl, rfl, by decide +kernel, rfl, by decide +kernel, by decide +kernel⟩
set_option maxHeartbeats 4000000 in
theorem dv2x {f : Addr} {cdv : Value} {A : Around} {outer : List Env} {s : Shared} {H : Hp} {E : XK} (B : Blt mg) (C : Cst K w.params mg) {f1x : Addr} {fd1x : FuncData} (A1x : FnAt K mg "expression_text" s1x ["expression"] f1x fd1x) (G1x : FnOk P w K mg base CX0 7 f1x fd1x ["expression"] (dnSp K (P2.spET 5)))
    (hr : Room 7 (A.deeper (envOfC "part_text" (defScope s2x) s.heap.objs.size f cdv))) :
    PSs3 (cxOf CX0 P w K mg base P3.N_part_text "part_text" (defScope s2x) f cdv A outer s H E).nox (defBody s2x) P3.t_part_text := by
    unfold P3.t_part_text
    refine zC ?_ ?_
    · exact (zQ (zN (zU hr) (pv3 0) zE (nomark _)) (zH (zL (zG G1x (hr.mono (by decide)) rfl A1x.gl A1x.fn.kp A1x.bd (zA (pv3 1) zB)))) zO)
    refine zC ?_ ?_
    · exact (zQ (zN (zU hr) (pv3 0) zE (nomark _)) (zH (zL (zV F.plainAttrs_str F.slot_str_join F.type_str_join m3_joinT zE (zA (pv3 1) zB)))) zO)
    exact zH (zL (pv3 1))
set_option maxHeartbeats 4000000 in
theorem ok2x {f : Addr} {fd : FuncData} (B : Blt mg) (C : Cst K w.params mg) {f1x : Addr} {fd1x : FuncData} (A1x : FnAt K mg "expression_text" s1x ["expression"] f1x fd1x) (G1x : FnOk P w K mg base CX0 7 f1x fd1x ["expression"] (dnSp K (P2.spET 5))) (F : FnAt K mg "part_text" s2x ["kind", "part"] f fd) : FnOk P w K mg base CX0 8 f fd ["kind", "part"] (dnSp K P3.spPart) :=
  L3.Fun.ok3 F.fn sc2x P3.len_part_text fun cdv A outer s H E hr => ⟨P3.t_part_text, @dv2x P w K mg base f cdv A outer s H E B C f1x fd1x A1x G1x hr, P3.rd_part_text⟩
abbrev s3x : Stmt := top 7
theorem sc3x : FnScope P3.N_line_text ["blanks", "word", "parts"] (defScope s3x) := ⟨rfl, rfl, rfl, by decide +kernel, rfl, by decide +kernel, by decide +kernel⟩
set_option maxHeartbeats 4000000 in
theorem dv3x {f : Addr} {cdv : Value} {A : Around} {outer : List Env} {s : Shared} {H : Hp} {E : XK} (B : Blt mg) (C : Cst K w.params mg) {f2x : Addr} {fd2x : FuncData} (A2x : FnAt K mg "part_text" s2x ["kind", "part"] f2x fd2x) (G2x : FnOk P w K mg base CX0 8 f2x fd2x ["kind", "part"] (dnSp K P3.spPart))
    (hr : Room 8 (A.deeper (envOfC "line_text" (defScope s3x) s.heap.objs.size f cdv))) :
    PSs3 (cxOf CX0 P w K mg base P3.N_line_text "line_text" (defScope s3x) f cdv A outer s H E).nox (defBody s3x) P3.t_line_text := by
    unfold P3.t_line_text
    refine zC ?_ ?_
    · exact (zI (i := 3) sc3x.nd rfl (Or.inl rfl) (yA zB))
    refine zC ?_ ?_
    · exact (zI (i := 4) sc3x.nd rfl (Or.inl rfl) zD)
    refine zC ?_ ?_
    · exact (yQ PassesOwn.never rfl (wJ (pe3_gd rfl C.LINES_ (pv3 1) (fun _ _ => rfl))) sc3x.nd rfl (Or.inl rfl) (zH (zQ (zN o3_in (pv3 5) (pe3_globT rfl C.KINDS_) rfl) (zC (zX (zV F.plainAttrs_list F.slot_list_append F.type_list_append yC (pv3 3) (zA (zG G2x (hr.mono (by decide)) rfl A2x.gl A2x.fn.kp A2x.bd (zA (pv3 5) (zA (zK (pv3 2) (pv3 4) (fun _ _ => rfl)) zB))) zB)))
    (zH (ps3_aug (i := 4) sc3x.nd rfl (Or.inl rfl) zD))) (zH (zX (zV F.plainAttrs_list F.slot_list_append F.type_list_append yC (pv3 3) (zA (pv3 5) zB)))))))
    refine wA 3 ?_
    exact zH (zL (zF zJ (zF o3_mulS zE (pv3 0)) (zV F.plainAttrs_str F.slot_str_join F.type_str_join yP zE (zA (pv3 3) zB))))
set_option maxHeartbeats 4000000 in
theorem ok3x {f : Addr} {fd : FuncData} (B : Blt mg) (C : Cst K w.params mg) {f2x : Addr} {fd2x : FuncData} (A2x : FnAt K mg "part_text" s2x ["kind", "part"] f2x fd2x) (G2x : FnOk P w K mg base CX0 8 f2x fd2x ["kind", "part"] (dnSp K P3.spPart)) (F : FnAt K mg "line_text" s3x ["blanks", "word", "parts"] f fd) : FnOk P w K mg base CX0 9 f fd ["blanks", "word", "parts"] (dnSp K P3.spLine) :=
  L3.Fun.ok3 F.fn sc3x P3.len_line_text fun cdv A outer s H E hr => ⟨P3.t_line_text, @dv3x P w K mg base f cdv A outer s H E B C f2x fd2x A2x G2x hr, P3.rd_line_text⟩
abbrev s4x : Stmt := top 8
abbrev s5x : Stmt := top 9
abbrev s6x : Stmt := top 10
abbrev s7x : Stmt := top 11
theorem sc4x : FnScope P3.N_headed_lines ["blanks", "word", "parts", "block"] (defScope s4x) := ⟨rfl, rfl, rfl, by decide +kernel, rfl, by decide +kernel, by decide +kernel⟩
set_option maxHeartbeats 4000000 in
theorem dv4x {f : Addr} {cdv : Value} {A : Around} {outer : List Env} {s : Shared} {H : Hp} {E : XK} (B : Blt mg) (C : Cst K w.params mg) {f3x : Addr} {fd3x : FuncData} (A3x : FnAt K mg "line_text" s3x ["blanks", "word", "parts"] f3x fd3x) (G3x : FnOk P w K mg base CX0 9 f3x fd3x ["blanks", "word", "parts"] (dnSp K P3.spLine)) {kr : Nat} {q4x q5x q6x q7x : Sp3} {f4x : Addr} {fd4x : FuncData} (A4x : FnAt K mg "headed_lines" s4x ["blanks", "word", "parts", "block"] f4x fd4x) (G4x : FnOk P w K mg base CX0 kr f4x fd4x ["blanks", "word", "parts", "block"] (dnSp K q4x)) {f5x : Addr} {fd5x : FuncData} (A5x : FnAt K mg "rest_lines" s5x ["blanks", "word", "block"] f5x fd5x) (G5x : FnOk P w K mg base CX0 kr f5x fd5x ["blanks", "word", "block"] (dnSp K q5x)) {f6x : Addr} {fd6x : FuncData} (A6x : FnAt K mg "try_lines" s6x ["blanks", "deed"] f6x fd6x) (G6x : FnOk P w K mg base CX0 kr f6x fd6x ["blanks", "deed"] (dnSp K q6x)) {f7x : Addr} {fd7x : FuncData} (A7x : FnAt K mg "deed_lines" s7x ["blanks", "deed"] f7x fd7x) (G7x : FnOk P w K mg base CX0 kr f7x fd7x ["blanks", "deed"] (dnSp K q7x)) (hkr : 10 ≤ kr)
    (hr : Room kr (A.deeper (envOfC "headed_lines" (defScope s4x) s.heap.objs.size f cdv))) :
    PSs3 (cxOf CX0 P w K mg base P3.N_headed_lines "headed_lines" (defScope s4x) f cdv A outer s H E).nox (defBody s4x) (P3.t_headed_lines q4x q5x q6x q7x) := by
    unfold P3.t_headed_lines
    refine zC ?_ ?_
    · exact (zI (i := 4) sc4x.nd rfl (Or.inl rfl) (yA (zA (zG G3x (hr.mono (by omega)) rfl A3x.gl A3x.fn.kp A3x.bd (zA (pv3 0) (zA (pv3 1) (zA (pv3 2) zB)))) zB)))
    refine zC ?_ ?_
    · exact (yQ PassesOwn.never rfl (wJ (pv3 3)) sc4x.nd rfl (Or.inl rfl) (zH (zX (zV F.plainAttrs_list F.slot_list_extend F.type_list_extend yR (pv3 4) (zA (zG G7x hr rfl A7x.gl A7x.fn.kp A7x.bd (zA (zF zJ (pv3 0) zD) (zA (pv3 5) zB))) zB)))))
    exact zH (zL (pv3 4))
set_option maxHeartbeats 4000000 in
theorem ok4x {f : Addr} {fd : FuncData} (B : Blt mg) (C : Cst K w.params mg) {f3x : Addr} {fd3x : FuncData} (A3x : FnAt K mg "line_text" s3x ["blanks", "word", "parts"] f3x fd3x) (G3x : FnOk P w K mg base CX0 9 f3x fd3x ["blanks", "word", "parts"] (dnSp K P3.spLine)) {kr lv : Nat} {f4x : Addr} {fd4x : FuncData} (A4x : FnAt K mg "headed_lines" s4x ["blanks", "word", "parts", "block"] f4x fd4x) (G4x : FnOk P w K mg base CX0 kr f4x fd4x ["blanks", "word", "parts", "block"] (dnSp K (P3.spHeaded lv))) {f5x : Addr} {fd5x : FuncData} (A5x : FnAt K mg "rest_lines" s5x ["blanks", "word", "block"] f5x fd5x) (G5x : FnOk P w K mg base CX0 kr f5x fd5x ["blanks", "word", "block"] (dnSp K (P3.spRest lv))) {f6x : Addr} {fd6x : FuncData} (A6x : FnAt K mg "try_lines" s6x ["blanks", "deed"] f6x fd6x) (G6x : FnOk P w K mg base CX0 kr f6x fd6x ["blanks", "deed"] (dnSp K (P3.spTryL lv))) {f7x : Addr} {fd7x : FuncData} (A7x : FnAt K mg "deed_lines" s7x ["blanks", "deed"] f7x fd7x) (G7x : FnOk P w K mg base CX0 kr f7x fd7x ["blanks", "deed"] (dnSp K (P3.spDeedL lv))) (hkr : 10 ≤ kr) (F : FnAt K mg "headed_lines" s4x ["blanks", "word", "parts", "block"] f fd) : FnOk P w K mg base CX0 (kr + 1) f fd ["blanks", "word", "parts", "block"] (dnSp K (P3.spHeaded (lv + 1))) :=
  L3.Fun.ok3 F.fn sc4x (P3.len_headed_lines (lv + 1)) fun cdv A outer s H E hr => ⟨P3.t_headed_lines (P3.spHeaded lv) (P3.spRest lv) (P3.spTryL lv) (P3.spDeedL lv), dv4x B C A3x G3x A4x G4x A5x G5x A6x G6x A7x G7x hkr hr, P3.rd_headed_lines lv⟩
theorem sc5x : FnScope P3.N_rest_lines ["blanks", "word", "block"] (defScope s5x) := ⟨rfl, rfl, rfl, by decide +kernel, rfl, by decide +kernel, by decide +kernel⟩
set_option maxHeartbeats 4000000 in
theorem dv5x {f : Addr} {cdv : Value} {A : Around} {outer : List Env} {s : Shared} {H : Hp} {E : XK} (B : Blt mg) (C : Cst K w.params mg) {kr : Nat} {q4x q5x q6x q7x : Sp3} {f4x : Addr} {fd4x : FuncData} (A4x : FnAt K mg "headed_lines" s4x ["blanks", "word", "parts", "block"] f4x fd4x) (G4x : FnOk P w K mg base CX0 kr f4x fd4x ["blanks", "word", "parts", "block"] (dnSp K q4x)) {f5x : Addr} {fd5x : FuncData} (A5x : FnAt K mg "rest_lines" s5x ["blanks", "word", "block"] f5x fd5x) (G5x : FnOk P w K mg base CX0 kr f5x fd5x ["blanks", "word", "block"] (dnSp K q5x)) {f6x : Addr} {fd6x : FuncData} (A6x : FnAt K mg "try_lines" s6x ["blanks", "deed"] f6x fd6x) (G6x : FnOk P w K mg base CX0 kr f6x fd6x ["blanks", "deed"] (dnSp K q6x)) {f7x : Addr} {fd7x : FuncData} (A7x : FnAt K mg "deed_lines" s7x ["blanks", "deed"] f7x fd7x) (G7x : FnOk P w K mg base CX0 kr f7x fd7x ["blanks", "deed"] (dnSp K q7x)) (hkr : 10 ≤ kr)
    (hr : Room kr (A.deeper (envOfC "rest_lines" (defScope s5x) s.heap.objs.size f cdv))) :
    PSs3 (cxOf CX0 P w K mg base P3.N_rest_lines "rest_lines" (defScope s5x) f cdv A outer s H E).nox (defBody s5x) (P3.t_rest_lines q4x q5x q6x q7x) := by
    unfold P3.t_rest_lines
    refine zC ?_ ?_
    · exact (zQ (zN (zU hr) (zS yO rfl B.len_ b3_len (zA (pv3 2) zB)) zD (nomark _)) (zH (zL (yA zB))) zO)
    exact zH (zL (zG G4x hr rfl A4x.gl A4x.fn.kp A4x.bd (zA (pv3 0) (zA (pv3 1) (zA (zM zB) (zA (pv3 2) zB))))))
set_option maxHeartbeats 4000000 in
theorem ok5x {f : Addr} {fd : FuncData} (B : Blt mg) (C : Cst K w.params mg) {kr lv : Nat} {f4x : Addr} {fd4x : FuncData} (A4x : FnAt K mg "headed_lines" s4x ["blanks", "word", "parts", "block"] f4x fd4x) (G4x : FnOk P w K mg base CX0 kr f4x fd4x ["blanks", "word", "parts", "block"] (dnSp K (P3.spHeaded lv))) {f5x : Addr} {fd5x : FuncData} (A5x : FnAt K mg "rest_lines" s5x ["blanks", "word", "block"] f5x fd5x) (G5x : FnOk P w K mg base CX0 kr f5x fd5x ["blanks", "word", "block"] (dnSp K (P3.spRest lv))) {f6x : Addr} {fd6x : FuncData} (A6x : FnAt K mg "try_lines" s6x ["blanks", "deed"] f6x fd6x) (G6x : FnOk P w K mg base CX0 kr f6x fd6x ["blanks", "deed"] (dnSp K (P3.spTryL lv))) {f7x : Addr} {fd7x : FuncData} (A7x : FnAt K mg "deed_lines" s7x ["blanks", "deed"] f7x fd7x) (G7x : FnOk P w K mg base CX0 kr f7x fd7x ["blanks", "deed"] (dnSp K (P3.spDeedL lv))) (hkr : 10 ≤ kr) (F : FnAt K mg "rest_lines" s5x ["blanks", "word", "block"] f fd) : FnOk P w K mg base CX0 (kr + 1) f fd ["blanks", "word", "block"] (dnSp K (P3.spRest (lv + 1))) :=
  L3.Fun.ok3 F.fn sc5x (P3.len_rest_lines (lv + 1)) fun cdv A outer s H E hr => ⟨P3.t_rest_lines (P3.spHeaded lv) (P3.spRest lv) (P3.spTryL lv) (P3.spDeedL lv), dv5x B C A4x G4x A5x G5x A6x G6x A7x G7x hkr hr, P3.rd_rest_lines lv⟩
theorem sc6x : FnScope P3.N_try_lines ["blanks", "deed"] (defScope s6x) := ⟨rfl, rfl, rfl, by decide +kernel, rfl, by decide +kernel, by decide +kernel⟩
set_option maxHeartbeats 4000000 in
theorem dv6x {f : Addr} {cdv : Value} {A : Around} {outer : List Env} {s : Shared} {H : Hp} {E : XK} (B : Blt mg) (C : Cst K w.params mg) {kr : Nat} {q4x q5x q6x q7x : Sp3} {f4x : Addr} {fd4x : FuncData} (A4x : FnAt K mg "headed_lines" s4x ["blanks", "word", "parts", "block"] f4x fd4x) (G4x : FnOk P w K mg base CX0 kr f4x fd4x ["blanks", "word", "parts", "block"] (dnSp K q4x)) {f5x : Addr} {fd5x : FuncData} (A5x : FnAt K mg "rest_lines" s5x ["blanks", "word", "block"] f5x fd5x) (G5x : FnOk P w K mg base CX0 kr f5x fd5x ["blanks", "word", "block"] (dnSp K q5x)) {f6x : Addr} {fd6x : FuncData} (A6x : FnAt K mg "try_lines" s6x ["blanks", "deed"] f6x fd6x) (G6x : FnOk P w K mg base CX0 kr f6x fd6x ["blanks", "deed"] (dnSp K q6x)) {f7x : Addr} {fd7x : FuncData} (A7x : FnAt K mg "deed_lines" s7x ["blanks", "deed"] f7x fd7x) (G7x : FnOk P w K mg base CX0 kr f7x fd7x ["blanks", "deed"] (dnSp K q7x)) (hkr : 10 ≤ kr)
    (hr : Room kr (A.deeper (envOfC "try_lines" (defScope s6x) s.heap.objs.size f cdv))) :
    PSs3 (cxOf CX0 P w K mg base P3.N_try_lines "try_lines" (defScope s6x) f cdv A outer s H E).nox (defBody s6x) (P3.t_try_lines q4x q5x q6x q7x) := by
    unfold P3.t_try_lines
    refine zC ?_ ?_
    · exact (zI (i := 2) sc6x.nd rfl (Or.inl rfl) (zG G4x hr rfl A4x.gl A4x.fn.kp A4x.bd (zA (pv3 0) (zA zE (zA (zM zB) (zA (zK (pv3 1) zD (fun _ _ => rfl)) zB))))))
    refine zC ?_ ?_
    · exact (ps3_forG PassesOwn.never rfl (wJ (zK (pv3 1) zD (fun _ _ => rfl))) (yD rfl (zP (i := 3) sc6x.nd rfl (Or.inl rfl) (zP (i := 4) sc6x.nd rfl (Or.inl rfl) (zP (i := 5) sc6x.nd rfl (Or.inl rfl) zY (Or.inl rfl)) (Or.inl rfl)) (Or.inl rfl))) (zH (zX (zV F.plainAttrs_list F.slot_list_extend F.type_list_extend yR (pv3 2) (zA (zG G4x hr rfl A4x.gl A4x.fn.kp A4x.bd (zA (pv3 0) (zA zE (zA (zM (zA (pv3 3) (zA (pv3 4) zB))) (zA (pv3 5) zB))))) zB)))))
    exact zH (zL (zF yF (pv3 2) (zG G5x hr rfl A5x.gl A5x.fn.kp A5x.bd (zA (pv3 0) (zA zE (zA (zK (pv3 1) zD (fun _ _ => rfl)) zB))))))
set_option maxHeartbeats 4000000 in
theorem ok6x {f : Addr} {fd : FuncData} (B : Blt mg) (C : Cst K w.params mg) {kr lv : Nat} {f4x : Addr} {fd4x : FuncData} (A4x : FnAt K mg "headed_lines" s4x ["blanks", "word", "parts", "block"] f4x fd4x) (G4x : FnOk P w K mg base CX0 kr f4x fd4x ["blanks", "word", "parts", "block"] (dnSp K (P3.spHeaded lv))) {f5x : Addr} {fd5x : FuncData} (A5x : FnAt K mg "rest_lines" s5x ["blanks", "word", "block"] f5x fd5x) (G5x : FnOk P w K mg base CX0 kr f5x fd5x ["blanks", "word", "block"] (dnSp K (P3.spRest lv))) {f6x : Addr} {fd6x : FuncData} (A6x : FnAt K mg "try_lines" s6x ["blanks", "deed"] f6x fd6x) (G6x : FnOk P w K mg base CX0 kr f6x fd6x ["blanks", "deed"] (dnSp K (P3.spTryL lv))) {f7x : Addr} {fd7x : FuncData} (A7x : FnAt K mg "deed_lines" s7x ["blanks", "deed"] f7x fd7x) (G7x : FnOk P w K mg base CX0 kr f7x fd7x ["blanks", "deed"] (dnSp K (P3.spDeedL lv))) (hkr : 10 ≤ kr) (F : FnAt K mg "try_lines" s6x ["blanks", "deed"] f fd) : FnOk P w K mg base CX0 (kr + 1) f fd ["blanks", "deed"] (dnSp K (P3.spTryL (lv + 1))) :=
  L3.Fun.ok3 F.fn sc6x (P3.len_try_lines (lv + 1)) fun cdv A outer s H E hr => ⟨P3.t_try_lines (P3.spHeaded lv) (P3.spRest lv) (P3.spTryL lv) (P3.spDeedL lv), dv6x B C A4x G4x A5x G5x A6x G6x A7x G7x hkr hr, P3.rd_try_lines lv⟩
theorem sc7x : FnScope P3.N_deed_lines ["blanks", "deed"] (defScope s7x) := ⟨rfl, rfl, rfl, by decide +kernel, rfl, by decide +kernel, by decide +kernel⟩
set_option maxHeartbeats 4000000 in
theorem dv7x {f : Addr} {cdv : Value} {A : Around} {outer : List Env} {s : Shared} {H : Hp} {E : XK} (B : Blt mg) (C : Cst K w.params mg) {f3x : Addr} {fd3x : FuncData} (A3x : FnAt K mg "line_text" s3x ["blanks", "word", "parts"] f3x fd3x) (G3x : FnOk P w K mg base CX0 9 f3x fd3x ["blanks", "word", "parts"] (dnSp K P3.spLine)) {kr : Nat} {q4x q5x q6x q7x : Sp3} {f4x : Addr} {fd4x : FuncData} (A4x : FnAt K mg "headed_lines" s4x ["blanks", "word", "parts", "block"] f4x fd4x) (G4x : FnOk P w K mg base CX0 kr f4x fd4x ["blanks", "word", "parts", "block"] (dnSp K q4x)) {f5x : Addr} {fd5x : FuncData} (A5x : FnAt K mg "rest_lines" s5x ["blanks", "word", "block"] f5x fd5x) (G5x : FnOk P w K mg base CX0 kr f5x fd5x ["blanks", "word", "block"] (dnSp K q5x)) {f6x : Addr} {fd6x : FuncData} (A6x : FnAt K mg "try_lines" s6x ["blanks", "deed"] f6x fd6x) (G6x : FnOk P w K mg base CX0 kr f6x fd6x ["blanks", "deed"] (dnSp K q6x)) {f7x : Addr} {fd7x : FuncData} (A7x : FnAt K mg "deed_lines" s7x ["blanks", "deed"] f7x fd7x) (G7x : FnOk P w K mg base CX0 kr f7x fd7x ["blanks", "deed"] (dnSp K q7x)) (hkr : 10 ≤ kr)
    (hr : Room kr (A.deeper (envOfC "deed_lines" (defScope s7x) s.heap.objs.size f cdv))) :
    PSs3 (cxOf CX0 P w K mg base P3.N_deed_lines "deed_lines" (defScope s7x) f cdv A outer s H E).nox (defBody s7x) (P3.t_deed_lines q4x q5x q6x q7x) := by
    unfold P3.t_deed_lines
    refine zC ?_ ?_
    · exact (zQ (zN (zU hr) (zK (pv3 1) zD (fun _ _ => rfl)) zE (nomark _)) (zH (zL (zF yF (zG G4x hr rfl A4x.gl A4x.fn.kp A4x.bd (zA (pv3 0) (zA zE (zA (zM (zA (zK (pv3 1) zD (fun _ _ => rfl)) zB)) (zA (zK (pv3 1) zD (fun _ _ => rfl)) zB))))) (zG G5x hr rfl A5x.gl A5x.fn.kp A5x.bd (zA (pv3 0) (zA zE (zA (zK (pv3 1) zD (fun _ _ => rfl)) zB))))))) zO)
    refine zC ?_ ?_
    · exact (zQ (zN (zU hr) (zK (pv3 1) zD (fun _ _ => rfl)) zE (nomark _)) (zH (zL (zG G4x hr rfl A4x.gl A4x.fn.kp A4x.bd (zA (pv3 0) (zA zE (zA (zM (zA (zK (pv3 1) zD (fun _ _ => rfl)) zB)) (zA (zK (pv3 1) zD (fun _ _ => rfl)) zB))))))) zO)
    refine zC ?_ ?_
    · exact (zQ (zN (zU hr) (zK (pv3 1) zD (fun _ _ => rfl)) zE (nomark _)) (zH (zL (zG G6x hr rfl A6x.gl A6x.fn.kp A6x.bd (zA (pv3 0) (zA (pv3 1) zB))))) zO)
    exact zH (zL (yA (zA (zG G3x (hr.mono (by omega)) rfl A3x.gl A3x.fn.kp A3x.bd (zA (pv3 0) (zA (zK (pv3 1) zD (fun _ _ => rfl)) (zA (wF (pv3 1) (yT zD) wH) zB)))) zB)))
set_option maxHeartbeats 4000000 in
theorem ok7x {f : Addr} {fd : FuncData} (B : Blt mg) (C : Cst K w.params mg) {f3x : Addr} {fd3x : FuncData} (A3x : FnAt K mg "line_text" s3x ["blanks", "word", "parts"] f3x fd3x) (G3x : FnOk P w K mg base CX0 9 f3x fd3x ["blanks", "word", "parts"] (dnSp K P3.spLine)) {kr lv : Nat} {f4x : Addr} {fd4x : FuncData} (A4x : FnAt K mg "headed_lines" s4x ["blanks", "word", "parts", "block"] f4x fd4x) (G4x : FnOk P w K mg base CX0 kr f4x fd4x ["blanks", "word", "parts", "block"] (dnSp K (P3.spHeaded lv))) {f5x : Addr} {fd5x : FuncData} (A5x : FnAt K mg "rest_lines" s5x ["blanks", "word", "block"] f5x fd5x) (G5x : FnOk P w K mg base CX0 kr f5x fd5x ["blanks", "word", "block"] (dnSp K (P3.spRest lv))) {f6x : Addr} {fd6x : FuncData} (A6x : FnAt K mg "try_lines" s6x ["blanks", "deed"] f6x fd6x) (G6x : FnOk P w K mg base CX0 kr f6x fd6x ["blanks", "deed"] (dnSp K (P3.spTryL lv))) {f7x : Addr} {fd7x : FuncData} (A7x : FnAt K mg "deed_lines" s7x ["blanks", "deed"] f7x fd7x) (G7x : FnOk P w K mg base CX0 kr f7x fd7x ["blanks", "deed"] (dnSp K (P3.spDeedL lv))) (hkr : 10 ≤ kr) (F : FnAt K mg "deed_lines" s7x ["blanks", "deed"] f fd) : FnOk P w K mg base CX0 (kr + 1) f fd ["blanks", "deed"] (dnSp K (P3.spDeedL (lv + 1))) :=
  L3.Fun.ok3 F.fn sc7x (P3.len_deed_lines (lv + 1)) fun cdv A outer s H E hr => ⟨P3.t_deed_lines (P3.spHeaded lv) (P3.spRest lv) (P3.spTryL lv) (P3.spDeedL lv), dv7x B C A3x G3x A4x G4x A5x G5x A6x G6x A7x G7x hkr hr, P3.rd_deed_lines lv⟩
theorem grp7x (B : Blt mg) (C : Cst K w.params mg) {f3x : Addr} {fd3x : FuncData} (A3x : FnAt K mg "line_text" s3x ["blanks", "word", "parts"] f3x fd3x) (G3x : FnOk P w K mg base CX0 9 f3x fd3x ["blanks", "word", "parts"] (dnSp K P3.spLine)) {f4x : Addr} {fd4x : FuncData} (A4x : FnAt K mg "headed_lines" s4x ["blanks", "word", "parts", "block"] f4x fd4x) {f5x : Addr} {fd5x : FuncData} (A5x : FnAt K mg "rest_lines" s5x ["blanks", "word", "block"] f5x fd5x) {f6x : Addr} {fd6x : FuncData} (A6x : FnAt K mg "try_lines" s6x ["blanks", "deed"] f6x fd6x) {f7x : Addr} {fd7x : FuncData} (A7x : FnAt K mg "deed_lines" s7x ["blanks", "deed"] f7x fd7x) : ∀ lv : Nat, FnOk P w K mg base CX0 (10 + lv) f4x fd4x ["blanks", "word", "parts", "block"] (dnSp K (P3.spHeaded lv)) ∧ FnOk P w K mg base CX0 (10 + lv) f5x fd5x ["blanks", "word", "block"] (dnSp K (P3.spRest lv)) ∧ FnOk P w K mg base CX0 (10 + lv) f6x fd6x ["blanks", "deed"] (dnSp K (P3.spTryL lv)) ∧ FnOk P w K mg base CX0 (10 + lv) f7x fd7x ["blanks", "deed"] (dnSp K (P3.spDeedL lv))
  | 0 => ⟨fnOk_zero P3.len_headed_lines P3.zero_headed_lines, fnOk_zero P3.len_rest_lines P3.zero_rest_lines, fnOk_zero P3.len_try_lines P3.zero_try_lines, fnOk_zero P3.len_deed_lines P3.zero_deed_lines⟩
  | lv + 1 => by
    obtain ⟨G4x, G5x, G6x, G7x⟩ := grp7x B C A3x G3x A4x A5x A6x A7x lv
    exact ⟨ok4x B C A3x G3x A4x G4x A5x G5x A6x G6x A7x G7x (Nat.le_add_right _ _) A4x, ok5x B C A4x G4x A5x G5x A6x G6x A7x G7x (Nat.le_add_right _ _) A5x, ok6x B C A4x G4x A5x G5x A6x G6x A7x G7x (Nat.le_add_right _ _) A6x, ok7x B C A3x G3x A4x G4x A5x G5x A6x G6x A7x G7x (Nat.le_add_right _ _) A7x⟩
abbrev s8x : Stmt := top 12
theorem sc8x : FnScope P3.N_book_text ["book"] (defScope s8x) := ⟨rfl, rfl, rfl, by decide +kernel, rfl, by decide +kernel, by decide +kernel⟩
set_option maxHeartbeats 4000000 in
theorem dv8x {f : Addr} {cdv : Value} {A : Around} {outer : List Env} {s : Shared} {H : Hp} {E : XK} (B : Blt mg) (C : Cst K w.params mg) {f4x : Addr} {fd4x : FuncData} (A4x : FnAt K mg "headed_lines" s4x ["blanks", "word", "parts", "block"] f4x fd4x) (G4x : FnOk P w K mg base CX0 50 f4x fd4x ["blanks", "word", "parts", "block"] (dnSp K (P3.spHeaded 40)))
    (hr : Room 50 (A.deeper (envOfC "book_text" (defScope s8x) s.heap.objs.size f cdv))) :
    PSs3 (cxOf CX0 P w K mg base P3.N_book_text "book_text" (defScope s8x) f cdv A outer s H E).nox (defBody s8x) P3.t_book_text := by
    unfold P3.t_book_text
    refine zC ?_ ?_
    · exact (zI (i := 1) sc8x.nd rfl (Or.inl rfl) (yA zB))
    refine zC ?_ ?_
    · exact (ps3_forG PassesOwn.never rfl (wJ (pv3 0)) (yD rfl (zP (i := 2) sc8x.nd rfl (Or.inl rfl) (zP (i := 3) sc8x.nd rfl (Or.inl rfl) (zP (i := 4) sc8x.nd rfl (Or.inl rfl) zY (Or.inl rfl)) (Or.inl rfl)) (Or.inl rfl))) (zH (zX (zV F.plainAttrs_list F.slot_list_extend F.type_list_extend yR (pv3 1) (zA (zG G4x (hr.mono (by decide)) rfl A4x.gl A4x.fn.kp A4x.bd (zA zD (zA zE (zA (zM (zA (pv3 2) (zA (pv3 3) zB))) (zA (pv3 4) zB))))) zB)))))
    refine wA 1 ?_
    exact zH (zL (zV F.plainAttrs_str F.slot_str_join F.type_str_join yP zE (zA (pv3 1) zB)))
set_option maxHeartbeats 4000000 in
theorem ok8x {f : Addr} {fd : FuncData} (B : Blt mg) (C : Cst K w.params mg) {f4x : Addr} {fd4x : FuncData} (A4x : FnAt K mg "headed_lines" s4x ["blanks", "word", "parts", "block"] f4x fd4x) (G4x : FnOk P w K mg base CX0 50 f4x fd4x ["blanks", "word", "parts", "block"] (dnSp K (P3.spHeaded 40))) (F : FnAt K mg "book_text" s8x ["book"] f fd) : FnOk P w K mg base CX0 51 f fd ["book"] (dnSp K P3.spBookT) :=
  L3.Fun.ok3 F.fn sc8x P3.len_book_text fun cdv A outer s H E hr => ⟨P3.t_book_text, @dv8x P w K mg base f cdv A outer s H E B C f4x fd4x A4x G4x hr, P3.rd_book_text⟩
abbrev s9x : Stmt := top 14
theorem sc9x : FnScope P2.N__law_pen ["_law_script"] (defScope s9x) := ⟨rfl, rfl, rfl, by decide +kernel, rfl, by decide +kernel, by decide +kernel⟩
set_option maxHeartbeats 4000000 in
theorem dv9x {f : Addr} {cdv : Value} {A : Around} {outer : List Env} {s : Shared} {H : Hp} {E : XK} (B : Blt mg) (C : Cst K w.params mg)
    (hr : Room 0 (A.deeper (envOfC "_law_pen" (defScope s9x) s.heap.objs.size f cdv))) :
    PSs3 (cxOf CX0 P w K mg base P2.N__law_pen "_law_pen" (defScope s9x) f cdv A outer s H E).nox (defBody s9x) P2.t__law_pen := by
    unfold P2.t__law_pen
    exact zH (zL (pe3_dispM (yI zE (pv3 0) (yI zE zD (yI zE zD pps3_nil))) rfl rfl (by simp) (by decide)))
set_option maxHeartbeats 4000000 in
theorem ok9x {f : Addr} {fd : FuncData} (B : Blt mg) (C : Cst K w.params mg) (F : FnAt K mg "_law_pen" s9x ["_law_script"] f fd) : FnOk P w K mg base CX0 1 f fd ["_law_script"] (dnSp K P2.spPen) :=
  L3.Fun.ok3 F.fn sc9x P2.len__law_pen fun cdv A outer s H E hr => ⟨P2.t__law_pen, @dv9x P w K mg base f cdv A outer s H E B C hr, P2.rd__law_pen⟩
abbrev s10x : Stmt := top 15
theorem sc10x : FnScope P2.N__law_draw ["_law_pen_here", "_law_many"] (defScope s10x) := ⟨rfl, rfl, rfl, by decide +kernel, rfl, by decide +kernel, by decide +kernel⟩
set_option maxHeartbeats 4000000 in
theorem dv10x {f : Addr} {cdv : Value} {A : Around} {outer : List Env} {s : Shared} {H : Hp} {E : XK} (B : Blt mg) (C : Cst K w.params mg)
    (hr : Room 0 (A.deeper (envOfC "_law_draw" (defScope s10x) s.heap.objs.size f cdv))) :
    PSs3 (cxOf CX0 P w K mg base P2.N__law_draw "_law_draw" (defScope s10x) f cdv A outer s H E).nox (defBody s10x) P2.t__law_draw := by
    unfold P2.t__law_draw
    refine zC ?_ ?_
    · exact (zQ (zN wD (zR (hu3 hr) (pv3 0) zE (fun _ _ => rfl)) zD (nomark _)) (zC (zI (i := 2) sc10x.nd rfl (Or.inl rfl) (zF yM (zR (hu3 hr) (pv3 0) zE (fun _ _ => rfl)) (pv3 1)))
    (zC (yU (hu3 hr) (pv3 0) zE (zF yW (zR (hu3 hr) (pv3 0) zE (fun _ _ => rfl)) (pv3 1)) rfl)
    (zH (zL (pv3 2))))) zO)
    refine zC ?_ ?_
    · exact (zI (i := 3) sc10x.nd rfl (Or.inl rfl) (zR (hu3 hr) (pv3 0) zE (fun _ _ => rfl)))
    refine zC ?_ ?_
    · exact (zI (i := 4) sc10x.nd rfl (Or.inl rfl) (zR (hu3 hr) (pv3 0) zE (fun _ _ => rfl)))
    refine zC ?_ ?_
    · exact (yU (hu3 hr) (pv3 0) zE (zF zJ (pv3 4) zD) rfl)
    refine zC ?_ ?_
    · exact (zI (i := 5) sc10x.nd rfl (Or.inl rfl) (zF zJ (zF yN zD (pv3 4)) zD))
    refine zC ?_ ?_
    · exact (zQ (zN (o3_ne hr) (pv3 3) (zZ zB) (nomark _)) (zH (zI (i := 5) sc10x.nd rfl (Or.inl rfl) (zK (pv3 3) (zF yM (pv3 4) (zS yO rfl B.len_ b3_len (zA (pv3 3) zB))) (fun _ _ => rfl)))) zO)
    refine zC ?_ ?_
    · exact (zQ (PW3.pt (yX (zN wE (pv3 4) (zS yO rfl B.len_ b3_len (zA (pv3 3) zB)) (nomark _)) (wB (zN o3_ge (zS c3_abs rfl B.abs_ b3_abs (zA (pv3 5) zB)) (zF wI zD zD) (nomark _))))) (zC (yU (hu3 hr) (pv3 0) zE (zF yW (zS c3_abs rfl B.abs_ b3_abs (zA (pv3 5) zB)) (pv3 1)) rfl)
    (zH (zL (zF yM (zS c3_abs rfl B.abs_ b3_abs (zA (pv3 5) zB)) (pv3 1))))) zO)
    refine zC ?_ ?_
    · exact (zI (i := 6) sc10x.nd rfl (Or.inl rfl) (zF yM (zF yN (zF zJ (zF zJ (zF yM (pv3 5) zD) (zF yN zD (pv3 4))) zD) zD) zD))
    refine zC ?_ ?_
    · exact (zI (i := 6) sc10x.nd rfl (Or.inl rfl) (zF yM (zF zJ (zF zJ (zF yN (pv3 6) (pv3 6)) (zF yN zD (pv3 6))) (pv3 4)) zD))
    refine zC ?_ ?_
    · exact (zI (i := 6) sc10x.nd rfl (Or.inl rfl) (zF yM (zF zJ (zF zJ (zF yN (pv3 6) (pv3 6)) (zF yN zD (pv3 6))) zD) zD))
    exact zH (zL (zF yM (zF yW (pv3 6) zD) (pv3 1)))
set_option maxHeartbeats 4000000 in
theorem ok10x {f : Addr} {fd : FuncData} (B : Blt mg) (C : Cst K w.params mg) (F : FnAt K mg "_law_draw" s10x ["_law_pen_here", "_law_many"] f fd) : FnOk P w K mg base CX0 1 f fd ["_law_pen_here", "_law_many"] (dnSp K P2.spDraw) :=
  L3.Fun.ok3 F.fn sc10x P2.len__law_draw fun cdv A outer s H E hr => ⟨P2.t__law_draw, @dv10x P w K mg base f cdv A outer s H E B C hr, P2.rd__law_draw⟩
abbrev s11x : Stmt := top 16
theorem sc11x : FnScope P2.N__law_letters ["_law_pen_here", "_law_many"] (defScope s11x) := ⟨rfl, rfl, rfl, by decide +kernel, rfl, by decide +kernel, by decide +kernel⟩
set_option maxHeartbeats 4000000 in
theorem dv11x {f : Addr} {cdv : Value} {A : Around} {outer : List Env} {s : Shared} {H : Hp} {E : XK} (B : Blt mg) (C : Cst K w.params mg) {f10x : Addr} {fd10x : FuncData} (A10x : FnAt K mg "_law_draw" s10x ["_law_pen_here", "_law_many"] f10x fd10x) (G10x : FnOk P w K mg base CX0 1 f10x fd10x ["_law_pen_here", "_law_many"] (dnSp K P2.spDraw))
    (hr : Room 1 (A.deeper (envOfC "_law_letters" (defScope s11x) s.heap.objs.size f cdv))) :
    PSs3 (cxOf CX0 P w K mg base P2.N__law_letters "_law_letters" (defScope s11x) f cdv A outer s H E).nox (defBody s11x) P2.t__law_letters := by
    unfold P2.t__law_letters
    exact zH (zL (zV F.plainAttrs_str F.slot_str_join F.type_str_join yP zE (zA (yH ["_law_k"] ["_law_pen_here"] [0] rfl (yE rfl B.range_ (zA (pv3 1) zB)) rfl (by first | rfl | kernel_rfl) rfl (gk_name (by decide)) (fun cl s₀ H₀ ex => (yJ (i := 0) (show List.Nodup (["_law_k", "_law_pen_here"] : List Str) by decide +kernel) rfl (Or.inl rfl) (Or.inr rfl))) (fun cl s₀ H₀ ex => yK) (fun cl s₀ H₀ ex => (zK zE (zG G10x (hr.mono (by decide)) rfl A10x.gl A10x.fn.kp A10x.bd (zA (pv3 1) (zA zD zB))) (fun _ _ => rfl)))) zB)))
set_option maxHeartbeats 4000000 in
theorem ok11x {f : Addr} {fd : FuncData} (B : Blt mg) (C : Cst K w.params mg) {f10x : Addr} {fd10x : FuncData} (A10x : FnAt K mg "_law_draw" s10x ["_law_pen_here", "_law_many"] f10x fd10x) (G10x : FnOk P w K mg base CX0 1 f10x fd10x ["_law_pen_here", "_law_many"] (dnSp K P2.spDraw)) (F : FnAt K mg "_law_letters" s11x ["_law_pen_here", "_law_many"] f fd) : FnOk P w K mg base CX0 2 f fd ["_law_pen_here", "_law_many"] (dnSp K P2.spLetters) :=
  L3.Fun.ok3 F.fn sc11x P2.len__law_letters fun cdv A outer s H E hr => ⟨P2.t__law_letters, @dv11x P w K mg base f cdv A outer s H E B C f10x fd10x A10x G10x hr, P2.rd__law_letters⟩
abbrev s12x : Stmt := top 17
theorem sc12x : FnScope P2.N__law_names ["_law_pen_here", "_law_many"] (defScope s12x) := ⟨rfl, rfl, rfl, by decide +kernel, rfl, by decide +kernel, by decide +kernel⟩
set_option maxHeartbeats 4000000 in
theorem dv12x {f : Addr} {cdv : Value} {A : Around} {outer : List Env} {s : Shared} {H : Hp} {E : XK} (B : Blt mg) (C : Cst K w.params mg) {f10x : Addr} {fd10x : FuncData} (A10x : FnAt K mg "_law_draw" s10x ["_law_pen_here", "_law_many"] f10x fd10x) (G10x : FnOk P w K mg base CX0 1 f10x fd10x ["_law_pen_here", "_law_many"] (dnSp K P2.spDraw)) {f11x : Addr} {fd11x : FuncData} (A11x : FnAt K mg "_law_letters" s11x ["_law_pen_here", "_law_many"] f11x fd11x) (G11x : FnOk P w K mg base CX0 2 f11x fd11x ["_law_pen_here", "_law_many"] (dnSp K P2.spLetters))
    (hr : Room 2 (A.deeper (envOfC "_law_names" (defScope s12x) s.heap.objs.size f cdv))) :
    PSs3 (cxOf CX0 P w K mg base P2.N__law_names "_law_names" (defScope s12x) f cdv A outer s H E).nox (defBody s12x) P2.t__law_names := by
    unfold P2.t__law_names
    refine zC ?_ ?_
    · exact (zI (i := 2) sc12x.nd rfl (Or.inl rfl) zE)
    refine zC ?_ ?_
    · exact (zI (i := 3) sc12x.nd rfl (Or.inl rfl) (zG G11x (hr.mono (by decide)) rfl A11x.gl A11x.fn.kp A11x.bd (zA (pv3 0) (zA (zG G10x (hr.mono (by decide)) rfl A10x.gl A10x.fn.kp A10x.bd (zA (pv3 0) (zA zD zB))) zB))))
    refine zC ?_ ?_
    · exact (zI (i := 4) sc12x.nd rfl (Or.inl rfl) (zG G10x (hr.mono (by decide)) rfl A10x.gl A10x.fn.kp A10x.bd (zA (pv3 0) (zA (zF zJ (zS yO rfl B.len_ b3_len (zA (pv3 3) zB)) zD) zB))))
    refine zC ?_ ?_
    · exact (zI (i := 5) sc12x.nd rfl (Or.inl rfl) (zG G10x (hr.mono (by decide)) rfl A10x.gl A10x.fn.kp A10x.bd (zA (pv3 0) (zA zD zB))))
    refine zC ?_ ?_
    · refine zI (i := 6) ?a ?b ?c ?d
      case a => exact sc12x.nd
      case b => exact rfl
      case c => exact (Or.inr rfl)
      case d =>
        refine zM ?_
        refine zT ?_
        refine zT ?_
        refine zT ?_
        refine zT ?_
        refine zT ?_
        refine zT ?_
        refine zT ?_
        refine zT ?_
        refine zT ?_
        refine zT ?_
        refine zT ?_
        refine zT ?_
        exact zB
    refine zC ?_ ?_
    · refine zI (i := 6) ?a ?b ?c ?d
      case a => exact sc12x.nd
      case b => exact rfl
      case c => exact (Or.inr rfl)
      case d =>
        refine zF zJ ?_ ?_
        · exact (pv3 6)
        · refine zM ?_
          refine zT ?_
          refine zT ?_
          refine zT ?_
          refine zT ?_
          refine zT ?_
          refine zT ?_
          refine zT ?_
          exact zB
    refine zC ?_ ?_
    · exact (zI (i := 7) sc12x.nd rfl (Or.inl rfl) (yA zB))
    refine zC ?_ ?_
    · exact (yQ PassesOwn.never rfl (yE rfl B.range_ (zA (pv3 1) zB)) sc12x.nd rfl (Or.inl rfl) (zH (zX (zV F.plainAttrs_list F.slot_list_append F.type_list_append yC (pv3 7) (zA (zF zJ (zF zJ (wF (pv3 3) wH (yT (pv3 4))) (zK (pv3 2) (zF yM (zF zJ (pv3 5) (pv3 8)) zD) (fun _ _ => rfl))) (wF (pv3 3) (yT (pv3 4)) wH)) zB)))))
    refine wA 7 ?_
    refine zC ?_ ?_
    · exact (zQ (pt3_val (zS (c3_any rfl) rfl B.any_ b3_any (zA (yH ["_law_name"] ["_law_shut"] [6] rfl (wK (pv3 7)) rfl (by first | rfl | kernel_rfl) rfl (gk_name (by decide)) (fun cl s₀ H₀ ex => (yJ (i := 0) (show List.Nodup (["_law_name", "_law_shut"] : List Str) by decide +kernel) rfl (Or.inl rfl) (Or.inr rfl))) (fun cl s₀ H₀ ex => yK) (fun cl s₀ H₀ ex => (yY o3_in (pv3 0) (pv3 1) rfl))) zB))) (zH (zL (yH ["_law_name"] [] [] rfl (wK (pv3 7)) rfl (by first | rfl | kernel_rfl) rfl (gk_name (by decide)) (fun cl s₀ H₀ ex => (yJ (i := 0) (show List.Nodup (["_law_name"] : List Str) by decide +kernel) rfl (Or.inl rfl) (Or.inr rfl))) (fun cl s₀ H₀ ex => yK) (fun cl s₀ H₀ ex => (zF zJ (pv3 0) zE))))) zO)
    exact zH (zL (pv3 7))
set_option maxHeartbeats 4000000 in
theorem ok12x {f : Addr} {fd : FuncData} (B : Blt mg) (C : Cst K w.params mg) {f10x : Addr} {fd10x : FuncData} (A10x : FnAt K mg "_law_draw" s10x ["_law_pen_here", "_law_many"] f10x fd10x) (G10x : FnOk P w K mg base CX0 1 f10x fd10x ["_law_pen_here", "_law_many"] (dnSp K P2.spDraw)) {f11x : Addr} {fd11x : FuncData} (A11x : FnAt K mg "_law_letters" s11x ["_law_pen_here", "_law_many"] f11x fd11x) (G11x : FnOk P w K mg base CX0 2 f11x fd11x ["_law_pen_here", "_law_many"] (dnSp K P2.spLetters)) (F : FnAt K mg "_law_names" s12x ["_law_pen_here", "_law_many"] f fd) : FnOk P w K mg base CX0 3 f fd ["_law_pen_here", "_law_many"] (dnSp K P2.spNames) :=
  L3.Fun.ok3 F.fn sc12x P2.len__law_names fun cdv A outer s H E hr => ⟨P2.t__law_names, @dv12x P w K mg base f cdv A outer s H E B C f10x fd10x A10x G10x f11x fd11x A11x G11x hr, P2.rd__law_names⟩
abbrev s13x : Stmt := top 18
theorem sc13x : FnScope P2.N__law_number ["_law_pen_here"] (defScope s13x) := ⟨rfl, rfl, rfl, by decide +kernel, rfl, by decide +kernel, by decide +kernel⟩
set_option maxHeartbeats 4000000 in
theorem dv13x {f : Addr} {cdv : Value} {A : Around} {outer : List Env} {s : Shared} {H : Hp} {E : XK} (B : Blt mg) (C : Cst K w.params mg) {f10x : Addr} {fd10x : FuncData} (A10x : FnAt K mg "_law_draw" s10x ["_law_pen_here", "_law_many"] f10x fd10x) (G10x : FnOk P w K mg base CX0 1 f10x fd10x ["_law_pen_here", "_law_many"] (dnSp K P2.spDraw))
    (hr : Room 1 (A.deeper (envOfC "_law_number" (defScope s13x) s.heap.objs.size f cdv))) :
    PSs3 (cxOf CX0 P w K mg base P2.N__law_number "_law_number" (defScope s13x) f cdv A outer s H E).nox (defBody s13x) P2.t__law_number := by
    unfold P2.t__law_number
    refine zC ?_ ?_
    · exact (zI (i := 1) sc13x.nd rfl (Or.inl rfl) (zG G10x (hr.mono (by decide)) rfl A10x.gl A10x.fn.kp A10x.bd (zA (pv3 0) (zA zD zB))))
    refine zC ?_ ?_
    · exact (zQ (zN (zU hr) (zG G10x (hr.mono (by decide)) rfl A10x.gl A10x.fn.kp A10x.bd (zA (pv3 0) (zA zD zB))) zD (nomark _)) (zH (yQ PassesOwn.never rfl (yE rfl B.range_ (zA (zF zJ zD (zG G10x (hr.mono (by decide)) rfl A10x.gl A10x.fn.kp A10x.bd (zA (pv3 0) (zA zD zB)))) zB)) sc13x.nd rfl (Or.inl rfl) (zH (zI (i := 1) sc13x.nd rfl (Or.inl rfl) (zF yM (zF zJ (zF yN (pv3 1) (zF wI zD zD)) (zG G10x (hr.mono (by decide)) rfl A10x.gl A10x.fn.kp A10x.bd (zA (pv3 0) (zA (zF wI zD zD) zB)))) (zF wI zD zD)))))) zO)
    exact zH (zL (zF yN (pv3 1) (zF yL zD (zF yN zD (zG G10x (hr.mono (by decide)) rfl A10x.gl A10x.fn.kp A10x.bd (zA (pv3 0) (zA zD zB)))))))
set_option maxHeartbeats 4000000 in
theorem ok13x {f : Addr} {fd : FuncData} (B : Blt mg) (C : Cst K w.params mg) {f10x : Addr} {fd10x : FuncData} (A10x : FnAt K mg "_law_draw" s10x ["_law_pen_here", "_law_many"] f10x fd10x) (G10x : FnOk P w K mg base CX0 1 f10x fd10x ["_law_pen_here", "_law_many"] (dnSp K P2.spDraw)) (F : FnAt K mg "_law_number" s13x ["_law_pen_here"] f fd) : FnOk P w K mg base CX0 2 f fd ["_law_pen_here"] (dnSp K P2.spNumber) :=
  L3.Fun.ok3 F.fn sc13x P2.len__law_number fun cdv A outer s H E hr => ⟨P2.t__law_number, @dv13x P w K mg base f cdv A outer s H E B C f10x fd10x A10x G10x hr, P2.rd__law_number⟩
abbrev s14x : Stmt := top 19
theorem sc14x : FnScope P2.N__law_leaf ["_law_pen_here", "_law_facts"] (defScope s14x) := ⟨rfl, rfl, rfl, by decide +kernel, rfl, by decide +kernel, by decide +kernel⟩
set_option maxHeartbeats 4000000 in
theorem dv14x {f : Addr} {cdv : Value} {A : Around} {outer : List Env} {s : Shared} {H : Hp} {E : XK} (B : Blt mg) (C : Cst K w.params mg) {f10x : Addr} {fd10x : FuncData} (A10x : FnAt K mg "_law_draw" s10x ["_law_pen_here", "_law_many"] f10x fd10x) (G10x : FnOk P w K mg base CX0 1 f10x fd10x ["_law_pen_here", "_law_many"] (dnSp K P2.spDraw)) {f13x : Addr} {fd13x : FuncData} (A13x : FnAt K mg "_law_number" s13x ["_law_pen_here"] f13x fd13x) (G13x : FnOk P w K mg base CX0 2 f13x fd13x ["_law_pen_here"] (dnSp K P2.spNumber))
    (hr : Room 2 (A.deeper (envOfC "_law_leaf" (defScope s14x) s.heap.objs.size f cdv))) :
    PSs3 (cxOf CX0 P w K mg base P2.N__law_leaf "_law_leaf" (defScope s14x) f cdv A outer s H E).nox (defBody s14x) P2.t__law_leaf := by
    unfold P2.t__law_leaf
    refine zC ?_ ?_
    · exact (zI (i := 2) sc14x.nd rfl (Or.inl rfl) (zG G10x (hr.mono (by decide)) rfl A10x.gl A10x.fn.kp A10x.bd (zA (pv3 0) (zA zD zB))))
    refine zC ?_ ?_
    · exact (zQ (zN (zU hr) (pv3 2) zD (nomark _)) (zH (zL (zM (zA (zM (zA zE zB)) (zA zE zB))))) zO)
    refine zC ?_ ?_
    · exact (zQ (zN wE (pv3 2) zD (nomark _)) (zC (zI (i := 3) sc14x.nd rfl (Or.inl rfl) (zG G13x (hr.mono (by decide)) rfl A13x.gl A13x.fn.kp A13x.bd (zA (pv3 0) zB)))
    (zH (zL (zM (zA (zM (zA zE (zA (pv3 3) zB))) (zA (yB c3_str rfl B.str_ b3_str (zA (pv3 3) zB)) zB)))))) zO)
    refine zC ?_ ?_
    · exact (zI (i := 4) sc14x.nd rfl (Or.inl rfl) (zK (zR (hu3 hr) (pv3 1) zE (fun _ _ => rfl)) (zG G10x (hr.mono (by decide)) rfl A10x.gl A10x.fn.kp A10x.bd (zA (pv3 0) (zA (zS yO rfl B.len_ b3_len (zA (zR (hu3 hr) (pv3 1) zE (fun _ _ => rfl)) zB)) zB))) (fun _ _ => rfl)))
    exact zH (zL (zM (zA (zM (zA zE (zA (pv3 4) zB))) (zA (pv3 4) zB))))
set_option maxHeartbeats 4000000 in
theorem ok14x {f : Addr} {fd : FuncData} (B : Blt mg) (C : Cst K w.params mg) {f10x : Addr} {fd10x : FuncData} (A10x : FnAt K mg "_law_draw" s10x ["_law_pen_here", "_law_many"] f10x fd10x) (G10x : FnOk P w K mg base CX0 1 f10x fd10x ["_law_pen_here", "_law_many"] (dnSp K P2.spDraw)) {f13x : Addr} {fd13x : FuncData} (A13x : FnAt K mg "_law_number" s13x ["_law_pen_here"] f13x fd13x) (G13x : FnOk P w K mg base CX0 2 f13x fd13x ["_law_pen_here"] (dnSp K P2.spNumber)) (F : FnAt K mg "_law_leaf" s14x ["_law_pen_here", "_law_facts"] f fd) : FnOk P w K mg base CX0 3 f fd ["_law_pen_here", "_law_facts"] (dnSp K P2.spLeaf) :=
  L3.Fun.ok3 F.fn sc14x P2.len__law_leaf fun cdv A outer s H E hr => ⟨P2.t__law_leaf, @dv14x P w K mg base f cdv A outer s H E B C f10x fd10x A10x G10x f13x fd13x A13x G13x hr, P2.rd__law_leaf⟩
abbrev s15x : Stmt := top 20
theorem sc15x : FnScope P2.N__law_expression ["_law_pen_here", "_law_facts", "_law_deep", "_law_parts"] (defScope s15x) := ⟨rfl, rfl, rfl, by decide +kernel, rfl, by decide +kernel, by decide +kernel⟩
set_option maxHeartbeats 4000000 in
theorem dv15x {f : Addr} {cdv : Value} {A : Around} {outer : List Env} {s : Shared} {H : Hp} {E : XK} (B : Blt mg) (C : Cst K w.params mg) {f10x : Addr} {fd10x : FuncData} (A10x : FnAt K mg "_law_draw" s10x ["_law_pen_here", "_law_many"] f10x fd10x) (G10x : FnOk P w K mg base CX0 1 f10x fd10x ["_law_pen_here", "_law_many"] (dnSp K P2.spDraw)) {f14x : Addr} {fd14x : FuncData} (A14x : FnAt K mg "_law_leaf" s14x ["_law_pen_here", "_law_facts"] f14x fd14x) (G14x : FnOk P w K mg base CX0 3 f14x fd14x ["_law_pen_here", "_law_facts"] (dnSp K P2.spLeaf)) {kr : Nat} {q15x : Sp3} {f15x : Addr} {fd15x : FuncData} (A15x : FnAt K mg "_law_expression" s15x ["_law_pen_here", "_law_facts", "_law_deep", "_law_parts"] f15x fd15x) (G15x : FnOk P w K mg base CX0 kr f15x fd15x ["_law_pen_here", "_law_facts", "_law_deep", "_law_parts"] (dnSp K q15x)) (hkr : 4 ≤ kr)
    (hr : Room kr (A.deeper (envOfC "_law_expression" (defScope s15x) s.heap.objs.size f cdv))) :
    PSs3 (cxOf CX0 P w K mg base P2.N__law_expression "_law_expression" (defScope s15x) f cdv A outer s H E).nox (defBody s15x) (P2.t__law_expression q15x) := by
    unfold P2.t__law_expression
    refine zC ?_ ?_
    · exact (zI (i := 4) sc15x.nd rfl (Or.inl rfl) (zG G10x (hr.mono (by omega)) rfl A10x.gl A10x.fn.kp A10x.bd (zA (pv3 0) (zA zD zB))))
    refine zC ?_ ?_
    · exact (zQ (PW3.pt (yX (zN wD (pv3 2) zD (nomark _)) (yX (zN wD (pv3 3) zD (nomark _)) (wB (zN wE (pv3 4) zD (nomark _)))))) (zC (zI (i := 5) sc15x.nd rfl (Or.inl rfl) (zK zE (zG G10x (hr.mono (by omega)) rfl A10x.gl A10x.fn.kp A10x.bd (zA (pv3 0) (zA zD zB))) (fun _ _ => rfl)))
    (zC (zI (i := 6) sc15x.nd rfl (Or.inl rfl) (zF zJ zD (zG G10x (hr.mono (by omega)) rfl A10x.gl A10x.fn.kp A10x.bd (zA (pv3 0) (zA (zF yL (pv3 3) zD) zB)))))
    (zC (zI (i := 7) sc15x.nd rfl (Or.inl rfl) (zG G15x hr rfl A15x.gl A15x.fn.kp A15x.bd (zA (pv3 0) (zA (pv3 1) (zA (zF yL (pv3 2) zD) (zA (pv3 6) zB))))))
    (zC (zI (i := 8) sc15x.nd rfl (Or.inl rfl) (zG G15x hr rfl A15x.gl A15x.fn.kp A15x.bd (zA (pv3 0) (zA (pv3 1) (zA (zF yL (pv3 2) zD) (zA (zF yL (zF yL (pv3 3) zD) (pv3 6)) zB))))))
    (zH (zL (zM (zA (zM (zA zE (zA (pv3 5) (zA (zK (pv3 7) zD (fun _ _ => rfl)) (zA (zK (pv3 8) zD (fun _ _ => rfl)) zB))))) (zA (zF zJ (zF zJ (zF zJ (zF zJ (zF zJ (zF zJ zE (zK (pv3 7) zD (fun _ _ => rfl))) zE) (pv3 5)) zE) (zK (pv3 8) zD (fun _ _ => rfl))) zE) zB))))))))) zO)
    refine zC ?_ ?_
    · exact (yG (zK (zR (hu3 hr) (pv3 1) zE (fun _ _ => rfl)) (zG G10x (hr.mono (by omega)) rfl A10x.gl A10x.fn.kp A10x.bd (zA (pv3 0) (zA (zS yO rfl B.len_ b3_len (zA (zR (hu3 hr) (pv3 1) zE (fun _ _ => rfl)) zB)) zB))) (fun _ _ => rfl)) (yD rfl (zP (i := 9) sc15x.nd rfl (Or.inl rfl) (zP (i := 10) sc15x.nd rfl (Or.inr rfl) zY (Or.inl rfl)) (Or.inl rfl))))
    refine zC ?_ ?_
    · exact (zQ (PW3.pt (yX (zN (zU hr) (pv3 4) zD (nomark _)) (wB (PW3.pt (wC (zN (zU hr) (pv3 10) zD (nomark _)) (yZ (PW3.pt (yX (zN wD (pv3 2) zD (nomark _)) (wB (zN wD (pv3 3) (pv3 10) (nomark _))))))))))) (zC (ps3_setCB 11 ["_law_k"] ["_law_pen_here", "_law_facts", "_law_deep", "_law_count", "_law_parts"] [0, 1, 2, 10, 3] rfl (yE rfl B.range_ (zA (pv3 10) zB)) rfl (by first | rfl | kernel_rfl) rfl (gk_name (by decide)) (fun cl s₀ H₀ ex => (yJ (i := 0) (show List.Nodup (["_law_k", "_law_pen_here", "_law_facts", "_law_deep", "_law_count", "_law_parts"] : List Str) by decide +kernel) rfl (Or.inl rfl) (Or.inr rfl))) (fun cl s₀ H₀ ex => yK) (fun cl s₀ H₀ ex => (zG G15x hr rfl A15x.gl A15x.fn.kp A15x.bd (zA (pv3 1) (zA (pv3 2) (zA (zF yL (pv3 3) zD) (zA (zF yW (zF yL (pv3 5) zD) (pv3 4)) zB)))))) sc15x.nd rfl (Or.inl rfl) (Or.inl rfl))
    (zC (zI (i := 12) sc15x.nd rfl (Or.inl rfl) (zF zJ (zF zJ (zF zJ (zF zJ zE (pv3 9)) zE) (zV F.plainAttrs_str F.slot_str_join F.type_str_join yP zE (zA (yH ["_law_arg"] [] [] rfl (wK (pv3 11)) rfl (by first | rfl | kernel_rfl) rfl (gk_name (by decide)) (fun cl s₀ H₀ ex => (yJ (i := 0) (show List.Nodup (["_law_arg"] : List Str) by decide +kernel) rfl (Or.inl rfl) (Or.inr rfl))) (fun cl s₀ H₀ ex => yK) (fun cl s₀ H₀ ex => (zK (pv3 0) zD (fun _ _ => rfl)))) zB))) zE))
    (zH (zL (zM (zA (zM (zA zE (zA (pv3 9) (zA (yB yV rfl B.tuple_ b3_tuple (zA (yH ["_law_arg"] [] [] rfl (wK (pv3 11)) rfl (by first | rfl | kernel_rfl) rfl (gk_name (by decide)) (fun cl s₀ H₀ ex => (yJ (i := 0) (show List.Nodup (["_law_arg"] : List Str) by decide +kernel) rfl (Or.inl rfl) (Or.inr rfl))) (fun cl s₀ H₀ ex => yK) (fun cl s₀ H₀ ex => (zK (pv3 0) zD (fun _ _ => rfl)))) zB)) zB)))) (zA (pv3 12) zB))))))) zO)
    exact zH (zL (zG G14x (hr.mono (by omega)) rfl A14x.gl A14x.fn.kp A14x.bd (zA (pv3 0) (zA (pv3 1) zB))))
set_option maxHeartbeats 4000000 in
theorem ok15x {f : Addr} {fd : FuncData} (B : Blt mg) (C : Cst K w.params mg) {f10x : Addr} {fd10x : FuncData} (A10x : FnAt K mg "_law_draw" s10x ["_law_pen_here", "_law_many"] f10x fd10x) (G10x : FnOk P w K mg base CX0 1 f10x fd10x ["_law_pen_here", "_law_many"] (dnSp K P2.spDraw)) {f14x : Addr} {fd14x : FuncData} (A14x : FnAt K mg "_law_leaf" s14x ["_law_pen_here", "_law_facts"] f14x fd14x) (G14x : FnOk P w K mg base CX0 3 f14x fd14x ["_law_pen_here", "_law_facts"] (dnSp K P2.spLeaf)) {kr lv : Nat} {f15x : Addr} {fd15x : FuncData} (A15x : FnAt K mg "_law_expression" s15x ["_law_pen_here", "_law_facts", "_law_deep", "_law_parts"] f15x fd15x) (G15x : FnOk P w K mg base CX0 kr f15x fd15x ["_law_pen_here", "_law_facts", "_law_deep", "_law_parts"] (dnSp K (P2.spExpr lv))) (hkr : 4 ≤ kr) (F : FnAt K mg "_law_expression" s15x ["_law_pen_here", "_law_facts", "_law_deep", "_law_parts"] f fd) : FnOk P w K mg base CX0 (kr + 1) f fd ["_law_pen_here", "_law_facts", "_law_deep", "_law_parts"] (dnSp K (P2.spExpr (lv + 1))) :=
  L3.Fun.ok3 F.fn sc15x (P2.len__law_expression (lv + 1)) fun cdv A outer s H E hr => ⟨P2.t__law_expression (P2.spExpr lv), dv15x B C A10x G10x A14x G14x A15x G15x hkr hr, P2.rd__law_expression lv⟩
theorem grp15x (B : Blt mg) (C : Cst K w.params mg) {f10x : Addr} {fd10x : FuncData} (A10x : FnAt K mg "_law_draw" s10x ["_law_pen_here", "_law_many"] f10x fd10x) (G10x : FnOk P w K mg base CX0 1 f10x fd10x ["_law_pen_here", "_law_many"] (dnSp K P2.spDraw)) {f14x : Addr} {fd14x : FuncData} (A14x : FnAt K mg "_law_leaf" s14x ["_law_pen_here", "_law_facts"] f14x fd14x) (G14x : FnOk P w K mg base CX0 3 f14x fd14x ["_law_pen_here", "_law_facts"] (dnSp K P2.spLeaf)) {f15x : Addr} {fd15x : FuncData} (A15x : FnAt K mg "_law_expression" s15x ["_law_pen_here", "_law_facts", "_law_deep", "_law_parts"] f15x fd15x) : ∀ lv : Nat, FnOk P w K mg base CX0 (4 + lv) f15x fd15x ["_law_pen_here", "_law_facts", "_law_deep", "_law_parts"] (dnSp K (P2.spExpr lv))
  | 0 => fnOk_zero P2.len__law_expression P2.zero__law_expression
  | lv + 1 => by
    obtain G15x := grp15x B C A10x G10x A14x G14x A15x lv
    exact ok15x B C A10x G10x A14x G14x A15x G15x (Nat.le_add_right _ _) A15x
abbrev s16x : Stmt := top 21
theorem sc16x : FnScope P3.N__law_word ["_law_pen_here"] (defScope s16x) := ⟨rfl, rfl, rfl, by decide +kernel, rfl, by decide +kernel, by decide +kernel⟩
set_option maxHeartbeats 4000000 in
theorem dv16x {f : Addr} {cdv : Value} {A : Around} {outer : List Env} {s : Shared} {H : Hp} {E : XK} (B : Blt mg) (C : Cst K w.params mg) {f10x : Addr} {fd10x : FuncData} (A10x : FnAt K mg "_law_draw" s10x ["_law_pen_here", "_law_many"] f10x fd10x) (G10x : FnOk P w K mg base CX0 1 f10x fd10x ["_law_pen_here", "_law_many"] (dnSp K P2.spDraw)) {f11x : Addr} {fd11x : FuncData} (A11x : FnAt K mg "_law_letters" s11x ["_law_pen_here", "_law_many"] f11x fd11x) (G11x : FnOk P w K mg base CX0 2 f11x fd11x ["_law_pen_here", "_law_many"] (dnSp K P2.spLetters))
    (hr : Room 2 (A.deeper (envOfC "_law_word" (defScope s16x) s.heap.objs.size f cdv))) :
    PSs3 (cxOf CX0 P w K mg base P3.N__law_word "_law_word" (defScope s16x) f cdv A outer s H E).nox (defBody s16x) P3.t__law_word := by
    unfold P3.t__law_word
    refine zC ?_ ?_
    · refine zI (i := 1) ?a ?b ?c ?d
      case a => exact sc16x.nd
      case b => exact rfl
      case c => exact (Or.inl rfl)
      case d =>
        refine zZ ?_
        refine zT ?_
        refine zT ?_
        refine zT ?_
        refine zT ?_
        refine zT ?_
        refine zT ?_
        refine zT ?_
        refine zT ?_
        refine zT ?_
        refine zT ?_
        refine zT ?_
        refine zT ?_
        refine zT ?_
        exact zB
    refine zC ?_ ?_
    · exact (zI (i := 1) sc16x.nd rfl (Or.inl rfl) (zF zJ (pv3 1) (zZ (zA zE (zA zE (zA zE (zA zE (zA zE zB))))))))
    refine zC ?_ ?_
    · exact (zI (i := 2) sc16x.nd rfl (Or.inl rfl) (zG G11x (hr.mono (by decide)) rfl A11x.gl A11x.fn.kp A11x.bd (zA (pv3 0) (zA (zF zJ zD (zG G10x (hr.mono (by decide)) rfl A10x.gl A10x.fn.kp A10x.bd (zA (pv3 0) (zA zD zB)))) zB))))
    refine zC ?_ ?_
    · exact (zQ (zN (zU hr) (zG G10x (hr.mono (by decide)) rfl A10x.gl A10x.fn.kp A10x.bd (zA (pv3 0) (zA zD zB))) zD (nomark _)) (zH (zI (i := 2) sc16x.nd rfl (Or.inl rfl) (zK (pv3 1) (zG G10x (hr.mono (by decide)) rfl A10x.gl A10x.fn.kp A10x.bd (zA (pv3 0) (zA (zS yO rfl B.len_ b3_len (zA (pv3 1) zB)) zB))) (fun _ _ => rfl)))) zO)
    refine zC ?_ ?_
    · exact (zQ (zN (zU hr) (pv3 2) zE (nomark _)) (zH (zI (i := 2) sc16x.nd rfl (Or.inl rfl) zE)) zO)
    exact zH (zL (pv3 2))
set_option maxHeartbeats 4000000 in
theorem ok16x {f : Addr} {fd : FuncData} (B : Blt mg) (C : Cst K w.params mg) {f10x : Addr} {fd10x : FuncData} (A10x : FnAt K mg "_law_draw" s10x ["_law_pen_here", "_law_many"] f10x fd10x) (G10x : FnOk P w K mg base CX0 1 f10x fd10x ["_law_pen_here", "_law_many"] (dnSp K P2.spDraw)) {f11x : Addr} {fd11x : FuncData} (A11x : FnAt K mg "_law_letters" s11x ["_law_pen_here", "_law_many"] f11x fd11x) (G11x : FnOk P w K mg base CX0 2 f11x fd11x ["_law_pen_here", "_law_many"] (dnSp K P2.spLetters)) (F : FnAt K mg "_law_word" s16x ["_law_pen_here"] f fd) : FnOk P w K mg base CX0 3 f fd ["_law_pen_here"] (dnSp K P3.spWord) :=
  L3.Fun.ok3 F.fn sc16x P3.len__law_word fun cdv A outer s H E hr => ⟨P3.t__law_word, @dv16x P w K mg base f cdv A outer s H E B C f10x fd10x A10x G10x f11x fd11x A11x G11x hr, P3.rd__law_word⟩
abbrev s17x : Stmt := top 22
theorem sc17x : FnScope P3.N__law_plain ["_law_pen_here", "_law_facts", "_law_in_while"] (defScope s17x) := ⟨rfl, rfl, rfl, by decide +kernel, rfl, by decide +kernel, by decide +kernel⟩
set_option maxHeartbeats 4000000 in
theorem dv17x {f : Addr} {cdv : Value} {A : Around} {outer : List Env} {s : Shared} {H : Hp} {E : XK} (B : Blt mg) (C : Cst K w.params mg) {f10x : Addr} {fd10x : FuncData} (A10x : FnAt K mg "_law_draw" s10x ["_law_pen_here", "_law_many"] f10x fd10x) (G10x : FnOk P w K mg base CX0 1 f10x fd10x ["_law_pen_here", "_law_many"] (dnSp K P2.spDraw)) {f15x : Addr} {fd15x : FuncData} (A15x : FnAt K mg "_law_expression" s15x ["_law_pen_here", "_law_facts", "_law_deep", "_law_parts"] f15x fd15x) (G15x : FnOk P w K mg base CX0 9 f15x fd15x ["_law_pen_here", "_law_facts", "_law_deep", "_law_parts"] (dnSp K (P2.spExpr 5))) {f16x : Addr} {fd16x : FuncData} (A16x : FnAt K mg "_law_word" s16x ["_law_pen_here"] f16x fd16x) (G16x : FnOk P w K mg base CX0 3 f16x fd16x ["_law_pen_here"] (dnSp K P3.spWord))
    (hr : Room 9 (A.deeper (envOfC "_law_plain" (defScope s17x) s.heap.objs.size f cdv))) :
    PSs3 (cxOf CX0 P w K mg base P3.N__law_plain "_law_plain" (defScope s17x) f cdv A outer s H E).nox (defBody s17x) P3.t__law_plain := by
    unfold P3.t__law_plain
    refine zC ?_ ?_
    · exact (zI (i := 3) sc17x.nd rfl (Or.inl rfl) (zG G10x (hr.mono (by decide)) rfl A10x.gl A10x.fn.kp A10x.bd (zA (pv3 0) (zA zD zB))))
    refine zC ?_ ?_
    · exact (yG (yH ["_law_k"] ["_law_facts", "_law_pen_here"] [1, 0] rfl (yE rfl B.range_ (zA zD zB)) rfl (by first | rfl | kernel_rfl) rfl (gk_name (by decide)) (fun cl s₀ H₀ ex => (yJ (i := 0) (show List.Nodup (["_law_k", "_law_facts", "_law_pen_here"] : List Str) by decide +kernel) rfl (Or.inl rfl) (Or.inr rfl))) (fun cl s₀ H₀ ex => yK) (fun cl s₀ H₀ ex => (zK (zR (hu3 hr) (pv3 1) zE (fun _ _ => rfl)) (zG G10x (hr.mono (by decide)) rfl A10x.gl A10x.fn.kp A10x.bd (zA (pv3 2) (zA (zS yO rfl B.len_ b3_len (zA (zR (hu3 hr) (pv3 1) zE (fun _ _ => rfl)) zB)) zB))) (fun _ _ => rfl)))) (pg3_lst rfl (zP (i := 4) sc17x.nd rfl (Or.inl rfl) (zP (i := 5) sc17x.nd rfl (Or.inl rfl) zY (Or.inl rfl)) (Or.inl rfl))))
    refine zC ?_ ?_
    · exact (zI (i := 6) sc17x.nd rfl (Or.inl rfl) (zG G15x (hr.mono (by decide)) rfl A15x.gl A15x.fn.kp A15x.bd (zA (pv3 0) (zA (pv3 1) (zA zD (zA (zR (hu3 hr) (pv3 1) zE (fun _ _ => rfl)) zB))))))
    refine zC ?_ ?_
    · exact (zI (i := 7) sc17x.nd rfl (Or.inl rfl) (zG G15x (hr.mono (by decide)) rfl A15x.gl A15x.fn.kp A15x.bd (zA (pv3 0) (zA (pv3 1) (zA zD (zA (zR (hu3 hr) (pv3 1) zE (fun _ _ => rfl)) zB))))))
    refine zC ?_ ?_
    · exact (zI (i := 8) sc17x.nd rfl (Or.inl rfl) (zG G16x (hr.mono (by decide)) rfl A16x.gl A16x.fn.kp A16x.bd (zA (pv3 0) zB)))
    refine zC ?_ ?_
    · exact (zQ (zN (zU hr) (pv3 3) zD (nomark _)) (zH (zL (zM (zA (zM (zA zE (zA (pv3 4) (zA (zK (pv3 6) zD (fun _ _ => rfl)) zB)))) (zA (zF zJ (zF zJ (pv3 4) zE) (zK (pv3 6) zD (fun _ _ => rfl))) zB))))) zO)
    refine zC ?_ ?_
    · exact (zQ (zN wE (pv3 3) zD (nomark _)) (zC (zI (i := 9) sc17x.nd rfl (Or.inl rfl) (zK (zZ (zA zE (zA zE zB))) (zF yL (pv3 3) zD) (fun _ _ => rfl)))
    (zH (zL (zM (zA (zM (zA (pv3 9) (zA (pv3 4) (zA (zK (pv3 6) zD (fun _ _ => rfl)) zB)))) (zA (zF zJ (zF zJ (zF zJ (zF zJ (pv3 4) zE) (pv3 9)) zE) (zK (pv3 6) zD (fun _ _ => rfl))) zB)))))) zO)
    refine zC ?_ ?_
    · exact (zQ (zN (zU hr) (pv3 3) zD (nomark _)) (zH (zL (zM (zA (zM (zA zE (zA (pv3 4) (zA (pv3 5) (zA (zK (pv3 6) zD (fun _ _ => rfl)) (zA (zK (pv3 7) zD (fun _ _ => rfl)) zB)))))) (zA (zF zJ (zF zJ (zF zJ (zF zJ (zF zJ (zF zJ (pv3 4) zE) (pv3 5)) zE) (zK (pv3 6) zD (fun _ _ => rfl))) zE) (zK (pv3 7) zD (fun _ _ => rfl))) zB))))) zO)
    refine zC ?_ ?_
    · exact (zQ (zN (zU hr) (pv3 3) zD (nomark _)) (zC (zI (i := 10) sc17x.nd rfl (Or.inl rfl) (zF zJ (zF zJ (zF zJ (zF zJ (zF zJ (zF zJ (zF zJ (zF zJ (pv3 4) zE) (pv3 5)) zE) (zK (pv3 6) zD (fun _ _ => rfl))) zE) (pv3 8)) zE) (zK (pv3 7) zD (fun _ _ => rfl))))
    (zH (zL (zM (zA (zM (zA zE (zA (pv3 4) (zA (pv3 5) (zA (zK (pv3 6) zD (fun _ _ => rfl)) (zA (pv3 8) (zA (zK (pv3 7) zD (fun _ _ => rfl)) zB))))))) (zA (pv3 10) zB)))))) zO)
    refine zC ?_ ?_
    · exact (zQ (zN wE (pv3 3) zD (nomark _)) (zC (zI (i := 9) sc17x.nd rfl (Or.inl rfl) (zK (zZ (zA zE (zA zE (zA zE zB)))) (zF yL (pv3 3) zD) (fun _ _ => rfl)))
    (zH (zL (zM (zA (zM (zA (pv3 9) (zA (zK (pv3 6) zD (fun _ _ => rfl)) zB))) (zA (zF zJ (zF zJ (pv3 9) zE) (zK (pv3 6) zD (fun _ _ => rfl))) zB)))))) zO)
    refine zC ?_ ?_
    · exact (zQ (PW3.pt (wC (zN (zU hr) (pv3 3) zD (nomark _)) (yZ (pt3_not (pt3_val (pv3 2)))))) (zH (zL (zM (zA (zM (zA zE (zA (pv3 8) (zA (zK (pv3 6) zD (fun _ _ => rfl)) zB)))) (zA (zF zJ (zF zJ (zF zJ zE (pv3 8)) zE) (zK (pv3 6) zD (fun _ _ => rfl))) zB))))) zO)
    exact zH (zL (zM (zA (zM (zA zE zB)) (zA zE zB))))
set_option maxHeartbeats 4000000 in
theorem ok17x {f : Addr} {fd : FuncData} (B : Blt mg) (C : Cst K w.params mg) {f10x : Addr} {fd10x : FuncData} (A10x : FnAt K mg "_law_draw" s10x ["_law_pen_here", "_law_many"] f10x fd10x) (G10x : FnOk P w K mg base CX0 1 f10x fd10x ["_law_pen_here", "_law_many"] (dnSp K P2.spDraw)) {f15x : Addr} {fd15x : FuncData} (A15x : FnAt K mg "_law_expression" s15x ["_law_pen_here", "_law_facts", "_law_deep", "_law_parts"] f15x fd15x) (G15x : FnOk P w K mg base CX0 9 f15x fd15x ["_law_pen_here", "_law_facts", "_law_deep", "_law_parts"] (dnSp K (P2.spExpr 5))) {f16x : Addr} {fd16x : FuncData} (A16x : FnAt K mg "_law_word" s16x ["_law_pen_here"] f16x fd16x) (G16x : FnOk P w K mg base CX0 3 f16x fd16x ["_law_pen_here"] (dnSp K P3.spWord)) (F : FnAt K mg "_law_plain" s17x ["_law_pen_here", "_law_facts", "_law_in_while"] f fd) : FnOk P w K mg base CX0 10 f fd ["_law_pen_here", "_law_facts", "_law_in_while"] (dnSp K P3.spPlain) :=
  L3.Fun.ok3 F.fn sc17x P3.len__law_plain fun cdv A outer s H E hr => ⟨P3.t__law_plain, @dv17x P w K mg base f cdv A outer s H E B C f10x fd10x A10x G10x f15x fd15x A15x G15x f16x fd16x A16x G16x hr, P3.rd__law_plain⟩
abbrev s18x : Stmt := top 23
abbrev s19x : Stmt := top 24
theorem sc18x : FnScope N__law_block ["_law_pen_here", "_law_facts", "_law_deep", "_law_in_while"] (defScope s18x) := ⟨rfl, rfl, rfl, by decide +kernel, rfl, by decide +kernel, by decide +kernel⟩
set_option maxHeartbeats 4000000 in
theorem dv18x {f : Addr} {cdv : Value} {A : Around} {outer : List Env} {s : Shared} {H : Hp} {E : XK} (B : Blt mg) (C : Cst K w.params mg) {f10x : Addr} {fd10x : FuncData} (A10x : FnAt K mg "_law_draw" s10x ["_law_pen_here", "_law_many"] f10x fd10x) (G10x : FnOk P w K mg base CX0 1 f10x fd10x ["_law_pen_here", "_law_many"] (dnSp K P2.spDraw)) {f17x : Addr} {fd17x : FuncData} (A17x : FnAt K mg "_law_plain" s17x ["_law_pen_here", "_law_facts", "_law_in_while"] f17x fd17x) (G17x : FnOk P w K mg base CX0 10 f17x fd17x ["_law_pen_here", "_law_facts", "_law_in_while"] (dnSp K P3.spPlain)) {kr : Nat} {q18x q19x : Sp3} {f18x : Addr} {fd18x : FuncData} (A18x : FnAt K mg "_law_block" s18x ["_law_pen_here", "_law_facts", "_law_deep", "_law_in_while"] f18x fd18x) (G18x : FnOk P w K mg base CX0 kr f18x fd18x ["_law_pen_here", "_law_facts", "_law_deep", "_law_in_while"] (dnSp K q18x)) {f19x : Addr} {fd19x : FuncData} (A19x : FnAt K mg "_law_long" s19x ["_law_pen_here", "_law_facts", "_law_deep", "_law_in_while", "_law_kind"] f19x fd19x) (G19x : FnOk P w K mg base CX0 kr f19x fd19x ["_law_pen_here", "_law_facts", "_law_deep", "_law_in_while", "_law_kind"] (dnSp K q19x)) (hkr : 12 ≤ kr)
    (hr : Room kr (A.deeper (envOfC "_law_block" (defScope s18x) s.heap.objs.size f cdv))) :
    PSs3 (cxOf CX0 P w K mg base N__law_block "_law_block" (defScope s18x) f cdv A outer s H E).nox (defBody s18x) (t__law_block q18x q19x) := by
    unfold t__law_block
    refine zC ?_ ?_
    · exact (zI (i := 4) sc18x.nd rfl (Or.inl rfl) (yA zB))
    refine zC ?_ ?_
    · exact (zI (i := 5) sc18x.nd rfl (Or.inl rfl) (yA zB))
    refine zC ?_ ?_
    · exact (yQ PassesOwn.never rfl (yE rfl B.range_ (zA (zF zJ zD (zG G10x (hr.mono (by omega)) rfl A10x.gl A10x.fn.kp A10x.bd (zA (pv3 0) (zA zD zB)))) zB)) sc18x.nd rfl (Or.inl rfl) (zC (zI (i := 7) sc18x.nd rfl (Or.inl rfl) (zG G10x (hr.mono (by omega)) rfl A10x.gl A10x.fn.kp A10x.bd (zA (pv3 0) (zA zD zB))))
    (zH (zQ (PW3.pt (wC (zN (zU hr) (pv3 6) zD (nomark _)) (yZ (zN wD (zR (hu3 hr) (pv3 1) zE (fun _ _ => rfl)) zD (nomark _))))) (zC (yU (hu3 hr) (pv3 1) zE (zF yL (zR (hu3 hr) (pv3 1) zE (fun _ _ => rfl)) zD) rfl)
    (zC (zQ (PW3.pt (wC (zN (zU hr) (pv3 2) zD (nomark _)) (wC (zN wE (pv3 7) zD (nomark _)) (yZ (zN wE (zR (hu3 hr) (pv3 1) zE (fun _ _ => rfl)) zD (nomark _)))))) (zC (yG (zG G17x (hr.mono (by omega)) rfl A17x.gl A17x.fn.kp A17x.bd (zA (pv3 0) (zA (pv3 1) (zA (pv3 3) zB)))) (yD rfl (zP (i := 8) sc18x.nd rfl (Or.inl rfl) (zP (i := 9) sc18x.nd rfl (Or.inl rfl) zY (Or.inl rfl)) (Or.inl rfl))))
    (zH (zX (zV F.plainAttrs_list F.slot_list_append F.type_list_append yC (pv3 5) (zA (zF zJ (zF o3_mulS zE (pv3 2)) (pv3 9)) zB))))) (zC (yG (zG G19x hr rfl A19x.gl A19x.fn.kp A19x.bd (zA (pv3 0) (zA (pv3 1) (zA (pv3 2) (zA (pv3 3) (zA (pv3 7) zB)))))) (yD rfl (zP (i := 8) sc18x.nd rfl (Or.inl rfl) (zP (i := 10) sc18x.nd rfl (Or.inl rfl) zY (Or.inl rfl)) (Or.inl rfl))))
    (zH (zX (zV F.plainAttrs_list F.slot_list_extend F.type_list_extend yR (pv3 5) (zA (pv3 10) zB))))))
    (zH (zX (zV F.plainAttrs_list F.slot_list_append F.type_list_append yC (pv3 4) (zA (pv3 8) zB)))))) zO))))
    exact zH (zL (zM (zA (yB yV rfl B.tuple_ b3_tuple (zA (pv3 4) zB)) (zA (pv3 5) zB))))
set_option maxHeartbeats 4000000 in
theorem ok18x {f : Addr} {fd : FuncData} (B : Blt mg) (C : Cst K w.params mg) {f10x : Addr} {fd10x : FuncData} (A10x : FnAt K mg "_law_draw" s10x ["_law_pen_here", "_law_many"] f10x fd10x) (G10x : FnOk P w K mg base CX0 1 f10x fd10x ["_law_pen_here", "_law_many"] (dnSp K P2.spDraw)) {f17x : Addr} {fd17x : FuncData} (A17x : FnAt K mg "_law_plain" s17x ["_law_pen_here", "_law_facts", "_law_in_while"] f17x fd17x) (G17x : FnOk P w K mg base CX0 10 f17x fd17x ["_law_pen_here", "_law_facts", "_law_in_while"] (dnSp K P3.spPlain)) {kr lv : Nat} {f18x : Addr} {fd18x : FuncData} (A18x : FnAt K mg "_law_block" s18x ["_law_pen_here", "_law_facts", "_law_deep", "_law_in_while"] f18x fd18x) (G18x : FnOk P w K mg base CX0 kr f18x fd18x ["_law_pen_here", "_law_facts", "_law_deep", "_law_in_while"] (dnSp K (spBlock lv))) {f19x : Addr} {fd19x : FuncData} (A19x : FnAt K mg "_law_long" s19x ["_law_pen_here", "_law_facts", "_law_deep", "_law_in_while", "_law_kind"] f19x fd19x) (G19x : FnOk P w K mg base CX0 kr f19x fd19x ["_law_pen_here", "_law_facts", "_law_deep", "_law_in_while", "_law_kind"] (dnSp K (spLong lv))) (hkr : 12 ≤ kr) (F : FnAt K mg "_law_block" s18x ["_law_pen_here", "_law_facts", "_law_deep", "_law_in_while"] f fd) : FnOk P w K mg base CX0 (kr + 1) f fd ["_law_pen_here", "_law_facts", "_law_deep", "_law_in_while"] (dnSp K (spBlock (lv + 1))) :=
  L3.Fun.ok3 F.fn sc18x (len__law_block (lv + 1)) fun cdv A outer s H E hr => ⟨t__law_block (spBlock lv) (spLong lv), dv18x B C A10x G10x A17x G17x A18x G18x A19x G19x hkr hr, rd__law_block lv⟩
theorem sc19x : FnScope N__law_long ["_law_pen_here", "_law_facts", "_law_deep", "_law_in_while", "_law_kind"] (defScope s19x) := ⟨rfl, rfl, rfl, by decide +kernel, rfl, by decide +kernel, by decide +kernel⟩
set_option maxHeartbeats 4000000 in
theorem dv19x {f : Addr} {cdv : Value} {A : Around} {outer : List Env} {s : Shared} {H : Hp} {E : XK} (B : Blt mg) (C : Cst K w.params mg) {f15x : Addr} {fd15x : FuncData} (A15x : FnAt K mg "_law_expression" s15x ["_law_pen_here", "_law_facts", "_law_deep", "_law_parts"] f15x fd15x) (G15x : FnOk P w K mg base CX0 9 f15x fd15x ["_law_pen_here", "_law_facts", "_law_deep", "_law_parts"] (dnSp K (P2.spExpr 5))) {f10x : Addr} {fd10x : FuncData} (A10x : FnAt K mg "_law_draw" s10x ["_law_pen_here", "_law_many"] f10x fd10x) (G10x : FnOk P w K mg base CX0 1 f10x fd10x ["_law_pen_here", "_law_many"] (dnSp K P2.spDraw)) {f16x : Addr} {fd16x : FuncData} (A16x : FnAt K mg "_law_word" s16x ["_law_pen_here"] f16x fd16x) (G16x : FnOk P w K mg base CX0 3 f16x fd16x ["_law_pen_here"] (dnSp K P3.spWord)) {kr : Nat} {q18x q19x : Sp3} {f18x : Addr} {fd18x : FuncData} (A18x : FnAt K mg "_law_block" s18x ["_law_pen_here", "_law_facts", "_law_deep", "_law_in_while"] f18x fd18x) (G18x : FnOk P w K mg base CX0 kr f18x fd18x ["_law_pen_here", "_law_facts", "_law_deep", "_law_in_while"] (dnSp K q18x)) {f19x : Addr} {fd19x : FuncData} (A19x : FnAt K mg "_law_long" s19x ["_law_pen_here", "_law_facts", "_law_deep", "_law_in_while", "_law_kind"] f19x fd19x) (G19x : FnOk P w K mg base CX0 kr f19x fd19x ["_law_pen_here", "_law_facts", "_law_deep", "_law_in_while", "_law_kind"] (dnSp K q19x)) (hkr : 12 ≤ kr)
    (hr : Room kr (A.deeper (envOfC "_law_long" (defScope s19x) s.heap.objs.size f cdv))) :
    PSs3 (cxOf CX0 P w K mg base N__law_long "_law_long" (defScope s19x) f cdv A outer s H E).nox (defBody s19x) (t__law_long q18x q19x) := by
    unfold t__law_long
    refine zC ?_ ?_
    · exact (zI (i := 5) sc19x.nd rfl (Or.inl rfl) (zF o3_mulS zE (pv3 2)))
    refine zC ?_ ?_
    · exact (zI (i := 6) sc19x.nd rfl (Or.inl rfl) (zG G15x (hr.mono (by omega)) rfl A15x.gl A15x.fn.kp A15x.bd (zA (pv3 0) (zA (pv3 1) (zA zD (zA (zR (hu3 hr) (pv3 1) zE (fun _ _ => rfl)) zB))))))
    refine zC ?_ ?_
    · exact (yG (zG G18x hr rfl A18x.gl A18x.fn.kp A18x.bd (zA (pv3 0) (zA (pv3 1) (zA (zF zJ (pv3 2) zD) (zA (pe3_or (pv3 3) (pe3_one (yY (zU hr) (pv3 4) zD (nomark _)))) zB))))) (yD rfl (zP (i := 7) sc19x.nd rfl (Or.inl rfl) (zP (i := 8) sc19x.nd rfl (Or.inl rfl) zY (Or.inl rfl)) (Or.inl rfl))))
    refine zC ?_ ?_
    · exact (zQ (zN (zU hr) (pv3 4) zD (nomark _)) (zH (zL (zM (zA (zM (zA zE (zA (zK (pv3 6) zD (fun _ _ => rfl)) (zA (pv3 7) zB)))) (zA (zF yF (zZ (zA (zF zJ (zF zJ (pv3 5) zE) (zK (pv3 6) zD (fun _ _ => rfl))) zB)) (pv3 8)) zB))))) zO)
    refine zC ?_ ?_
    · exact (zQ (zN (zU hr) (pv3 4) zD (nomark _)) (zC (zI (i := 8) sc19x.nd rfl (Or.inl rfl) (zF yF (zZ (zA (zF zJ (zF zJ (pv3 5) zE) (zK (pv3 6) zD (fun _ _ => rfl))) zB)) (pv3 8)))
    (zC (zI (i := 9) sc19x.nd rfl (Or.inl rfl) (zM zB))
    (zC (zQ (zN (zU hr) (zG G10x (hr.mono (by omega)) rfl A10x.gl A10x.fn.kp A10x.bd (zA (pv3 0) (zA zD zB))) zD (nomark _)) (zC (yG (zG G18x hr rfl A18x.gl A18x.fn.kp A18x.bd (zA (pv3 0) (zA (pv3 1) (zA (zF zJ (pv3 2) zD) (zA (pv3 3) zB))))) (yD rfl (zP (i := 9) sc19x.nd rfl (Or.inl rfl) (zP (i := 10) sc19x.nd rfl (Or.inl rfl) zY (Or.inl rfl)) (Or.inl rfl))))
    (zH (zI (i := 8) sc19x.nd rfl (Or.inl rfl) (zF yF (zF yF (pv3 8) (zZ (zA (zF zJ (pv3 5) zE) zB))) (pv3 10))))) zO)
    (zH (zL (zM (zA (zM (zA zE (zA (zK (pv3 6) zD (fun _ _ => rfl)) (zA (pv3 7) (zA (pv3 9) zB))))) (zA (pv3 8) zB)))))))) zO)
    refine zC ?_ ?_
    · exact (zI (i := 8) sc19x.nd rfl (Or.inl rfl) (zF yF (zZ (zA (zF zJ (pv3 5) zE) zB)) (pv3 8)))
    refine zC ?_ ?_
    · exact (zI (i := 11) sc19x.nd rfl (Or.inl rfl) (yA zB))
    refine zC ?_ ?_
    · exact (zI (i := 12) sc19x.nd rfl (Or.inl rfl) (zG G10x (hr.mono (by omega)) rfl A10x.gl A10x.fn.kp A10x.bd (zA (pv3 0) (zA zD zB))))
    refine zC ?_ ?_
    · exact (yQ PassesOwn.never rfl (yE rfl B.range_ (zA (pv3 12) zB)) sc19x.nd rfl (Or.inl rfl) (zC (zI (i := 14) sc19x.nd rfl (Or.inl rfl) (zK (zZ (zA (zG G16x (hr.mono (by omega)) rfl A16x.gl A16x.fn.kp A16x.bd (zA (pv3 0) zB)) (zA zE zB))) (zF yW (zG G10x (hr.mono (by omega)) rfl A10x.gl A10x.fn.kp A10x.bd (zA (pv3 0) (zA zD zB))) zD) (fun _ _ => rfl)))
    (zC (zI (i := 15) sc19x.nd rfl (Or.inl rfl) (zK (zR (hu3 hr) (pv3 1) zE (fun _ _ => rfl)) (zG G10x (hr.mono (by omega)) rfl A10x.gl A10x.fn.kp A10x.bd (zA (pv3 0) (zA (zS yO rfl B.len_ b3_len (zA (zR (hu3 hr) (pv3 1) zE (fun _ _ => rfl)) zB)) zB))) (fun _ _ => rfl)))
    (zC (yG (zG G18x hr rfl A18x.gl A18x.fn.kp A18x.bd (zA (pv3 0) (zA (pv3 1) (zA (zF zJ (pv3 2) zD) (zA (pv3 3) zB))))) (yD rfl (zP (i := 16) sc19x.nd rfl (Or.inl rfl) (zP (i := 10) sc19x.nd rfl (Or.inl rfl) zY (Or.inl rfl)) (Or.inl rfl))))
    (zC (zX (zV F.plainAttrs_list F.slot_list_append F.type_list_append yC (pv3 11) (zA (zM (zA (pv3 14) (zA (pv3 15) (zA (pv3 16) zB)))) zB)))
    (zH (zI (i := 8) sc19x.nd rfl (Or.inl rfl) (zF yF (zF yF (pv3 8) (zZ (zA (zF zJ (zF zJ (zF zJ (zF zJ (pv3 5) zE) (pv3 14)) zE) (pv3 15)) zB))) (pv3 10)))))))))
    refine zC ?_ ?_
    · exact (zI (i := 17) sc19x.nd rfl (Or.inl rfl) (zM zB))
    refine zC ?_ ?_
    · exact (zQ (PW3.pt (wC (zN (zU hr) (pv3 12) zD (nomark _)) (yZ (zN (zU hr) (zG G10x (hr.mono (by omega)) rfl A10x.gl A10x.fn.kp A10x.bd (zA (pv3 0) (zA zD zB))) zD (nomark _))))) (zC (yG (zG G18x hr rfl A18x.gl A18x.fn.kp A18x.bd (zA (pv3 0) (zA (pv3 1) (zA (zF zJ (pv3 2) zD) (zA (pv3 3) zB))))) (yD rfl (zP (i := 17) sc19x.nd rfl (Or.inl rfl) (zP (i := 10) sc19x.nd rfl (Or.inl rfl) zY (Or.inl rfl)) (Or.inl rfl))))
    (zH (zI (i := 8) sc19x.nd rfl (Or.inl rfl) (zF yF (zF yF (pv3 8) (zZ (zA (zF zJ (pv3 5) zE) zB))) (pv3 10))))) zO)
    exact zH (zL (zM (zA (zM (zA zE (zA (pv3 7) (zA (yB yV rfl B.tuple_ b3_tuple (zA (pv3 11) zB)) (zA (pv3 17) zB))))) (zA (pv3 8) zB))))
set_option maxHeartbeats 4000000 in
theorem ok19x {f : Addr} {fd : FuncData} (B : Blt mg) (C : Cst K w.params mg) {f15x : Addr} {fd15x : FuncData} (A15x : FnAt K mg "_law_expression" s15x ["_law_pen_here", "_law_facts", "_law_deep", "_law_parts"] f15x fd15x) (G15x : FnOk P w K mg base CX0 9 f15x fd15x ["_law_pen_here", "_law_facts", "_law_deep", "_law_parts"] (dnSp K (P2.spExpr 5))) {f10x : Addr} {fd10x : FuncData} (A10x : FnAt K mg "_law_draw" s10x ["_law_pen_here", "_law_many"] f10x fd10x) (G10x : FnOk P w K mg base CX0 1 f10x fd10x ["_law_pen_here", "_law_many"] (dnSp K P2.spDraw)) {f16x : Addr} {fd16x : FuncData} (A16x : FnAt K mg "_law_word" s16x ["_law_pen_here"] f16x fd16x) (G16x : FnOk P w K mg base CX0 3 f16x fd16x ["_law_pen_here"] (dnSp K P3.spWord)) {kr lv : Nat} {f18x : Addr} {fd18x : FuncData} (A18x : FnAt K mg "_law_block" s18x ["_law_pen_here", "_law_facts", "_law_deep", "_law_in_while"] f18x fd18x) (G18x : FnOk P w K mg base CX0 kr f18x fd18x ["_law_pen_here", "_law_facts", "_law_deep", "_law_in_while"] (dnSp K (spBlock lv))) {f19x : Addr} {fd19x : FuncData} (A19x : FnAt K mg "_law_long" s19x ["_law_pen_here", "_law_facts", "_law_deep", "_law_in_while", "_law_kind"] f19x fd19x) (G19x : FnOk P w K mg base CX0 kr f19x fd19x ["_law_pen_here", "_law_facts", "_law_deep", "_law_in_while", "_law_kind"] (dnSp K (spLong lv))) (hkr : 12 ≤ kr) (F : FnAt K mg "_law_long" s19x ["_law_pen_here", "_law_facts", "_law_deep", "_law_in_while", "_law_kind"] f fd) : FnOk P w K mg base CX0 (kr + 1) f fd ["_law_pen_here", "_law_facts", "_law_deep", "_law_in_while", "_law_kind"] (dnSp K (spLong (lv + 1))) :=
  L3.Fun.ok3 F.fn sc19x (len__law_long (lv + 1)) fun cdv A outer s H E hr => ⟨t__law_long (spBlock lv) (spLong lv), dv19x B C A15x G15x A10x G10x A16x G16x A18x G18x A19x G19x hkr hr, rd__law_long lv⟩
theorem grp19x (B : Blt mg) (C : Cst K w.params mg) {f10x : Addr} {fd10x : FuncData} (A10x : FnAt K mg "_law_draw" s10x ["_law_pen_here", "_law_many"] f10x fd10x) (G10x : FnOk P w K mg base CX0 1 f10x fd10x ["_law_pen_here", "_law_many"] (dnSp K P2.spDraw)) {f17x : Addr} {fd17x : FuncData} (A17x : FnAt K mg "_law_plain" s17x ["_law_pen_here", "_law_facts", "_law_in_while"] f17x fd17x) (G17x : FnOk P w K mg base CX0 10 f17x fd17x ["_law_pen_here", "_law_facts", "_law_in_while"] (dnSp K P3.spPlain)) {f15x : Addr} {fd15x : FuncData} (A15x : FnAt K mg "_law_expression" s15x ["_law_pen_here", "_law_facts", "_law_deep", "_law_parts"] f15x fd15x) (G15x : FnOk P w K mg base CX0 9 f15x fd15x ["_law_pen_here", "_law_facts", "_law_deep", "_law_parts"] (dnSp K (P2.spExpr 5))) {f16x : Addr} {fd16x : FuncData} (A16x : FnAt K mg "_law_word" s16x ["_law_pen_here"] f16x fd16x) (G16x : FnOk P w K mg base CX0 3 f16x fd16x ["_law_pen_here"] (dnSp K P3.spWord)) {f18x : Addr} {fd18x : FuncData} (A18x : FnAt K mg "_law_block" s18x ["_law_pen_here", "_law_facts", "_law_deep", "_law_in_while"] f18x fd18x) {f19x : Addr} {fd19x : FuncData} (A19x : FnAt K mg "_law_long" s19x ["_law_pen_here", "_law_facts", "_law_deep", "_law_in_while", "_law_kind"] f19x fd19x) : ∀ lv : Nat, FnOk P w K mg base CX0 (12 + lv) f18x fd18x ["_law_pen_here", "_law_facts", "_law_deep", "_law_in_while"] (dnSp K (spBlock lv)) ∧ FnOk P w K mg base CX0 (12 + lv) f19x fd19x ["_law_pen_here", "_law_facts", "_law_deep", "_law_in_while", "_law_kind"] (dnSp K (spLong lv))
  | 0 => ⟨fnOk_zero len__law_block zero__law_block, fnOk_zero len__law_long zero__law_long⟩
  | lv + 1 => by
    obtain ⟨G18x, G19x⟩ := grp19x B C A10x G10x A17x G17x A15x G15x A16x G16x A18x A19x lv
    exact ⟨ok18x B C A10x G10x A17x G17x A18x G18x A19x G19x (Nat.le_add_right _ _) A18x, ok19x B C A15x G15x A10x G10x A16x G16x A18x G18x A19x G19x (Nat.le_add_right _ _) A19x⟩
abbrev s20x : Stmt := top 25
theorem sc20x : FnScope N__law_book ["_law_pen_here"] (defScope s20x) := ⟨rfl, rfl, rfl, by decide +kernel, rfl, by decide +kernel, by decide +kernel⟩
set_option maxHeartbeats 4000000 in
theorem dv20x {f : Addr} {cdv : Value} {A : Around} {outer : List Env} {s : Shared} {H : Hp} {E : XK} (B : Blt mg) (C : Cst K w.params mg) {f10x : Addr} {fd10x : FuncData} (A10x : FnAt K mg "_law_draw" s10x ["_law_pen_here", "_law_many"] f10x fd10x) (G10x : FnOk P w K mg base CX0 1 f10x fd10x ["_law_pen_here", "_law_many"] (dnSp K P2.spDraw)) {f12x : Addr} {fd12x : FuncData} (A12x : FnAt K mg "_law_names" s12x ["_law_pen_here", "_law_many"] f12x fd12x) (G12x : FnOk P w K mg base CX0 3 f12x fd12x ["_law_pen_here", "_law_many"] (dnSp K P2.spNames)) {f18x : Addr} {fd18x : FuncData} (A18x : FnAt K mg "_law_block" s18x ["_law_pen_here", "_law_facts", "_law_deep", "_law_in_while"] f18x fd18x) (G18x : FnOk P w K mg base CX0 24 f18x fd18x ["_law_pen_here", "_law_facts", "_law_deep", "_law_in_while"] (dnSp K (spBlock 12)))
    (hr : Room 24 (A.deeper (envOfC "_law_book" (defScope s20x) s.heap.objs.size f cdv))) :
    PSs3 (cxOf CX0 P w K mg base N__law_book "_law_book" (defScope s20x) f cdv A outer s H E).nox (defBody s20x) t__law_book := by
    unfold t__law_book
    refine zC ?_ ?_
    · exact (zI (i := 1) sc20x.nd rfl (Or.inl rfl) (zF zJ zD (zG G10x (hr.mono (by decide)) rfl A10x.gl A10x.fn.kp A10x.bd (zA (pv3 0) (zA (zK (zZ (zA zD (zA zD zB))) (zG G10x (hr.mono (by decide)) rfl A10x.gl A10x.fn.kp A10x.bd (zA (pv3 0) (zA zD zB))) (fun _ _ => rfl)) zB)))))
    refine zC ?_ ?_
    · exact (zI (i := 2) sc20x.nd rfl (Or.inl rfl) (yB c3_int rfl B.int_ b3_int (zA (yY wD (pv3 1) zD (nomark _)) zB)))
    refine zC ?_ ?_
    · exact (zI (i := 3) sc20x.nd rfl (Or.inl rfl) (pe3_dispM (yI zE (zG G12x (hr.mono (by decide)) rfl A12x.gl A12x.fn.kp A12x.bd (zA (pv3 0) (zA zD zB))) (yI zE (yA zB) (yI zE (zK (zZ (zA zD (zA zD zB))) (pv3 2) (fun _ _ => rfl)) (yI zE zD pps3_nil)))) rfl rfl (by simp) (by decide)))
    refine zC ?_ ?_
    · exact (yQ PassesOwn.never rfl (wK (zG G12x (hr.mono (by decide)) rfl A12x.gl A12x.fn.kp A12x.bd (zA (pv3 0) (zA (pv3 1) zB)))) sc20x.nd rfl (Or.inl rfl) (zH (zX (zV F.plainAttrs_list F.slot_list_append F.type_list_append yC (zR (hu3 hr) (pv3 3) zE (fun _ _ => rfl)) (zA (zM (zA (pv3 4) (zA (zG G10x (hr.mono (by decide)) rfl A10x.gl A10x.fn.kp A10x.bd (zA (pv3 0) (zA zD zB))) zB))) zB)))))
    refine zC ?_ ?_
    · exact (zI (i := 5) sc20x.nd rfl (Or.inl rfl) (yA zB))
    refine zC ?_ ?_
    · exact (zI (i := 6) sc20x.nd rfl (Or.inl rfl) (yA zB))
    refine zC ?_ ?_
    · exact (ps3_forR PassesOwn.never rfl (zR (hu3 hr) (pv3 3) zE (fun _ _ => rfl)) (yD rfl (zP (i := 4) sc20x.nd rfl (Or.inl rfl) (zP (i := 7) sc20x.nd rfl (Or.inl rfl) zY (Or.inl rfl)) (Or.inl rfl))) (zC (yU (hu3 hr) (pv3 3) zE (zK (zZ (zA zD (zA zD zB))) (pv3 2) (fun _ _ => rfl)) rfl)
    (zC (zI (i := 8) sc20x.nd rfl (Or.inl rfl) (zG G10x (hr.mono (by decide)) rfl A10x.gl A10x.fn.kp A10x.bd (zA (pv3 0) (zA (zF yL zD (pv3 7)) zB))))
    (zC (zI (i := 9) sc20x.nd rfl (Or.inl rfl) (wF (zR (hu3 hr) (pv3 3) zE (fun _ _ => rfl)) (yT (pv3 8)) (yT (zF zJ (pv3 8) (pv3 7)))))
    (zC (yG (zG G18x (hr.mono (by decide)) rfl A18x.gl A18x.fn.kp A18x.bd (zA (pv3 0) (zA (pv3 3) (zA zD (zA pe3_bl zB))))) (yD rfl (zP (i := 10) sc20x.nd rfl (Or.inl rfl) (zP (i := 11) sc20x.nd rfl (Or.inl rfl) zY (Or.inl rfl)) (Or.inl rfl))))
    (zC (zX (zV F.plainAttrs_list F.slot_list_append F.type_list_append yC (pv3 5) (zA (zM (zA (pv3 4) (zA (yB yV rfl B.tuple_ b3_tuple (zA (pv3 9) zB)) (zA (pv3 10) zB)))) zB)))
    (zC (zX (zV F.plainAttrs_list F.slot_list_append F.type_list_append yC (pv3 6) (zA (zF zJ (zF zJ (zF zJ (zF zJ zE (pv3 4)) zE) (zV F.plainAttrs_str F.slot_str_join F.type_str_join yP zE (zA (pv3 9) zB))) zE) zB)))
    (zH (zX (zV F.plainAttrs_list F.slot_list_extend F.type_list_extend yR (pv3 6) (zA (pv3 11) zB)))))))))))
    refine wA 6 ?_
    exact zH (zL (zM (zA (yB yV rfl B.tuple_ b3_tuple (zA (pv3 5) zB)) (zA (zV F.plainAttrs_str F.slot_str_join F.type_str_join yP zE (zA (pv3 6) zB)) zB))))
set_option maxHeartbeats 4000000 in
theorem ok20x {f : Addr} {fd : FuncData} (B : Blt mg) (C : Cst K w.params mg) {f10x : Addr} {fd10x : FuncData} (A10x : FnAt K mg "_law_draw" s10x ["_law_pen_here", "_law_many"] f10x fd10x) (G10x : FnOk P w K mg base CX0 1 f10x fd10x ["_law_pen_here", "_law_many"] (dnSp K P2.spDraw)) {f12x : Addr} {fd12x : FuncData} (A12x : FnAt K mg "_law_names" s12x ["_law_pen_here", "_law_many"] f12x fd12x) (G12x : FnOk P w K mg base CX0 3 f12x fd12x ["_law_pen_here", "_law_many"] (dnSp K P2.spNames)) {f18x : Addr} {fd18x : FuncData} (A18x : FnAt K mg "_law_block" s18x ["_law_pen_here", "_law_facts", "_law_deep", "_law_in_while"] f18x fd18x) (G18x : FnOk P w K mg base CX0 24 f18x fd18x ["_law_pen_here", "_law_facts", "_law_deep", "_law_in_while"] (dnSp K (spBlock 12))) (F : FnAt K mg "_law_book" s20x ["_law_pen_here"] f fd) : FnOk P w K mg base CX0 25 f fd ["_law_pen_here"] (dnSp K spBook) :=
  L3.Fun.ok3 F.fn sc20x len__law_book fun cdv A outer s H E hr => ⟨t__law_book, @dv20x P w K mg base f cdv A outer s H E B C f10x fd10x A10x G10x f12x fd12x A12x G12x f18x fd18x A18x G18x hr, rd__law_book⟩
abbrev s21x : Stmt := top 26
theorem sc21x : FnScope N_law ["_law_script"] (defScope s21x) := ⟨rfl, rfl, rfl, by decide +kernel, rfl, by decide +kernel, by decide +kernel⟩
set_option maxHeartbeats 4000000 in
theorem dv21x {f : Addr} {cdv : Value} {A : Around} {outer : List Env} {s : Shared} {H : Hp} {E : XK} (B : Blt mg) (C : Cst K w.params mg) {f9x : Addr} {fd9x : FuncData} (A9x : FnAt K mg "_law_pen" s9x ["_law_script"] f9x fd9x) (G9x : FnOk P w K mg base CX0 1 f9x fd9x ["_law_script"] (dnSp K P2.spPen)) {f20x : Addr} {fd20x : FuncData} (A20x : FnAt K mg "_law_book" s20x ["_law_pen_here"] f20x fd20x) (G20x : FnOk P w K mg base CX0 25 f20x fd20x ["_law_pen_here"] (dnSp K spBook)) {f8x : Addr} {fd8x : FuncData} (A8x : FnAt K mg "book_text" s8x ["book"] f8x fd8x) (G8x : FnOk P w K mg base CX0 51 f8x fd8x ["book"] (dnSp K P3.spBookT))
    (hr : Room 52 (A.deeper (envOfC "law" (defScope s21x) s.heap.objs.size f cdv))) :
    PSs3 (cxOf CX0 P w K mg base N_law "law" (defScope s21x) f cdv A outer s H E).nox (defBody s21x) t_law := by
    unfold t_law
    refine zC ?_ ?_
    · exact (yG (zG G20x (hr.mono (by decide)) rfl A20x.gl A20x.fn.kp A20x.bd (zA (zG G9x (hr.mono (by decide)) rfl A9x.gl A9x.fn.kp A9x.bd (zA (pv3 0) zB)) zB)) (yD rfl (zP (i := 1) sc21x.nd rfl (Or.inl rfl) (zP (i := 2) sc21x.nd rfl (Or.inl rfl) zY (Or.inl rfl)) (Or.inl rfl))))
    refine zC ?_ ?_
    · exact (zI (i := 3) sc21x.nd rfl (Or.inl rfl) (zG G8x (hr.mono (by decide)) rfl A8x.gl A8x.fn.kp A8x.bd (zA (pv3 1) zB)))
    exact zH (zL (pe3_and (zS c3_isi rfl B.isinstance_ b3_isinstance (zA (pv3 3) (zA (pe3_bltn (d := .ty "str") (v := .ty "str") rfl B.str_ b3_str rfl (fun _ _ _ => .ty)) zB))) (pe3_and (yY (zU hr) (pv3 3) (pv3 2) (nomark _)) (pe3_one (yY (zU hr) (zG G8x (hr.mono (by decide)) rfl A8x.gl A8x.fn.kp A8x.bd (zA (pv3 1) zB)) (pv3 2) (nomark _))))))
set_option maxHeartbeats 4000000 in
theorem ok21x {f : Addr} {fd : FuncData} (B : Blt mg) (C : Cst K w.params mg) {f9x : Addr} {fd9x : FuncData} (A9x : FnAt K mg "_law_pen" s9x ["_law_script"] f9x fd9x) (G9x : FnOk P w K mg base CX0 1 f9x fd9x ["_law_script"] (dnSp K P2.spPen)) {f20x : Addr} {fd20x : FuncData} (A20x : FnAt K mg "_law_book" s20x ["_law_pen_here"] f20x fd20x) (G20x : FnOk P w K mg base CX0 25 f20x fd20x ["_law_pen_here"] (dnSp K spBook)) {f8x : Addr} {fd8x : FuncData} (A8x : FnAt K mg "book_text" s8x ["book"] f8x fd8x) (G8x : FnOk P w K mg base CX0 51 f8x fd8x ["book"] (dnSp K P3.spBookT)) (F : FnAt K mg "law" s21x ["_law_script"] f fd) : FnOk P w K mg base CX0 53 f fd ["_law_script"] (dnSp K L3.spLaw3) :=
  L3.Fun.ok3 F.fn sc21x len_law fun cdv A outer s H E hr => ⟨t_law, @dv21x P w K mg base f cdv A outer s H E B C f9x fd9x A9x G9x f20x fd20x A20x G20x f8x fd8x A8x G8x hr, rd_law⟩
end
theorem all_mk {l : PySem.W.OpenLaw} {w : World} {K : PySem.W.Frag} {h : Heap} {mg : Str → Option Value} {fa : Addr} (X : K.In h) (G : h.Ns mainGlobals mg) (hfa : mg "law" = some (.ref fa))
    {f0x : Addr} {od0x an0x : Option Addr} {sl0x : Array (Option Value)} {oc0x kV0x dc0x pm0x cd0x ct0x : Value}
    {f1x : Addr} {od1x an1x : Option Addr} {sl1x : Array (Option Value)} {oc1x kV1x dc1x pm1x cd1x ct1x : Value}
    {f2x : Addr} {od2x an2x : Option Addr} {sl2x : Array (Option Value)} {oc2x kV2x dc2x pm2x cd2x ct2x : Value}
    {f3x : Addr} {od3x an3x : Option Addr} {sl3x : Array (Option Value)} {oc3x kV3x dc3x pm3x cd3x ct3x : Value}
    {f4x : Addr} {od4x an4x : Option Addr} {sl4x : Array (Option Value)} {oc4x kV4x dc4x pm4x cd4x ct4x : Value}
    {f5x : Addr} {od5x an5x : Option Addr} {sl5x : Array (Option Value)} {oc5x kV5x dc5x pm5x cd5x ct5x : Value}
    {f6x : Addr} {od6x an6x : Option Addr} {sl6x : Array (Option Value)} {oc6x kV6x dc6x pm6x cd6x ct6x : Value}
    {f7x : Addr} {od7x an7x : Option Addr} {sl7x : Array (Option Value)} {oc7x kV7x dc7x pm7x cd7x ct7x : Value}
    {f8x : Addr} {od8x an8x : Option Addr} {sl8x : Array (Option Value)} {oc8x kV8x dc8x pm8x cd8x ct8x : Value}
    {f9x : Addr} {od9x an9x : Option Addr} {sl9x : Array (Option Value)} {oc9x kV9x dc9x pm9x cd9x ct9x : Value}
    {f10x : Addr} {od10x an10x : Option Addr} {sl10x : Array (Option Value)} {oc10x kV10x dc10x pm10x cd10x ct10x : Value}
    {f11x : Addr} {od11x an11x : Option Addr} {sl11x : Array (Option Value)} {oc11x kV11x dc11x pm11x cd11x ct11x : Value}
    {f12x : Addr} {od12x an12x : Option Addr} {sl12x : Array (Option Value)} {oc12x kV12x dc12x pm12x cd12x ct12x : Value}
    {f13x : Addr} {od13x an13x : Option Addr} {sl13x : Array (Option Value)} {oc13x kV13x dc13x pm13x cd13x ct13x : Value}
    {f14x : Addr} {od14x an14x : Option Addr} {sl14x : Array (Option Value)} {oc14x kV14x dc14x pm14x cd14x ct14x : Value}
    {f15x : Addr} {od15x an15x : Option Addr} {sl15x : Array (Option Value)} {oc15x kV15x dc15x pm15x cd15x ct15x : Value}
    {f16x : Addr} {od16x an16x : Option Addr} {sl16x : Array (Option Value)} {oc16x kV16x dc16x pm16x cd16x ct16x : Value}
    {f17x : Addr} {od17x an17x : Option Addr} {sl17x : Array (Option Value)} {oc17x kV17x dc17x pm17x cd17x ct17x : Value}
    {f18x : Addr} {od18x an18x : Option Addr} {sl18x : Array (Option Value)} {oc18x kV18x dc18x pm18x cd18x ct18x : Value}
    {f19x : Addr} {od19x an19x : Option Addr} {sl19x : Array (Option Value)} {oc19x kV19x dc19x pm19x cd19x ct19x : Value}
    {f20x : Addr} {od20x an20x : Option Addr} {sl20x : Array (Option Value)} {oc20x kV20x dc20x pm20x cd20x ct20x : Value}
    {f21x : Addr} {od21x an21x : Option Addr} {sl21x : Array (Option Value)} {oc21x kV21x dc21x pm21x cd21x ct21x : Value}
    {a_KINDS : Addr}
    {tk_KINDS_0 tk_KINDS_1 tk_KINDS_2 tk_KINDS_3 tk_KINDS_4 : Tok} {od_KINDS : Option Addr} {n_KINDS : Nat} {sl_KINDS : Array (Option Value)}
    {a_LINES : Addr}
    {a_LINES_0 a_LINES_1 a_LINES_2 a_LINES_3 a_LINES_4 a_LINES_5 a_LINES_6 a_LINES_7 a_LINES_8 a_LINES_9 a_LINES_10 a_LINES_11 a_LINES_12 a_LINES_13 a_LINES_14 a_LINES_15 a_LINES_16 : Addr} {kt_LINES_0 kt_LINES_1 kt_LINES_2 kt_LINES_3 kt_LINES_4 kt_LINES_5 kt_LINES_6 kt_LINES_7 kt_LINES_8 kt_LINES_9 kt_LINES_10 kt_LINES_11 kt_LINES_12 kt_LINES_13 kt_LINES_14 kt_LINES_15 kt_LINES_16 : Tok} {ep_LINES : Nat}
    {tk_LINES_0_0 tk_LINES_0_1 tk_LINES_0_2 tk_LINES_0_3 tk_LINES_0_4 : Tok} {od_LINES_0 : Option Addr} {n_LINES_0 : Nat} {sl_LINES_0 : Array (Option Value)}
    {tk_LINES_1_0 tk_LINES_1_1 tk_LINES_1_2 : Tok} {od_LINES_1 : Option Addr} {n_LINES_1 : Nat} {sl_LINES_1 : Array (Option Value)}
    {tk_LINES_2_0 tk_LINES_2_1 : Tok} {od_LINES_2 : Option Addr} {n_LINES_2 : Nat} {sl_LINES_2 : Array (Option Value)}
    {tk_LINES_3_0 tk_LINES_3_1 tk_LINES_3_2 : Tok} {od_LINES_3 : Option Addr} {n_LINES_3 : Nat} {sl_LINES_3 : Array (Option Value)}
    {tk_LINES_4_0 tk_LINES_4_1 tk_LINES_4_2 : Tok} {od_LINES_4 : Option Addr} {n_LINES_4 : Nat} {sl_LINES_4 : Array (Option Value)}
    {tk_LINES_5_0 tk_LINES_5_1 tk_LINES_5_2 tk_LINES_5_3 tk_LINES_5_4 tk_LINES_5_5 tk_LINES_5_6 : Tok} {od_LINES_5 : Option Addr} {n_LINES_5 : Nat} {sl_LINES_5 : Array (Option Value)}
    {tk_LINES_6_0 tk_LINES_6_1 tk_LINES_6_2 tk_LINES_6_3 tk_LINES_6_4 tk_LINES_6_5 tk_LINES_6_6 tk_LINES_6_7 tk_LINES_6_8 : Tok} {od_LINES_6 : Option Addr} {n_LINES_6 : Nat} {sl_LINES_6 : Array (Option Value)}
    {tk_LINES_7_0 tk_LINES_7_1 : Tok} {od_LINES_7 : Option Addr} {n_LINES_7 : Nat} {sl_LINES_7 : Array (Option Value)}
    {tk_LINES_8_0 tk_LINES_8_1 : Tok} {od_LINES_8 : Option Addr} {n_LINES_8 : Nat} {sl_LINES_8 : Array (Option Value)}
    {tk_LINES_9_0 tk_LINES_9_1 tk_LINES_9_2 tk_LINES_9_3 : Tok} {od_LINES_9 : Option Addr} {n_LINES_9 : Nat} {sl_LINES_9 : Array (Option Value)}
    {tk_LINES_10_0 : Tok} {od_LINES_10 : Option Addr} {n_LINES_10 : Nat} {sl_LINES_10 : Array (Option Value)}
    {tk_LINES_11_0 tk_LINES_11_1 : Tok} {od_LINES_11 : Option Addr} {n_LINES_11 : Nat} {sl_LINES_11 : Array (Option Value)}
    {tk_LINES_12_0 : Tok} {od_LINES_12 : Option Addr} {n_LINES_12 : Nat} {sl_LINES_12 : Array (Option Value)}
    {tk_LINES_13_0 tk_LINES_13_1 : Tok} {od_LINES_13 : Option Addr} {n_LINES_13 : Nat} {sl_LINES_13 : Array (Option Value)}
    {tk_LINES_14_0 : Tok} {od_LINES_14 : Option Addr} {n_LINES_14 : Nat} {sl_LINES_14 : Array (Option Value)}
    {tk_LINES_15_0 tk_LINES_15_1 tk_LINES_15_2 tk_LINES_15_3 : Tok} {od_LINES_15 : Option Addr} {n_LINES_15 : Nat} {sl_LINES_15 : Array (Option Value)}
    {tk_LINES_16_0 : Tok} {od_LINES_16 : Option Addr} {n_LINES_16 : Nat} {sl_LINES_16 : Array (Option Value)}
    (a0x : PySem.W.nsIn K mainGlobals "worth_text" = some (some (.ref f0x))) (l0x : K.lookup f0x = some ⟨oc0x, od0x, .func (PySem.W.fnOf "worth_text" "worth_text" (defArgs s0x) (defBody s0x) (defScope s0x) .none kV0x dc0x pm0x an0x cd0x ct0x), sl0x⟩) (c0x : PySem.W.codeIn K cd0x "worth_text" = true) (k0x : PySem.W.keepIn K (.ref f0x) = true)
    (a1x : PySem.W.nsIn K mainGlobals "expression_text" = some (some (.ref f1x))) (l1x : K.lookup f1x = some ⟨oc1x, od1x, .func (PySem.W.fnOf "expression_text" "expression_text" (defArgs s1x) (defBody s1x) (defScope s1x) .none kV1x dc1x pm1x an1x cd1x ct1x), sl1x⟩) (c1x : PySem.W.codeIn K cd1x "expression_text" = true) (k1x : PySem.W.keepIn K (.ref f1x) = true)
    (a2x : PySem.W.nsIn K mainGlobals "part_text" = some (some (.ref f2x))) (l2x : K.lookup f2x = some ⟨oc2x, od2x, .func (PySem.W.fnOf "part_text" "part_text" (defArgs s2x) (defBody s2x) (defScope s2x) .none kV2x dc2x pm2x an2x cd2x ct2x), sl2x⟩) (c2x : PySem.W.codeIn K cd2x "part_text" = true) (k2x : PySem.W.keepIn K (.ref f2x) = true)
    (a3x : PySem.W.nsIn K mainGlobals "line_text" = some (some (.ref f3x))) (l3x : K.lookup f3x = some ⟨oc3x, od3x, .func (PySem.W.fnOf "line_text" "line_text" (defArgs s3x) (defBody s3x) (defScope s3x) .none kV3x dc3x pm3x an3x cd3x ct3x), sl3x⟩) (c3x : PySem.W.codeIn K cd3x "line_text" = true) (k3x : PySem.W.keepIn K (.ref f3x) = true)
    (a4x : PySem.W.nsIn K mainGlobals "headed_lines" = some (some (.ref f4x))) (l4x : K.lookup f4x = some ⟨oc4x, od4x, .func (PySem.W.fnOf "headed_lines" "headed_lines" (defArgs s4x) (defBody s4x) (defScope s4x) .none kV4x dc4x pm4x an4x cd4x ct4x), sl4x⟩) (c4x : PySem.W.codeIn K cd4x "headed_lines" = true) (k4x : PySem.W.keepIn K (.ref f4x) = true)
    (a5x : PySem.W.nsIn K mainGlobals "rest_lines" = some (some (.ref f5x))) (l5x : K.lookup f5x = some ⟨oc5x, od5x, .func (PySem.W.fnOf "rest_lines" "rest_lines" (defArgs s5x) (defBody s5x) (defScope s5x) .none kV5x dc5x pm5x an5x cd5x ct5x), sl5x⟩) (c5x : PySem.W.codeIn K cd5x "rest_lines" = true) (k5x : PySem.W.keepIn K (.ref f5x) = true)
    (a6x : PySem.W.nsIn K mainGlobals "try_lines" = some (some (.ref f6x))) (l6x : K.lookup f6x = some ⟨oc6x, od6x, .func (PySem.W.fnOf "try_lines" "try_lines" (defArgs s6x) (defBody s6x) (defScope s6x) .none kV6x dc6x pm6x an6x cd6x ct6x), sl6x⟩) (c6x : PySem.W.codeIn K cd6x "try_lines" = true) (k6x : PySem.W.keepIn K (.ref f6x) = true)
    (a7x : PySem.W.nsIn K mainGlobals "deed_lines" = some (some (.ref f7x))) (l7x : K.lookup f7x = some ⟨oc7x, od7x, .func (PySem.W.fnOf "deed_lines" "deed_lines" (defArgs s7x) (defBody s7x) (defScope s7x) .none kV7x dc7x pm7x an7x cd7x ct7x), sl7x⟩) (c7x : PySem.W.codeIn K cd7x "deed_lines" = true) (k7x : PySem.W.keepIn K (.ref f7x) = true)
    (a8x : PySem.W.nsIn K mainGlobals "book_text" = some (some (.ref f8x))) (l8x : K.lookup f8x = some ⟨oc8x, od8x, .func (PySem.W.fnOf "book_text" "book_text" (defArgs s8x) (defBody s8x) (defScope s8x) .none kV8x dc8x pm8x an8x cd8x ct8x), sl8x⟩) (c8x : PySem.W.codeIn K cd8x "book_text" = true) (k8x : PySem.W.keepIn K (.ref f8x) = true)
    (a9x : PySem.W.nsIn K mainGlobals "_law_pen" = some (some (.ref f9x))) (l9x : K.lookup f9x = some ⟨oc9x, od9x, .func (PySem.W.fnOf "_law_pen" "_law_pen" (defArgs s9x) (defBody s9x) (defScope s9x) .none kV9x dc9x pm9x an9x cd9x ct9x), sl9x⟩) (c9x : PySem.W.codeIn K cd9x "_law_pen" = true) (k9x : PySem.W.keepIn K (.ref f9x) = true)
    (a10x : PySem.W.nsIn K mainGlobals "_law_draw" = some (some (.ref f10x))) (l10x : K.lookup f10x = some ⟨oc10x, od10x, .func (PySem.W.fnOf "_law_draw" "_law_draw" (defArgs s10x) (defBody s10x) (defScope s10x) .none kV10x dc10x pm10x an10x cd10x ct10x), sl10x⟩) (c10x : PySem.W.codeIn K cd10x "_law_draw" = true) (k10x : PySem.W.keepIn K (.ref f10x) = true)
    (a11x : PySem.W.nsIn K mainGlobals "_law_letters" = some (some (.ref f11x))) (l11x : K.lookup f11x = some ⟨oc11x, od11x, .func (PySem.W.fnOf "_law_letters" "_law_letters" (defArgs s11x) (defBody s11x) (defScope s11x) .none kV11x dc11x pm11x an11x cd11x ct11x), sl11x⟩) (c11x : PySem.W.codeIn K cd11x "_law_letters" = true) (k11x : PySem.W.keepIn K (.ref f11x) = true)
    (a12x : PySem.W.nsIn K mainGlobals "_law_names" = some (some (.ref f12x))) (l12x : K.lookup f12x = some ⟨oc12x, od12x, .func (PySem.W.fnOf "_law_names" "_law_names" (defArgs s12x) (defBody s12x) (defScope s12x) .none kV12x dc12x pm12x an12x cd12x ct12x), sl12x⟩) (c12x : PySem.W.codeIn K cd12x "_law_names" = true) (k12x : PySem.W.keepIn K (.ref f12x) = true)
    (a13x : PySem.W.nsIn K mainGlobals "_law_number" = some (some (.ref f13x))) (l13x : K.lookup f13x = some ⟨oc13x, od13x, .func (PySem.W.fnOf "_law_number" "_law_number" (defArgs s13x) (defBody s13x) (defScope s13x) .none kV13x dc13x pm13x an13x cd13x ct13x), sl13x⟩) (c13x : PySem.W.codeIn K cd13x "_law_number" = true) (k13x : PySem.W.keepIn K (.ref f13x) = true)
    (a14x : PySem.W.nsIn K mainGlobals "_law_leaf" = some (some (.ref f14x))) (l14x : K.lookup f14x = some ⟨oc14x, od14x, .func (PySem.W.fnOf "_law_leaf" "_law_leaf" (defArgs s14x) (defBody s14x) (defScope s14x) .none kV14x dc14x pm14x an14x cd14x ct14x), sl14x⟩) (c14x : PySem.W.codeIn K cd14x "_law_leaf" = true) (k14x : PySem.W.keepIn K (.ref f14x) = true)
    (a15x : PySem.W.nsIn K mainGlobals "_law_expression" = some (some (.ref f15x))) (l15x : K.lookup f15x = some ⟨oc15x, od15x, .func (PySem.W.fnOf "_law_expression" "_law_expression" (defArgs s15x) (defBody s15x) (defScope s15x) .none kV15x dc15x pm15x an15x cd15x ct15x), sl15x⟩) (c15x : PySem.W.codeIn K cd15x "_law_expression" = true) (k15x : PySem.W.keepIn K (.ref f15x) = true)
    (a16x : PySem.W.nsIn K mainGlobals "_law_word" = some (some (.ref f16x))) (l16x : K.lookup f16x = some ⟨oc16x, od16x, .func (PySem.W.fnOf "_law_word" "_law_word" (defArgs s16x) (defBody s16x) (defScope s16x) .none kV16x dc16x pm16x an16x cd16x ct16x), sl16x⟩) (c16x : PySem.W.codeIn K cd16x "_law_word" = true) (k16x : PySem.W.keepIn K (.ref f16x) = true)
    (a17x : PySem.W.nsIn K mainGlobals "_law_plain" = some (some (.ref f17x))) (l17x : K.lookup f17x = some ⟨oc17x, od17x, .func (PySem.W.fnOf "_law_plain" "_law_plain" (defArgs s17x) (defBody s17x) (defScope s17x) .none kV17x dc17x pm17x an17x cd17x ct17x), sl17x⟩) (c17x : PySem.W.codeIn K cd17x "_law_plain" = true) (k17x : PySem.W.keepIn K (.ref f17x) = true)
    (a18x : PySem.W.nsIn K mainGlobals "_law_block" = some (some (.ref f18x))) (l18x : K.lookup f18x = some ⟨oc18x, od18x, .func (PySem.W.fnOf "_law_block" "_law_block" (defArgs s18x) (defBody s18x) (defScope s18x) .none kV18x dc18x pm18x an18x cd18x ct18x), sl18x⟩) (c18x : PySem.W.codeIn K cd18x "_law_block" = true) (k18x : PySem.W.keepIn K (.ref f18x) = true)
    (a19x : PySem.W.nsIn K mainGlobals "_law_long" = some (some (.ref f19x))) (l19x : K.lookup f19x = some ⟨oc19x, od19x, .func (PySem.W.fnOf "_law_long" "_law_long" (defArgs s19x) (defBody s19x) (defScope s19x) .none kV19x dc19x pm19x an19x cd19x ct19x), sl19x⟩) (c19x : PySem.W.codeIn K cd19x "_law_long" = true) (k19x : PySem.W.keepIn K (.ref f19x) = true)
    (a20x : PySem.W.nsIn K mainGlobals "_law_book" = some (some (.ref f20x))) (l20x : K.lookup f20x = some ⟨oc20x, od20x, .func (PySem.W.fnOf "_law_book" "_law_book" (defArgs s20x) (defBody s20x) (defScope s20x) .none kV20x dc20x pm20x an20x cd20x ct20x), sl20x⟩) (c20x : PySem.W.codeIn K cd20x "_law_book" = true) (k20x : PySem.W.keepIn K (.ref f20x) = true)
    (a21x : PySem.W.nsIn K mainGlobals "law" = some (some (.ref f21x))) (l21x : K.lookup f21x = some ⟨oc21x, od21x, .func (PySem.W.fnOf "law" "law" (defArgs s21x) (defBody s21x) (defScope s21x) .none kV21x dc21x pm21x an21x cd21x ct21x), sl21x⟩) (c21x : PySem.W.codeIn K cd21x "law" = true) (k21x : PySem.W.keepIn K (.ref f21x) = true)
    (z_abs : PySem.W.nsIn K mainGlobals "abs" = some none)
    (z_any : PySem.W.nsIn K mainGlobals "any" = some none)
    (z_int : PySem.W.nsIn K mainGlobals "int" = some none)
    (z_isinstance : PySem.W.nsIn K mainGlobals "isinstance" = some none)
    (z_len : PySem.W.nsIn K mainGlobals "len" = some none)
    (z_range : PySem.W.nsIn K mainGlobals "range" = some none)
    (z_str : PySem.W.nsIn K mainGlobals "str" = some none)
    (z_tuple : PySem.W.nsIn K mainGlobals "tuple" = some none)
    (u_KINDS : PySem.W.nsIn K mainGlobals "KINDS" = some (some (.ref a_KINDS)))
    (l_KINDS : K.lookup a_KINDS = some ⟨.type "tuple", od_KINDS, .seq #[.str "name" tk_KINDS_0, .str "word" tk_KINDS_1, .str "caught" tk_KINDS_2, .str "params" tk_KINDS_3, .str "expression" tk_KINDS_4] n_KINDS, sl_KINDS⟩)
    (u_LINES : PySem.W.nsIn K mainGlobals "LINES" = some (some (.ref a_LINES)))
    (l_LINES : K.lookup a_LINES = some ⟨.type "dict", none, .dict #[⟨PyData.keyHash w.params "rule", .str "rule" kt_LINES_0, .ref a_LINES_0⟩, ⟨PyData.keyHash w.params "let", .str "let" kt_LINES_1, .ref a_LINES_1⟩, ⟨PyData.keyHash w.params "note", .str "note" kt_LINES_2, .ref a_LINES_2⟩, ⟨PyData.keyHash w.params "give", .str "give" kt_LINES_3, .ref a_LINES_3⟩, ⟨PyData.keyHash w.params "on", .str "on" kt_LINES_4, .ref a_LINES_4⟩, ⟨PyData.keyHash w.params "ask", .str "ask" kt_LINES_5, .ref a_LINES_5⟩, ⟨PyData.keyHash w.params "cast", .str "cast" kt_LINES_6, .ref a_LINES_6⟩, ⟨PyData.keyHash w.params "close", .str "close" kt_LINES_7, .ref a_LINES_7⟩, ⟨PyData.keyHash w.params "end", .str "end" kt_LINES_8, .ref a_LINES_8⟩, ⟨PyData.keyHash w.params "fault", .str "fault" kt_LINES_9, .ref a_LINES_9⟩, ⟨PyData.keyHash w.params "leave", .str "leave" kt_LINES_10, .ref a_LINES_10⟩, ⟨PyData.keyHash w.params "if", .str "if" kt_LINES_11, .ref a_LINES_11⟩, ⟨PyData.keyHash w.params "else", .str "else" kt_LINES_12, .ref a_LINES_12⟩, ⟨PyData.keyHash w.params "while", .str "while" kt_LINES_13, .ref a_LINES_13⟩, ⟨PyData.keyHash w.params "try", .str "try" kt_LINES_14, .ref a_LINES_14⟩, ⟨PyData.keyHash w.params "catch", .str "catch" kt_LINES_15, .ref a_LINES_15⟩, ⟨PyData.keyHash w.params "last", .str "last" kt_LINES_16, .ref a_LINES_16⟩] ep_LINES, #[]⟩)
    (l_LINES_0 : K.lookup a_LINES_0 = some ⟨.type "tuple", od_LINES_0, .seq #[.str "rule " tk_LINES_0_0, .str "name" tk_LINES_0_1, .str "(" tk_LINES_0_2, .str "params" tk_LINES_0_3, .str ")" tk_LINES_0_4] n_LINES_0, sl_LINES_0⟩)
    (l_LINES_1 : K.lookup a_LINES_1 = some ⟨.type "tuple", od_LINES_1, .seq #[.str "name" tk_LINES_1_0, .str " = " tk_LINES_1_1, .str "expression" tk_LINES_1_2] n_LINES_1, sl_LINES_1⟩)
    (l_LINES_2 : K.lookup a_LINES_2 = some ⟨.type "tuple", od_LINES_2, .seq #[.str "note " tk_LINES_2_0, .str "expression" tk_LINES_2_1] n_LINES_2, sl_LINES_2⟩)
    (l_LINES_3 : K.lookup a_LINES_3 = some ⟨.type "tuple", od_LINES_3, .seq #[.str "name" tk_LINES_3_0, .str " = give " tk_LINES_3_1, .str "expression" tk_LINES_3_2] n_LINES_3, sl_LINES_3⟩)
    (l_LINES_4 : K.lookup a_LINES_4 = some ⟨.type "tuple", od_LINES_4, .seq #[.str "name" tk_LINES_4_0, .str " = on " tk_LINES_4_1, .str "expression" tk_LINES_4_2] n_LINES_4, sl_LINES_4⟩)
    (l_LINES_5 : K.lookup a_LINES_5 = some ⟨.type "tuple", od_LINES_5, .seq #[.str "name" tk_LINES_5_0, .str ", " tk_LINES_5_1, .str "name" tk_LINES_5_2, .str " = ask " tk_LINES_5_3, .str "expression" tk_LINES_5_4, .str ", " tk_LINES_5_5, .str "expression" tk_LINES_5_6] n_LINES_5, sl_LINES_5⟩)
    (l_LINES_6 : K.lookup a_LINES_6 = some ⟨.type "tuple", od_LINES_6, .seq #[.str "name" tk_LINES_6_0, .str ", " tk_LINES_6_1, .str "name" tk_LINES_6_2, .str " = cast " tk_LINES_6_3, .str "expression" tk_LINES_6_4, .str ", " tk_LINES_6_5, .str "word" tk_LINES_6_6, .str " " tk_LINES_6_7, .str "expression" tk_LINES_6_8] n_LINES_6, sl_LINES_6⟩)
    (l_LINES_7 : K.lookup a_LINES_7 = some ⟨.type "tuple", od_LINES_7, .seq #[.str "close " tk_LINES_7_0, .str "expression" tk_LINES_7_1] n_LINES_7, sl_LINES_7⟩)
    (l_LINES_8 : K.lookup a_LINES_8 = some ⟨.type "tuple", od_LINES_8, .seq #[.str "end " tk_LINES_8_0, .str "expression" tk_LINES_8_1] n_LINES_8, sl_LINES_8⟩)
    (l_LINES_9 : K.lookup a_LINES_9 = some ⟨.type "tuple", od_LINES_9, .seq #[.str "fault " tk_LINES_9_0, .str "word" tk_LINES_9_1, .str " " tk_LINES_9_2, .str "expression" tk_LINES_9_3] n_LINES_9, sl_LINES_9⟩)
    (l_LINES_10 : K.lookup a_LINES_10 = some ⟨.type "tuple", od_LINES_10, .seq #[.str "leave" tk_LINES_10_0] n_LINES_10, sl_LINES_10⟩)
    (l_LINES_11 : K.lookup a_LINES_11 = some ⟨.type "tuple", od_LINES_11, .seq #[.str "if " tk_LINES_11_0, .str "expression" tk_LINES_11_1] n_LINES_11, sl_LINES_11⟩)
    (l_LINES_12 : K.lookup a_LINES_12 = some ⟨.type "tuple", od_LINES_12, .seq #[.str "else" tk_LINES_12_0] n_LINES_12, sl_LINES_12⟩)
    (l_LINES_13 : K.lookup a_LINES_13 = some ⟨.type "tuple", od_LINES_13, .seq #[.str "while " tk_LINES_13_0, .str "expression" tk_LINES_13_1] n_LINES_13, sl_LINES_13⟩)
    (l_LINES_14 : K.lookup a_LINES_14 = some ⟨.type "tuple", od_LINES_14, .seq #[.str "try" tk_LINES_14_0] n_LINES_14, sl_LINES_14⟩)
    (l_LINES_15 : K.lookup a_LINES_15 = some ⟨.type "tuple", od_LINES_15, .seq #[.str "catch " tk_LINES_15_0, .str "caught" tk_LINES_15_1, .str " " tk_LINES_15_2, .str "name" tk_LINES_15_3] n_LINES_15, sl_LINES_15⟩)
    (l_LINES_16 : K.lookup a_LINES_16 = some ⟨.type "tuple", od_LINES_16, .seq #[.str "last" tk_LINES_16_0] n_LINES_16, sl_LINES_16⟩) :
    ∃ fd : FuncData, (∀ (s : Shared) (v : Value), BindsTo s fd ⟨[v], []⟩ [("_law_script", v)]) ∧ ∀ base : Heap, K.In base → base.Ns mainGlobals mg → FnOk l.prog w K mg base CX0 53 fa fd ["_law_script"] (dnSp K L3.spLaw3) := by
  have e := hfa.symm.trans (PySem.W.mg_of X G a21x)
  cases e
  have B : Blt mg := ⟨PySem.W.mg_none_of X G z_abs, PySem.W.mg_none_of X G z_any, PySem.W.mg_none_of X G z_int, PySem.W.mg_none_of X G z_isinstance, PySem.W.mg_none_of X G z_len, PySem.W.mg_none_of X G z_range, PySem.W.mg_none_of X G z_str, PySem.W.mg_none_of X G z_tuple⟩
  have C : Cst K w.params mg := ⟨⟨_, PySem.W.mg_of X G u_KINDS, ⟨_, _, _, l_KINDS, rfl, rfl, (show (5 : Nat) ≤ sizeLine by decide), (.cons ⟨_, rfl⟩ (.cons ⟨_, rfl⟩ (.cons ⟨_, rfl⟩ (.cons ⟨_, rfl⟩ (.cons ⟨_, rfl⟩ .nil)))))⟩⟩, ⟨_, PySem.W.mg_of X G u_LINES, [("rule", kt_LINES_0, a_LINES_0), ("let", kt_LINES_1, a_LINES_1), ("note", kt_LINES_2, a_LINES_2), ("give", kt_LINES_3, a_LINES_3), ("on", kt_LINES_4, a_LINES_4), ("ask", kt_LINES_5, a_LINES_5), ("cast", kt_LINES_6, a_LINES_6), ("close", kt_LINES_7, a_LINES_7), ("end", kt_LINES_8, a_LINES_8), ("fault", kt_LINES_9, a_LINES_9), ("leave", kt_LINES_10, a_LINES_10), ("if", kt_LINES_11, a_LINES_11), ("else", kt_LINES_12, a_LINES_12), ("while", kt_LINES_13, a_LINES_13), ("try", kt_LINES_14, a_LINES_14), ("catch", kt_LINES_15, a_LINES_15), ("last", kt_LINES_16, a_LINES_16)], ep_LINES, l_LINES, (show (["rule", "let", "note", "give", "on", "ask", "cast", "close", "end", "fault", "leave", "if", "else", "while", "try", "catch", "last"] : List Str).Nodup by decide +kernel), (.cons ⟨_, _, _, l_LINES_0, rfl, rfl, (show (5 : Nat) ≤ sizeLine by decide), (.cons ⟨_, rfl⟩ (.cons ⟨_, rfl⟩ (.cons ⟨_, rfl⟩ (.cons ⟨_, rfl⟩ (.cons ⟨_, rfl⟩ .nil)))))⟩ (.cons ⟨_, _, _, l_LINES_1, rfl, rfl, (show (3 : Nat) ≤ sizeLine by decide), (.cons ⟨_, rfl⟩ (.cons ⟨_, rfl⟩ (.cons ⟨_, rfl⟩ .nil)))⟩ (.cons ⟨_, _, _, l_LINES_2, rfl, rfl, (show (2 : Nat) ≤ sizeLine by decide), (.cons ⟨_, rfl⟩ (.cons ⟨_, rfl⟩ .nil))⟩ (.cons ⟨_, _, _, l_LINES_3, rfl, rfl, (show (3 : Nat) ≤ sizeLine by decide), (.cons ⟨_, rfl⟩ (.cons ⟨_, rfl⟩ (.cons ⟨_, rfl⟩ .nil)))⟩ (.cons ⟨_, _, _, l_LINES_4, rfl, rfl, (show (3 : Nat) ≤ sizeLine by decide), (.cons ⟨_, rfl⟩ (.cons ⟨_, rfl⟩ (.cons ⟨_, rfl⟩ .nil)))⟩ (.cons ⟨_, _, _, l_LINES_5, rfl, rfl, (show (7 : Nat) ≤ sizeLine by decide), (.cons ⟨_, rfl⟩ (.cons ⟨_, rfl⟩ (.cons ⟨_, rfl⟩ (.cons ⟨_, rfl⟩ (.cons ⟨_, rfl⟩ (.cons ⟨_, rfl⟩ (.cons ⟨_, rfl⟩ .nil)))))))⟩ (.cons ⟨_, _, _, l_LINES_6, rfl, rfl, (show (9 : Nat) ≤ sizeLine by decide), (.cons ⟨_, rfl⟩ (.cons ⟨_, rfl⟩ (.cons ⟨_, rfl⟩ (.cons ⟨_, rfl⟩ (.cons ⟨_, rfl⟩ (.cons ⟨_, rfl⟩ (.cons ⟨_, rfl⟩ (.cons ⟨_, rfl⟩ (.cons ⟨_, rfl⟩ .nil)))))))))⟩ (.cons ⟨_, _, _, l_LINES_7, rfl, rfl, (show (2 : Nat) ≤ sizeLine by decide), (.cons ⟨_, rfl⟩ (.cons ⟨_, rfl⟩ .nil))⟩ (.cons ⟨_, _, _, l_LINES_8, rfl, rfl, (show (2 : Nat) ≤ sizeLine by decide), (.cons ⟨_, rfl⟩ (.cons ⟨_, rfl⟩ .nil))⟩ (.cons ⟨_, _, _, l_LINES_9, rfl, rfl, (show (4 : Nat) ≤ sizeLine by decide), (.cons ⟨_, rfl⟩ (.cons ⟨_, rfl⟩ (.cons ⟨_, rfl⟩ (.cons ⟨_, rfl⟩ .nil))))⟩ (.cons ⟨_, _, _, l_LINES_10, rfl, rfl, (show (1 : Nat) ≤ sizeLine by decide), (.cons ⟨_, rfl⟩ .nil)⟩ (.cons ⟨_, _, _, l_LINES_11, rfl, rfl, (show (2 : Nat) ≤ sizeLine by decide), (.cons ⟨_, rfl⟩ (.cons ⟨_, rfl⟩ .nil))⟩ (.cons ⟨_, _, _, l_LINES_12, rfl, rfl, (show (1 : Nat) ≤ sizeLine by decide), (.cons ⟨_, rfl⟩ .nil)⟩ (.cons ⟨_, _, _, l_LINES_13, rfl, rfl, (show (2 : Nat) ≤ sizeLine by decide), (.cons ⟨_, rfl⟩ (.cons ⟨_, rfl⟩ .nil))⟩ (.cons ⟨_, _, _, l_LINES_14, rfl, rfl, (show (1 : Nat) ≤ sizeLine by decide), (.cons ⟨_, rfl⟩ .nil)⟩ (.cons ⟨_, _, _, l_LINES_15, rfl, rfl, (show (4 : Nat) ≤ sizeLine by decide), (.cons ⟨_, rfl⟩ (.cons ⟨_, rfl⟩ (.cons ⟨_, rfl⟩ (.cons ⟨_, rfl⟩ .nil))))⟩ (.cons ⟨_, _, _, l_LINES_16, rfl, rfl, (show (1 : Nat) ≤ sizeLine by decide), (.cons ⟨_, rfl⟩ .nil)⟩ .nil)))))))))))))))))⟩⟩
  have A0x := fnAt_mk (st := s0x) (ps := ["worth"]) X G a0x l0x c0x k0x fun _ _ _ _ _ _ us hl => by obtain ⟨_, rfl⟩ := us1 hl; rfl
  have A1x := fnAt_mk (st := s1x) (ps := ["expression"]) X G a1x l1x c1x k1x fun _ _ _ _ _ _ us hl => by obtain ⟨_, rfl⟩ := us1 hl; rfl
  have A2x := fnAt_mk (st := s2x) (ps := ["kind", "part"]) X G a2x l2x c2x k2x fun _ _ _ _ _ _ us hl => by obtain ⟨_, _, rfl⟩ := us2 hl; rfl
  have A3x := fnAt_mk (st := s3x) (ps := ["blanks", "word", "parts"]) X G a3x l3x c3x k3x fun _ _ _ _ _ _ us hl => by obtain ⟨_, _, _, rfl⟩ := us3 hl; rfl
  have A4x := fnAt_mk (st := s4x) (ps := ["blanks", "word", "parts", "block"]) X G a4x l4x c4x k4x fun _ _ _ _ _ _ us hl => by obtain ⟨_, _, _, _, rfl⟩ := us4 hl; rfl
  have A5x := fnAt_mk (st := s5x) (ps := ["blanks", "word", "block"]) X G a5x l5x c5x k5x fun _ _ _ _ _ _ us hl => by obtain ⟨_, _, _, rfl⟩ := us3 hl; rfl
  have A6x := fnAt_mk (st := s6x) (ps := ["blanks", "deed"]) X G a6x l6x c6x k6x fun _ _ _ _ _ _ us hl => by obtain ⟨_, _, rfl⟩ := us2 hl; rfl
  have A7x := fnAt_mk (st := s7x) (ps := ["blanks", "deed"]) X G a7x l7x c7x k7x fun _ _ _ _ _ _ us hl => by obtain ⟨_, _, rfl⟩ := us2 hl; rfl
  have A8x := fnAt_mk (st := s8x) (ps := ["book"]) X G a8x l8x c8x k8x fun _ _ _ _ _ _ us hl => by obtain ⟨_, rfl⟩ := us1 hl; rfl
  have A9x := fnAt_mk (st := s9x) (ps := ["_law_script"]) X G a9x l9x c9x k9x fun _ _ _ _ _ _ us hl => by obtain ⟨_, rfl⟩ := us1 hl; rfl
  have A10x := fnAt_mk (st := s10x) (ps := ["_law_pen_here", "_law_many"]) X G a10x l10x c10x k10x fun _ _ _ _ _ _ us hl => by obtain ⟨_, _, rfl⟩ := us2 hl; rfl
  have A11x := fnAt_mk (st := s11x) (ps := ["_law_pen_here", "_law_many"]) X G a11x l11x c11x k11x fun _ _ _ _ _ _ us hl => by obtain ⟨_, _, rfl⟩ := us2 hl; rfl
  have A12x := fnAt_mk (st := s12x) (ps := ["_law_pen_here", "_law_many"]) X G a12x l12x c12x k12x fun _ _ _ _ _ _ us hl => by obtain ⟨_, _, rfl⟩ := us2 hl; rfl
  have A13x := fnAt_mk (st := s13x) (ps := ["_law_pen_here"]) X G a13x l13x c13x k13x fun _ _ _ _ _ _ us hl => by obtain ⟨_, rfl⟩ := us1 hl; rfl
  have A14x := fnAt_mk (st := s14x) (ps := ["_law_pen_here", "_law_facts"]) X G a14x l14x c14x k14x fun _ _ _ _ _ _ us hl => by obtain ⟨_, _, rfl⟩ := us2 hl; rfl
  have A15x := fnAt_mk (st := s15x) (ps := ["_law_pen_here", "_law_facts", "_law_deep", "_law_parts"]) X G a15x l15x c15x k15x fun _ _ _ _ _ _ us hl => by obtain ⟨_, _, _, _, rfl⟩ := us4 hl; rfl
  have A16x := fnAt_mk (st := s16x) (ps := ["_law_pen_here"]) X G a16x l16x c16x k16x fun _ _ _ _ _ _ us hl => by obtain ⟨_, rfl⟩ := us1 hl; rfl
  have A17x := fnAt_mk (st := s17x) (ps := ["_law_pen_here", "_law_facts", "_law_in_while"]) X G a17x l17x c17x k17x fun _ _ _ _ _ _ us hl => by obtain ⟨_, _, _, rfl⟩ := us3 hl; rfl
  have A18x := fnAt_mk (st := s18x) (ps := ["_law_pen_here", "_law_facts", "_law_deep", "_law_in_while"]) X G a18x l18x c18x k18x fun _ _ _ _ _ _ us hl => by obtain ⟨_, _, _, _, rfl⟩ := us4 hl; rfl
  have A19x := fnAt_mk (st := s19x) (ps := ["_law_pen_here", "_law_facts", "_law_deep", "_law_in_while", "_law_kind"]) X G a19x l19x c19x k19x fun _ _ _ _ _ _ us hl => by obtain ⟨_, _, _, _, _, rfl⟩ := us5 hl; rfl
  have A20x := fnAt_mk (st := s20x) (ps := ["_law_pen_here"]) X G a20x l20x c20x k20x fun _ _ _ _ _ _ us hl => by obtain ⟨_, rfl⟩ := us1 hl; rfl
  have A21x := fnAt_mk (st := s21x) (ps := ["_law_script"]) X G a21x l21x c21x k21x fun _ _ _ _ _ _ us hl => by obtain ⟨_, rfl⟩ := us1 hl; rfl
  refine ⟨PySem.W.fnOf "law" "law" (defArgs s21x) (defBody s21x) (defScope s21x) .none kV21x dc21x pm21x an21x cd21x ct21x, fun s v => .of_eq rfl, fun base _ _ => ?_⟩
  have G0x := ok0x (P := l.prog) (w := w) (base := base) B C A0x
  have GG1x := grp1x (P := l.prog) (w := w) (base := base) B C A0x G0x A1x
  have G1x := (GG1x 5)
  have G2x := ok2x (P := l.prog) (w := w) (base := base) B C A1x G1x A2x
  have G3x := ok3x (P := l.prog) (w := w) (base := base) B C A2x G2x A3x
  have GG7x := grp7x (P := l.prog) (w := w) (base := base) B C A3x G3x A4x A5x A6x A7x
  have G4x := (GG7x 40).1
  have G5x := (GG7x 40).2.1
  have G6x := (GG7x 40).2.2.1
  have G7x := (GG7x 40).2.2.2
  have G8x := ok8x (P := l.prog) (w := w) (base := base) B C A4x G4x A8x
  have G9x := ok9x (P := l.prog) (w := w) (base := base) B C A9x
  have G10x := ok10x (P := l.prog) (w := w) (base := base) B C A10x
  have G11x := ok11x (P := l.prog) (w := w) (base := base) B C A10x G10x A11x
  have G12x := ok12x (P := l.prog) (w := w) (base := base) B C A10x G10x A11x G11x A12x
  have G13x := ok13x (P := l.prog) (w := w) (base := base) B C A10x G10x A13x
  have G14x := ok14x (P := l.prog) (w := w) (base := base) B C A10x G10x A13x G13x A14x
  have GG15x := grp15x (P := l.prog) (w := w) (base := base) B C A10x G10x A14x G14x A15x
  have G15x := (GG15x 5)
  have G16x := ok16x (P := l.prog) (w := w) (base := base) B C A10x G10x A11x G11x A16x
  have G17x := ok17x (P := l.prog) (w := w) (base := base) B C A10x G10x A15x G15x A16x G16x A17x
  have GG19x := grp19x (P := l.prog) (w := w) (base := base) B C A10x G10x A17x G17x A15x G15x A16x G16x A18x A19x
  have G18x := (GG19x 12).1
  have G19x := (GG19x 12).2
  have G20x := ok20x (P := l.prog) (w := w) (base := base) B C A10x G10x A12x G12x A18x G18x A20x
  have G21x := ok21x (P := l.prog) (w := w) (base := base) B C A9x G9x A20x G20x A8x G8x A21x
  exact G21x
end K16
open PySem PySem.W PyProof.Rows
set_option maxRecDepth 100000 in
set_option maxHeartbeats 0 in
theorem PySem.Challenge.cw_handedon_k16_books_written_holds : PySem.Challenge.rw_handedon_k16_books_written.Holds := by
  w_on; o_law; k_head; (case hw => w_witness2)
  k_fill
  refine L3.walk3 (l := PySem.Challenge.rw_handedon_k16_books_written) (k := 53) (x := "_law_script") rfl rfl ⟨rfl, by decide, by decide, rfl⟩ (fun w h Y => PySem.W.kIn_of Y) ?F
  case F =>
    intro w mg fa h KX G hmg
    refine' K16.all_mk KX G hmg ?a0x ?l0x ?c0x ?k0x ?a1x ?l1x ?c1x ?k1x ?a2x ?l2x ?c2x ?k2x ?a3x ?l3x ?c3x ?k3x ?a4x ?l4x ?c4x ?k4x ?a5x ?l5x ?c5x ?k5x ?a6x ?l6x ?c6x ?k6x ?a7x ?l7x ?c7x ?k7x ?a8x ?l8x ?c8x ?k8x ?a9x ?l9x ?c9x ?k9x ?a10x ?l10x ?c10x ?k10x ?a11x ?l11x ?c11x ?k11x ?a12x ?l12x ?c12x ?k12x ?a13x ?l13x ?c13x ?k13x ?a14x ?l14x ?c14x ?k14x ?a15x ?l15x ?c15x ?k15x ?a16x ?l16x ?c16x ?k16x ?a17x ?l17x ?c17x ?k17x ?a18x ?l18x ?c18x ?k18x ?a19x ?l19x ?c19x ?k19x ?a20x ?l20x ?c20x ?k20x ?a21x ?l21x ?c21x ?k21x ?z_abs ?z_any ?z_int ?z_isinstance ?z_len ?z_range ?z_str ?z_tuple ?u_KINDS ?l_KINDS ?u_LINES ?l_LINES ?l_LINES_0 ?l_LINES_1 ?l_LINES_2 ?l_LINES_3 ?l_LINES_4 ?l_LINES_5 ?l_LINES_6 ?l_LINES_7 ?l_LINES_8 ?l_LINES_9 ?l_LINES_10 ?l_LINES_11 ?l_LINES_12 ?l_LINES_13 ?l_LINES_14 ?l_LINES_15 ?l_LINES_16
    (case a0x => k_is)
    (case l0x => k_is)
    (case c0x => k_is)
    (case k0x => k_is)
    (case a1x => k_is)
    (case l1x => k_is)
    (case c1x => k_is)
    (case k1x => k_is)
    (case a2x => k_is)
    (case l2x => k_is)
    (case c2x => k_is)
    (case k2x => k_is)
    (case a3x => k_is)
    (case l3x => k_is)
    (case c3x => k_is)
    (case k3x => k_is)
    (case a4x => k_is)
    (case l4x => k_is)
    (case c4x => k_is)
    (case k4x => k_is)
    (case a5x => k_is)
    (case l5x => k_is)
    (case c5x => k_is)
    (case k5x => k_is)
    (case a6x => k_is)
    (case l6x => k_is)
    (case c6x => k_is)
    (case k6x => k_is)
    (case a7x => k_is)
    (case l7x => k_is)
    (case c7x => k_is)
    (case k7x => k_is)
    (case a8x => k_is)
    (case l8x => k_is)
    (case c8x => k_is)
    (case k8x => k_is)
    (case a9x => k_is)
    (case l9x => k_is)
    (case c9x => k_is)
    (case k9x => k_is)
    (case a10x => k_is)
    (case l10x => k_is)
    (case c10x => k_is)
    (case k10x => k_is)
    (case a11x => k_is)
    (case l11x => k_is)
    (case c11x => k_is)
    (case k11x => k_is)
    (case a12x => k_is)
    (case l12x => k_is)
    (case c12x => k_is)
    (case k12x => k_is)
    (case a13x => k_is)
    (case l13x => k_is)
    (case c13x => k_is)
    (case k13x => k_is)
    (case a14x => k_is)
    (case l14x => k_is)
    (case c14x => k_is)
    (case k14x => k_is)
    (case a15x => k_is)
    (case l15x => k_is)
    (case c15x => k_is)
    (case k15x => k_is)
    (case a16x => k_is)
    (case l16x => k_is)
    (case c16x => k_is)
    (case k16x => k_is)
    (case a17x => k_is)
    (case l17x => k_is)
    (case c17x => k_is)
    (case k17x => k_is)
    (case a18x => k_is)
    (case l18x => k_is)
    (case c18x => k_is)
    (case k18x => k_is)
    (case a19x => k_is)
    (case l19x => k_is)
    (case c19x => k_is)
    (case k19x => k_is)
    (case a20x => k_is)
    (case l20x => k_is)
    (case c20x => k_is)
    (case k20x => k_is)
    (case a21x => k_is)
    (case l21x => k_is)
    (case c21x => k_is)
    (case k21x => k_is)
    (case z_abs => k_is)
    (case z_any => k_is)
    (case z_int => k_is)
    (case z_isinstance => k_is)
    (case z_len => k_is)
    (case z_range => k_is)
    (case z_str => k_is)
    (case z_tuple => k_is)
    (case u_KINDS => k_is)
    (case l_KINDS => k_is)
    (case u_LINES => k_is)
    (case l_LINES => k_is)
    (case l_LINES_0 => k_is)
    (case l_LINES_1 => k_is)
    (case l_LINES_2 => k_is)
    (case l_LINES_3 => k_is)
    (case l_LINES_4 => k_is)
    (case l_LINES_5 => k_is)
    (case l_LINES_6 => k_is)
    (case l_LINES_7 => k_is)
    (case l_LINES_8 => k_is)
    (case l_LINES_9 => k_is)
    (case l_LINES_10 => k_is)
    (case l_LINES_11 => k_is)
    (case l_LINES_12 => k_is)
    (case l_LINES_13 => k_is)
    (case l_LINES_14 => k_is)
    (case l_LINES_15 => k_is)
    (case l_LINES_16 => k_is)
