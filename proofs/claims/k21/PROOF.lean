import PyProof.Rows.All
import Wide.All
import OpenK.AllK
import Wide.FinOn
import PyProof.EqAt
import PyProof.EqKinds
import PyProof.TupleCall
import PyProof.NeData
import PyProof.ReprRoads
import PyProof.AttrMissHeap
import PyProof.Rows.SetFrom
import KE.KDictOf
import PySem.Challenge.RW_handedon_k21_where_faults_go
def PySem.W.Fast.tw17020677601401345624 := 0
set_option Elab.async false
set_option linter.all false
set_option maxRecDepth 100000
namespace L2
open PySem PySem.Spec PyProof.Rows
abbrev Key := Sum Int Str
def keyIs : Key → Value → Bool
  | .inl k, v => Value.isInt k v
  | .inr x, v => Value.isStrOf x v
def keyH (w : World) : Key → Int
  | .inl k => hashInt k
  | .inr x => hashStr w x
theorem keyIs_shape : ∀ {k : Key} {v : Value}, keyIs k v = true → (∃ i t, k = Sum.inl i ∧ v = Value.int i t) ∨ (∃ x t, k = Sum.inr x ∧ v = Value.str x t)
  | .inl i, v, h => by
    obtain ⟨t, e⟩ := Value.isInt_shape (k := i) (v := v) h
    exact .inl ⟨i, t, rfl, e⟩
  | .inr x, v, h => by
    obtain ⟨t, e⟩ := Value.isStrOf_shape (x := x) (v := v) h
    exact .inr ⟨x, t, rfl, e⟩
theorem keyIs_int (i : Int) (t : Tok) : keyIs (.inl i) (.int i t) = true := by simp [keyIs, Value.isInt]
theorem keyIs_str (x : Str) (t : Tok) : keyIs (.inr x) (.str x t) = true := by simp [keyIs, Value.isStrOf]
theorem key_ll (a b : Int) : decide ((Sum.inl a : Key) = Sum.inl b) = (a == b) := by
  by_cases e : a = b
  · subst e; simp
  · have h : ¬ (Sum.inl a : Key) = Sum.inl b := fun q => e (Sum.inl.inj q)
    rw [decide_eq_false h]
    exact (beq_eq_false_iff_ne.mpr e).symm
theorem key_rr (a b : Str) : decide ((Sum.inr a : Key) = Sum.inr b) = decide (a = b) := by
  by_cases e : a = b
  · subst e; simp
  · have h : ¬ (Sum.inr a : Key) = Sum.inr b := fun q => e (Sum.inr.inj q)
    rw [decide_eq_false h, decide_eq_false e]
theorem key_lr (a : Int) (b : Str) : decide ((Sum.inl a : Key) = Sum.inr b) = false := decide_eq_false (fun q => nomatch q)
theorem key_rl (a : Str) (b : Int) : decide ((Sum.inr a : Key) = Sum.inl b) = false := decide_eq_false (fun q => nomatch q)
def mixKind (prog : Program) (w : World) : PySem.KeyKind prog w Key where
  is := keyIs
  hash := keyH w
  inj := fun v a b ha hb => by
    rcases keyIs_shape ha with ⟨i, t, rfl, rfl⟩ | ⟨x, t, rfl, rfl⟩
    · rcases keyIs_shape hb with ⟨j, u, rfl, e⟩ | ⟨y, u, rfl, e⟩
      · injection e with e1 _; rw [e1]
      · exact nomatch e
    · rcases keyIs_shape hb with ⟨j, u, rfl, e⟩ | ⟨y, u, rfl, e⟩
      · exact nomatch e
      · injection e with e1 _; rw [e1]
  byValue := fun k v h => by
    rcases keyIs_shape h with ⟨i, t, rfl, rfl⟩ | ⟨x, t, rfl, rfl⟩ <;> rfl
  pyHash := fun hv h => by
    rcases keyIs_shape hv with ⟨i, t, rfl, rfl⟩ | ⟨x, t, rfl, rfl⟩
    · exact wpAny_pyHash_int h
    · exact wpAny_pyHash_str h
  eqBool := fun hu hv h => by
    rcases keyIs_shape hu with ⟨i, t, rfl, rfl⟩ | ⟨x, t, rfl, rfl⟩
    · rcases keyIs_shape hv with ⟨j, u, rfl, rfl⟩ | ⟨y, u, rfl, rfl⟩
      · rw [key_ll] at h; exact wpAny_eqBool_int h
      · rw [key_lr] at h; exact SeqAt.EqAt.int_str i t y u _ _ _ _ h
    · rcases keyIs_shape hv with ⟨j, u, rfl, rfl⟩ | ⟨y, u, rfl, rfl⟩
      · rw [key_rl] at h; exact SeqAt.EqAt.str_int x t j u _ _ _ _ h
      · rw [key_rr] at h; exact wpAny_eqBool_str h
  «strs» := fun k x t v h => by
    rcases keyIs_shape h with ⟨i, u, rfl, e⟩ | ⟨y, u, rfl, e⟩
    · exact nomatch e
    · injection e with e1 _
      subst e1
      cases v <;> rfl
theorem mixKind_int (prog : Program) (w : World) (i : Int) (t : Tok) : (mixKind prog w).is (.inl i) (.int i t) = true := keyIs_int i t
theorem mixKind_str (prog : Program) (w : World) (x : Str) (t : Tok) : (mixKind prog w).is (.inr x) (.str x t) = true := keyIs_str x t
end L2
namespace L2
open PySem PySem.Spec PyProof.Rows
inductive V where
  | non | bl (b : Bool) | int (i : Int) | str (x : Str) | byt (b : Array UInt8) | flt (b : UInt64) | ref (a : Addr) | ty (n : String)
  deriving DecidableEq
def RelV : V → Value → Prop
  | .non, u => u = Value.none
  | .bl b, u => u = Value.bool b
  | .int i, u => ∃ t, u = Value.int i t
  | .str x, u => ∃ t, u = Value.str x t
  | .byt b, u => ∃ t, u = Value.bytes b t
  | .flt b, u => ∃ t, u = Value.float b t
  | .ref a, u => u = Value.ref a
  | .ty n, u => u = Value.type n
abbrev Vals : List V → List Value → Prop := Paired RelV
theorem Vals.length {xs : List V} {us : List Value} (r : Vals xs us) : xs.length = us.length := Paired.length r
theorem Vals.get : ∀ {xs : List V} {us : List Value} {i : Nat} {x : V}, Vals xs us → xs[i]? = some x → ∃ u, us[i]? = some u ∧ RelV x u
  | _, _, _, _, .nil, e => by simp at e
  | _, _, 0, _, .cons r _, e => by simp at e; subst e; exact ⟨_, rfl, r⟩
  | _, _, i + 1, x, .cons _ t, e => by
    obtain ⟨u, h1, h2⟩ := Vals.get (i := i) (x := x) t (by simpa using e)
    exact ⟨u, by simpa using h1, h2⟩
theorem Vals.append : ∀ {xs ys : List V} {us ws : List Value}, Vals xs us → Vals ys ws → Vals (xs ++ ys) (us ++ ws)
  | _, _, _, _, .nil, s => s
  | _, _, _, _, .cons r t, s => .cons r (Vals.append t s)
theorem Vals.take : ∀ {xs : List V} {us : List Value} (n : Nat), Vals xs us → Vals (xs.take n) (us.take n)
  | _, _, 0, _ => .nil
  | _, _, _ + 1, .nil => .nil
  | _, _, n + 1, .cons r t => .cons r (Vals.take n t)
theorem Vals.drop : ∀ {xs : List V} {us : List Value} (n : Nat), Vals xs us → Vals (xs.drop n) (us.drop n)
  | _, _, 0, r => r
  | _, _, _ + 1, .nil => .nil
  | _, _, n + 1, .cons _ t => Vals.drop n t
def RelO : Option V → Option Value → Prop
  | some v, some u => RelV v u
  | none, none => True
  | _, _ => False
def KV {κ : Type} : List (κ × V) → List (κ × Value) → Prop := Paired fun (p : κ × V) (q : κ × Value) => p.1 = q.1 ∧ RelV p.2 q.2
def kV : Key → V
  | .inl i => .int i
  | .inr x => .str x
inductive HO where
  | lst (xs : List V)
  | tup (xs : List V)
  | dK (kvs : List (Key × V)) | dT (kvs : List (List Key × V))
  | set (S : Int → Bool) (n : Nat)
  | ins (C dx : Addr) (fs : List (Str × V))
  | own (x : Addr)
  | xd (fs : List (Str × V))
  | met (f x : Addr)
  | rng (lo hi : Int)
  | frz (o : Obj) (u : HO)
  | tbl (ps : Array Value)
  | ext (φ : Heap → Prop)
abbrev Hp := Addr → Option HO
def upd (H : Hp) (a : Addr) (o : HO) : Hp := fun b => if b = a then some o else H b
theorem upd_same {H : Hp} {a : Addr} {o : HO} : upd H a o a = some o := by unfold upd; rw [if_pos rfl]
theorem upd_ne {H : Hp} {a b : Addr} {o : HO} (h : b ≠ a) : upd H a o b = H b := by unfold upd; rw [if_neg h]
theorem ne_of {H : Hp} {a b : Addr} {o u : HO} (h : H a = some o) (h' : H b = some u) (d : o ≠ u) : a ≠ b := by
  intro e; subst e; rw [h] at h'; exact d (Option.some.inj h')
theorem ne_of_none {H : Hp} {a b : Addr} {o : HO} (h : H a = some o) (h' : H b = none) : a ≠ b := by
  intro e; subst e; rw [h] at h'; cases h'
section
variable (P : Program) (w : World)
def ObjOk (H : Hp) (h : Heap) (a : Addr) : HO → Prop
  | .lst xs => xs.length ≤ sizeLine ∧ ∃ (its : List Value) (n : Nat), Vals xs its ∧ h.get? a = some { cls := .type "list", data := .seq its.toArray n }
  | .tup xs => xs.length ≤ sizeLine ∧ ∃ its : List Value, Vals xs its ∧ IsTup h a its.toArray
  | .dK kvs => kvs.length ≤ sizeLine ∧ (a == sysModules) = false ∧ ∃ vs, KV kvs vs ∧ h.DictOf (mixKind P w) a vs
  | .dT kvs => kvs.length ≤ sizeLine ∧ (a == sysModules) = false ∧ ∃ xs : List (List Key × Addr × Value),
      Paired (fun (p : List Key × V) (q : List Key × Addr × Value) => p.1 = q.1 ∧ H q.2.1 = some (.tup (p.1.map kV)) ∧ RelV p.2 q.2.2) kvs xs ∧
      ∃ o es ep, h.get? a = some o ∧ o.ExactDict ∧ o.data = .dict es ep ∧ es.toList = xs.map (entryOfKey (tupleKind (mixKind P w))) ∧ (xs.map (·.1)).Nodup
  | .set S n => h.SetOf (intKind P w) a S n
  | .ins C dx fs => H dx = some (.own a) ∧ fs.length ≤ 1000 ∧ dx ≠ a ∧ h.get? a = some (PySem.W.instObj C dx) ∧
      ∃ mA, h.Ns1 dx mA ∧ (∀ f, RelO (fs.lookup f) (mA f)) ∧ PySem.Within mA (fs.map (·.1))
  | .own _ => ∃ o, h.get? a = some o
  | .xd fs => ∃ mA, h.Ns1 a mA ∧ ∀ f, RelO (fs.lookup f) (mA f)
  | .rng lo hi => ∃ t u v, h.get? a = some { cls := .type "range", data := .fields #[.int lo t, .int hi u, .int 1 v] }
  | .frz o u => h.get? a = some o ∧ ObjOk H h a u
  | .tbl ps => h.get? a = some { cls := .none, data := .fields ps }
  | .met f x => h.get? a = some (PySem.W.methodObj (.ref f) (.ref x))
  | .ext φ => φ h ∧ (∃ o, h.get? a = some o) ∧ ∀ h1 h2 : Heap, φ h1 → (∀ o, h1.get? a = some o → h2.get? a = some o) → φ h2
def HOk (H : Hp) (h : Heap) : Prop := ∀ a o, H a = some o → ObjOk P w H h a o
end
section
variable {P : Program} {w : World} {H H' : Hp} {h h' : Heap} {a : Addr} {o : HO}
theorem ObjOk.lt (x : ObjOk P w H h a o) : a < h.objs.size := by
  cases o with
  | lst xs => obtain ⟨_, _, _, _, e⟩ := x; exact Heap.lt_size e
  | tup xs => obtain ⟨_, _, _, p⟩ := x; exact p.lt
  | dK kvs => obtain ⟨_, _, _, _, o, _, _, e, _⟩ := x; exact Heap.lt_size e
  | dT kvs => obtain ⟨_, _, _, _, o, _, _, e, _⟩ := x; exact Heap.lt_size e
  | set S n => obtain ⟨o, _, _, _, e, _⟩ := x; exact Heap.lt_size e
  | ins C dx fs => obtain ⟨_, _, _, e, _⟩ := x; exact Heap.lt_size e
  | own y => obtain ⟨_, e⟩ := x; exact Heap.lt_size e
  | xd fs => obtain ⟨_, ⟨_, _, _, e, _⟩, _⟩ := x; exact Heap.lt_size e
  | rng lo hi => obtain ⟨_, _, _, e⟩ := x; exact Heap.lt_size e
  | frz ob u => obtain ⟨e, _⟩ := x; exact Heap.lt_size e
  | tbl ps => exact Heap.lt_size (show h.get? a = some _ from x)
  | met f y => exact Heap.lt_size (show h.get? a = some _ from x)
  | ext φ => obtain ⟨_, ⟨_, e⟩, _⟩ := x; exact Heap.lt_size e
theorem Paired.mapP {α β : Type} {F G : α → β → Prop} : ∀ {l₁ : List α} {l₂ : List β}, Paired F l₁ l₂ → (∀ a b, F a b → G a b) → Paired G l₁ l₂
  | _, _, .nil, _ => .nil
  | _, _, .cons r t, f => .cons (f _ _ r) (Paired.mapP t f)
theorem ObjOk.stay (x : ObjOk P w H h a o) (k : ∀ b u, (b = a ∨ H b = some (.own a)) → h.get? b = some u → h'.get? b = some u)
    (ho : ∀ b, H b = some (.own a) → H' b = some (.own a)) (ht : ∀ b xs, H b = some (.tup xs) → H' b = some (.tup xs)) : ObjOk P w H' h' a o := by
  induction o with
  | lst xs => obtain ⟨z, its, n, r, e⟩ := x; exact ⟨z, its, n, r, k _ _ (.inl rfl) e⟩
  | tup xs => obtain ⟨z, its, r, ob, e, c⟩ := x; exact ⟨z, its, r, ob, k _ _ (.inl rfl) e, c⟩
  | dK kvs => obtain ⟨z, y, vs, r, ob, es, ep, e, c⟩ := x; exact ⟨z, y, vs, r, ob, es, ep, k _ _ (.inl rfl) e, c⟩
  | dT kvs =>
    obtain ⟨z, y, xs, r, ob, es, ep, e, c⟩ := x
    exact ⟨z, y, xs, Paired.mapP r fun p q z => ⟨z.1, ht _ _ z.2.1, z.2.2⟩, ob, es, ep, k _ _ (.inl rfl) e, c⟩
  | set S n => obtain ⟨ob, es, ep, t, e, c⟩ := x; exact ⟨ob, es, ep, t, k _ _ (.inl rfl) e, c⟩
  | ins C dx fs =>
    obtain ⟨d, z, ne, e, mA, ⟨od, es, ep, e2, c⟩, r⟩ := x
    exact ⟨ho _ d, z, ne, k _ _ (.inl rfl) e, mA, ⟨od, es, ep, k _ _ (.inr d) e2, c⟩, r⟩
  | own y => obtain ⟨ob, e⟩ := x; exact ⟨ob, k _ _ (.inl rfl) e⟩
  | xd fs => obtain ⟨mA, ⟨od, es, ep, e, c⟩, r⟩ := x; exact ⟨mA, ⟨od, es, ep, k _ _ (.inl rfl) e, c⟩, r⟩
  | rng lo hi => obtain ⟨t, u, v, e⟩ := x; exact ⟨t, u, v, k _ _ (.inl rfl) e⟩
  | frz ob u ih => obtain ⟨e, q⟩ := x; exact ⟨k _ _ (.inl rfl) e, ih q⟩
  | tbl ps =>
    have e : h.get? a = some { cls := .none, data := .fields ps } := x
    show h'.get? a = some { cls := .none, data := .fields ps }
    exact k a _ (.inl rfl) e
  | met f y =>
    have e : h.get? a = some (PySem.W.methodObj (.ref f) (.ref y)) := x
    show h'.get? a = some (PySem.W.methodObj (.ref f) (.ref y))
    exact k a _ (.inl rfl) e
  | ext φ => obtain ⟨p, ⟨o, e⟩, st⟩ := x; exact ⟨st _ _ p fun o q => k _ _ (.inl rfl) q, ⟨o, k _ _ (.inl rfl) e⟩, st⟩
theorem HOk.lt (x : HOk P w H h) (e : H a = some o) : a < h.objs.size := (x a o e).lt
theorem HOk.fresh (x : HOk P w H h) (e : h.objs.size ≤ a) : H a = none := by
  cases q : H a with
  | none => rfl
  | some u => exact absurd (Nat.lt_of_lt_of_le (x.lt q) e) (Nat.lt_irrefl _)
theorem HOk.kept (x : HOk P w H h) (k : ∀ b u, h.get? b = some u → h'.get? b = some u) : HOk P w H h' := fun a o e =>
  (x a o e).stay (fun b u _ q => k b u q) (fun _ q => q) fun _ _ q => q
theorem HOk.laid (x : HOk P w H h) (k : ∀ b u, h.get? b = some u → h'.get? b = some u) (hp : h.objs.size ≤ a) (new : ObjOk P w (upd H a o) h' a o) : HOk P w (upd H a o) h' := fun b u e => by
  have hn := x.fresh hp
  by_cases hb : b = a
  · subst hb; rw [upd_same] at e; cases e; exact new
  · rw [upd_ne hb] at e
    exact (x b u e).stay (fun c v _ q => k c v q) (fun c q => by rw [upd_ne (ne_of_none q hn)]; exact q) fun c xs q => by rw [upd_ne (ne_of_none q hn)]; exact q
end
def Rd (H : Hp) (a : Addr) (u : HO) : Prop := H a = some u ∨ ∃ o, H a = some (.frz o u)
theorem Rd.ok {P : Program} {w : World} {H : Hp} {h : Heap} {a : Addr} {u : HO} (r : Rd H a u) (x : HOk P w H h) : ObjOk P w H h a u := by
  rcases r with r | ⟨o, r⟩
  · exact x a u r
  · obtain ⟨_, q⟩ := x a _ r
    exact q
def Mut : Option HO → Prop
  | some (.lst _) => True
  | some (.dK _) => True
  | some (.dT _) => True
  | some (.set _ _) => True
  | some (.ins _ _ _) => True
  | some (.ext _) => True
  | _ => False
section
variable {P : Program} {w : World} {H : Hp} {h h' : Heap} {x e : Addr} {o' : HO}
theorem HOk.write (ok : HOk P w H h) (mu : Mut (H x)) (he : e = x ∨ H e = some (.own x)) (k : ∀ b u, b ≠ e → h.get? b = some u → h'.get? b = some u) (heo : ∃ u, h'.get? e = some u)
    (new : ObjOk P w (upd H x o') h' x o') : HOk P w (upd H x o') h' := fun b u q => by
  have nown : ∀ c y, H c = some (.own y) → c ≠ x := fun c y r z => by subst z; rw [r] at mu; exact mu
  have ntup : ∀ c xs, H c = some (.tup xs) → c ≠ x := fun c xs r z => by subst z; rw [r] at mu; exact mu
  by_cases hb : b = x
  · subst hb; rw [upd_same] at q; cases q; exact new
  · rw [upd_ne hb] at q
    by_cases hbe : b = e
    · have q' : H b = some (.own x) := by
        rcases he with z | z
        · exact absurd (hbe.trans z) hb
        · rw [hbe]; exact z
      rw [q] at q'; cases q'
      obtain ⟨v, hv⟩ := heo
      exact ⟨v, by rw [hbe]; exact hv⟩
    · refine (ok b u q).stay (fun c v hc r => k c v ?_ r) (fun c r => by rw [upd_ne (nown c b r)]; exact r) fun c xs r => by rw [upd_ne (ntup c xs r)]; exact r
      rcases hc with rfl | hc
      · exact hbe
      · rintro rfl
        rcases he with z | z
        · exact nown c b hc z
        · rw [hc] at z; cases z; exact hb rfl
end
structure Un (fs ex : List Addr) (H H' : Hp) (h h' : Heap) : Prop where
  keep : ∀ b o, h.get? b = some o → H b = none → b ∉ fs → b ∉ ex → h'.get? b = some o
  slot : ∀ b o, h.get? b = some o → H b = none → b ∈ fs → b ∉ ex → ∃ sl, h'.get? b = some { o with slots := sl }
  free : ∀ b o, h.get? b = some o → H b = none → b ∉ ex → H' b = none
  there : ∀ b o, h.get? b = some o → b ∉ ex → ∃ o', h'.get? b = some o'
  tups : ∀ b xs, H b = some (.tup xs) → H' b = some (.tup xs)
  frzs : ∀ b o u, H b = some (.frz o u) → H' b = some (.frz o u)
  tbls : ∀ b ps, H b = some (.tbl ps) → ∃ more, H' b = some (.tbl (ps ++ more))
section
variable {fs fs' ex ex' : List Addr} {H H1 H2 : Hp} {h h1 h2 h' : Heap} {a x e : Addr} {o : HO}
theorem Un.any (u : Un fs ex H H1 h h1) {b : Addr} {ob : Obj} (q : h.get? b = some ob) (n : H b = none) (hx : b ∉ ex) : ∃ sl, h1.get? b = some { ob with slots := sl } := by
  by_cases hb : b ∈ fs
  · exact u.slot b ob q n hb hx
  · exact ⟨ob.slots, u.keep b ob q n hb hx⟩
theorem Un.kept (k : ∀ b u, h.get? b = some u → h'.get? b = some u) : Un fs ex H H h h' :=
  ⟨fun b ob q _ _ _ => k b ob q, fun b ob q _ _ _ => ⟨ob.slots, k b ob q⟩, fun _ _ _ n _ => n, fun b ob q _ => ⟨ob, k b ob q⟩, fun _ _ q => q, fun _ _ _ q => q, fun _ ps q => ⟨#[], by rw [q]; simp⟩⟩
theorem Un.refl : Un fs ex H H h h := Un.kept fun _ _ q => q
theorem Un.laid (k : ∀ b u, h.get? b = some u → h'.get? b = some u) (hp : h.objs.size ≤ a) (hn : H a = none) : Un fs ex H (upd H a o) h h' where
  keep := fun b u q _ _ _ => k b u q
  slot := fun b u q _ _ _ => ⟨u.slots, k b u q⟩
  free := fun b u q n _ => by rw [upd_ne (Nat.ne_of_lt (Nat.lt_of_lt_of_le (Heap.lt_size q) hp))]; exact n
  there := fun b u q _ => ⟨u, k b u q⟩
  tups := fun b xs q => by rw [upd_ne (ne_of_none q hn)]; exact q
  frzs := fun b u xs q => by rw [upd_ne (ne_of_none q hn)]; exact q
  tbls := fun b ps q => ⟨#[], by rw [upd_ne (ne_of_none q hn), q]; simp⟩
theorem Un.write (mu : Mut (H x)) (he : e = x ∨ H e = some (.own x)) (k : ∀ b u, b ≠ e → h.get? b = some u → h'.get? b = some u) (heo : ∃ u, h'.get? e = some u) : Un fs ex H (upd H x o) h h' := by
  have hx : ∀ b, H b = none → b ≠ x := fun b n z => by subst z; rw [n] at mu; exact mu
  have hb : ∀ b, H b = none → b ≠ e := fun b n z => by
    subst z
    rcases he with r | r
    · exact hx b n r
    · rw [n] at r; cases r
  have hm : ∀ b u, H b = some u → ¬ Mut (some u) → b ≠ x := fun b u q nm z => by subst z; rw [q] at mu; exact nm mu
  refine ⟨fun b u q n _ _ => k b u (hb b n) q, fun b u q n _ _ => ⟨u.slots, k b u (hb b n) q⟩, fun b u q n _ => by rw [upd_ne (hx b n)]; exact n, fun b u q _ => ?_,
    fun b xs q => by rw [upd_ne (hm b _ q fun z => z)]; exact q, fun b u xs q => by rw [upd_ne (hm b _ q fun z => z)]; exact q, fun b ps q => ⟨#[], by rw [upd_ne (hm b _ q fun z => z), q]; simp⟩⟩
  by_cases hbe : b = e
  · subst hbe; exact heo
  · exact ⟨u, k b u hbe q⟩
end
def trk (h : Heap) (H : Hp) : List Addr := (List.range h.objs.size).filter fun a => (H a).isSome
def hidT (h : Heap) (H : Hp) : Heap := PySem.W.hideAll h (trk h H)
theorem hidT_size (h : Heap) (H : Hp) : (hidT h H).objs.size = h.objs.size := PySem.W.hideAll_size _ _
theorem hidT_get {h : Heap} {H : Hp} {b : Addr} {o : Obj} (e : h.get? b = some o) (n : H b = none) : (hidT h H).get? b = some o :=
  PySem.W.hideAll_get _ e fun hm => by
    have q : (H b).isSome = true := (List.mem_filter.mp hm).2
    rw [n] at q; simp at q
theorem of_hidT {h : Heap} {H : Hp} {b : Addr} {o : Obj} (e : (hidT h H).get? b = some o) : h.get? b = some o ∧ H b = none := by
  have e' : h.get? b = some o := PySem.W.of_hideAll (trk h H) e
  refine ⟨e', ?_⟩
  cases q : H b with
  | none => rfl
  | some x =>
    have hm : b ∈ trk h H := List.mem_filter.mpr ⟨List.mem_range.mpr (Heap.lt_size e'), by simp [q]⟩
    have z : (hidT h H).get? b = none := PySem.W.hideAll_none (trk h H) hm
    rw [z] at e; cases e
end L2
namespace L2
open PySem PySem.Spec PyProof.Rows
structure Mod (K : PySem.W.Frag) (mg : Str → Option Value) (base : Heap) : Prop where
  kin : K.In base
  glob : base.Ns mainGlobals mg
  blt : ∃ mb, base.Ns builtinsNs mb ∧ ∀ x : Str, x ≠ "__name__" → mb x = bootBuiltins x
  nolimit : base.NoLimit
structure Cx where
  prog : Program
  w : World
  K : PySem.W.Frag
  mg : Str → Option Value
  base : Heap
  A : Around
  N : List Str
  s₀ : Shared
  H₀ : Hp
  env : Env
  outer : List Env
  stack : List Env
  ex : List Addr
  fn : Str → Bool
  calm : Bool
  pn : List (Addr × Obj)
  xe : Value → Shared → Prop
def frs (l : List Env) : List Addr := l.filterMap (·.frame)
abbrev Cx.fs (X : Cx) : List Addr := frs X.outer
def Vis (sc : Scope) (x : Str) : Prop := sc.names.lookup x = some .local ∨ sc.names.lookup x = some .cell ∨ sc.names.lookup x = some .free
def Loc (sc : Scope) (x : Str) : Prop := sc.names.lookup x = some .local ∨ sc.names.lookup x = some .cell
def Look (env : Env) (h : Heap) (m : Str → Option Value) (x : Str) (u : Value) : Prop :=
  (env.kindOf x = some .local ∧ m x = some u) ∨ ((env.kindOf x = some .cell ∨ env.kindOf x = some .free) ∧ ∃ c, env.cells.lookup x = some c ∧ h.IsCell c (some u))
structure Cx.Ok (X : Cx) : Prop where
  mod : Mod X.K X.mg X.base
  kind : X.env.scope.kind = .function
  glob : X.env.globals = mainGlobals
  blt : X.env.builtins = builtinsNs
  above : X.s₀.heap.objs.size ≤ X.env.locals
  inj : ∀ x y c, X.env.cells.lookup x = some c → X.env.cells.lookup y = some c → x = y
  has : ∀ x, (X.env.kindOf x = some .cell ∨ X.env.kindOf x = some .free) → ∃ c, X.env.cells.lookup x = some c
  cab : ∀ x c, X.fn x = true → X.env.cells.lookup x = some c → X.s₀.heap.objs.size ≤ c
  hd : X.calm = true → X.A.handled = none
  frames : X.A.frames = some X.stack
  stk : X.stack = X.outer ∨ (X.stack = X.env :: X.outer ∧ X.env.frame = some X.env.locals)
  exf : ∀ b ∈ X.ex, b ≠ X.env.locals ∧ ∀ x c, X.env.cells.lookup x = some c → c ≠ b
  bs : ∀ b o, X.base.get? b = some o → X.s₀.heap.get? b = some o ∧ X.H₀ b = none
  bsz : X.base.objs.size ≤ X.s₀.heap.objs.size
  noex : ∀ b o, X.base.get? b = some o → b ∉ X.ex
  exfs : ∀ b ∈ X.ex, b ∉ X.fs
  funs : X.s₀.heap.FunFrames X.base X.outer
  frf : ∀ b ∈ X.fs, X.H₀ b = none
structure Inv (X : Cx) (pins : List (Addr × Obj)) (σ : List (Option V)) (H : Hp) (s : Shared) : Prop where
  ok : X.Ok
  os : s.os = X.s₀.os
  bare : AllBare s.gens
  base : Un X.fs X.ex X.H₀ H X.s₀.heap s.heap
  loc : ∃ m, s.heap.Ns X.env.locals m ∧ ∀ (i : Nat) (x : Str) (v : V), X.N[i]? = some x → σ[i]? = some (some v) → Vis X.env.scope x → ∃ u, RelV v u ∧ Look X.env s.heap m x u
  cell : ∀ x c, X.env.cells.lookup x = some c → ∃ v, s.heap.IsCell c v
  free : H X.env.locals = none
  freeC : ∀ x c, X.env.cells.lookup x = some c → H c = none
  pin : ∀ p ∈ X.pn ++ pins, s.heap.get? p.1 = some p.2 ∧ H p.1 = none ∧ p.1 ≠ X.env.locals ∧ p.1 ∉ X.fs ∧ ∀ v, p.2.data ≠ .cell v
  hok : HOk X.prog X.w H s.heap
  len : σ.length = X.N.length
section
variable {X : Cx} {pins : List (Addr × Obj)} {σ : List (Option V)} {H H' : Hp} {s : Shared} {h' : Heap}
theorem Cx.Ok.nofr (ok : X.Ok) {b : Addr} {o : Obj} (e : X.base.get? b = some o) : b ∉ X.fs := fun hb => by
  have := (ok.funs.mem hb).1
  rw [e] at this; cases this
theorem Inv.bs (I : Inv X pins σ H s) : ∀ b o, X.base.get? b = some o → s.heap.get? b = some o ∧ H b = none := fun b o e =>
  ⟨I.base.keep b o (I.ok.bs b o e).1 (I.ok.bs b o e).2 (I.ok.nofr e) (I.ok.noex b o e), I.base.free b o (I.ok.bs b o e).1 (I.ok.bs b o e).2 (I.ok.noex b o e)⟩
theorem Inv.bk (I : Inv X pins σ H s) : ∀ b o, X.base.get? b = some o → s.heap.get? b = some o := fun b o e => (I.bs b o e).1
theorem Inv.mod (I : Inv X pins σ H s) : Mod X.K X.mg X.base := I.ok.mod
theorem Inv.kIn (I : Inv X pins σ H s) : X.K.In s.heap := I.ok.mod.kin.keeps I.bk
theorem Inv.lt (I : Inv X pins σ H s) : X.env.locals < s.heap.objs.size := let ⟨_, hn, _⟩ := I.loc; hn.lt
theorem Inv.sz (I : Inv X pins σ H s) : X.s₀.heap.objs.size ≤ s.heap.objs.size := Nat.le_trans I.ok.above (Nat.le_of_lt I.lt)
theorem Inv.nofs (I : Inv X pins σ H s) {a : Addr} (h : s.heap.objs.size ≤ a) : a ∉ X.fs := fun hb => by
  obtain ⟨_, o, ho, _⟩ := I.ok.funs.mem hb
  exact absurd (Nat.lt_of_lt_of_le (Heap.lt_size ho) (Nat.le_trans I.sz h)) (Nat.lt_irrefl _)
theorem Inv.cne (I : Inv X pins σ H s) : ∀ x c, X.env.cells.lookup x = some c → c ≠ X.env.locals := fun x c e z => by
  obtain ⟨v, o, ho, hd⟩ := I.cell x c e
  obtain ⟨m, ⟨o', es, ep, ho', hd', _⟩, _⟩ := I.loc
  rw [z, ho'] at ho; cases ho; rw [hd'] at hd; cases hd
theorem Inv.funs (I : Inv X pins σ H s) : s.heap.FunFrames X.base X.outer := by
  have all : ∀ (l : List Env), (∀ b ∈ frs l, b ∈ X.fs) → X.s₀.heap.FunFrames X.base l → s.heap.FunFrames X.base l := by
    intro l
    induction l with
    | nil => intro _ _; trivial
    | cons env r ih =>
      intro hs hl
      obtain ⟨hk, ⟨L, o, hf, hn, ho, hd⟩, hr⟩ := hl
      have hL : L ∈ X.fs := hs L (by unfold frs; rw [List.filterMap_cons, hf]; exact List.mem_cons_self)
      obtain ⟨sl, e⟩ := I.base.slot L o ho (I.ok.frf L hL) hL fun z => I.ok.exfs L z hL
      exact ⟨hk, ⟨L, _, hf, hn, e, hd⟩, ih (fun b hb => hs b (by unfold frs; rw [List.filterMap_cons, hf]; exact List.mem_cons_of_mem _ hb)) hr⟩
  exact all X.outer (fun _ hb => hb) I.ok.funs
theorem Inv.stack (I : Inv X pins σ H s) : s.heap.FunFrames X.base X.stack := by
  rcases I.ok.stk with e | ⟨e, hf⟩
  · rw [e]; exact I.funs
  · rw [e]
    obtain ⟨m, hn, _⟩ := I.loc
    refine .cons (by rw [I.ok.kind]; decide) hf hn ?_ I.funs
    exact Heap.get?_none_of_le (Nat.le_trans I.ok.bsz I.ok.above)
theorem Inv.stkSub (I : Inv X pins σ H s) : ∀ b ∈ frs X.stack, b ∈ X.env.locals :: X.fs := fun b hb => by
  rcases I.ok.stk with e | ⟨e, hf⟩
  · rw [e] at hb; exact List.mem_cons_of_mem _ hb
  · rw [e] at hb
    unfold frs at hb
    rw [List.filterMap_cons, hf] at hb
    exact hb
theorem Inv.stkFree (I : Inv X pins σ H s) : ∀ b ∈ frs X.stack, H b = none := fun b hb => by
  rcases List.mem_cons.mp (I.stkSub b hb) with e | hb
  · rw [e]; exact I.free
  · obtain ⟨_, o, ho, _⟩ := I.ok.funs.mem hb
    exact I.base.free b o ho (I.ok.frf b hb) fun z => I.ok.exfs b z hb
theorem Inv.step {g' : Array GenState} {t' : Nat} {d' : Drawn} {ch : List Addr} (I : Inv X pins σ H s)
    (hch : ∀ b ∈ ch, (b ∈ X.ex ∨ X.s₀.heap.objs.size ≤ b) ∧ b ≠ X.env.locals ∧ (∀ x c, X.env.cells.lookup x = some c → c ≠ b) ∧ ∀ p ∈ X.pn ++ pins, p.1 ≠ b)
    (keep : ∀ b o, b ≠ X.env.locals → b ∉ X.fs → b ∉ ch → s.heap.get? b = some o → H b = none → h'.get? b = some o)
    (slot : ∀ b o, b ≠ X.env.locals → b ∈ X.fs → b ∉ ch → s.heap.get? b = some o → H b = none → ∃ sl, h'.get? b = some { o with slots := sl }) (free : ∀ b o, b ∉ ch → s.heap.get? b = some o → H b = none → H' b = none)
    (there : ∀ b o, b ∉ ch → s.heap.get? b = some o → ∃ o', h'.get? b = some o')
    (tups : ∀ b xs, H b = some (.tup xs) → H' b = some (.tup xs)) (frzs : ∀ b o u, H b = some (.frz o u) → H' b = some (.frz o u)) (tbls : ∀ b ps, H b = some (.tbl ps) → ∃ more, H' b = some (.tbl (ps ++ more)))
    (ns : ∀ m, s.heap.Ns X.env.locals m → h'.Ns X.env.locals m) (hok : HOk X.prog X.w H' h') (hg : AllBare g') :
    Inv X pins σ H' { s with heap := h', gens := g', drawn := d', toks := t' } := by
  have neL : ∀ b o, X.s₀.heap.get? b = some o → b ≠ X.env.locals := fun b o e => Nat.ne_of_lt (Nat.lt_of_lt_of_le (Heap.lt_size e) I.ok.above)
  have neC : ∀ b o, X.s₀.heap.get? b = some o → b ∉ X.ex → b ∉ ch := fun b o e hx hb => by
    rcases (hch b hb).1 with z | z
    · exact hx z
    · exact absurd (Nat.lt_of_lt_of_le (Heap.lt_size e) z) (Nat.lt_irrefl _)
  have cellK : ∀ x c, X.env.cells.lookup x = some c → ∀ v, s.heap.IsCell c v → h'.IsCell c v := fun x c e v ⟨o, ho, hd⟩ => by
    have nch : c ∉ ch := fun z => (hch c z).2.2.1 x c e rfl
    by_cases hc : c ∈ X.fs
    · obtain ⟨sl, q⟩ := slot c o (I.cne x c e) hc nch ho (I.freeC x c e)
      exact ⟨_, q, hd⟩
    · exact ⟨o, keep c o (I.cne x c e) hc nch ho (I.freeC x c e), hd⟩
  refine ⟨I.ok, I.os, hg, ⟨fun b o e n hb hx => ?_, fun b o e n hb hx => ?_, fun b o e n hx => ?_, fun b o e hx => ?_, fun b xs e => tups b xs (I.base.tups b xs e), fun b o xs e => frzs b o xs (I.base.frzs b o xs e), fun b ps e => ?_⟩, ?_, fun x c e => ?_, ?_, fun x c e => ?_, fun p hp => ?_, hok, I.len⟩
  · exact keep b o (neL b o e) hb (neC b o e hx) (I.base.keep b o e n hb hx) (I.base.free b o e n hx)
  · obtain ⟨sl, e1⟩ := I.base.slot b o e n hb hx
    obtain ⟨sl', e2⟩ := slot b _ (neL b o e) hb (neC b o e hx) e1 (I.base.free b o e n hx)
    exact ⟨sl', e2⟩
  · obtain ⟨o', e1⟩ := I.base.there b o e hx
    exact free b o' (neC b o e hx) e1 (I.base.free b o e n hx)
  · obtain ⟨o', e1⟩ := I.base.there b o e hx
    exact there b o' (neC b o e hx) e1
  · obtain ⟨m1, e1⟩ := I.base.tbls b ps e
    obtain ⟨m2, e2⟩ := tbls b _ e1
    exact ⟨m1 ++ m2, by rw [e2, Array.append_assoc]⟩
  · obtain ⟨m, hn, hl⟩ := I.loc
    refine ⟨m, ns m hn, fun i x v e1 e2 e3 => ?_⟩
    obtain ⟨u, r, l⟩ := hl i x v e1 e2 e3
    refine ⟨u, r, ?_⟩
    rcases l with l | ⟨k, c, e, z⟩
    · exact .inl l
    · exact .inr ⟨k, c, e, cellK x c e _ z⟩
  · obtain ⟨v, z⟩ := I.cell x c e
    exact ⟨v, cellK x c e v z⟩
  · obtain ⟨m, ⟨o, _, _, ho, _⟩, _⟩ := I.loc
    exact free _ o (fun z => (hch _ z).2.1 rfl) ho I.free
  · obtain ⟨v, o, ho, hd⟩ := I.cell x c e
    exact free c o (fun z => (hch c z).2.2.1 x c e rfl) ho (I.freeC x c e)
  · obtain ⟨e, n, ne, nf, d⟩ := I.pin p hp
    have nch : p.1 ∉ ch := fun z => (hch p.1 z).2.2.2 p hp rfl
    exact ⟨keep p.1 p.2 ne nf nch e n, free p.1 p.2 nch e n, ne, nf, d⟩
theorem Inv.un {t' : Nat} (I : Inv X pins σ H s) (u : Un X.fs [] H H' s.heap h') (hok : HOk X.prog X.w H' h') : Inv X pins σ H' { s with heap := h', toks := t' } := by
  obtain ⟨m, ⟨o, es, ep, ho, r⟩, _⟩ := id I.loc
  obtain ⟨sl, hL⟩ := u.any ho I.free (by simp)
  exact I.step (g' := s.gens) (d' := s.drawn) (ch := []) (fun _ z => nomatch z) (fun b o _ hb _ e n => u.keep b o e n hb (by simp)) (fun b o _ hb _ e n => u.slot b o e n hb (by simp)) (fun b o _ e n => u.free b o e n (by simp)) (fun b o _ e => u.there b o e (by simp)) u.tups u.frzs u.tbls (fun m' hm => by
    obtain ⟨o', es', ep', ho', r'⟩ := hm
    rw [ho] at ho'; cases ho'
    exact ⟨_, es', ep', hL, r'⟩) hok I.bare
theorem Inv.call {g' : Array GenState} {t' : Nat} {d' : Drawn} {ch : List Addr} (I : Inv X pins σ H s) (u : Un (frs X.stack) ch H H' s.heap h') (hok : HOk X.prog X.w H' h') (hg : AllBare g')
    (hch : ∀ b ∈ ch, (b ∈ X.ex ∨ X.s₀.heap.objs.size ≤ b) ∧ b ≠ X.env.locals ∧ (∀ x c, X.env.cells.lookup x = some c → c ≠ b) ∧ ∀ p ∈ X.pn ++ pins, p.1 ≠ b) :
    Inv X pins σ H' { s with heap := h', gens := g', drawn := d', toks := t' } := by
  obtain ⟨m, ⟨o, es, ep, ho, r⟩, _⟩ := id I.loc
  obtain ⟨sl, hL⟩ := u.any ho I.free fun z => (hch _ z).2.1 rfl
  exact I.step (ch := ch) hch (fun b o hL hb hc e n => u.keep b o e n (fun z => (List.mem_cons.mp (I.stkSub b z)).elim hL hb) hc) (fun b o _ _ hc e n => u.any e n hc) (fun b o hc e n => u.free b o e n hc) (fun b o hc e => u.there b o e hc) u.tups u.frzs u.tbls (fun m' hm => by
    obtain ⟨o', es', ep', ho', r'⟩ := hm
    rw [ho] at ho'; cases ho'
    exact ⟨_, es', ep', hL, r'⟩) hok hg
theorem Inv.turned {t' : Nat} {it : Addr} (I : Inv X pins σ H s) (k : ∀ b o, b ≠ it → s.heap.get? b = some o → h'.get? b = some o) (hn : H it = none) (hL : it ≠ X.env.locals)
    (h1 : it ∈ X.ex ∨ X.s₀.heap.objs.size ≤ it) (h2 : ∀ x c, X.env.cells.lookup x = some c → c ≠ it) (h3 : ∀ p ∈ X.pn ++ pins, p.1 ≠ it) : Inv X pins σ H { s with heap := h', toks := t' } := by
  have nit : ∀ b u, H b = some u → b ≠ it := fun b u e z => by rw [z, hn] at e; cases e
  refine I.step (g' := s.gens) (d' := s.drawn) (ch := [it]) (fun b hb => ?_) (fun b o _ _ hc e _ => k b o (fun z => hc (by simp [z])) e) (fun b o _ _ hc e _ => ⟨o.slots, k b o (fun z => hc (by simp [z])) e⟩) (fun _ _ _ _ n => n)
    (fun b o hc e => ⟨o, k b o (fun z => hc (by simp [z])) e⟩) (fun _ _ e => e) (fun _ _ _ e => e) (fun b ps e => ⟨#[], by rw [e]; simp⟩) (fun m hm => ?_) (fun b u e => ?_) I.bare
  · have e : b = it := by simpa using hb
    subst e
    exact ⟨h1, hL, h2, h3⟩
  · obtain ⟨o, es, ep, ho, r⟩ := hm
    exact ⟨o, es, ep, k _ o (Ne.symm hL) ho, r⟩
  · refine (I.hok b u e).stay (fun c v hc q => k c v ?_ q) (fun _ q => q) fun _ _ q => q
    rcases hc with z | z
    · rw [z]; exact nit b u e
    · exact nit c _ z
theorem Inv.tok (I : Inv X pins σ H s) (t : Nat) : Inv X pins σ H { s with toks := t } := I.un (h' := s.heap) (t' := t) Un.refl I.hok
theorem Inv.kept {t' : Nat} (I : Inv X pins σ H s) (k : ∀ b u, s.heap.get? b = some u → h'.get? b = some u) : Inv X pins σ H { s with heap := h', toks := t' } := I.un (Un.kept k) (I.hok.kept k)
theorem Inv.laid {a : Addr} {o : HO} {t' : Nat} (I : Inv X pins σ H s) (k : ∀ b u, s.heap.get? b = some u → h'.get? b = some u) (hp : s.heap.objs.size ≤ a) (new : ObjOk X.prog X.w (upd H a o) h' a o) :
    Inv X pins σ (upd H a o) { s with heap := h', toks := t' } := I.un (Un.laid k hp (I.hok.fresh hp)) (I.hok.laid k hp new)
theorem Inv.write {x e : Addr} {o : HO} {t' : Nat} (I : Inv X pins σ H s) (mu : Mut (H x)) (he : e = x ∨ H e = some (.own x)) (k : ∀ b u, b ≠ e → s.heap.get? b = some u → h'.get? b = some u) (heo : ∃ u, h'.get? e = some u)
    (new : ObjOk X.prog X.w (upd H x o) h' x o) : Inv X pins σ (upd H x o) { s with heap := h', toks := t' } := I.un (Un.write mu he k heo) (I.hok.write mu he k heo new)
theorem Inv.pins_of {pins' : List (Addr × Obj)} (I : Inv X pins σ H s) (h : ∀ p ∈ pins', s.heap.get? p.1 = some p.2 ∧ H p.1 = none ∧ p.1 ≠ X.env.locals ∧ p.1 ∉ X.fs ∧ ∀ v, p.2.data ≠ .cell v) : Inv X pins' σ H s :=
  ⟨I.ok, I.os, I.bare, I.base, I.loc, I.cell, I.free, I.freeC, fun p hp => (List.mem_append.mp hp).elim (fun z => I.pin p (List.mem_append_left _ z)) (h p), I.hok, I.len⟩
theorem nodup_ix {N : List Str} (hN : N.Nodup) {i j : Nat} {x : Str} (a : N[i]? = some x) (b : N[j]? = some x) : i = j := by
  obtain ⟨h1, e1⟩ := List.getElem?_eq_some_iff.mp a
  obtain ⟨h2, e2⟩ := List.getElem?_eq_some_iff.mp b
  exact (List.getElem_inj hN).mp (e1.trans e2.symm)
theorem store_ok2 {M : Model} {A : Around} {E : Value → Shared → Prop} {i : Nat} {x : Str} {v : V} {u : Value} {Q : Unit → Shared → Prop} (I : Inv X pins σ H s) (hN : X.N.Nodup) (hi : X.N[i]? = some x) (hx : Loc X.env.scope x) (r : RelV v u)
    (h : ∀ s', Inv X pins (σ.set i (some v)) H s' → (∃ a, Heap.SameBut a s.heap s'.heap ∧ (a = X.env.locals ∨ X.env.cells.lookup x = some a)) → Q () s') (hf : X.fn x = true ∨ X.env.scope.names.lookup x = some .local := by first | exact .inl rfl | exact .inr rfl | assumption) : wpAny M A (storeName X.env x u) Q E s := by
  obtain ⟨m, hn, hl⟩ := id I.loc
  have hcls : (X.env.scope.kind == .class || (X.env.scope.kind == .module && X.env.locals != X.env.globals)) = false := by rw [I.ok.kind]; rfl
  have hiσ : i < σ.length := by rw [I.len]; exact (List.getElem?_eq_some_iff.mp hi).1
  have cne := I.cne
  have tracked : ∀ {a : Addr} {h' : Heap}, (∃ o, s.heap.get? a = some o ∧ H a = none) → Heap.SameBut a s.heap h' → HOk X.prog X.w H h' := fun {a h'} ha hs b ob e => by
    obtain ⟨_, _, hfree⟩ := ha
    refine (I.hok b ob e).stay (fun c w' hc q => (hs.2 c ?_).trans q) (fun _ q => q) fun _ _ q => q
    rintro rfl
    rcases hc with rfl | hc
    · rw [hfree] at e; cases e
    · rw [hfree] at hc; cases hc
  rcases hx with hk | hk
  · refine wpAny_storeName_local hk hn (fun h' hn' hs => ?_) hcls
    obtain ⟨oL, _, _, hoL, _⟩ := id hn
    refine h _ ⟨I.ok, I.os, I.bare, ⟨fun b o e n hb hx => ?_, fun b o e n hb hx => ?_, I.base.free, fun b o e hx => ?_, I.base.tups, I.base.frzs, I.base.tbls⟩, ⟨_, hn', fun j y v' e1 e2 e3 => ?_⟩, fun y c e => ?_, I.free, I.freeC, fun p hp => ?_, tracked ⟨oL, hoL, I.free⟩ hs, by simpa using I.len⟩ ⟨_, hs, .inl rfl⟩
    · exact (hs.2 b (Nat.ne_of_lt (Nat.lt_of_lt_of_le (Heap.lt_size e) I.ok.above))).trans (I.base.keep b o e n hb hx)
    · obtain ⟨sl, e1⟩ := I.base.slot b o e n hb hx
      exact ⟨sl, (hs.2 b (Nat.ne_of_lt (Nat.lt_of_lt_of_le (Heap.lt_size e) I.ok.above))).trans e1⟩
    · obtain ⟨o', e1⟩ := I.base.there b o e hx
      exact ⟨o', (hs.2 b (Nat.ne_of_lt (Nat.lt_of_lt_of_le (Heap.lt_size e) I.ok.above))).trans e1⟩
    · by_cases hj : j = i
      · subst hj
        rw [hi] at e1; cases e1
        rw [List.getElem?_set_self hiσ] at e2
        cases e2
        exact ⟨u, r, .inl ⟨hk, by simp⟩⟩
      · rw [List.getElem?_set_ne (Ne.symm hj)] at e2
        obtain ⟨u', r', q⟩ := hl j y v' e1 e2 e3
        refine ⟨u', r', ?_⟩
        rcases q with ⟨k, e⟩ | ⟨k, c, e, z⟩
        · refine .inl ⟨k, ?_⟩
          have : y ≠ x := fun e => hj (nodup_ix hN e1 (e ▸ hi))
          simp [this, e]
        · exact .inr ⟨k, c, e, z.sameBut hs (cne y c e)⟩
    · obtain ⟨w', z⟩ := I.cell y c e
      exact ⟨w', z.sameBut hs (cne y c e)⟩
    · obtain ⟨e, n, ne, nf, d⟩ := I.pin p hp
      exact ⟨(hs.2 p.1 ne).trans e, n, ne, nf, d⟩
  · have hfn : X.fn x = true := by
      rcases hf with z | z
      · exact z
      · rw [z] at hk; cases hk
    obtain ⟨c, hc⟩ := I.ok.has x (.inl hk)
    obtain ⟨w', z⟩ := I.cell x c hc
    refine wpAny_storeName_cell I.ok.kind hk hc z (fun h' hc' hs => ?_)
    obtain ⟨oc, hoc, hocd⟩ := id z
    refine h { s with heap := h' } ⟨I.ok, I.os, I.bare, ⟨fun b o e n hb hx => ?_, fun b o e n hb hx => ?_, I.base.free, fun b o e hx => ?_, I.base.tups, I.base.frzs, I.base.tbls⟩, ⟨m, hn.sameBut hs (Ne.symm (cne x c hc)), fun j y v' e1 e2 e3 => ?_⟩, fun y c' e => ?_, I.free, I.freeC, fun p hp => ?_, tracked ⟨oc, hoc, I.freeC x c hc⟩ hs, by simpa using I.len⟩ ⟨c, hs, .inr hc⟩
    · exact (hs.2 b (Nat.ne_of_lt (Nat.lt_of_lt_of_le (Heap.lt_size e) (I.ok.cab x c hfn hc)))).trans (I.base.keep b o e n hb hx)
    · obtain ⟨sl, e1⟩ := I.base.slot b o e n hb hx
      exact ⟨sl, (hs.2 b (Nat.ne_of_lt (Nat.lt_of_lt_of_le (Heap.lt_size e) (I.ok.cab x c hfn hc)))).trans e1⟩
    · obtain ⟨o', e1⟩ := I.base.there b o e hx
      exact ⟨o', (hs.2 b (Nat.ne_of_lt (Nat.lt_of_lt_of_le (Heap.lt_size e) (I.ok.cab x c hfn hc)))).trans e1⟩
    · by_cases hj : j = i
      · subst hj
        rw [hi] at e1; cases e1
        rw [List.getElem?_set_self hiσ] at e2
        cases e2
        exact ⟨u, r, .inr ⟨.inl hk, c, hc, hc'⟩⟩
      · rw [List.getElem?_set_ne (Ne.symm hj)] at e2
        obtain ⟨u', r', q⟩ := hl j y v' e1 e2 e3
        refine ⟨u', r', ?_⟩
        rcases q with q | ⟨k, c', e, z'⟩
        · exact .inl q
        · refine .inr ⟨k, c', e, z'.sameBut hs ?_⟩
          rintro rfl
          exact hj (nodup_ix hN e1 (I.ok.inj _ _ _ e hc ▸ hi))
    · by_cases hcc : c' = c
      · subst hcc; exact ⟨_, hc'⟩
      · obtain ⟨w2, z2⟩ := I.cell y c' e
        exact ⟨w2, z2.sameBut hs hcc⟩
    · obtain ⟨e, n, ne, nf, d⟩ := I.pin p hp
      refine ⟨(hs.2 p.1 ?_).trans e, n, ne, nf, d⟩
      intro q
      rw [q, hoc] at e
      have q' : oc = p.2 := Option.some.inj e
      exact d w' (by rw [← q']; exact hocd)
theorem store_ok {M : Model} {A : Around} {E : Value → Shared → Prop} {i : Nat} {x : Str} {v : V} {u : Value} {Q : Unit → Shared → Prop} (I : Inv X pins σ H s) (hN : X.N.Nodup) (hi : X.N[i]? = some x) (hx : Loc X.env.scope x) (r : RelV v u)
    (h : ∀ s', Inv X pins (σ.set i (some v)) H s' → Q () s') (hf : X.fn x = true ∨ X.env.scope.names.lookup x = some .local := by first | exact .inl rfl | exact .inr rfl | assumption) : wpAny M A (storeName X.env x u) Q E s :=
  store_ok2 I hN hi hx r (fun s' I' _ => h s' I') hf
theorem Inv.call' {s' : Shared} {ch : List Addr} (I : Inv X pins σ H s) (ho : s'.os = s.os) (u : Un (frs X.stack) ch H H' s.heap s'.heap) (hok : HOk X.prog X.w H' s'.heap) (hg : AllBare s'.gens)
    (hch : ∀ b ∈ ch, (b ∈ X.ex ∨ X.s₀.heap.objs.size ≤ b) ∧ b ≠ X.env.locals ∧ (∀ x c, X.env.cells.lookup x = some c → c ≠ b) ∧ ∀ p ∈ X.pn ++ pins, p.1 ≠ b) : Inv X pins σ H' s' := by
  obtain ⟨h', g', d', t', o'⟩ := s'
  have e : o' = s.os := ho
  subst e
  exact I.call (g' := g') (t' := t') (d' := d') u hok hg hch
end
abbrev XK := Value → Option Addr → Hp → Prop
abbrev St := List (Option V)
abbrev VK := V → Hp → Prop
abbrev TE := St → Hp → VK → Prop
abbrev TT := St → Hp → (Bool → Hp → Prop) → Prop
abbrev TA := St → Hp → (List V → Hp → Prop) → Prop
structure Ends where
  nx : St → Hp → Prop
  rt : VK
  bk : St → Hp → Prop := fun _ _ => False
  ct : St → Hp → Prop := fun _ _ => False
abbrev TS := Ends → St → Hp → Prop
def EP (X : Cx) (pins : List (Addr × Obj)) (σ : St) (Q : VK) (u : Value) (s' : Shared) : Prop := ∃ v H', Inv X pins σ H' s' ∧ RelV v u ∧ Q v H'
def TP (X : Cx) (pins : List (Addr × Obj)) (σ : St) (Q : Bool → Hp → Prop) (b : Bool) (s' : Shared) : Prop := ∃ H', Inv X pins σ H' s' ∧ Q b H'
def AP (X : Cx) (pins : List (Addr × Obj)) (σ : St) (Q : List V → Hp → Prop) (us : List Value) (s' : Shared) : Prop := ∃ vs H', Inv X pins σ H' s' ∧ Vals vs us ∧ Q vs H'
def SP (X : Cx) (pins : List (Addr × Obj)) (D : Ends) (f : Flow) (s' : Shared) : Prop :=
  match f with
  | .next => ∃ σ' H', Inv X pins σ' H' s' ∧ D.nx σ' H'
  | .brk => ∃ σ' H', Inv X pins σ' H' s' ∧ D.bk σ' H'
  | .cont => ∃ σ' H', Inv X pins σ' H' s' ∧ D.ct σ' H'
  | .ret u => ∃ v σ' H', Inv X pins σ' H' s' ∧ RelV v u ∧ D.rt v H'
def PE (X : Cx) (e : Expr) (t : TE) : Prop :=
  ∀ (pins : List (Addr × Obj)) (s : Shared) (σ : St) (H : Hp) (Q : VK), Inv X pins σ H s → t σ H Q → wpAny (model X.prog X.w) X.A (eval e X.env) (EP X pins σ Q) X.xe s
def PT (X : Cx) (e : Expr) (t : TT) : Prop :=
  ∀ (pins : List (Addr × Obj)) (s : Shared) (σ : St) (H : Hp) (Q : Bool → Hp → Prop), Inv X pins σ H s → t σ H Q → wpAny (model X.prog X.w) X.A (isTrue e X.env (eval e X.env)) (TP X pins σ Q) X.xe s
def PA (X : Cx) (es : List Expr) (t : TA) : Prop :=
  ∀ (pos : Pos) (pins : List (Addr × Obj)) (s : Shared) (σ : St) (H : Hp) (Q : List V → Hp → Prop), Inv X pins σ H s → t σ H Q → wpAny (model X.prog X.w) X.A (spliced (backTo pos (starEach es X.env))) (AP X pins σ Q) X.xe s
def PS (X : Cx) (st : Stmt) (t : TS) : Prop :=
  ∀ (pins : List (Addr × Obj)) (s : Shared) (σ : St) (H : Hp) (D : Ends), Inv X pins σ H s → t D σ H → wpAny (model X.prog X.w) X.A (exec st X.env) (SP X pins D) X.xe s
def PSs (X : Cx) (st : List Stmt) (t : TS) : Prop :=
  ∀ (pins : List (Addr × Obj)) (s : Shared) (σ : St) (H : Hp) (D : Ends), Inv X pins σ H s → t D σ H → wpAny (model X.prog X.w) X.A (execs st X.env) (SP X pins D) X.xe s
theorem thn {α : Type} {t : Sem α} {Q Q' : α → Shared → Prop} {M : Model} {A : Around} {E : Value → Shared → Prop} {s : Shared} (h : wpAny M A t Q E s) (hQ : ∀ a s, Q a s → Q' a s) : wpAny M A t Q' E s := wpAny_mono h hQ fun _ _ x => x
end L2
namespace L2
open PySem PySem.Spec PyProof.Rows
section
variable {X : Cx}
def tVar (i : Nat) : TE := fun σ H Q => ∃ v, σ[i]? = some (some v) ∧ Q v H
def tC (v : V) : TE := fun _ H Q => Q v H
theorem pe_var {i : Nat} {x : Str} {pos : Pos} (hN : X.N[i]? = some x) (hv : Vis X.env.scope x) (hd : (x == ("__debug__" : Str)) = false := by decide) (hcd : (x == ("__classdict__" : Str)) = false := by decide) : PE X (.Name x pos) (tVar i) := by
  intro pins s σ H Q I h
  obtain ⟨v, e, h⟩ := h
  obtain ⟨m, hn, hl⟩ := I.loc
  obtain ⟨u, r, l⟩ := hl i x v hN e hv
  have fin : EP X pins σ Q u s := ⟨v, H, I, r, h⟩
  rcases l with ⟨hk, hm⟩ | ⟨hk, c, hc, hcell⟩
  · exact wpAny_Name (wpAny_loadName_local I.ok.kind hk hn hm fin) hd
  · rcases hk with hk | hk
    · exact wpAny_Name (wpAny_loadName_cell I.ok.kind hk hc hcell fin) hd
    · exact wpAny_Name (wpAny_loadName_free I.ok.kind hk hc hcell fin hcd) hd
theorem pe_int {i j pos} : PE X (.Constant (.int i) j pos) (tC (.int i)) := fun _ _ _ H _ I h => wpAny_Constant_int ⟨.int i, H, I.tok _, ⟨_, rfl⟩, h⟩
theorem pe_bl {b j pos} : PE X (.Constant (.bool b) j pos) (tC (.bl b)) := fun _ _ _ H _ I h => Constant_bool ⟨.bl b, H, I, rfl, h⟩
theorem pe_non {j pos} : PE X (.Constant .none j pos) (tC .non) := fun _ _ _ H _ I h => Constant_none ⟨.non, H, I, rfl, h⟩
theorem pe_str {x j pos} : PE X (.Constant (.str x) j pos) (tC (.str x)) := fun _ _ _ H _ I h => Calls.Constant_str ⟨.str x, H, I.tok _, ⟨_, rfl⟩, h⟩
def Gl (X : Cx) (x : Str) : Prop := X.env.kindOf x = some .globalImplicit
theorem ld_glob {E : Value → Shared → Prop} {pins : List (Addr × Obj)} {s : Shared} {σ : St} {H : Hp} {x : Str} {u : Value} {pos : Pos} {Q : Value → Shared → Prop} (I : Inv X pins σ H s) (hg : Gl X x) (hm : X.mg x = some u) (h : Q u s)
    (hd : (x == ("__debug__" : Str)) = false := by decide) : wpAny (model X.prog X.w) X.A (eval (.Name x pos) X.env) Q E s :=
  Calls.Name_function_global I.ok.kind hg (Calls.loadGlobal_global (by rw [I.ok.glob]; exact I.mod.glob.keeps I.bk) hm h) hd
theorem ld_blt {E : Value → Shared → Prop} {pins : List (Addr × Obj)} {s : Shared} {σ : St} {H : Hp} {x : Str} {u : Value} {pos : Pos} {Q : Value → Shared → Prop} (I : Inv X pins σ H s) (hg : Gl X x) (hm : X.mg x = none) (hv : bootBuiltins x = some u) (h : Q u s)
    (hn : x ≠ "__name__" := by decide) (hd : (x == ("__debug__" : Str)) = false := by decide) : wpAny (model X.prog X.w) X.A (eval (.Name x pos) X.env) Q E s := by
  obtain ⟨mb, h1, h2⟩ := I.mod.blt
  exact Calls.Name_function_global I.ok.kind hg (Calls.loadGlobal_builtin (by rw [I.ok.glob]; exact I.mod.glob.keeps I.bk) hm (by rw [I.ok.blt]; exact h1.keeps I.bk) ((h2 x hn).trans hv) h) hd
variable {a b : Expr} {ta tb : TE} {pos : Pos}
variable {tA tB' : TT} {rest : List Expr}
end
end L2
namespace L2
open PySem PySem.Spec PyProof.Rows
def SqL (K : PySem.W.Frag) (H : Hp) (a : Addr) (xs : List V) : Prop :=
  Rd H a (.lst xs) ∨
    ∃ (o : Obj) (its : Array Value) (n : Nat), K.lookup a = some o ∧ o.cls = .type "list" ∧ o.dict = none ∧ o.data = .seq its n ∧ its.size ≤ sizeLine ∧ Vals xs its.toList
def SqT (K : PySem.W.Frag) (H : Hp) (a : Addr) (xs : List V) : Prop :=
  Rd H a (.tup xs) ∨
    ∃ (o : Obj) (its : Array Value) (n : Nat), K.lookup a = some o ∧ o.cls = .type "tuple" ∧ o.data = .seq its n ∧ its.size ≤ sizeLine ∧ Vals xs its.toList
def absV : Value → Option V
  | .none => some .non
  | .bool b => some (.bl b)
  | .int i _ => some (.int i)
  | .str x _ => some (.str x)
  | .bytes b _ => some (.byt b)
  | .float b _ => some (.flt b)
  | .ref a => some (.ref a)
  | .type n => some (.ty n)
  | _ => none
theorem RelV.abs {x : V} {u : Value} (r : RelV x u) : absV u = some x := by
  cases x with
  | non => cases r; rfl
  | bl _ => cases r; rfl
  | int _ => obtain ⟨t, rfl⟩ := r; rfl
  | str _ => obtain ⟨t, rfl⟩ := r; rfl
  | byt _ => obtain ⟨t, rfl⟩ := r; rfl
  | flt _ => obtain ⟨t, rfl⟩ := r; rfl
  | ref _ => cases r; rfl
  | ty _ => cases r; rfl
theorem RelV.inj {x y : V} {u : Value} (r : RelV x u) (q : RelV y u) : x = y := Option.some.inj (r.abs.symm.trans q.abs)
theorem Vals.inj : ∀ {xs ys : List V} {us : List Value}, Vals xs us → Vals ys us → xs = ys
  | _, _, _, .nil, .nil => rfl
  | _, _, _, .cons r t, .cons r' t' => by rw [r.inj r', Vals.inj t t']
section
variable {X : Cx} {pins : List (Addr × Obj)} {σ : St} {H : Hp} {s : Shared} {a : Addr} {xs ys : List V}
theorem Inv.list (I : Inv X pins σ H s) (h : SqL X.K H a xs) : ∃ its : List Value, Vals xs its ∧ PlainL s.heap a its.toArray ∧ xs.length ≤ sizeLine := by
  rcases h with h | ⟨o, its, n, hk, hc, hd, hs, hz, r⟩
  · obtain ⟨z, its, n, r, e⟩ := h.ok I.hok
    exact ⟨its, r, ⟨_, n, e, rfl, rfl, rfl⟩, z⟩
  · refine ⟨its.toList, r, ⟨o, n, I.kIn a o hk, hc, hd, by simpa using hs⟩, ?_⟩
    have e := r.length
    simp only [Array.length_toList] at e
    lia
theorem Inv.tuple (I : Inv X pins σ H s) (h : SqT X.K H a xs) : ∃ its : List Value, Vals xs its ∧ IsTup s.heap a its.toArray ∧ xs.length ≤ sizeLine := by
  rcases h with h | ⟨o, its, n, hk, hc, hs, hz, r⟩
  · obtain ⟨z, its, r, p⟩ := h.ok I.hok
    exact ⟨its, r, p, z⟩
  · refine ⟨its.toList, r, ⟨o, I.kIn a o hk, hc, n, by simpa using hs⟩, ?_⟩
    have e := r.length
    simp only [Array.length_toList] at e
    lia
theorem Inv.list_inj (I : Inv X pins σ H s) (h : SqL X.K H a xs) (h' : SqL X.K H a ys) : xs = ys := by
  obtain ⟨its, r, ⟨o, n, e, _, _, d⟩, _⟩ := I.list h
  obtain ⟨its', r', ⟨o', n', e', _, _, d'⟩, _⟩ := I.list h'
  rw [e] at e'; cases e'
  rw [d] at d'
  injection d' with d1 _
  have : its = its' := by simpa using congrArg Array.toList d1
  subst this
  exact r.inj r'
theorem Inv.tuple_inj (I : Inv X pins σ H s) (h : SqT X.K H a xs) (h' : SqT X.K H a ys) : xs = ys := by
  obtain ⟨its, r, ⟨o, e, _, n, d⟩, _⟩ := I.tuple h
  obtain ⟨its', r', ⟨o', e', _, n', d'⟩, _⟩ := I.tuple h'
  rw [e] at e'; cases e'
  rw [d] at d'
  injection d' with d1 _
  have : its = its' := by simpa using congrArg Array.toList d1
  subst this
  exact r.inj r'
end
abbrev Cx.wish (X : Cx) (E : Value → Shared → Prop) : Cx := { X with xe := E }
abbrev Cx.nox (X : Cx) : Cx := X.wish fun _ _ => False
theorem Cx.Ok.wish {X : Cx} (ok : X.Ok) (E : Value → Shared → Prop) : (X.wish E).Ok :=
  ⟨ok.mod, ok.kind, ok.glob, ok.blt, ok.above, ok.inj, ok.has, ok.cab, ok.hd, ok.frames, ok.stk, ok.exf, ok.bs, ok.bsz, ok.noex, ok.exfs, ok.funs, ok.frf⟩
theorem Cx.Ok.unwish {X : Cx} {E : Value → Shared → Prop} (ok : (X.wish E).Ok) : X.Ok :=
  ⟨ok.mod, ok.kind, ok.glob, ok.blt, ok.above, ok.inj, ok.has, ok.cab, ok.hd, ok.frames, ok.stk, ok.exf, ok.bs, ok.bsz, ok.noex, ok.exfs, ok.funs, ok.frf⟩
section
variable {X : Cx} {pins : List (Addr × Obj)} {σ : St} {H : Hp} {s : Shared} {E : Value → Shared → Prop}
theorem Inv.wish (I : Inv X pins σ H s) (E : Value → Shared → Prop) : Inv (X.wish E) pins σ H s := ⟨I.ok.wish E, I.os, I.bare, I.base, I.loc, I.cell, I.free, I.freeC, I.pin, I.hok, I.len⟩
theorem Inv.unwish (I : Inv (X.wish E) pins σ H s) : Inv X pins σ H s := ⟨I.ok.unwish, I.os, I.bare, I.base, I.loc, I.cell, I.free, I.freeC, I.pin, I.hok, I.len⟩
theorem SP.unwish {D : Ends} {f : Flow} {s' : Shared} (h : SP (X.wish E) pins D f s') : SP X pins D f s' := by
  cases f with
  | next => obtain ⟨σ', H', I, q⟩ := h; exact ⟨σ', H', I.unwish, q⟩
  | brk => obtain ⟨σ', H', I, q⟩ := h; exact ⟨σ', H', I.unwish, q⟩
  | cont => obtain ⟨σ', H', I, q⟩ := h; exact ⟨σ', H', I.unwish, q⟩
  | ret u => obtain ⟨v, σ', H', I, r, q⟩ := h; exact ⟨v, σ', H', I.unwish, r, q⟩
theorem PSs.nox {st : List Stmt} {t : TS} (h : PSs X.nox st t) : PSs X st t := fun pins s σ H D I hw =>
  wpAny_mono (h pins s σ H D (I.wish _) hw) (fun _ _ q => q.unwish) fun _ _ z => False.elim z
end
section
variable {X : Cx} {st : Stmt} {rest : List Stmt} {t u : TS} {e : Expr} {te : TE} {pos : Pos}
theorem Inv.quiet {pins : List (Addr × Obj)} {σ : St} {H : Hp} {s : Shared} (I : Inv X pins σ H s) : interactive X.env = false := by simp [interactive, I.ok.kind]
end
abbrev TG := V → St → Hp → (St → Hp → Prop) → Prop
abbrev TGs := List V → St → Hp → (St → Hp → Prop) → Prop
def PG (X : Cx) (target : Expr) (t : TG) : Prop :=
  ∀ (pins : List (Addr × Obj)) (s : Shared) (σ : St) (H : Hp) (v : V) (u : Value) (Q : St → Hp → Prop), Inv X pins σ H s → RelV v u → t v σ H Q →
    wpAny (model X.prog X.w) X.A (assign target X.env u) (fun _ s' => ∃ σ' H', Inv X pins σ' H' s' ∧ Q σ' H') X.xe s
def PGs (X : Cx) (ts : List Expr) (t : TGs) : Prop :=
  ∀ (pins : List (Addr × Obj)) (s : Shared) (σ : St) (H : Hp) (vs : List V) (us : List Value) (Q : St → Hp → Prop), Inv X pins σ H s → Vals vs us → t vs σ H Q →
    wpAny (model X.prog X.w) X.A (assignInOrder ((assignEach ts X.env).map (·.2)) us) (fun _ s' => ∃ σ' H', Inv X pins σ' H' s' ∧ Q σ' H') X.xe s
section
variable {X : Cx} {pos : Pos}
def gName (i : Nat) : TG := fun v σ H Q => Q (σ.set i (some v)) H
theorem pg_name {i : Nat} {x : Str} (hN : X.N.Nodup) (hi : X.N[i]? = some x) (hx : Loc X.env.scope x) (hf : X.fn x = true ∨ X.env.scope.names.lookup x = some .local := by first | exact .inl rfl | exact .inr rfl | assumption) : PG X (.Name x pos) (gName i) := by
  intro pins s σ H v u Q I r h
  exact wpAny_assign_Name (store_ok I hN hi hx r (fun s' I' => ⟨_, H, I', h⟩) hf)
def gNil : TGs := fun vs σ H Q => vs = [] ∧ Q σ H
def gCons (t : TG) (u : TGs) : TGs := fun vs σ H Q => ∃ v r, vs = v :: r ∧ t v σ H fun σ' H' => u r σ' H' Q
theorem pgs_nil : PGs X [] gNil := by
  intro pins s σ H vs us Q I r h
  obtain ⟨e, h⟩ := h
  subst e
  cases r
  exact assignInOrder_nil ⟨σ, H, I, h⟩
theorem pgs_cons {e : Expr} {es : List Expr} {t : TG} {u : TGs} (h1 : PG X e t) (h2 : PGs X es u)
    (hs : (assignEach (e :: es) X.env).map (·.2) = assign e X.env :: (assignEach es X.env).map (·.2) := by rfl) : PGs X (e :: es) (gCons t u) := by
  intro pins s σ H vs us Q I r h
  obtain ⟨v, vr, e1, h⟩ := h
  subst e1
  cases r with
  | cons r rr =>
    rw [hs]
    refine assignInOrder_cons (thn (h1 pins s σ H _ _ _ I r h) fun _ s1 ⟨σ1, H1, I1, q1⟩ => ?_)
    exact h2 pins s1 σ1 H1 _ _ Q I1 rr q1
def gTup (K : PySem.W.Frag) (n : Nat) (t : TGs) : TG := fun v σ H Q => ∃ a xs, v = .ref a ∧ SqT K H a xs ∧ xs.length = n ∧ t xs σ H Q
theorem pg_tup {es : List Expr} {k : Nat} {t : TGs} {n : Nat} (hc : X.calm = true) (h : PGs X es t)
    (hn : (assignEach es X.env).length = n := by rfl) (hst : (assignEach es X.env).findIdx? (·.1) = none := by rfl) : PG X (.Tuple es k pos) (gTup X.K n t) := by
  intro pins s σ H v u Q I r hw
  obtain ⟨a, xs, e1, hq, hl, hw⟩ := hw
  subst e1
  cases r
  obtain ⟨its, rv, ht, hz⟩ := I.tuple hq
  refine assign_Tuple_tuple (I.ok.hd hc) ht (by simp [hn, ← hl, rv.length]) hst fun h' hx => ?_
  have I1 : Inv X pins σ H { s with heap := h' } := I.kept (t' := s.toks) fun b o e => hx b o (Nat.ne_of_lt (Heap.lt_size e)) e
  exact h pins _ σ H xs _ Q I1 (by simpa using rv) hw
def tAsg (te : TE) (g : TG) : TS := fun D σ H => te σ H fun x H1 => g x σ H1 D.nx
theorem ps_asg {tg e : Expr} {te : TE} {g : TG} (he : PE X e te) (hg : PG X tg g) (hs : swapsWithSole [tg] e pos.line X.env = pure false := by rfl) (hw : swappedStores [tg] e X.env = pure none := by rfl)
    (h1 : (assignEach [tg] X.env).map (·.2) = [assign tg X.env] := by rfl) : PS X (.Assign [tg] e pos) (tAsg te g) := by
  intro pins s σ H D I h
  refine wpAny_Assign_stores (thn (he pins s σ H _ I h) fun v s1 ⟨x, H1, I1, r1, q1⟩ => ?_) hs hw
  rw [h1]
  exact thn (hg pins s1 σ H1 x v _ I1 r1 q1) fun _ s2 q => q
theorem ps_set {i : Nat} {x : Str} {e : Expr} {te : TE} {pos' : Pos} (hN : X.N.Nodup) (hi : X.N[i]? = some x) (hx : Loc X.env.scope x) (he : PE X e te) (hs : swapsWith e (some (.Name x pos')) pos.line X.env = pure false := by rfl) (hf : X.fn x = true ∨ X.env.scope.names.lookup x = some .local := by first | exact .inl rfl | exact .inr rfl | assumption) :
    PS X (.Assign [.Name x pos'] e pos) (tAsg te (gName i)) := by
  intro pins s σ H D I h
  refine wpAny_Assign_Name (thn (he pins s σ H _ I h) fun v s1 ⟨y, H1, I1, r1, q1⟩ => ?_) hs
  exact store_ok I1 hN hi hx r1 (fun s2 I2 => ⟨_, H1, I2, q1⟩) hf
end
section
variable {X : Cx} {pos : Pos}
def tWhile (c : TT) (tb : TS) : TS := fun D σ H => ∃ W : Nat → St → Hp → Prop, (∃ m, W m σ H) ∧ ∀ m σ H, W m σ H →
  c σ H fun b H1 => if b = true then ∃ N : St → Hp → Prop, (∀ σ' H', N σ' H' → ∃ m', m' < m ∧ W m' σ' H') ∧ tb { D with nx := N, ct := N, bk := D.nx } σ H1 else D.nx σ H1
theorem ps_while {c : Expr} {body : List Stmt} {tc : TT} {tb : TS} (hp : PassesOwn (model X.prog X.w) X.A X.env X.xe) (hc : PT X c tc) (hb : PSs X body tb) : PS X (.While c body [] pos) (tWhile tc tb) := by
  intro pins s σ H D I h
  obtain ⟨W, ⟨m0, w0⟩, turn⟩ := h
  refine wpAny_While (codeAny_whileLoop (fun n s' => ∃ σ' H', Inv X pins σ' H' s' ∧ W n σ' H') ?_ m0 ⟨σ, H, I, w0⟩)
  rintro n s1 ⟨σ1, H1, I1, w1⟩
  refine wpAny_passesOwn hp (thn (hc pins s1 σ1 H1 _ I1 (turn n σ1 H1 w1)) fun b s2 ⟨H2, I2, q2⟩ => ?_)
  cases b with
  | true =>
    obtain ⟨N, hN, q2⟩ := q2
    rw [if_pos rfl]
    refine wpAny_passesOwn hp (thn (hb pins s2 σ1 H2 _ I2 q2) fun f s3 q3 => ?_)
    cases f with
    | next =>
      obtain ⟨σ3, H3, I3, n3⟩ := q3
      obtain ⟨m', hm, w3⟩ := hN σ3 H3 n3
      exact ⟨m', hm, σ3, H3, I3, w3⟩
    | cont =>
      obtain ⟨σ3, H3, I3, n3⟩ := q3
      obtain ⟨m', hm, w3⟩ := hN σ3 H3 n3
      exact ⟨m', hm, σ3, H3, I3, w3⟩
    | brk => exact q3
    | ret v => exact q3
  | false =>
    rw [if_neg Bool.false_ne_true]
    exact wpAny_execs_nil ⟨σ1, H2, I2, q2⟩
end
structure It where
  go : Nat → Hp → Prop
  yld : Nat → Hp → V → Hp → Prop
  stop : Nat → Hp → Prop
def FpOk (X : Cx) (pins : List (Addr × Obj)) (H : Hp) (b : Addr) : Prop :=
  H b = none ∧ b ≠ X.env.locals ∧ b ∉ X.fs ∧ (b ∈ X.ex ∨ X.s₀.heap.objs.size ≤ b) ∧ (∀ x c, X.env.cells.lookup x = some c → c ≠ b) ∧ ∀ p ∈ X.pn ++ pins, p.1 ≠ b
theorem Inv.fpOk {X : Cx} {pins : List (Addr × Obj)} {σ : St} {H H' : Hp} {s : Shared} {b : Addr} (I : Inv X pins σ H s) (hb : s.heap.objs.size ≤ b) (hn : H' b = none) : FpOk X pins H' b := by
  refine ⟨hn, Nat.ne_of_gt (Nat.lt_of_lt_of_le I.lt hb), I.nofs hb, .inr (Nat.le_trans I.sz hb), fun x c e z => ?_, fun p hp z => ?_⟩
  · obtain ⟨v, q⟩ := I.cell x c e
    exact absurd (Nat.lt_of_lt_of_le q.lt (by rw [z]; exact hb)) (Nat.lt_irrefl _)
  · exact absurd (Nat.lt_of_lt_of_le (Heap.lt_size (I.pin p hp).1) (by rw [z]; exact hb)) (Nat.lt_irrefl _)
structure Turn (P : Program) (w : World) (K : PySem.W.Frag) (tg : Expr) (J : It) (fp : List Addr) (it : Addr) (tn : Nat → Heap → Prop) : Prop where
  mem : it ∈ fp
  obj : ∀ i h, tn i h → ∀ b ∈ fp, ∃ o, h.get? b = some o ∧ ∀ v, o.data ≠ .cell v
  keep : ∀ i h h', tn i h → (∀ b ∈ fp, ∀ o, h.get? b = some o → h'.get? b = some o) → tn i h'
  item : ∀ (X : Cx), X.prog = P → X.w = w → X.K = K → X.calm = true → ∀ (i : Nat) (pins : List (Addr × Obj)) (s : Shared) (σ : St) (H : Hp) (E : Value → Shared → Prop), Inv X pins σ H s → (∀ b ∈ fp, FpOk X pins H b) → tn i s.heap → J.go i H →
    wpAny (model P w) X.A (pyNext (.ref it)) (fun r s1 => ∃ u, r = some u ∧
      wpAny (model P w) X.A (letOwnedTupleGo tg (.ref it) u) (fun _ s2 => ∃ x H', Inv X pins σ H' s2 ∧ RelV x u ∧ J.yld i H x H' ∧ tn (i + 1) s2.heap ∧ ∀ b ∈ fp, H' b = none) E s1) E s
  done : ∀ (X : Cx), X.prog = P → X.w = w → X.K = K → X.calm = true → ∀ (i : Nat) (pins : List (Addr × Obj)) (s : Shared) (σ : St) (H : Hp) (E : Value → Shared → Prop), Inv X pins σ H s → (∀ b ∈ fp, FpOk X pins H b) → tn i s.heap → J.stop i H →
    wpAny (model P w) X.A (pyNext (.ref it)) (fun r s1 => r = none ∧ Inv X pins σ H s1) E s
  self : ∀ (A : Around) (i : Nat) (s : Shared) (Q : Value → Shared → Prop) (E : Value → Shared → Prop), tn i s.heap → Q (.ref it) s → wpAny (model P w) A (pyIter (.ref it)) Q E s
abbrev TI := St → Hp → (It → Hp → Prop) → Prop
def PIE (X : Cx) (pins : List (Addr × Obj)) (σ : St) (tg : Expr) (R : It → Hp → Prop) (itv : Value) (s2 : Shared) : Prop :=
  ∃ (it : Addr) (fp : List Addr) (tn : Nat → Heap → Prop) (J : It) (H' : Hp), itv = .ref it ∧ Inv X pins σ H' s2 ∧ Turn X.prog X.w X.K tg J fp it tn ∧ tn 0 s2.heap ∧ (∀ b ∈ fp, FpOk X pins H' b) ∧ R J H'
def PI (X : Cx) (tg iter : Expr) (wi : TI) : Prop :=
  ∀ (pins : List (Addr × Obj)) (s : Shared) (σ : St) (H : Hp) (R : It → Hp → Prop), Inv X pins σ H s → wi σ H R →
    wpAny (model X.prog X.w) X.A (eval iter X.env) (fun v s1 => wpAny (model X.prog X.w) X.A (pyIter v) (PIE X pins σ tg R) X.xe s1) X.xe s
theorem go_of {M : Model} {A : Around} {E : Value → Shared → Prop} {s : Shared} {tg : Expr} {it : Addr} {u : Value} {o : Obj} {n : String} {vs : Array Value} {Q : Unit → Shared → Prop} (ho : s.heap.get? it = some o) (hc : o.cls = .type n) (hd : o.data = .fields vs)
    (hn : ["enumerate", "zip", "dict_itemiterator", "dict_reverseitemiterator", "odict_iterator", "itertools.zip_longest", "itertools.pairwise"].contains n = false) (hQ : Q () s) : wpAny M A (letOwnedTupleGo tg (.ref it) u) Q E s := by
  unfold letOwnedTupleGo
  cases tg <;> first
    | exact wpAny_pure hQ
    | (cases u <;> first
        | exact wpAny_pure hQ
        | (refine wpAny_bind (wpAny_load ho ?_)
           rw [hc, hd]
           show wpAny M A (if (["enumerate", "zip", "dict_itemiterator", "dict_reverseitemiterator", "odict_iterator", "itertools.zip_longest", "itertools.pairwise"].contains n && vs[0]? == some (rawInt _)) = true then _ else _) Q E s
           rw [if_neg (by intro h; rw [hn, Bool.false_and] at h; cases h)]
           exact wpAny_pure hQ))
def Itl (K : PySem.W.Frag) (a : Addr) : It :=
  ⟨fun i H => ∃ xs x, SqL K H a xs ∧ xs[i]? = some x, fun i H x H' => H' = H ∧ ∀ xs, SqL K H a xs → xs[i]? = some x, fun i H => ∃ xs, SqL K H a xs ∧ xs.length ≤ i⟩
def Itt (K : PySem.W.Frag) (a : Addr) : It :=
  ⟨fun i H => ∃ xs x, SqT K H a xs ∧ xs[i]? = some x, fun i H x H' => H' = H ∧ ∀ xs, SqT K H a xs → xs[i]? = some x, fun i H => ∃ xs, SqT K H a xs ∧ xs.length ≤ i⟩
def Itr (lo : Int) (n : Nat) : It := ⟨fun i _ => i < n, fun i H x H' => H' = H ∧ x = .int (lo + i), fun i _ => n ≤ i⟩
theorem turn_list {P : Program} {w : World} {K : PySem.W.Frag} {tg : Expr} (a it : Addr) : Turn P w K tg (Itl K a) [it] it (fun i h => h.IsListIter it a i) where
  mem := by simp
  obj := fun i h st b hb => by
    have e : b = it := by simpa using hb
    subst e
    obtain ⟨o, e, c, d⟩ := st
    exact ⟨o, e, fun v z => by rw [d] at z; cases z⟩
  keep := fun i h h' st k => st.at fun o e => k it (by simp) o e
  item := by
    intro X hP hw hK hc i pins s σ H E I hf st hg
    subst hP hw hK
    obtain ⟨xs, x, hq, hx⟩ := hg
    obtain ⟨its, rv, p, hz⟩ := I.list hq
    obtain ⟨u, hu, ru⟩ := rv.get hx
    obtain ⟨f0, f1, f2, f3, f4, f5⟩ := hf it (by simp)
    refine wpAny_pyNext_list_item st p.isList (x := u) (by simpa using hu) fun h' st' sb => ?_
    have I1 : Inv X pins σ H { s with heap := h' } := I.turned (t' := s.toks) (fun b o hb e => (sb.2 b hb).trans e) f0 f1 f3 f4 f5
    obtain ⟨o, e, c, d⟩ := id st'
    exact ⟨u, rfl, go_of (s := { s with heap := h' }) e c d (by decide) ⟨x, H, I1, ru, ⟨rfl, fun ys hy => by rw [I.list_inj hy hq]; exact hx⟩, st', fun b hb => (hf b hb).1⟩⟩
  done := by
    intro X hP hw hK hc i pins s σ H E I hf st hg
    subst hP hw hK
    obtain ⟨xs, hq, hx⟩ := hg
    obtain ⟨its, rv, p, hz⟩ := I.list hq
    obtain ⟨f0, f1, f2, f3, f4, f5⟩ := hf it (by simp)
    have hl := rv.length
    exact wpAny_pyNext_list_end (I.ok.hd hc) st p.isList (by simp; lia) fun h' eb => ⟨rfl, I.turned (t' := s.toks) (fun b o hb e => eb b o hb e) f0 f1 f3 f4 f5⟩
  self := fun _ _ _ _ _ st h => wpAny_pyIter_listiter st h
theorem turn_tuple {P : Program} {w : World} {K : PySem.W.Frag} {tg : Expr} (a it : Addr) : Turn P w K tg (Itt K a) [it] it (fun i h => h.IsTupleIter it a i) where
  mem := by simp
  obj := fun i h st b hb => by
    have e : b = it := by simpa using hb
    subst e
    obtain ⟨o, e, c, d⟩ := st
    exact ⟨o, e, fun v z => by rw [d] at z; cases z⟩
  keep := fun i h h' st k => st.at fun o e => k it (by simp) o e
  item := by
    intro X hP hw hK hc i pins s σ H E I hf st hg
    subst hP hw hK
    obtain ⟨xs, x, hq, hx⟩ := hg
    obtain ⟨its, rv, p, hz⟩ := I.tuple hq
    obtain ⟨u, hu, ru⟩ := rv.get hx
    obtain ⟨f0, f1, f2, f3, f4, f5⟩ := hf it (by simp)
    refine wpAny_pyNext_tuple_item st (show s.heap.IsTuple a its.toArray from p) (x := u) (by simpa using hu) fun h' st' sb => ?_
    have I1 : Inv X pins σ H { s with heap := h' } := I.turned (t' := s.toks) (fun b o hb e => (sb.2 b hb).trans e) f0 f1 f3 f4 f5
    obtain ⟨o, e, c, d⟩ := id st'
    exact ⟨u, rfl, go_of (s := { s with heap := h' }) e c d (by decide) ⟨x, H, I1, ru, ⟨rfl, fun ys hy => by rw [I.tuple_inj hy hq]; exact hx⟩, st', fun b hb => (hf b hb).1⟩⟩
  done := by
    intro X hP hw hK hc i pins s σ H E I hf st hg
    subst hP hw hK
    obtain ⟨xs, hq, hx⟩ := hg
    obtain ⟨its, rv, p, hz⟩ := I.tuple hq
    obtain ⟨f0, f1, f2, f3, f4, f5⟩ := hf it (by simp)
    have hl := rv.length
    exact wpAny_pyNext_tuple_end (I.ok.hd hc) st (show s.heap.IsTuple a its.toArray from p) (by simp; lia) fun h' eb => ⟨rfl, I.turned (t' := s.toks) (fun b o hb e => eb b o hb e) f0 f1 f3 f4 f5⟩
  self := fun _ _ _ _ _ st h => wpAny_pyIter_tupleiter st h
theorem turn_range {P : Program} {w : World} {K : PySem.W.Frag} {tg : Expr} (it : Addr) (lo : Int) (n : Nat) : Turn P w K tg (Itr lo n) [it] it (fun i h => IsRangeIter h it (lo + (i : Nat) * 1) ((n : Int) - (i : Nat)) 1) where
  mem := by simp
  obj := fun i h st b hb => by
    have e : b = it := by simpa using hb
    subst e
    exact ⟨_, st, fun v z => by
      have z' : Data.fields _ = Data.cell v := z
      cases z'⟩
  keep := fun i h h' st k => k it (by simp) _ st
  item := by
    intro X hP hw hK hc i pins s σ H E I hf st hg
    subst hP hw hK
    obtain ⟨f0, f1, f2, f3, f4, f5⟩ := hf it (by simp)
    have W := Walks.range (prog := X.prog) (w := X.w) (I.ok.hd hc) it lo 1 n
    refine W.item i s _ _ hg st fun v h' tk hv st' kk => ?_
    obtain ⟨t, rfl⟩ := hv
    have I1 : Inv X pins σ H { s with heap := h', toks := tk } := I.turned (fun b o hb e => kk b o (by simpa using hb) e) f0 f1 f3 f4 f5
    refine ⟨_, rfl, go_of (s := { s with heap := h', toks := tk }) (n := "range_iterator") st' rfl rfl (by decide) ⟨.int (lo + i), H, I1, ⟨t, ?_⟩, ⟨rfl, rfl⟩, st', fun b hb => (hf b hb).1⟩⟩
    rw [Int.mul_one]
  done := by
    intro X hP hw hK hc i pins s σ H E I hf st hg
    subst hP hw hK
    obtain ⟨f0, f1, f2, f3, f4, f5⟩ := hf it (by simp)
    exact wpAny_pyNext_range_end (I.ok.hd hc) st (by have : n ≤ i := hg; lia) fun h' eb => ⟨rfl, I.turned (t' := s.toks) (fun b o hb e => eb b o hb e) f0 f1 f3 f4 f5⟩
  self := fun _ _ _ _ _ st h => wpAny_pyIter_rangeiter st h
end L2
namespace L2
open PySem PySem.Spec PyProof.Rows
section
variable {X : Cx} {tg : Expr}
def iList (K : PySem.W.Frag) (tl : TE) : TI := fun σ H R => tl σ H fun x H1 => ∃ a, x = .ref a ∧ (∃ xs, SqL K H1 a xs) ∧ R (Itl K a) H1
def iTup (K : PySem.W.Frag) (tl : TE) : TI := fun σ H R => tl σ H fun x H1 => ∃ a, x = .ref a ∧ (∃ xs, SqT K H1 a xs) ∧ R (Itt K a) H1
theorem pi_list {l : Expr} {tl : TE} (hl : PE X l tl) : PI X tg l (iList X.K tl) := by
  intro pins s σ H R I h
  refine thn (hl pins s σ H _ I h) fun v s1 ⟨x, H1, I1, r1, q1⟩ => ?_
  obtain ⟨a, e, ⟨xs, hq⟩, q⟩ := q1
  subst e
  cases r1
  obtain ⟨its, rv, p, hz⟩ := I1.list hq
  refine wpAny_pyIter_list p.isList ?_
  refine ⟨s1.heap.objs.size, [s1.heap.objs.size], _, _, H1, rfl, I1.kept (t' := s1.toks) fun b o e => Heap.get?_push_of_some _ e, turn_list a _, ⟨_, Heap.get?_push_size _ rfl, rfl, rfl⟩, fun b hb => ?_, q⟩
  have e : b = s1.heap.objs.size := by simpa using hb
  subst e
  exact I1.fpOk (Nat.le_refl _) (I1.hok.fresh (Nat.le_refl _))
theorem pi_tup {l : Expr} {tl : TE} (hl : PE X l tl) : PI X tg l (iTup X.K tl) := by
  intro pins s σ H R I h
  refine thn (hl pins s σ H _ I h) fun v s1 ⟨x, H1, I1, r1, q1⟩ => ?_
  obtain ⟨a, e, ⟨xs, hq⟩, q⟩ := q1
  subst e
  cases r1
  obtain ⟨its, rv, p, hz⟩ := I1.tuple hq
  refine wpAny_pyIter_tuple (show s1.heap.IsTuple a its.toArray from p) ?_
  refine ⟨s1.heap.objs.size, [s1.heap.objs.size], _, _, H1, rfl, I1.kept (t' := s1.toks) fun b o e => Heap.get?_push_of_some _ e, turn_tuple a _, ⟨_, Heap.get?_push_size _ rfl, rfl, rfl⟩, fun b hb => ?_, q⟩
  have e : b = s1.heap.objs.size := by simpa using hb
  subst e
  exact I1.fpOk (Nat.le_refl _) (I1.hok.fresh (Nat.le_refl _))
theorem range_it {pins : List (Addr × Obj)} {σ : St} {H : Hp} {s : Shared} {R : It → Hp → Prop} {E : Value → Shared → Prop} {lo hi : Int} {t u v : Tok} {tk : Nat} (I : Inv X pins σ H s) (h1 : -(2 ^ 62) ≤ lo) (h2 : lo < 2 ^ 62) (h3 : -(2 ^ 62) ≤ hi) (h4 : hi < 2 ^ 62)
    (q : R (Itr lo (hi - lo).toNat) H) : wpAny (model X.prog X.w) X.A (pyIter (.ref s.heap.objs.size)) (PIE X pins σ tg R) E { s with heap := s.heap.push { cls := .type "range", data := .fields #[.int lo t, .int hi u, .int 1 v] }, toks := tk } := by
  refine wpAny_pyIter_range (IsRange.new ..) (small_one h1 h2 h3 h4) ?_
  have I1 : Inv X pins σ H { s with heap := s.heap.push { cls := .type "range", data := .fields #[.int lo t, .int hi u, .int 1 v] }, toks := tk } := I.kept fun b o e => Heap.get?_push_of_some _ e
  refine ⟨(s.heap.push { cls := .type "range", data := .fields #[.int lo t, .int hi u, .int 1 v] }).objs.size, [(s.heap.push { cls := .type "range", data := .fields #[.int lo t, .int hi u, .int 1 v] }).objs.size], _, _, H, rfl,
    I1.kept (t' := tk) fun b o e => Heap.get?_push_of_some _ e, turn_range _ lo (hi - lo).toNat, ?_, fun b hb => ?_, q⟩
  · have e1 : lo + ((0 : Nat) : Int) * 1 = lo := by simp
    have e2 : (((hi - lo).toNat : Nat) : Int) - ((0 : Nat) : Int) = Builtin.Range.rangeSize lo hi 1 := by rw [rangeSize_one]; split <;> lia
    show IsRangeIter _ _ (lo + ((0 : Nat) : Int) * 1) ((((hi - lo).toNat : Nat) : Int) - ((0 : Nat) : Int)) 1
    rw [e1, e2]
    exact Heap.get?_push_size _ rfl
  · have e : b = (s.heap.push { cls := .type "range", data := .fields #[.int lo t, .int hi u, .int 1 v] }).objs.size := by simpa using hb
    subst e
    exact I1.fpOk (Nat.le_refl _) (I1.hok.fresh (Nat.le_refl _))
def iRng1 (ta : TA) : TI := fun σ H R => ta σ H fun vs H1 => ∃ j : Int, vs = [.int j] ∧ -(2 ^ 62) ≤ j ∧ j < 2 ^ 62 ∧ R (Itr 0 j.toNat) H1
theorem pi_range1 {a : Expr} {ta : TA} {p pos : Pos} (hg : Gl X "range") (hm : X.mg "range" = none) (ha : PA X [a] ta) (hs : starEach [a] X.env = [(false, eval a X.env)] := by rfl) : PI X tg (.Call (.Name "range" p) [a] [] pos) (iRng1 ta) := by
  intro pins s σ H R I h
  refine Call_ (ld_blt I hg hm boot_range (PyProof.Rows.callWith_type1 (thn (ha pos pins s σ H _ I h) fun us s1 ⟨vs, H1, I1, r1, q1⟩ => ?_) hs rfl))
  obtain ⟨j, e, q1, q2, q⟩ := q1
  subst e
  cases r1 with
  | cons r rr =>
    cases rr
    obtain ⟨t, rfl⟩ := r
    exact call_range_1 (range_it I1 (by lia) (by lia) q1 q2 (by simpa using q))
def tFor (wi : TI) (g : TG) (tb : TS) : TS := fun D σ H => wi σ H fun J H1 => ∃ W : Nat → Nat → St → Hp → Prop, (∃ m, W 0 m σ H1) ∧ ∀ i m σ H, W i m σ H →
  (J.stop i H ∧ D.nx σ H) ∨ (J.go i H ∧ ∃ N : St → Hp → Prop, (∀ σ' H', N σ' H' → ∃ m', m' < m ∧ W (i + 1) m' σ' H') ∧ ∀ x H', J.yld i H x H' → g x σ H' fun σ2 H2 => tb { D with nx := N, ct := N, bk := D.nx } σ2 H2)
def pinsAt (fp : List Addr) (h : Heap) : List (Addr × Obj) := fp.filterMap fun b => (h.get? b).map fun o => (b, o)
theorem mem_pinsAt {fp : List Addr} {h : Heap} {b : Addr} {o : Obj} (hb : b ∈ fp) (e : h.get? b = some o) : (b, o) ∈ pinsAt fp h := List.mem_filterMap.mpr ⟨b, hb, by rw [e]; rfl⟩
theorem of_pinsAt {fp : List Addr} {h : Heap} {p : Addr × Obj} (hp : p ∈ pinsAt fp h) : p.1 ∈ fp ∧ h.get? p.1 = some p.2 := by
  obtain ⟨b, hb, e⟩ := List.mem_filterMap.mp hp
  cases q : h.get? b with
  | none => rw [q] at e; cases e
  | some o =>
    rw [q] at e
    have e' : (b, o) = p := Option.some.inj e
    subst e'
    exact ⟨hb, q⟩
theorem Inv.pinned {pins : List (Addr × Obj)} {σ : St} {H : Hp} {s : Shared} {fp : List Addr} (I : Inv X pins σ H s) (hf : ∀ b ∈ fp, FpOk X pins H b) (ho : ∀ b ∈ fp, ∃ o, s.heap.get? b = some o ∧ ∀ v, o.data ≠ .cell v) : Inv X (pins ++ pinsAt fp s.heap) σ H s :=
  I.pins_of fun p hp => (List.mem_append.mp hp).elim (fun z => I.pin p (List.mem_append_right _ z)) fun z => by
    obtain ⟨hb, e⟩ := of_pinsAt z
    obtain ⟨f0, f1, f2, _⟩ := hf p.1 hb
    obtain ⟨o, e', d⟩ := ho p.1 hb
    rw [e] at e'; cases e'
    exact ⟨e, f0, f1, f2, d⟩
theorem Inv.unpinned {pins pl : List (Addr × Obj)} {σ : St} {H : Hp} {s : Shared} (I : Inv X (pins ++ pl) σ H s) : Inv X pins σ H s := I.pins_of fun p hp => I.pin p (List.mem_append_right _ (List.mem_append_left _ hp))
theorem ps_for {iter : Expr} {body : List Stmt} {wi : TI} {g : TG} {tb : TS} {pos : Pos} (hp : PassesOwn (model X.prog X.w) X.A X.env X.xe) (hc : X.calm = true) (hi : PI X tg iter wi) (hg : PG X tg g) (hb : PSs X body tb)
    (hs : ∀ x, foldedSetIterable iter X.env x = pure x := by intro _; rfl) : PS X (.For tg iter body [] pos) (tFor wi g tb) := by
  intro pins s σ H D I h
  refine wpAny_For (thn (hi pins s σ H _ I h) fun v s1 h1 => thn h1 fun itv s2 h2 => ?_) hs
  obtain ⟨it, fp, tn, J, H2, e, I2, T, st2, f2, W, ⟨m0, w0⟩, turn⟩ := h2
  subst e
  have stat : ∀ {H' : Hp}, (∀ b ∈ fp, H' b = none) → ∀ b ∈ fp, FpOk X pins H' b := fun hn b hb => ⟨hn b hb, (f2 b hb).2⟩
  refine codeAny_forLoop_any (fun n s' => ∃ i σ' H', Inv X pins σ' H' s' ∧ tn i s'.heap ∧ (∀ b ∈ fp, H' b = none) ∧ W i n σ' H') ?_ m0 ⟨0, σ, H2, I2, st2, fun b hb => (f2 b hb).1, w0⟩
  rintro n s3 ⟨i, σ3, H3, I3, st3, fr3, w3⟩
  rcases turn i n σ3 H3 w3 with ⟨stop, qn⟩ | ⟨go, N, hN, step⟩
  · refine wpAny_passesOwn hp (thn (T.done X rfl rfl rfl hc i pins s3 σ3 H3 X.xe I3 (stat fr3) st3 stop) fun r s4 ⟨hr, I4⟩ => ?_)
    subst hr
    exact wpAny_execs_nil ⟨σ3, H3, I4, qn⟩
  · refine wpAny_passesOwn hp (thn (T.item X rfl rfl rfl hc i pins s3 σ3 H3 X.xe I3 (stat fr3) st3 go) fun r s4 ⟨u, hr, h4⟩ => ?_)
    subst hr
    refine wpAny_passesOwn hp (thn h4 fun _ s5 ⟨x, H5, I5, r5, y5, st5, fr5⟩ => ?_)
    have I5' := I5.pinned (stat fr5) (T.obj _ _ st5)
    refine wpAny_passesOwn hp (thn (hg _ s5 σ3 H5 x u _ I5' r5 (step x H5 y5)) fun _ s6 ⟨σ6, H6, I6, q6⟩ => ?_)
    refine wpAny_passesOwn hp (thn (hb _ s6 σ6 H6 _ I6 q6) fun f s7 q7 => ?_)
    have again : ∀ {σ7 : St} {H7 : Hp}, Inv X (pins ++ pinsAt fp s5.heap) σ7 H7 s7 → N σ7 H7 → ∃ m, m < n ∧ ∃ i σ' H', Inv X pins σ' H' s7 ∧ tn i s7.heap ∧ (∀ b ∈ fp, H' b = none) ∧ W i m σ' H' := fun {σ7 H7} I7 n7 => by
      obtain ⟨m', hm, w7⟩ := hN σ7 H7 n7
      refine ⟨m', hm, i + 1, σ7, H7, I7.unpinned, T.keep _ _ _ st5 fun b hb o e => (I7.pin (b, o) (List.mem_append_right _ (List.mem_append_right _ (mem_pinsAt hb e)))).1, fun b hb => ?_, w7⟩
      obtain ⟨o, e, d⟩ := T.obj _ _ st5 b hb
      exact (I7.pin (b, o) (List.mem_append_right _ (List.mem_append_right _ (mem_pinsAt hb e)))).2.1
    cases f with
    | next => obtain ⟨σ7, H7, I7, n7⟩ := q7; exact again I7 n7
    | cont => obtain ⟨σ7, H7, I7, n7⟩ := q7; exact again I7 n7
    | brk => obtain ⟨σ7, H7, I7, q7⟩ := q7; exact ⟨σ7, H7, I7.unpinned, q7⟩
    | ret v => obtain ⟨x7, σ7, H7, I7, r7, q7⟩ := q7; exact ⟨x7, σ7, H7, I7.unpinned, r7, q7⟩
end
end L2
namespace L2
open PySem PySem.Spec PyProof.Rows
abbrev R2 := V → V → Hp → VK → Prop
def OpR (X : Cx) (f : Value → Value → Sem Value) (r : R2) : Prop :=
  ∀ (pins : List (Addr × Obj)) (s : Shared) (σ : St) (H : Hp) (x y : V) (v u : Value) (Q : VK), Inv X pins σ H s → RelV x v → RelV y u → r x y H Q →
    wpAny (model X.prog X.w) X.A (f v u) (EP X pins σ Q) X.xe s
def UnR (X : Cx) (f : Value → Sem Value) (r : V → Hp → VK → Prop) : Prop :=
  ∀ (pins : List (Addr × Obj)) (s : Shared) (σ : St) (H : Hp) (x : V) (v : Value) (Q : VK), Inv X pins σ H s → RelV x v → r x H Q →
    wpAny (model X.prog X.w) X.A (f v) (EP X pins σ Q) X.xe s
def CallR (X : Cx) (f : Value) (r : List V → Hp → VK → Prop) : Prop :=
  ∀ (pins : List (Addr × Obj)) (s : Shared) (σ : St) (H : Hp) (xs : List V) (us : List Value) (Q : VK), Inv X pins σ H s → Vals xs us → r xs H Q →
    wpAny (model X.prog X.w) X.A (call f us) (EP X pins σ Q) X.xe s
def rI (C : Int → Int → Prop) (g : Int → Int → V) : R2 := fun x y H Q => ∃ i j, x = .int i ∧ y = .int j ∧ C i j ∧ Q (g i j) H
def rI0 (g : Int → Int → V) : R2 := fun x y H Q => ∃ i j, x = .int i ∧ y = .int j ∧ Q (g i j) H
def rU (g : Int → V) : V → Hp → VK → Prop := fun x H Q => ∃ i, x = .int i ∧ Q (g i) H
section
variable {X : Cx} {a b c : Expr} {ta tb tc : TE} {pos : Pos}
theorem opI {f : Value → Value → Sem Value} {C : Int → Int → Prop} {g : Int → Int → Int}
    (rule : ∀ (i j : Int) (t u : Tok) (s : Shared) (Q : Value → Shared → Prop) (E : Value → Shared → Prop), C i j → Q (.int (g i j) s.toks) { s with toks := s.toks + 1 } → wpAny (model X.prog X.w) X.A (f (.int i t) (.int j u)) Q E s) :
    OpR X f (rI C fun i j => .int (g i j)) := by
  intro pins s σ H x y v u Q I rx ry h
  obtain ⟨i, j, rfl, rfl, hc, q⟩ := h
  obtain ⟨t, rfl⟩ := rx
  obtain ⟨t', rfl⟩ := ry
  exact rule i j t t' s _ _ hc ⟨.int (g i j), H, I.tok _, ⟨_, rfl⟩, q⟩
theorem opI0 {f : Value → Value → Sem Value} {g : Int → Int → Int}
    (rule : ∀ (i j : Int) (t u : Tok) (s : Shared) (Q : Value → Shared → Prop) (E : Value → Shared → Prop), Q (.int (g i j) s.toks) { s with toks := s.toks + 1 } → wpAny (model X.prog X.w) X.A (f (.int i t) (.int j u)) Q E s) :
    OpR X f (rI0 fun i j => .int (g i j)) := by
  intro pins s σ H x y v u Q I rx ry h
  obtain ⟨i, j, rfl, rfl, q⟩ := h
  obtain ⟨t, rfl⟩ := rx
  obtain ⟨t', rfl⟩ := ry
  exact rule i j t t' s _ _ ⟨.int (g i j), H, I.tok _, ⟨_, rfl⟩, q⟩
theorem opB0 {f : Value → Value → Sem Value} {g : Int → Int → Bool}
    (rule : ∀ (i j : Int) (t u : Tok) (s : Shared) (Q : Value → Shared → Prop) (E : Value → Shared → Prop), Q (.bool (g i j)) s → wpAny (model X.prog X.w) X.A (f (.int i t) (.int j u)) Q E s) :
    OpR X f (rI0 fun i j => .bl (g i j)) := by
  intro pins s σ H x y v u Q I rx ry h
  obtain ⟨i, j, rfl, rfl, q⟩ := h
  obtain ⟨t, rfl⟩ := rx
  obtain ⟨t', rfl⟩ := ry
  exact rule i j t t' s _ _ ⟨.bl (g i j), H, I, rfl, q⟩
def CPow (i j : Int) : Prop := 0 ≤ j ∧ j ≤ 1000000 ∧ i.natAbs < 2 ^ 64
def CMul (i j : Int) : Prop := (-(2 ^ 64) < i ∧ i < 2 ^ 64) ∨ (-(2 ^ 64) < j ∧ j < 2 ^ 64)
theorem CMul.ok {i j : Int} (h : CMul i j) : IntMulOk i j := by
  rcases h with ⟨h1, h2⟩ | ⟨h1, h2⟩
  · exact .of_left (intBits_le_64 h1 h2)
  · exact .of_right (intBits_le_64 h1 h2)
theorem op_add : OpR X (binaryOp .Add) (rI0 fun i j => .int (i + j)) := opI0 fun _ _ _ _ _ _ _ q => add_int q
theorem op_sub : OpR X (binaryOp .Sub) (rI0 fun i j => .int (i - j)) := opI0 fun _ _ _ _ _ _ _ q => sub_int q
theorem op_mod : OpR X (binaryOp .Mod) (rI (fun _ j => 0 < j) fun i j => .int (i % j)) := opI fun i j _ _ _ _ _ hc q => by
  have h1 : (0 : Int) < j := hc
  exact mod_int' (by lia) (by rw [Int.fmod_eq_emod_of_nonneg i (by lia)]; exact q)
theorem op_pow : OpR X (binaryOp .Pow) (rI CPow fun i j => .int (i ^ j.toNat)) := opI fun _ _ _ _ _ _ _ hc q => pow_int_small hc.1 hc.2.1 hc.2.2 q
theorem unI {f : Value → Sem Value} {g : Int → Int}
    (rule : ∀ (i : Int) (t : Tok) (s : Shared) (Q : Value → Shared → Prop) (E : Value → Shared → Prop), Q (.int (g i) s.toks) { s with toks := s.toks + 1 } → wpAny (model X.prog X.w) X.A (f (.int i t)) Q E s) :
    UnR X f (rU fun i => .int (g i)) := by
  intro pins s σ H x v Q I rx h
  obtain ⟨i, rfl, q⟩ := h
  obtain ⟨t, rfl⟩ := rx
  exact rule i t s _ _ ⟨.int (g i), H, I.tok _, ⟨_, rfl⟩, q⟩
theorem un_neg : UnR X (unaryOp .USub) (rU fun i => .int (-i)) := unI fun _ _ _ _ _ q => neg_int q
end
def scal : V → V → Bool
  | .non, .non => true | .non, .int _ => true | .int _, .non => true | .non, .bl _ => true | .bl _, .non => true | .non, .str _ => true | .str _, .non => true
  | .int _, .int _ => true | .bl _, .bl _ => true | .str _, .str _ => true | .byt _, .byt _ => true
  | .int _, .str _ => true | .str _, .int _ => true | .bl _, .str _ => true | .str _, .bl _ => true
  | _, _ => false
def rEq : R2 := fun x y H Q => scal x y = true ∧ Q (.bl (decide (x = y))) H
def rNe : R2 := fun x y H Q => scal x y = true ∧ Q (.bl (!decide (x = y))) H
theorem dec_int {i j : Int} : decide (V.int i = V.int j) = (i == j) := by
  rw [Bool.eq_iff_iff]
  simp
theorem dec_bl {i j : Bool} : decide (V.bl i = V.bl j) = (i == j) := by
  rw [Bool.eq_iff_iff]
  simp
theorem dec_str {i j : Str} : decide (V.str i = V.str j) = (i == j) := by
  rw [Bool.eq_iff_iff]
  simp
theorem dec_byt {i j : Array UInt8} : decide (V.byt i = V.byt j) = (i.toList == j.toList) := by
  rw [Bool.eq_iff_iff]
  cases i
  cases j
  simp
section
variable {X : Cx} {a b c : Expr} {ta tb tc : TE} {pos : Pos}
theorem fin_bl {pins : List (Addr × Obj)} {σ : St} {H : Hp} {s : Shared} {Q : VK} {k k' : Bool} (I : Inv X pins σ H s) (q : Q (.bl k) H) (e : k = k') : EP X pins σ Q (.bool k') s := by
  subst e
  exact ⟨.bl k, H, I, rfl, q⟩
theorem op_eq : OpR X (compareOp .Eq) rEq := by
  intro pins s σ H x y v u Q I rx ry h
  obtain ⟨hs, q⟩ := h
  cases x with
  | non =>
    cases rx
    cases y with
    | non => cases ry; exact PySem.EqNone.eq_none_none (fin_bl I q (by simp))
    | bl j => cases ry; exact PySem.EqNone.eq_none_bool (fin_bl I q (by simp))
    | int j => obtain ⟨t', rfl⟩ := ry; exact PySem.EqNone.eq_none_int (fin_bl I q (by simp))
    | str j => obtain ⟨t', rfl⟩ := ry; exact PySem.EqNone.eq_none_str (fin_bl I q (by simp))
    | _ => exact absurd (show false = true from hs) Bool.false_ne_true
  | bl i =>
    cases rx
    cases y with
    | non => cases ry; exact PySem.EqNone.eq_bool_none (fin_bl I q (by simp))
    | bl j => cases ry; exact eq_bool (fin_bl I q dec_bl)
    | str j => obtain ⟨t', rfl⟩ := ry; exact PySem.EqMixed.eq_bool_str (fin_bl I q (by simp))
    | _ => exact absurd (show false = true from hs) Bool.false_ne_true
  | int i =>
    obtain ⟨t, rfl⟩ := rx
    cases y with
    | non => cases ry; exact PySem.EqNone.eq_int_none (fin_bl I q (by simp))
    | int j => obtain ⟨t', rfl⟩ := ry; exact eq_int (fin_bl I q dec_int)
    | str j => obtain ⟨t', rfl⟩ := ry; exact PySem.EqMixed.eq_int_str (fin_bl I q (by simp))
    | _ => exact absurd (show false = true from hs) Bool.false_ne_true
  | str i =>
    obtain ⟨t, rfl⟩ := rx
    cases y with
    | non => cases ry; exact PySem.EqNone.eq_str_none (fin_bl I q (by simp))
    | bl j => cases ry; exact PySem.EqMixed.eq_str_bool (fin_bl I q (by simp))
    | int j => obtain ⟨t', rfl⟩ := ry; exact PySem.EqMixed.eq_str_int (fin_bl I q (by simp))
    | str j => obtain ⟨t', rfl⟩ := ry; exact eq_str (fin_bl I q dec_str)
    | _ => exact absurd (show false = true from hs) Bool.false_ne_true
  | byt i =>
    obtain ⟨t, rfl⟩ := rx
    cases y with
    | byt j => obtain ⟨t', rfl⟩ := ry; exact PySem.W.eq_bytes (fin_bl I q dec_byt)
    | _ => exact absurd (show false = true from hs) Bool.false_ne_true
  | _ => cases y <;> exact absurd (show false = true from hs) Bool.false_ne_true
theorem op_ne : OpR X (compareOp .NotEq) rNe := by
  intro pins s σ H x y v u Q I rx ry h
  obtain ⟨hs, q⟩ := h
  cases x with
  | non =>
    cases rx
    cases y with
    | non => cases ry; exact PySem.EqNone.ne_none_none (fin_bl I q (by simp))
    | bl j => cases ry; exact PySem.EqNone.ne_none_bool (fin_bl I q (by simp))
    | int j => obtain ⟨t', rfl⟩ := ry; exact PySem.EqNone.ne_none_int (fin_bl I q (by simp))
    | str j => obtain ⟨t', rfl⟩ := ry; exact PySem.EqNone.ne_none_str (fin_bl I q (by simp))
    | _ => exact absurd (show false = true from hs) Bool.false_ne_true
  | bl i =>
    cases rx
    cases y with
    | non => cases ry; exact PySem.EqNone.ne_bool_none (fin_bl I q (by simp))
    | bl j => cases ry; exact ne_bool (fin_bl I q (congrArg not dec_bl))
    | str j => obtain ⟨t', rfl⟩ := ry; exact PySem.EqMixed.ne_bool_str (fin_bl I q (by simp))
    | _ => exact absurd (show false = true from hs) Bool.false_ne_true
  | int i =>
    obtain ⟨t, rfl⟩ := rx
    cases y with
    | non => cases ry; exact PySem.EqNone.ne_int_none (fin_bl I q (by simp))
    | int j => obtain ⟨t', rfl⟩ := ry; exact ne_int (fin_bl I q (congrArg not dec_int))
    | str j => obtain ⟨t', rfl⟩ := ry; exact PySem.EqMixed.ne_int_str (fin_bl I q (by simp))
    | _ => exact absurd (show false = true from hs) Bool.false_ne_true
  | str i =>
    obtain ⟨t, rfl⟩ := rx
    cases y with
    | non => cases ry; exact PySem.EqNone.ne_str_none (fin_bl I q (by simp))
    | bl j => cases ry; exact PySem.EqMixed.ne_str_bool (fin_bl I q (by simp))
    | int j => obtain ⟨t', rfl⟩ := ry; exact PySem.EqMixed.ne_str_int (fin_bl I q (by simp))
    | str j => obtain ⟨t', rfl⟩ := ry; exact ne_str (fin_bl I q (congrArg not dec_str))
    | _ => exact absurd (show false = true from hs) Bool.false_ne_true
  | byt i =>
    obtain ⟨t, rfl⟩ := rx
    cases y with
    | byt j => obtain ⟨t', rfl⟩ := ry; exact PySem.W.ne_bytes (fin_bl I q (congrArg not dec_byt))
    | _ => exact absurd (show false = true from hs) Bool.false_ne_true
  | _ => cases y <;> exact absurd (show false = true from hs) Bool.false_ne_true
theorem op_lt : OpR X (compareOp .Lt) (rI0 fun i j => .bl (decide (i < j))) := opB0 fun _ _ _ _ _ _ _ q => lt_int q
theorem op_le : OpR X (compareOp .LtE) (rI0 fun i j => .bl (decide (i ≤ j))) := opB0 fun _ _ _ _ _ _ _ q => le_int q
theorem op_gt : OpR X (compareOp .Gt) (rI0 fun i j => .bl (decide (j < i))) := opB0 fun _ _ _ _ _ _ _ q => gt_int q
theorem op_ge : OpR X (compareOp .GtE) (rI0 fun i j => .bl (decide (j ≤ i))) := opB0 fun _ _ _ _ _ _ _ q => ge_int q
theorem op_in_str : OpR X (compareOp .In) (fun x y H Q => ∃ i j, x = .str i ∧ y = .str j ∧ Q (.bl (!(Builtin.Str.occurrences j i 0 j.length 1).isEmpty)) H) := by
  intro pins s σ H x y v u Q I rx ry h
  obtain ⟨i, j, rfl, rfl, q⟩ := h
  obtain ⟨t, rfl⟩ := rx
  obtain ⟨t', rfl⟩ := ry
  exact in_str (fin_bl I q rfl)
theorem op_notN : OpR X (compareOp .IsNot) (fun x y H Q => y = .non ∧ Q (.bl (!decide (x = .non))) H) := by
  intro pins s σ H x y v u Q I rx ry h
  obtain ⟨rfl, q⟩ := h
  cases ry
  refine isnot_none_gen (fin_bl I q ?_)
  cases x <;> first
    | (cases rx; rfl)
    | (obtain ⟨t, rfl⟩ := rx; rfl)
theorem nomark (b : Expr) {op : CmpOp} (h : op ≠ .In := by decide) (h2 : op ≠ .NotIn := by decide) : behindInMarks op b = false := by
  have e1 : (op == CmpOp.In) = false := by cases op <;> first | rfl | exact absurd rfl h
  have e2 : (op == CmpOp.NotIn) = false := by cases op <;> first | rfl | exact absurd rfl h2
  cases b <;> simp [behindInMarks, e1, e2]
theorem line63 : (sizeLine : Nat) < 2 ^ 63 := by rw [sizeLine_eq]; decide
theorem op_add_str : OpR X (binaryOp .Add) (fun x y H Q => ∃ i j, x = .str i ∧ y = .str j ∧ i.length + j.length ≤ sizeLine ∧ Q (.str (i ++ j)) H) := by
  intro pins s σ H x y v u Q I rx ry h
  obtain ⟨i, j, rfl, rfl, hz, q⟩ := h
  obtain ⟨t, rfl⟩ := rx
  obtain ⟨t', rfl⟩ := ry
  exact add_str (fun t' tk => ⟨.str (i ++ j), H, I.tok _, ⟨_, rfl⟩, q⟩) hz
theorem vals1 {x : V} {us : List Value} (r : Vals [x] us) : ∃ u, us = [u] ∧ RelV x u := by
  cases r with
  | cons r1 r2 => cases r2; exact ⟨_, rfl, r1⟩
theorem vals2 {x y : V} {us : List Value} (r : Vals [x, y] us) : ∃ u w', us = [u, w'] ∧ RelV x u ∧ RelV y w' := by
  cases r with
  | cons r1 r2 =>
    cases r2 with
    | cons r3 r4 => cases r4; exact ⟨_, _, rfl, r1, r3⟩
theorem call_abs : CallR X (.builtin "abs") (fun xs H Q => ∃ i, xs = [.int i] ∧ Q (.int (if i < 0 then -i else i)) H) := by
  intro pins s σ H xs us Q I r h
  obtain ⟨i, rfl, q⟩ := h
  obtain ⟨u, rfl, t, rfl⟩ := vals1 r
  exact call_abs_int fun u tk => ⟨.int (if i < 0 then -i else i), H, I.tok _, ⟨_, rfl⟩, q⟩
theorem call_min2 (hc : X.calm = true) : CallR X (.builtin "min") (fun xs H Q => ∃ i j, xs = [.int i, .int j] ∧ Q (.int (if j < i then j else i)) H) := by
  intro pins s σ H xs us Q I r h
  obtain ⟨i, j, rfl, q⟩ := h
  obtain ⟨u, w', rfl, ⟨t, rfl⟩, ⟨t', rfl⟩⟩ := vals2 r
  refine min_two_ints (I.ok.hd hc) fun h' tk k => ⟨_, H, I.kept k, ?_, q⟩
  by_cases hj : j < i
  · rw [if_pos hj, if_pos hj]; exact ⟨_, rfl⟩
  · rw [if_neg hj, if_neg hj]; exact ⟨_, rfl⟩
theorem call_int1 : CallR X (.type "int") (fun xs H Q => (∃ i, xs = [.int i] ∧ Q (.int i) H) ∨ ∃ k, xs = [.bl k] ∧ Q (.int (if k then 1 else 0)) H) := by
  intro pins s σ H xs us Q I r h
  rcases h with ⟨i, rfl, q⟩ | ⟨k, rfl, q⟩
  · obtain ⟨u, rfl, t, rfl⟩ := vals1 r
    exact call_int_int ⟨.int i, H, I, ⟨_, rfl⟩, q⟩
  · obtain ⟨u, rfl, r1⟩ := vals1 r
    cases r1
    exact call_int_bool ⟨.int (if k then 1 else 0), H, I.tok _, ⟨_, rfl⟩, q⟩
end
end L2
namespace L2
open PySem PySem.Spec PyProof.Rows
section
variable {prog : Program} {w : World} {A : Around} {E : Value → Shared → Prop} {s : Shared} {K : PySem.W.Frag} {x dx C f : Addr} {mA : Str → Option Value} {name : Str} {v : Value}
end
theorem RelO.some_of {v : V} {o : Option Value} (r : RelO (some v) o) : ∃ u, o = some u ∧ RelV v u := by
  cases o with
  | none => exact (show False from r).elim
  | some u => exact ⟨u, rfl, r⟩
section
variable {P : Program} {w : World} {H H' : Hp} {h h' : Heap} {a C dx : Addr} {fs fs' : List (Str × V)}
end
section
variable {X : Cx} {pins : List (Addr × Obj)} {σ : St} {H : Hp} {s : Shared} {a C dx : Addr} {fs : List (Str × V)} {f : Str} {v : V} {A : Around} {E : Value → Shared → Prop}
end
section
variable {X : Cx} {o e value : Expr} {f : Str} {pos pos' tpos : Pos} {ta tv : TE}
end
section
variable {X : Cx} {pins : List (Addr × Obj)} {σ : St} {H : Hp} {s : Shared} {A : Around} {E : Value → Shared → Prop} {Q : Value → Shared → Prop} {c : Value} {b : Bool}
end
end L2
namespace L2
open PySem PySem.Spec PyProof.Rows
structure Room (k : Nat) (A : Around) : Prop where
  hd : A.handled = none
  dp : A.depth + 3 * k + 5 < recursionLimit
  un : A.units + 16 * k + 200 < cLine
  gd : A.guards = some []
theorem Room.mono {j k : Nat} {A : Around} (r : Room k A) (h : j ≤ k) : Room j A := ⟨r.hd, by have := r.dp; lia, by have := r.un; lia, r.gd⟩
theorem Room.deeper {k : Nat} {A : Around} (r : Room (k + 1) A) (env : Env) : Room k (A.deeper env) :=
  ⟨r.hd, by have := r.dp; show A.depth + 1 + 3 * k + 5 < _; lia, by have := r.un; show A.units + 3 + 16 * k + 200 < _; lia, r.gd⟩
theorem Room.depth {k : Nat} {A : Around} (r : Room k A) : A.depth < recursionLimit := by have := r.dp; lia
theorem Room.units {k : Nat} {A : Around} (r : Room k A) : A.units + 64 < cLine := by have := r.un; lia
section
variable {X : Cx} {e : Expr} {es : List Expr} {te : TE} {t : TA} {pos : Pos}
def tTup (t : TA) : TE := fun σ H Q => t σ H fun xs H1 => xs.length ≤ sizeLine ∧ ∀ p, H1 p = none → Q (.ref p) (upd H1 p (.tup xs))
def tLst (t : TA) : TE := fun σ H Q => t σ H fun xs H1 => xs.length ≤ sizeLine ∧ ∀ p, H1 p = none → Q (.ref p) (upd H1 p (.lst xs))
theorem pe_tup {x1} (h : PA X es t) : PE X (.Tuple es x1 pos) (tTup t) := by
  intro pins s σ H Q I hq
  refine wpAny_Tuple_spliced (thn (h pos pins s σ H _ I hq) fun us s1 ⟨xs, H1, I1, r, z, q⟩ => ⟨by rw [← r.length]; exact z, ?_⟩)
  have hf : H1 s1.heap.objs.size = none := I1.hok.fresh (Nat.le_refl _)
  refine ⟨.ref s1.heap.objs.size, upd H1 s1.heap.objs.size (.tup xs), I1.laid (t' := s1.toks) (fun b u e => Heap.get?_push_of_some _ e) (Nat.le_refl _) ?_, rfl, q _ hf⟩
  exact ⟨z, us, r, ⟨_, Heap.get?_push_size _ rfl, rfl, _, rfl⟩⟩
theorem pe_lst (h : PA X es t) : PE X (.List es pos) (tLst t) := by
  intro pins s σ H Q I hq
  refine wpAny_List_spliced (thn (h pos pins s σ H _ I hq) fun us s1 ⟨xs, H1, I1, r, z, q⟩ => ⟨by rw [← r.length]; exact z, ?_⟩)
  have hf : H1 s1.heap.objs.size = none := I1.hok.fresh (Nat.le_refl _)
  refine ⟨.ref s1.heap.objs.size, upd H1 s1.heap.objs.size (.lst xs), I1.laid (t' := s1.toks) (fun b u e => Heap.get?_push_of_some _ e) (Nat.le_refl _) ?_, rfl, q _ hf⟩
  exact ⟨z, us, 0, r, Heap.get?_push_size _ rfl⟩
end
abbrev Sp := List V → Hp → VK → XK → Prop
abbrev CXT := List Env → Hp → Shared → XK → Value → Shared → Prop
structure Env0 (P : Program) (w : World) (K : PySem.W.Frag) (mg : Str → Option Value) (base : Heap) (A : Around) (outer : List Env) (s : Shared) (H : Hp) : Prop where
  frames : A.frames = some outer
  mod : Mod K mg base
  bs : ∀ b o, base.get? b = some o → s.heap.get? b = some o ∧ H b = none
  bsz : base.objs.size ≤ s.heap.objs.size
  funs : s.heap.FunFrames base outer
  frf : ∀ b ∈ frs outer, H b = none
  hok : HOk P w H s.heap
  bare : AllBare s.gens
def CE (outer : List Env) (P : Program) (w : World) (H : Hp) (s : Shared) (Q : VK) (u : Value) (s' : Shared) : Prop :=
  ∃ v H', s'.os = s.os ∧ AllBare s'.gens ∧ Un (frs outer) [] H H' s.heap s'.heap ∧ HOk P w H' s'.heap ∧ RelV v u ∧ Q v H'
def CR (CX : CXT) (outer : List Env) (P : Program) (w : World) (H : Hp) (s : Shared) (Q : VK) (E : XK) (r : Result) (s' : Shared) : Prop :=
  match r with
  | .ok (.ret u) => CE outer P w H s Q u s'
  | .ok _ => False
  | .error e => CX outer H s E e s'
structure FnOk (P : Program) (w : World) (K : PySem.W.Frag) (mg : Str → Option Value) (base : Heap) (CX : CXT) (k : Nat) (f : Addr) (fd : FuncData) (ps : List Str) (sp : Sp) : Prop where
  len : ∀ vs H Q E, sp vs H Q E → vs.length = ps.length
  run : ∀ (A : Around) (outer : List Env) (s : Shared) (H : Hp) (args : Args) (us : List Value) (vs : List V) (Q : VK) (E : XK), Room k A → Env0 P w K mg base A outer s H → BindsTo s fd args (ps.zip us) → Vals vs us → sp vs H Q E →
    codeAny (model P w) A (.call (.ref f) args) (CR CX outer P w H s Q E) s
section
variable {X : Cx} {pins : List (Addr × Obj)} {σ : St} {H : Hp} {s s' : Shared}
theorem Inv.env0 (I : Inv X pins σ H s) : Env0 X.prog X.w X.K X.mg X.base X.A X.stack s H :=
  ⟨I.ok.frames, I.ok.mod, I.bs, Nat.le_trans I.ok.bsz I.sz, I.stack, I.stkFree, I.hok, I.bare⟩
theorem Inv.after {Q : VK} {u : Value} (I : Inv X pins σ H s) (h : CE X.stack X.prog X.w H s Q u s') : EP X pins σ Q u s' := by
  obtain ⟨v, H', os, bare, un, hok, r, q⟩ := h
  obtain ⟨hh, g, d, t, os'⟩ := s'
  obtain rfl : os' = s.os := os
  exact ⟨v, H', I.call (h' := hh) (g' := g) (d' := d) (t' := t) (ch := []) un hok bare (fun b z => absurd z (by simp)), r, q⟩
end
def tCall (sp : Sp) (dvs : List V) (E : XK) (t : TA) : TE := fun σ H Q => t σ H fun vs H1 => sp (vs ++ dvs) H1 Q E
def Binds (K : PySem.W.Frag) (fd : FuncData) (ps : List Str) (ds : List Value) : Prop :=
  ∀ (s : Shared) (us : List Value), K.In s.heap → (us ++ ds).length = ps.length → BindsTo s fd ⟨us, []⟩ (ps.zip (us ++ ds))
theorem Binds.all {K : PySem.W.Frag} {fd : FuncData} {ps : List Str} (h : ∀ us : List Value, us.length = ps.length → bindArgs fd ⟨us, []⟩ = pure (ps.zip us)) : Binds K fd ps [] := fun s us _ hl => by
  rw [List.append_nil] at hl ⊢
  exact .of_eq (h us hl)
def Passes (CX : CXT) (X : Cx) (E : XK) : Prop := ∀ (pins : List (Addr × Obj)) (σ : St) (H : Hp) (s : Shared) (e : Value) (s' : Shared), Inv X pins σ H s → CX X.stack H s E e s' → X.xe e s'
section
variable {X : Cx} {CX : CXT} {k : Nat} {f C : Addr} {fd : FuncData} {ps : List Str} {sp : Sp} {dvs : List V} {ds : List Value} {E : XK} {x m : Str} {p pos apos : Pos} {e o : Expr} {es : List Expr} {ta : TE} {t : TA}
theorem run_fn {pins : List (Addr × Obj)} {σ : St} {H : Hp} {s : Shared} {Q : VK} {us : List Value} {vs : List V} (F : FnOk X.prog X.w X.K X.mg X.base CX k f fd ps sp) (hr : Room k X.A) (hb : Binds X.K fd ps ds) (hd : Vals dvs ds) (hx : Passes CX X E)
    (I : Inv X pins σ H s) (r : Vals vs us) (h : sp (vs ++ dvs) H Q E) : wpAny (model X.prog X.w) X.A (call (.ref f) us) (EP X pins σ Q) X.xe s := by
  have r2 : Vals (vs ++ dvs) (us ++ ds) := r.append hd
  have hl : (us ++ ds).length = ps.length := by rw [← r2.length]; exact F.len _ _ _ _ h
  refine wpAny_call (codeAny_mono (F.run X.A X.stack s H ⟨us, []⟩ (us ++ ds) (vs ++ dvs) Q E hr I.env0 (hb s us I.kIn hl) r2 h) fun r s' hq => ?_)
  cases r with
  | error e => exact hx pins σ H s e s' I hq
  | ok fl =>
    cases fl with
    | ret u => exact I.after hq
    | next => exact False.elim hq
    | brk => exact False.elim hq
    | cont => exact False.elim hq
theorem pe_call (F : FnOk X.prog X.w X.K X.mg X.base CX k f fd ps sp) (hr : Room k X.A) (hg : Gl X x) (hm : X.mg x = some (.ref f)) (hk : PySem.W.keepIn X.K (.ref f) = true) (hb : Binds X.K fd ps ds) (hd : Vals dvs ds) (hx : Passes CX X E)
    (ha : PA X (e :: es) t) (hdb : (x == ("__debug__" : Str)) = false := by decide) (he : starEach (e :: es) X.env = (false, eval e X.env) :: starEach es X.env := by rfl) (hpl : (backTo pos (starEach es X.env)).any (·.1) = false := by rfl) :
    PE X (.Call (.Name x p) (e :: es) [] pos) (tCall sp dvs E t) := by
  intro pins s σ H Q I h
  refine wpAny_Call_Name_kw (ld_glob I hg hm ?_ hdb)
  refine PySem.W.callWith_K (h₀ := X.base) I.ok.mod.kin hk (thn (ha pos pins s σ H _ I h) fun us s1 ⟨vs, H1, I1, r, q⟩ => ⟨I1.kIn, ?_⟩) he hpl
  exact run_fn F hr hb hd hx I1 r q
end
section
variable {X : Cx} {CX : CXT} {k : Nat} {f C : Addr} {fd : FuncData} {ps ks : List Str} {sp : Sp} {E : XK} {x m : Str} {p pos apos kpos : Pos} {e o : Expr} {es : List Expr} {kws : List Keyword} {te ta : TE} {t tk : TA} {nm : Option Str}
variable {g : List Value → List Value → List Value} {gV : List V → List V → List V}
end
structure FnScope (N P : List Str) (sc : Scope) : Prop where
  kind : sc.kind = .function
  co : sc.isCoroutine = false
  gen : sc.isGenerator = false
  nd : N.Nodup
  pre : N.take P.length = P
  par : ∀ x ∈ P, sc.names.lookup x = some .local ∨ sc.names.lookup x = some .cell
  nofree : ∀ y ∈ sc.names, y.2 ≠ .free
theorem bindL_out {kindOf : Str → Option NameKind} {x : Str} : ∀ {binds : List (Str × Value)} {m : Str → Option Value}, (∀ v, (x, v) ∉ binds) → bindL kindOf binds m x = m x
  | [], _, _ => rfl
  | (n, v) :: r, m, h => by
    unfold bindL
    rw [bindL_out fun w hw => h w (List.mem_cons_of_mem _ hw)]
    split
    · have : x ≠ n := by rintro rfl; exact h v List.mem_cons_self
      simp [this]
    · rfl
theorem bindC_out {kindOf : Str → Option NameKind} {x : Str} : ∀ {binds : List (Str × Value)} {m : Str → Option Value}, (∀ v, (x, v) ∉ binds) → bindC kindOf binds m x = m x
  | [], _, _ => rfl
  | (n, v) :: r, m, h => by
    unfold bindC
    rw [bindC_out fun w hw => h w (List.mem_cons_of_mem _ hw)]
    split
    · rfl
    · have : x ≠ n := by rintro rfl; exact h v List.mem_cons_self
      simp [this]
theorem bindL_get {kindOf : Str → Option NameKind} {x : Str} {v : Value} : ∀ {P : List Str} {vs : List Value} {i : Nat} {m : Str → Option Value}, P.Nodup → P[i]? = some x → vs[i]? = some v → kindOf x = some .local →
    bindL kindOf (P.zip vs) m x = some v
  | [], _, _, _, _, h, _, _ => by simp at h
  | _ :: _, [], _, _, _, _, h, _ => by simp at h
  | p :: P, w :: vs, 0, m, nd, h1, h2, hk => by
    simp at h1 h2; subst h1; subst h2
    show bindL kindOf ((p, w) :: P.zip vs) m p = _
    unfold bindL
    rw [bindL_out fun v hv => (List.nodup_cons.mp nd).1 (List.of_mem_zip hv).1, if_pos hk]
    simp
  | p :: P, w :: vs, i + 1, m, nd, h1, h2, hk => by
    show bindL kindOf ((p, w) :: P.zip vs) m x = _
    unfold bindL
    exact bindL_get (i := i) (List.nodup_cons.mp nd).2 (by simpa using h1) (by simpa using h2) hk
theorem bindC_get {kindOf : Str → Option NameKind} {x : Str} {v : Value} : ∀ {P : List Str} {vs : List Value} {i : Nat} {m : Str → Option Value}, P.Nodup → P[i]? = some x → vs[i]? = some v → kindOf x ≠ some .local →
    bindC kindOf (P.zip vs) m x = some v
  | [], _, _, _, _, h, _, _ => by simp at h
  | _ :: _, [], _, _, _, _, h, _ => by simp at h
  | p :: P, w :: vs, 0, m, nd, h1, h2, hk => by
    simp at h1 h2; subst h1; subst h2
    show bindC kindOf ((p, w) :: P.zip vs) m p = _
    unfold bindC
    rw [bindC_out fun v hv => (List.nodup_cons.mp nd).1 (List.of_mem_zip hv).1, if_neg hk]
    simp
  | p :: P, w :: vs, i + 1, m, nd, h1, h2, hk => by
    show bindC kindOf ((p, w) :: P.zip vs) m x = _
    unfold bindC
    exact bindC_get (i := i) (List.nodup_cons.mp nd).2 (by simpa using h1) (by simpa using h2) hk
def start (N : List Str) (vs : List V) : St := vs.map some ++ List.replicate (N.length - vs.length) none
def cxOf (CX : CXT) (P : Program) (w : World) (K : PySem.W.Frag) (mg : Str → Option Value) (base : Heap) (N : List Str) (qual : Str) (scope : Scope) (f : Addr) (cd : Value) (A : Around) (outer : List Env) (s : Shared) (H : Hp) (E : XK) : Cx where
  prog := P
  w := w
  K := K
  mg := mg
  base := base
  A := A.deeper (envOfC qual scope s.heap.objs.size f cd)
  N := N
  s₀ := s
  H₀ := H
  env := envOfC qual scope s.heap.objs.size f cd
  outer := outer
  stack := envOfC qual scope s.heap.objs.size f cd :: outer
  ex := []
  calm := true
  fn := fun _ => true
  pn := []
  xe := fun e s' => wpAny (model P w) (A.deeper (envOfC qual scope s.heap.objs.size f cd)) (leaving (envOfC qual scope s.heap.objs.size f cd) e) (fun _ s'' => CX outer H s E e s'') (fun e' s'' => CX outer H s E e' s'') s'
theorem cell_has {sc : Scope} {n : Nat} {x : Str} (h : sc.names.lookup x = some .cell) : ∃ c, (cellsFrom n sc.names []).lookup x = some c := by
  have q := PySem.W.cellsFrom_some sc.names n [] (.inl h)
  exact Option.isSome_iff_exists.mp q
theorem inv_start {CX : CXT} {P : Program} {w : World} {K : PySem.W.Frag} {mg : Str → Option Value} {base : Heap} {N ps : List Str} {qual : Str} {scope : Scope} {f : Addr} {cd : Value} {A : Around} {outer : List Env} {s s1 : Shared} {H : Hp} {E : XK} {us : List Value} {vs : List V}
    (S : FnScope N ps scope) (hd : A.handled = none) (e0 : Env0 P w K mg base A outer s H) (hl : vs.length = ps.length) (r : Vals vs us)
    (x : InCallC s s.heap.objs.size (bindL (envOfC qual scope s.heap.objs.size f cd).kindOf (ps.zip us) fun _ => none) (cellsFrom (s.heap.objs.size + 1) scope.names []) (bindC (envOfC qual scope s.heap.objs.size f cd).kindOf (ps.zip us) fun _ => none) s1) :
    Inv (cxOf CX P w K mg base N qual scope f cd A outer s H E) [] (start N vs) H s1 := by
  have hpl : ps.length ≤ N.length := by have := congrArg List.length S.pre; rw [List.length_take] at this; lia
  obtain ⟨h1, tk, rfl, hk⟩ := x.done
  have noA : ∀ b : Addr, b ∉ (cxOf CX P w K mg base N qual scope f cd A outer s H E).ex := fun b z => absurd (show b ∈ ([] : List Addr) from z) (by simp)
  refine ⟨⟨e0.mod, S.kind, rfl, rfl, Nat.le_refl _, fun y z c h1 h2 => ?_, fun y hy => ?_, fun y c _ h => ?_, fun _ => hd, Around.frames_deeper e0.frames, .inr ⟨rfl, rfl⟩, fun b z => absurd z (noA b), e0.bs, e0.bsz, fun b _ _ => noA b, fun b z => absurd z (noA b), e0.funs, e0.frf⟩,
    rfl, e0.bare, Un.kept hk, ⟨_, x.toInCall.ns, fun i y v h1 h2 h3 => ?_⟩, fun y c h => ⟨_, x.cell y c h⟩, e0.hok.fresh (Nat.le_refl _), fun y c h => ?_, fun p hp => absurd (show p ∈ ([] : List (Addr × Obj)) from hp) (by simp), e0.hok.kept hk, ?_⟩
  · exact name_of_addr x.apart (PySem.mem_of_lookup h1) (PySem.mem_of_lookup h2)
  · have hy : scope.names.lookup y = some .cell ∨ scope.names.lookup y = some .free := hy
    rcases hy with hy | hy
    · exact cell_has hy
    · exact absurd rfl (S.nofree _ (PySem.mem_of_lookup hy))
  · exact Nat.le_of_lt (x.above y c (PySem.mem_of_lookup h))
  · have hi : i < vs.length := by
      unfold start at h2
      by_cases hi : i < vs.length
      · exact hi
      · rw [List.getElem?_append_right (by simpa using hi)] at h2
        rw [List.getElem?_replicate] at h2
        split at h2 <;> cases h2
    have ha : vs[i]? = some v := by
      unfold start at h2
      rw [List.getElem?_append_left (by simpa using hi), List.getElem?_map] at h2
      cases e : vs[i]? with
      | none => rw [e] at h2; cases h2
      | some a => rw [e] at h2; cases h2; rfl
    obtain ⟨u, hu, rv⟩ := r.get ha
    have hp : ps[i]? = some y := by
      rw [← S.pre, List.getElem?_take_of_lt (by lia)]; exact h1
    have ndP : ps.Nodup := by rw [← S.pre]; exact S.nd.sublist (List.take_sublist _ _)
    refine ⟨u, rv, ?_⟩
    rcases S.par y (List.mem_of_getElem? hp) with k | k
    · exact .inl ⟨k, bindL_get ndP hp hu k⟩
    · obtain ⟨c, e⟩ := cell_has (n := s.heap.objs.size + 1) k
      refine .inr ⟨.inl k, c, e, ?_⟩
      have q := x.cell y c e
      rw [bindC_get ndP hp hu (by show scope.names.lookup y ≠ _; rw [k]; decide)] at q
      exact q
  · exact e0.hok.fresh (Nat.le_of_lt (x.above y c (PySem.mem_of_lookup h)))
  · unfold start
    show _ = N.length
    rw [List.length_append, List.length_map, List.length_replicate]
    lia
theorem fn_of {CX : CXT} {P : Program} {w : World} {K : PySem.W.Frag} {mg : Str → Option Value} {base : Heap} {k : Nat} {f : Addr} {name qual : Str} {params : Arguments} {body : List Stmt} {scope : Scope} {dV kV doc pm cdv ct oc : Value} {an od : Option Addr}
    {osl : Array (Option Value)} {N ps : List Str} {sp : Sp} (lk : K.lookup f = some ⟨oc, od, .func (PySem.W.fnOf name qual params body scope dV kV doc pm an cdv ct), osl⟩) (hcd : PySem.W.codeIn K cdv qual = true) (S : FnScope N ps scope)
    (len : ∀ vs H Q E, sp vs H Q E → vs.length = ps.length)
    (hbody : ∀ (A : Around) (outer : List Env) (s : Shared) (H : Hp) (vs : List V) (Q : VK) (E : XK), Room k (A.deeper (envOfC qual scope s.heap.objs.size f cdv)) → sp vs H Q E →
      ∃ t, PSs (cxOf CX P w K mg base N qual scope f cdv A outer s H E) body t ∧ t { nx := fun _ H' => Q .non H', rt := Q } (start N vs) H) :
    FnOk P w K mg base CX (k + 1) f (PySem.W.fnOf name qual params body scope dV kV doc pm an cdv ct) ps sp := by
  refine ⟨len, fun A outer s H args us vs Q E hr e0 hb r hsp => ?_⟩
  have hl := len _ _ _ _ hsp
  have KX : K.In s.heap := e0.mod.kin.keeps fun b o e => (e0.bs b o e).1
  have lim : s.heap.NoLimit := e0.mod.nolimit.keeps fun b o e => (e0.bs b o e).1
  have hkind : ∀ y ∈ ps.zip us, scope.names.lookup y.1 = some .local ∨ (scope.names.lookup y.1 = some .cell ∧ ((cellsFrom (s.heap.objs.size + 1) scope.names []).lookup y.1).isSome = true) := fun ⟨n, v⟩ hy => by
    rcases S.par n (List.of_mem_zip hy).1 with q | q
    · exact .inl q
    · exact .inr ⟨q, PySem.W.cellsFrom_some _ _ _ (.inl q)⟩
  refine codeAny_call_function hr.depth (KX _ _ lk) rfl S.co S.gen rfl (PySem.W.codeRec_of KX hcd) (hb _ _ _ _ ?_)
  refine wpAny_newFunctionEnv_cells S.kind hkind fun env he s1 x => ?_
  subst he
  refine ⟨lim.keeps x.toInCall.keep, codeAny_func ?_⟩
  obtain ⟨t, ht, hq⟩ := hbody A outer s H vs Q E (hr.deeper _) hsp
  have I : Inv (cxOf CX P w K mg base N qual scope f cdv A outer s H E) [] (start N vs) H s1 := inv_start S hr.hd e0 hl r x
  refine wpAny_mono (ht [] s1 (start N vs) H _ I hq) (fun fl s' hs => ?_) fun e s' hs => hs
  have fin : ∀ {σ' : St} {H' : Hp} {v : V} {u : Value}, Inv (cxOf CX P w K mg base N qual scope f cdv A outer s H E) [] σ' H' s' → RelV v u → Q v H' → CE outer P w H s Q u s' :=
    fun {σ' H' v u} J rv q => ⟨v, H', J.os, J.bare, J.base, J.hok, rv, q⟩
  cases fl with
  | ret u =>
    obtain ⟨v, σ', H', J, rv, q⟩ := hs
    exact fin J rv q
  | next =>
    obtain ⟨σ', H', J, q⟩ := hs
    exact fin (v := V.non) (u := Value.none) J rfl q
  | brk =>
    obtain ⟨_, _, _, q⟩ := hs
    exact False.elim q
  | cont =>
    obtain ⟨_, _, _, q⟩ := hs
    exact False.elim q
end L2
namespace L2
open PySem PySem.Spec PyProof.Rows
section
variable {X : Cx} {x : Str} {p pos : Pos} {e : Expr} {es : List Expr} {t : TA} {id T : String} {r : List V → Hp → VK → Prop}
end
end L2
namespace HT
open PySem PyProof.Rows
def lexLt : List Int → List Int → Bool
  | [], [] => false
  | [], _ :: _ => true
  | _ :: _, [] => false
  | x :: xs, y :: ys => if x = y then lexLt xs ys else decide (x < y)
section
open PySem.SeqAt
open PySem.AutoSeq1 (wpAny_loadPart')
open PySem.MeetsSeq PySem.MeetsSeq2 PySem.MeetsSeq3
end
section
variable {prog : Program} {w : World} {A : Around} {E : Value → Shared → Prop} {s : Shared}
def sIx (n d : Nat) : Option Int → Nat
  | none => d
  | some v => if v < 0 then (v + (n : Int)).toNat else min v.toNat n
theorem sIx_none (n d : Nat) : sIx n d none = d := rfl
theorem sIx_le (n d : Nat) (hd : d ≤ n) (o : Option Int) : sIx n d o ≤ n := by
  cases o with
  | none => exact hd
  | some v =>
    show (if v < 0 then (v + (n : Int)).toNat else min v.toNat n) ≤ n
    by_cases hv : v < 0
    · rw [if_pos hv]; lia
    · rw [if_neg hv]; exact Nat.min_le_right _ _
theorem clip_eq (v : Int) (n d : Nat) : (if v < 0 then max (v + (n : Int)) 0 else min v (n : Int)) = ((sIx n d (some v) : Nat) : Int) := by
  show (if v < 0 then max (v + (n : Int)) 0 else min v (n : Int)) = (((if v < 0 then (v + (n : Int)).toNat else min v.toNat n) : Nat) : Int)
  by_cases hv : v < 0
  · simp only [if_pos hv]; lia
  · simp only [if_neg hv]; lia
theorem adjust_gen (lo hi : Option Int) (n : Nat) : Builtin.Slice.sliceAdjust lo hi 1 (n : Int) = (((sIx n 0 lo : Nat) : Int), ((sIx n n hi : Nat) : Int)) := by
  have h1 : ¬ ((1 : Int) < 0) := by lia
  unfold Builtin.Slice.sliceAdjust
  simp only [h1, if_false]
  refine Prod.ext ?_ ?_
  · cases lo with
    | none => rfl
    | some v => exact clip_eq v n 0
  · cases hi with
    | none => rfl
    | some v => exact clip_eq v n n
theorem places_gen (i j : Nat) : Builtin.Slice.slicePlaces (i : Int) (j : Int) 1 = j - i := by
  unfold Builtin.Slice.slicePlaces
  have h1 : (1 : Int) > 0 := by lia
  simp only [h1, if_true, Int.ediv_one]
  split <;> lia
theorem slicePart_ {v : Value} {o : Option Int} {Q : Option Int → Shared → Prop} (p : IsPart v o) (h : Q o s) : wpAny (model prog w) A (Builtin.Slice.slicePartIndex v) Q E s := by
  cases p with
  | none => exact slicePart_none h
  | int i t => exact slicePart_int h
theorem sliceApplied_gen {sl : Addr} {vl vu : Value} {lo hi : Option Int} {n : Nat} {Q : Int × Int × Nat → Shared → Prop} (hs : s.heap.IsSliceOf sl vl vu .none) (pl : IsPart vl lo) (pu : IsPart vu hi)
    (h : Q (((sIx n 0 lo : Nat) : Int), 1, sIx n n hi - sIx n 0 lo) s) : wpAny (model prog w) A (Builtin.Slice.sliceApplied (.ref sl) (pure (n : Int))) Q E s := by
  obtain ⟨os, hos, hcs, hds⟩ := id hs
  unfold Builtin.Slice.sliceApplied Builtin.Slice.sliceFields
  refine wpAny_bind (wpAny_bind (wpAny_field hos hds (x := vl) rfl (wpAny_bind (wpAny_field hos hds (x := vu) rfl (wpAny_bind (wpAny_field hos hds (x := .none) rfl (wpAny_pure ?_)))))))
  refine wpAny_bind (slicePart_none ?_)
  show wpAny _ _ (if ((1 : Int) == 0) = true then _ else _) _ _ s
  rw [if_neg (by decide)]
  refine wpAny_bind (slicePart_ pl (wpAny_bind (slicePart_ pu (wpAny_bind (wpAny_pure ?_)))))
  show wpAny _ _ (match Builtin.Slice.sliceAdjust lo hi 1 (n : Int) with | (lo, hi) => pure (lo, (1 : Int), Builtin.Slice.slicePlaces lo hi 1)) _ _ s
  rw [adjust_gen lo hi n]
  show wpAny _ _ (pure (((sIx n 0 lo : Nat) : Int), (1 : Int), Builtin.Slice.slicePlaces ((sIx n 0 lo : Nat) : Int) ((sIx n n hi : Nat) : Int) 1)) _ _ s
  rw [places_gen]
  exact wpAny_pure h
theorem pick_gen (xs : Array Value) (i k : Nat) : ((List.range k).filterMap fun (m : Nat) => xs[((i : Int) + (m : Int) * 1).toNat]?).toArray = ((xs.toList.drop i).take k).toArray := by
  have e : (fun (m : Nat) => xs[((i : Int) + (m : Int) * 1).toNat]?) = fun m => xs[i + m]? := by
    funext m
    have : ((i : Int) + (m : Int) * 1).toNat = i + m := by lia
    rw [this]
  rw [e]
  have := pick_run xs i k
  rw [List.filterMap_map] at this
  have e2 : ((fun x => xs[x]?) ∘ fun x => i + x) = fun m => xs[i + m]? := rfl
  rw [e2] at this
  rw [this]
theorem getItem_tuple_cut {t sl : Addr} {items : Array Value} {vl vu : Value} {lo hi : Option Int} {Q : Value → Shared → Prop} (ht : IsTup s.heap t items) (hs : s.heap.IsSliceOf sl vl vu .none) (pl : IsPart vl lo) (pu : IsPart vu hi)
    (hw : ¬ (sIx items.size 0 lo = 0 ∧ sIx items.size items.size hi = items.size))
    (h : Q (.ref s.heap.objs.size) { s with heap := s.heap.push { cls := .type "tuple", data := .seq ((items.toList.drop (sIx items.size 0 lo)).take (sIx items.size items.size hi - sIx items.size 0 lo)).toArray } })
    (hsz : items.size ≤ sizeLine) : wpAny (model prog w) A (getItem (.ref t) (.ref sl)) Q E s := by
  have htake : sizeOk (.seq ((items.toList.drop (sIx items.size 0 lo)).take (sIx items.size items.size hi - sIx items.size 0 lo)).toArray) := by
    show ((items.toList.drop (sIx items.size 0 lo)).take (sIx items.size items.size hi - sIx items.size 0 lo)).toArray.size ≤ sizeLine
    rw [List.size_toArray, List.length_take, List.length_drop, Array.length_toList]
    lia
  have hj : sIx items.size items.size hi ≤ items.size := sIx_le _ _ (Nat.le_refl _) hi
  obtain ⟨os, hos, hcs, hds⟩ := id hs
  have hTs : s.TypeIs (.ref sl) "slice" := ⟨os, hos, hcs⟩
  unfold getItem
  try with_reducible refine wpAny_holding ?_
  first | refine wpAny_bind (wpAny_pure ?_) | skip
  refine wpAny_bind (wpAny_sequenceKey ht.typeIs (by decide) ?_)
  refine wpAny_bind (wpAny_callSpecial?_slot (name := Str.ofString "__getitem__") ht.typeIs PyProof.Rows.slot_tuple_getitem
    (wpAny_call_entry PyProof.Rows.slot_tuple_getitem ht.typeIs entry_tuple_getitem ?_ (args_tuple_getitem _ _)))
  show wpAny _ _ (Builtin.Tuple.tupleItemsOf (.ref t) >>= _) _ _ s
  refine wpAny_bind (tupleItemsOf_ ht ?_)
  refine wpAny_bind (wpAny_typeOf hTs ?_)
  rw [if_pos (by decide)]
  refine wpAny_bind (sliceApplied_gen hs pl pu ?_)
  have hno : ¬ ((((sIx items.size 0 lo : Nat) : Int) == 0 && (1 : Int) == 1 && (sIx items.size items.size hi - sIx items.size 0 lo) == items.size) = true) := by
    intro q
    rw [Bool.and_eq_true, Bool.and_eq_true] at q
    have q1 : ((sIx items.size 0 lo : Nat) : Int) = 0 := eq_of_beq q.1.1
    have q2 : sIx items.size items.size hi - sIx items.size 0 lo = items.size := eq_of_beq q.2
    exact hw ⟨by lia, by lia⟩
  show wpAny _ _ (if (((sIx items.size 0 lo : Nat) : Int) == 0 && (1 : Int) == 1 && (sIx items.size items.size hi - sIx items.size 0 lo) == items.size) = true then _ else _) _ _ s
  rw [if_neg hno, pick_gen]
  first
    | exact wpAny_bind (m := Builtin.Tuple.tupleExact _) (wpAny_newObj_type (wpAny_pure ⟨_, rfl, wpAny_pure h⟩) htake)
    | exact wpAny_bind (m := Builtin.Tuple.tupleExact _) (wpAny_newObj_type (wpAny_bind (wpAny_pure (wpAny_pure ⟨_, rfl, wpAny_pure h⟩))) htake)
    | exact wpAny_bind (wpAny_bind (m := Builtin.Tuple.tupleExact _) (wpAny_newObj_type (wpAny_pure (wpAny_pure ⟨_, rfl, wpAny_pure h⟩)) htake))
    | exact wpAny_bind (wpAny_bind (m := Builtin.Tuple.tupleExact _) (wpAny_newObj_type (wpAny_pure ⟨_, rfl, wpAny_pure h⟩) htake))
end
end HT
namespace L2
open PySem PySem.Spec PyProof.Rows
section
variable {X : Cx} {e : Expr} {te : TE} {lo hi : Option Expr} {tl th : TO} {pos p2 : Pos}
def SlR (X : Cx) (r : V → Option Int → Option Int → Hp → VK → Prop) : Prop :=
  ∀ (pins : List (Addr × Obj)) (s : Shared) (σ : St) (H : Hp) (x : V) (v vl vu : Value) (lo hi : Option Int) (sl : Addr) (Q : VK), Inv X pins σ H s → RelV x v → s.heap.IsSliceOf sl vl vu .none → IsPart vl lo → IsPart vu hi → r x lo hi H Q →
    ∃ T id, typeLookup (.type T) "__getitem__" = pure (some (.builtin id)) ∧ s.TypeIs v T ∧ wpAny (model X.prog X.w) X.A (getItem v (.ref sl)) (EP X pins σ Q) X.xe s
theorem SlR.or {r r' : V → Option Int → Option Int → Hp → VK → Prop} (h : SlR X r) (h' : SlR X r') : SlR X (fun x lo hi H Q => r x lo hi H Q ∨ r' x lo hi H Q) := by
  intro pins s σ H x v vl vu lo hi sl Q I rx hs pl pu q
  rcases q with q | q
  · exact h pins s σ H x v vl vu lo hi sl Q I rx hs pl pu q
  · exact h' pins s σ H x v vl vu lo hi sl Q I rx hs pl pu q
def cutV (xs : List V) (lo hi : Option Int) : List V := (xs.drop (HT.sIx xs.length 0 lo)).take (HT.sIx xs.length xs.length hi - HT.sIx xs.length 0 lo)
theorem cutV_length (xs : List V) (lo hi : Option Int) : (cutV xs lo hi).length ≤ xs.length := by
  unfold cutV
  rw [List.length_take, List.length_drop]
  lia
def rSlT (K : PySem.W.Frag) : V → Option Int → Option Int → Hp → VK → Prop := fun x lo hi H Q => ∃ a xs, x = .ref a ∧ SqT K H a xs ∧
  ¬ (HT.sIx xs.length 0 lo = 0 ∧ HT.sIx xs.length xs.length hi = xs.length) ∧ ∀ p, H p = none → Q (.ref p) (upd H p (.tup (cutV xs lo hi)))
theorem sl_tup : SlR X (rSlT X.K) := by
  intro pins s σ H x v vl vu lo hi sl Q I rx hs pl pu h
  obtain ⟨a, xs, rfl, hx, hw, q⟩ := h
  cases rx
  obtain ⟨its, r, ht, hz⟩ := I.tuple hx
  have hlen : its.toArray.size = xs.length := by rw [List.size_toArray]; exact r.length.symm
  refine ⟨"tuple", _, PyProof.Rows.slot_tuple_getitem.lookup, ht.typeIs, ?_⟩
  refine HT.getItem_tuple_cut ht hs pl pu (by rw [hlen]; exact hw) ?_ (by rw [hlen]; exact hz)
  rw [hlen]
  refine ⟨.ref s.heap.objs.size, _, I.laid (t' := s.toks) (o := .tup (cutV xs lo hi)) (fun b ob q => Heap.get?_push_of_some _ q) (Nat.le_refl _) ?_, rfl, q _ (I.hok.fresh (Nat.le_refl _))⟩
  exact ⟨Nat.le_trans (cutV_length xs lo hi) hz, _, (r.drop (HT.sIx xs.length 0 lo)).take (HT.sIx xs.length xs.length hi - HT.sIx xs.length 0 lo), IsTup.new _ _⟩
end
end L2
namespace L2
open PySem PySem.Spec PyProof.Rows
def ixN (n : Nat) (i : Int) : Option Nat := if 0 ≤ i then (if i < n then some i.toNat else none) else if -(n : Int) ≤ i then some (i + n).toNat else none
def atI {α : Type} (xs : List α) (i : Int) : Option α := (ixN xs.length i).bind fun j => xs[j]?
theorem ixN_seq {n : Nat} {i : Int} {j : Nat} (h : ixN n i = some j) : seqIndex? i n = some j ∧ j < n ∧ -(n : Int) ≤ i ∧ i < n := by
  unfold ixN at h
  by_cases h0 : 0 ≤ i
  · rw [if_pos h0] at h
    by_cases h1 : i < n
    · rw [if_pos h1] at h
      have e : i.toNat = j := Option.some.inj h
      exact ⟨by rw [seqIndex_of h0 h1, e], by lia, by lia, h1⟩
    · rw [if_neg h1] at h; cases h
  · rw [if_neg h0] at h
    by_cases h1 : -(n : Int) ≤ i
    · rw [if_pos h1] at h
      have e : (i + n).toNat = j := Option.some.inj h
      exact ⟨by rw [seqIndex_neg (by lia) h1, e], by lia, h1, by lia⟩
    · rw [if_neg h1] at h; cases h
theorem atI_get {α : Type} {xs : List α} {i : Int} {v : α} (h : atI xs i = some v) : ∃ j, seqIndex? i xs.length = some j ∧ xs[j]? = some v ∧ j < xs.length ∧ -(xs.length : Int) ≤ i ∧ i < xs.length := by
  unfold atI at h
  cases e : ixN xs.length i with
  | none => rw [e] at h; cases h
  | some j =>
    rw [e] at h
    obtain ⟨h1, h2, h3, h4⟩ := ixN_seq e
    exact ⟨j, h1, h, h2, h3, h4⟩
theorem atI_nat {α : Type} {xs : List α} {j : Nat} {v : α} (h : xs[j]? = some v) : atI xs (j : Int) = some v := by
  have hj : j < xs.length := (List.getElem?_eq_some_iff.mp h).1
  have e : ixN xs.length (j : Int) = some j := by
    unfold ixN
    rw [if_pos (by lia), if_pos (by lia)]; simp
  unfold atI; rw [e]; exact h
def PlainIx (b : Expr) : Prop := ∀ o i, subscripted b false o i = operate [o, i] (getItem o i)
def IxR (X : Cx) (r : R2) : Prop :=
  ∀ (value slice : Expr) (pins : List (Addr × Obj)) (s : Shared) (σ : St) (H : Hp) (x y : V) (v u : Value) (Q : VK), Inv X pins σ H s → RelV x v → RelV y u → r x y H Q →
    subscripted slice false v u = operate [v, u] (getItem v u) → wpAny (model X.prog X.w) X.A (subscriptTail value slice v u) (EP X pins σ Q) X.xe s
section
variable {X : Cx} {a b : Expr} {ta tb : TE} {pos : Pos}
theorem IxR.or {r r' : R2} (h : IxR X r) (h' : IxR X r') : IxR X (fun x y H Q => r x y H Q ∨ r' x y H Q) := by
  intro value slice pins s σ H x y v u Q I rx ry q hs
  rcases q with q | q
  · exact h value slice pins s σ H x y v u Q I rx ry q hs
  · exact h' value slice pins s σ H x y v u Q I rx ry q hs
def rIxL (K : PySem.W.Frag) : R2 := fun x y H Q => ∃ p xs i v, x = .ref p ∧ y = .int i ∧ SqL K H p xs ∧ atI xs i = some v ∧ Q v H
def rIxT (K : PySem.W.Frag) : R2 := fun x y H Q => ∃ p xs i v, x = .ref p ∧ y = .int i ∧ SqT K H p xs ∧ atI xs i = some v ∧ Q v H
def rIxS : R2 := fun x y H Q => ∃ z i c, x = .str z ∧ y = .int i ∧ z.length ≤ sizeLine ∧ atI z.cps.toList i = some c ∧ Q (.str ⟨#[c]⟩) H
theorem ix_list : IxR X (rIxL X.K) := by
  intro value slice pins s σ H x y v u Q I rx ry h hs
  obtain ⟨p, xs, i, z, rfl, rfl, hq, he, q⟩ := h
  cases rx
  obtain ⟨t, rfl⟩ := ry
  obtain ⟨its, r, pl, hz⟩ := I.list hq
  obtain ⟨j, h1, h2, h3, h4, h5⟩ := atI_get he
  obtain ⟨w, ew, rw'⟩ := r.get h2
  have hl := r.length
  have hn := line63
  have fin : EP X pins σ Q w s := ⟨z, H, I, rw', q⟩
  by_cases h0 : 0 ≤ i
  · have hj : i.toNat = j := by
      rw [seqIndex_of h0 h5] at h1
      exact Option.some.inj h1
    exact item_listR pl.isList h0 (by lia) (by rw [hj]; simpa using ew) fin hs
  · have hj : (i + (its.toArray.size : Int)).toNat = j := by
      rw [seqIndex_neg (by lia) h4] at h1
      rw [List.size_toArray, ← hl]
      exact Option.some.inj h1
    exact subscriptTail_builtinR (x := w) pl.isList.typeIs slot_list_getitem.lookup
      (wpAny_getItem_list_neg (Q := fun r s' => r = w ∧ EP X pins σ Q r s') pl.isList (by lia) (by rw [List.size_toArray] <;> lia) (by lia) (by rw [hj]; simpa using ew) ⟨rfl, fin⟩) hs
theorem ix_tup : IxR X (rIxT X.K) := by
  intro value slice pins s σ H x y v u Q I rx ry h hs
  obtain ⟨p, xs, i, z, rfl, rfl, hq, he, q⟩ := h
  cases rx
  obtain ⟨t, rfl⟩ := ry
  obtain ⟨its, r, pl, hz⟩ := I.tuple hq
  obtain ⟨j, h1, h2, h3, h4, h5⟩ := atI_get he
  obtain ⟨w, ew, rw'⟩ := r.get h2
  have hl := r.length
  have hn := line63
  have fin : EP X pins σ Q w s := ⟨z, H, I, rw', q⟩
  exact subscriptTail_builtinR (x := w) pl.typeIs slot_tuple_getitem.lookup
    (getItem_tuple (j := j) (Q := fun r s' => r = w ∧ EP X pins σ Q r s') pl (by lia) (by lia) (by rw [List.size_toArray, ← hl]; exact h1) (by simpa using ew) ⟨rfl, fin⟩) hs
theorem ix_str : IxR X rIxS := by
  intro value slice pins s σ H x y v u Q I rx ry h hs
  obtain ⟨z, i, c, rfl, rfl, hz, he, q⟩ := h
  obtain ⟨t, rfl⟩ := rx
  obtain ⟨t', rfl⟩ := ry
  obtain ⟨j, h1, h2, h3, h4, h5⟩ := atI_get he
  have hl : z.cps.toList.length = z.length := by simp [Str.length]
  rw [hl] at h1 h4 h5
  have hn := line63
  exact tail_any (typeIs_str s z t) slot_str_getitem.lookup (getItem_str (c := c) (by
    have e1 : decide (i < -(2 ^ 63 : Int)) = false := decide_eq_false (by lia)
    have e2 : decide (i ≥ 2 ^ 63) = false := decide_eq_false (by lia)
    rw [e1, e2, Bool.or_false]) (by rw [h1]; simpa using h2) ⟨.str ⟨#[c]⟩, H, I.tok _, ⟨_, rfl⟩, q⟩) hs
def rIx (K : PySem.W.Frag) : R2 := fun x y H Q => rIxL K x y H Q ∨ rIxT K x y H Q ∨ rIxS x y H Q
theorem ix_seq : IxR X (rIx X.K) := ix_list.or (ix_tup.or ix_str)
theorem slice_bounds (lo hi : Option Int) (n : Nat) : (sliceBounds lo hi none n).1 = ((HT.sIx n 0 lo : Nat) : Int) ∧ (sliceBounds lo hi none n).2.1 = ((HT.sIx n n hi : Nat) : Int) ∧ (sliceBounds lo hi none n).2.2 = 1 := by
  refine ⟨?_, ?_, rfl⟩
  · cases lo with
    | none => simp [sliceBounds, HT.sIx]
    | some i =>
      simp only [sliceBounds, HT.sIx, Option.getD_none, show (1 : Int) > 0 by decide, if_true]
      by_cases h : i < 0
      · simp only [h, if_true] <;> lia
      · simp only [h, if_false] <;> lia
  · cases hi with
    | none => simp [sliceBounds, HT.sIx]
    | some i =>
      simp only [sliceBounds, HT.sIx, Option.getD_none, show (1 : Int) > 0 by decide, if_true]
      by_cases h : i < 0
      · simp only [h, if_true] <;> lia
      · simp only [h, if_false] <;> lia
theorem slicePick_cut (its : List Value) (lo hi : Option Int) : slicePick its.toArray lo hi none = ((its.drop (HT.sIx its.length 0 lo)).take (HT.sIx its.length its.length hi - HT.sIx its.length 0 lo)).toArray := by
  obtain ⟨h1, h2, h3⟩ := slice_bounds lo hi its.toArray.size
  unfold slicePick
  rw [h1, h2, h3]
  simp only [sliceRange_one, pick_run, List.size_toArray] <;> rfl
def rSlL (K : PySem.W.Frag) : V → Option Int → Option Int → Hp → VK → Prop := fun x lo hi H Q => ∃ a xs, x = .ref a ∧ SqL K H a xs ∧ ∀ p, H p = none → Q (.ref p) (upd H p (.lst (cutV xs lo hi)))
theorem sl_list : SlR X (rSlL X.K) := by
  intro pins s σ H x v vl vu lo hi sl Q I rx hs pl pu h
  obtain ⟨a, xs, rfl, hx, q⟩ := h
  cases rx
  obtain ⟨its, r, ht, hz⟩ := I.list hx
  have hlen := r.length
  refine ⟨"list", _, slot_list_getitem.lookup, ht.isList.typeIs, ?_⟩
  refine wpAny_getItem_list_slice ht.isList hs pl pu .none (by simp) ?_ (by rw [List.size_toArray] <;> lia)
  rw [slicePick_cut, ← hlen]
  refine ⟨.ref s.heap.objs.size, _, I.laid (t' := s.toks) (o := .lst (cutV xs lo hi)) (fun b ob q => Heap.get?_push_of_some _ q) (Nat.le_refl _) ?_, rfl, q _ (I.hok.fresh (Nat.le_refl _))⟩
  exact ⟨Nat.le_trans (cutV_length xs lo hi) hz, _, 0, (r.drop (HT.sIx xs.length 0 lo)).take (HT.sIx xs.length xs.length hi - HT.sIx xs.length 0 lo), Heap.get?_push_size _ rfl⟩
def flatV : V → Bool
  | .non => true
  | .bl _ => true
  | .int _ => true
  | .str _ => true
  | _ => false
def eqV : V → V → Bool
  | .non, .non => true
  | .bl a, .bl b => a == b
  | .bl a, .int b => (if a then 1 else 0) == b
  | .int a, .bl b => a == (if b then 1 else 0)
  | .int a, .int b => a == b
  | .str a, .str b => a == b
  | _, _ => false
theorem eqAt_V {A : Around} {s : Shared} {y x : V} {u v : Value} (ry : RelV y u) (rx : RelV x v) (fy : flatV y = true) (fx : flatV x = true) : SeqAt.EqAt A s u v (eqV y x) := by
  cases y with
  | non =>
    cases ry
    cases x with
    | non => cases rx; exact SeqAt.EqAt.same _
    | bl b => cases rx; exact SeqAt.EqAt.none_bool b
    | int b => obtain ⟨t, rfl⟩ := rx; exact SeqAt.EqAt.none_int b t
    | str b => obtain ⟨t, rfl⟩ := rx; exact SeqAt.EqAt.none_str b t
    | _ => exact absurd (show false = true from fx) Bool.false_ne_true
  | bl a =>
    cases ry
    cases x with
    | non => cases rx; exact SeqAt.EqAt.bool_none a
    | bl b => cases rx; exact SeqAt.EqAt.bool_bool a b
    | int b => obtain ⟨t, rfl⟩ := rx; exact SeqAt.EqAt.bool_int a b t
    | str b => obtain ⟨t, rfl⟩ := rx; exact SeqAt.EqAt.bool_str a b t
    | _ => exact absurd (show false = true from fx) Bool.false_ne_true
  | int a =>
    obtain ⟨t', rfl⟩ := ry
    cases x with
    | non => cases rx; exact SeqAt.EqAt.int_none a t'
    | bl b => cases rx; exact SeqAt.EqAt.int_bool a t' b
    | int b => obtain ⟨t, rfl⟩ := rx; exact SeqAt.EqAt.int_int a t' b t
    | str b => obtain ⟨t, rfl⟩ := rx; exact SeqAt.EqAt.int_str a t' b t
    | _ => exact absurd (show false = true from fx) Bool.false_ne_true
  | str a =>
    obtain ⟨t', rfl⟩ := ry
    cases x with
    | non => cases rx; exact SeqAt.EqAt.str_none a t'
    | bl b => cases rx; exact SeqAt.EqAt.str_bool a t' b
    | int b => obtain ⟨t, rfl⟩ := rx; exact SeqAt.EqAt.str_int a t' b t
    | str b => obtain ⟨t, rfl⟩ := rx; exact SeqAt.EqAt.str_str a t' b t
    | _ => exact absurd (show false = true from fx) Bool.false_ne_true
  | _ => exact absurd (show false = true from fy) Bool.false_ne_true
def eqU (x : V) (u : Value) : Bool := match u with
  | .none => eqV .non x
  | .bool b => eqV (.bl b) x
  | .int i _ => eqV (.int i) x
  | .str z _ => eqV (.str z) x
  | _ => false
theorem eqU_of {x y : V} {u : Value} (r : RelV y u) (f : flatV y = true) : eqU x u = eqV y x := by
  cases y with
  | non => cases r; rfl
  | bl b => cases r; rfl
  | int i => obtain ⟨t, rfl⟩ := r; rfl
  | str z => obtain ⟨t, rfl⟩ := r; rfl
  | _ => exact absurd (show false = true from f) Bool.false_ne_true
theorem any_eqU {x : V} : ∀ {xs : List V} {us : List Value}, Vals xs us → xs.all flatV = true → us.any (eqU x) = xs.any fun y => eqV y x
  | _, _, .nil, _ => rfl
  | y :: xs, u :: us, .cons r t, f => by
    rw [List.all_cons, Bool.and_eq_true] at f
    rw [List.any_cons, List.any_cons, eqU_of r f.1, any_eqU t f.2]
theorem mem_eqAt {A : Around} {s : Shared} {x : V} {v : Value} (rx : RelV x v) (fx : flatV x = true) : ∀ {xs : List V} {us : List Value}, Vals xs us → xs.all flatV = true → ∀ u ∈ us, SeqAt.EqAt A s u v (eqU x u)
  | _, _, .nil, _ => fun u hu => by cases hu
  | y :: xs, u :: us, .cons r t, f => fun u' hu => by
    rw [List.all_cons, Bool.and_eq_true] at f
    rcases List.mem_cons.mp hu with rfl | hu
    · rw [eqU_of r f.1]; exact eqAt_V r rx f.1 fx
    · exact mem_eqAt rx fx t f.2 u' hu
def inV (x : V) (xs : List V) : Bool := xs.any fun y => eqV y x
def rIn (K : PySem.W.Frag) (neg : Bool) : R2 := fun x y H Q => ∃ p xs, y = .ref p ∧ (SqL K H p xs ∨ SqT K H p xs) ∧ flatV x = true ∧ xs.all flatV = true ∧ Q (.bl (if neg then !inV x xs else inV x xs)) H
theorem op_in_seq : OpR X (compareOp .In) (rIn X.K false) := by
  intro pins s σ H x y v u Q I rx ry h
  obtain ⟨p, xs, rfl, hq, fx, fs, q⟩ := h
  cases ry
  rcases hq with hq | hq
  · obtain ⟨its, r, pl, hz⟩ := I.list hq
    refine SeqAt.in_listAt (eqU x) pl.isList (fun w hw => mem_eqAt rx fx r fs w (by simpa using hw)) ⟨.bl _, H, I, rfl, ?_⟩
    rw [show its.toArray.any (eqU x) = its.any (eqU x) by simp, any_eqU r fs]
    exact q
  · obtain ⟨its, r, pl, hz⟩ := I.tuple hq
    refine SeqAt.in_tupleAt (eqU x) pl (fun w hw => mem_eqAt rx fx r fs w (by simpa using hw)) ⟨.bl _, H, I, rfl, ?_⟩
    rw [show its.toArray.any (eqU x) = its.any (eqU x) by simp, any_eqU r fs]
    exact q
theorem call_len_seq : CallR X (.builtin "len") (fun xs H Q => ∃ p ys, xs = [.ref p] ∧ (SqL X.K H p ys ∨ SqT X.K H p ys) ∧ Q (.int ys.length) H) := by
  intro pins s σ H xs us Q I r h
  obtain ⟨p, ys, rfl, hq, q⟩ := h
  obtain ⟨u, rfl, rx⟩ := vals1 r
  cases rx
  have hn := line63
  rcases hq with hq | hq
  · obtain ⟨its, r', pl, hz⟩ := I.list hq
    have hlen := r'.length
    exact Calls.call_len_list pl.isList (by simp only [List.size_toArray] <;> lia) ⟨.int ys.length, H, I.tok _, ⟨s.toks + 1, by rw [List.size_toArray, hlen]⟩, q⟩
  · obtain ⟨its, r', pl, hz⟩ := I.tuple hq
    have hlen := r'.length
    exact len_tuple pl (by simp only [List.size_toArray] <;> lia) ⟨.int ys.length, H, I.tok _, ⟨s.toks + 1, by rw [List.size_toArray, hlen]⟩, q⟩
theorem call_len_str : CallR X (.builtin "len") (fun xs H Q => ∃ z, xs = [.str z] ∧ z.length ≤ sizeLine ∧ Q (.int z.length) H) := by
  intro pins s σ H xs us Q I r h
  obtain ⟨z, rfl, hz, q⟩ := h
  obtain ⟨u, rfl, t, rfl⟩ := vals1 r
  have hn := line63
  exact len_str (by lia) ⟨.int z.length, H, I.tok _, ⟨_, rfl⟩, q⟩
theorem CallR.or {f : Value} {r r' : List V → Hp → VK → Prop} (h : CallR X f r) (h' : CallR X f r') : CallR X f (fun xs H Q => r xs H Q ∨ r' xs H Q) := by
  intro pins s σ H xs us Q I rs q
  rcases q with q | q
  · exact h pins s σ H xs us Q I rs q
  · exact h' pins s σ H xs us Q I rs q
theorem call_list_of : CallR X (.type "list") (fun xs H Q => ∃ p ys, xs = [.ref p] ∧ (SqL X.K H p ys ∨ SqT X.K H p ys) ∧ ∀ l, H l = none → Q (.ref l) (upd H l (.lst ys))) := by
  intro pins s σ H xs us Q I r h
  obtain ⟨p, ys, rfl, hq, q⟩ := h
  obtain ⟨u, rfl, rx⟩ := vals1 r
  cases rx
  have fin : ∀ (its : List Value), Vals ys its → ys.length ≤ sizeLine → ∀ (h' : Heap) (c' : Nat), (∀ b o', s.heap.get? b = some o' → h'.get? b = some o') →
      h'.get? s.heap.objs.size = some { cls := .type "list", dict := none, data := .seq its.toArray c', slots := #[] } → EP X pins σ Q (.ref s.heap.objs.size) { s with heap := h' } := fun its r' hz h' c' kp e =>
    ⟨.ref s.heap.objs.size, _, I.laid (t' := s.toks) kp (Nat.le_refl _) (show ObjOk X.prog X.w _ h' _ (.lst ys) from ⟨hz, its, c', r', e⟩), rfl, q _ (I.hok.fresh (Nat.le_refl _))⟩
  rcases hq with hq | hq
  · obtain ⟨its, r', pl, hz⟩ := I.list hq
    have hlen := r'.length
    obtain ⟨o, ho, hc, n, hd⟩ := pl.isList
    exact call_list_seq p (.inl rfl) ho hc hd (fun h' c' kp e => fin its r' hz h' c' kp e) (by simp only [List.size_toArray] <;> lia)
  · obtain ⟨its, r', pl, hz⟩ := I.tuple hq
    have hlen := r'.length
    obtain ⟨o, ho, hc, n, hd⟩ := pl
    exact call_list_seq p (.inr rfl) ho hc hd (fun h' c' kp e => fin its r' hz h' c' kp e) (by simp only [List.size_toArray] <;> lia)
theorem call_tuple_of : CallR X (.type "tuple") (fun xs H Q => ∃ p ys, xs = [.ref p] ∧ ((SqL X.K H p ys ∧ ∀ l, H l = none → Q (.ref l) (upd H l (.tup ys))) ∨ (SqT X.K H p ys ∧ Q (.ref p) H))) := by
  intro pins s σ H xs us Q I r h
  obtain ⟨p, ys, rfl, h⟩ := h
  obtain ⟨u, rfl, rx⟩ := vals1 r
  cases rx
  rcases h with ⟨hq, q⟩ | ⟨hq, q⟩
  · obtain ⟨its, r', pl, hz⟩ := I.list hq
    have hlen := r'.length
    refine call_tuple_list pl.isList (fun h' kp => ?_) (by simp only [List.size_toArray] <;> lia)
    have I1 : Inv X pins σ H { s with heap := h' } := I.kept (t' := s.toks) kp
    have I2 : Inv X pins σ (upd H h'.objs.size (.tup ys)) { s with heap := h'.push { cls := .type "tuple", data := .seq its.toArray } } :=
      I1.laid (t' := s.toks) (fun b o e => Heap.get?_push_of_some _ e) (Nat.le_refl _) (show ObjOk X.prog X.w _ _ _ (.tup ys) from ⟨hz, its, r', IsTup.new _ _⟩)
    exact ⟨.ref h'.objs.size, _, I2, rfl, q _ (I1.hok.fresh (Nat.le_refl _))⟩
  · obtain ⟨its, r', pl, hz⟩ := I.tuple hq
    exact call_tuple_same pl ⟨.ref p, H, I, rfl, q⟩
def tyV (K : PySem.W.Frag) (T : String) (x : V) (H : Hp) : Prop := match x with
  | .str _ => T = "str"
  | .int _ => T = "int"
  | .ref p => (T = "list" ∧ ∃ xs, SqL K H p xs) ∨ (T = "tuple" ∧ ∃ o, K.lookup p = some o ∧ o.cls = .type "tuple" ∧ o.dict = none) ∨
      (T = "dict" ∧ ((∃ kvs, H p = some (.dK kvs)) ∨ ∃ kvs, H p = some (.dT kvs))) ∨ (T = "set" ∧ ∃ S n, H p = some (.set S n))
  | _ => False
theorem tyV_is {pins : List (Addr × Obj)} {σ : St} {H : Hp} {s : Shared} {T : String} {x : V} {v : Value} (I : Inv X pins σ H s) (r : RelV x v) (ty : tyV X.K T x H) :
    s.TypeIs v T ∧ ∀ a, v = .ref a → ∃ ob, s.heap.get? a = some ob ∧ ob.dict = none := by
  cases x with
  | str z =>
    obtain ⟨t, rfl⟩ := r
    cases (show T = "str" from ty)
    exact ⟨typeIs_str s z t, fun _ e => nomatch e⟩
  | int i =>
    obtain ⟨t, rfl⟩ := r
    cases (show T = "int" from ty)
    exact ⟨typeIs_int s i t, fun _ e => nomatch e⟩
  | ref p =>
    cases r
    rcases ty with ⟨rfl, xs, hq⟩ | ⟨rfl, o, hk, hc, hd⟩ | ⟨rfl, hk⟩ | ⟨rfl, S, n, hk⟩
    · obtain ⟨its, _, pl, _⟩ := I.list hq
      refine ⟨pl.isList.typeIs, fun a e => ?_⟩
      cases e
      obtain ⟨o, n, e, c, hd, _⟩ := pl
      exact ⟨o, e, hd⟩
    · refine ⟨⟨o, I.kIn p o hk, hc⟩, fun a e => ?_⟩
      cases e
      exact ⟨o, I.kIn _ o hk, hd⟩
    · have z : ∃ o, s.heap.get? p = some o ∧ o.ExactDict := by
        rcases hk with ⟨kvs, hk⟩ | ⟨kvs, hk⟩
        · obtain ⟨_, _, _, _, o, _, _, e, ex, _⟩ := I.hok p _ hk
          exact ⟨o, e, ex⟩
        · obtain ⟨_, _, _, _, o, _, _, e, ex, _⟩ := I.hok p _ hk
          exact ⟨o, e, ex⟩
      obtain ⟨o, e, ex⟩ := z
      refine ⟨⟨o, e, ex.1⟩, fun a e2 => ?_⟩
      cases e2
      exact ⟨o, e, ex.2.1⟩
    · obtain ⟨o, _, _, _, e, ex, _⟩ := I.hok p _ hk
      refine ⟨⟨o, e, ex.1⟩, fun a e2 => ?_⟩
      cases e2
      exact ⟨o, e, ex.2.1⟩
  | _ => exact False.elim ty
variable {o e : Expr} {es : List Expr} {to : TE} {t : TA} {name : Str} {apos cpos : Pos} {T id : String} {r : V → List V → Hp → VK → Prop}
end
end L2
namespace L2
open PySem PySem.Spec PyProof.Rows
def MtM (X : Cx) (id : String) (r : V → List V → Hp → VK → Prop) : Prop :=
  ∀ (pins : List (Addr × Obj)) (s : Shared) (σ : St) (H : Hp) (x : V) (xs : List V) (v : Value) (us : List Value) (Q : VK), Inv X pins σ H s → RelV x v → Vals xs us → r x xs H Q →
    wpAny (model X.prog X.w) X.A (call (.builtin id) (v :: us)) (EP X pins σ Q) X.xe s
theorem Vals.one : ∀ {x : V} {us : List Value}, Vals [x] us → ∃ u, us = [u] ∧ RelV x u
  | _, _, .cons r .nil => ⟨_, rfl, r⟩
section
variable {X : Cx} {pins : List (Addr × Obj)} {σ : St} {H : Hp} {s : Shared} {l b : Addr} {xs ys zs : List V}
theorem Inv.lset {its its' : List Value} {n : Nat} {f : Array Value → Array Value} {t' : Nat} (I : Inv X pins σ H s) (hH : H l = some (.lst xs))
    (e : s.heap.get? l = some { cls := .type "list", data := .seq its.toArray n }) (hf : f its.toArray = its'.toArray) (hv : Vals ys its') (hz : ys.length ≤ sizeLine) :
    Inv X pins σ (upd H l (.lst ys)) { s with heap := s.heap.update l (Obj.mapSeq f), toks := t' } := by
  have q := PySem.IsL.update e f
  rw [hf] at q
  refine I.write (x := l) (e := l) (by rw [hH]; exact trivial) (.inl rfl) (fun b' u hb hu => (Heap.get?_update_other s.heap (Obj.mapSeq f) (Ne.symm hb)).trans hu) ⟨_, q⟩ ?_
  exact ⟨hz, its', _, hv, q⟩
theorem Inv.lnew {its : List Value} {t' : Nat} (I : Inv X pins σ H s) (hv : Vals ys its) (hz : ys.length ≤ sizeLine) :
    Inv X pins σ (upd H s.heap.objs.size (.lst ys)) { s with heap := s.heap.push { cls := .type "list", data := .seq its.toArray }, toks := t' } :=
  I.laid (fun _ _ q => Heap.get?_push_of_some _ q) (Nat.le_refl _) ⟨hz, its, 0, hv, Heap.get?_push_size _ rfl⟩
theorem Inv.fresh (I : Inv X pins σ H s) : H s.heap.objs.size = none := I.hok.fresh (Nat.le_refl _)
theorem Inv.lstM (I : Inv X pins σ H s) (hH : H l = some (.lst xs)) : xs.length ≤ sizeLine ∧ ∃ (its : List Value) (n : Nat), Vals xs its ∧ xs.length = its.length ∧ s.heap.get? l = some { cls := .type "list", data := .seq its.toArray n } := by
  obtain ⟨z, its, n, r, e⟩ := I.hok l _ hH
  exact ⟨z, its, n, r, r.length, e⟩
theorem notLongL {n : Nat} (h : n ≤ sizeLine) : Builtin.List.listTooLong n = false := by
  unfold Builtin.List.listTooLong
  exact decide_eq_false (by lia)
end
section
variable {X : Cx}
def rAppend : V → List V → Hp → VK → Prop := fun x vs H Q => ∃ l xs y, x = .ref l ∧ vs = [y] ∧ H l = some (.lst xs) ∧ xs.length < sizeLine ∧ Q .non (upd H l (.lst (xs ++ [y])))
theorem mt_append : MtM X "list.append" rAppend := by
  intro pins s σ H x vs v us Q I rx rv h
  obtain ⟨l, xs, y, rfl, rfl, hH, hz, q⟩ := h
  cases rx
  obtain ⟨u, rfl, ru⟩ := rv.one
  obtain ⟨z, its, n, r, hl, e⟩ := I.lstM hH
  refine call_meets F.slot_list_append ⟨_, e, rfl⟩ F.entry_list_append (F.args_list_append_2 _ _) (PySem.list_append l its.toArray n u (by rw [List.size_toArray]; lia)) ⟨e, ?_⟩
  refine ⟨.non, _, I.lset (its' := its ++ [u]) hH e (by simp) (r.append (.cons ru .nil)) ?_, rfl, q⟩
  rw [List.length_append, List.length_singleton]
  lia
def rExtend : V → List V → Hp → VK → Prop := fun x vs H Q => ∃ l b xs zs, x = .ref l ∧ vs = [.ref b] ∧ H l = some (.lst xs) ∧ H b = some (.lst zs) ∧ xs.length + zs.length ≤ sizeLine ∧ Q .non (upd H l (.lst (xs ++ zs)))
theorem mt_extend : MtM X "list.extend" rExtend := by
  intro pins s σ H x vs v us Q I rx rv h
  obtain ⟨l, b, xs, zs, rfl, rfl, hH, hB, hz, q⟩ := h
  cases rx
  obtain ⟨u, rfl, ru⟩ := rv.one
  cases ru
  obtain ⟨z, its, n, r, hl, e⟩ := I.lstM hH
  obtain ⟨z2, its2, n2, r2, hl2, e2⟩ := I.lstM hB
  have hsz : its.toArray.size + its2.toArray.size ≤ sizeLine := by rw [List.size_toArray, List.size_toArray]; lia
  have hlong : ¬ (!its.toArray.isEmpty && Builtin.List.listTooLong (its.toArray.size + its2.toArray.size)) = true := by
    rw [notLongL hsz, Bool.and_false]
    exact Bool.false_ne_true
  refine call_meets F.slot_list_extend ⟨_, e, rfl⟩ F.entry_list_extend (F.args_list_extend_2 _ _)
    (AutoSeq1.list_extend_list_list_0 l its.toArray n b its2.toArray n2 hlong (by rw [List.size_toArray]; lia) (by lia)) ⟨e, e2, ?_⟩
  refine ⟨.non, _, I.lset (its' := its ++ its2) hH e (by simp) (r.append r2) ?_, rfl, q⟩
  rw [List.length_append]
  lia
end
section
variable {prog : Program} {w : World} {A : Around} {E : Value → Shared → Prop} {s : Shared}
end
section
variable {X : Cx}
end
end L2
namespace Att
open PySem PySem.W PySem.Calls PyProof.Rows
theorem ints_of_wellAll {P : Params} {h : Heap} : ∀ (ns : List Int) (vs : List Value), WellAll P h vs (ns.map WData.int) → IntsAre vs ns := by
  intro ns
  induction ns with
  | nil =>
    intro vs w
    rw [List.map_nil] at w
    cases w
    exact .nil
  | cons n ns ih =>
    intro vs w
    rw [List.map_cons] at w
    cases w with
    | cons a b =>
      cases a
      exact .cons _ _ (ih _ b)
theorem script_of {l : OpenLaw} {n : Nat} (hn : l.most = some n) {P : Params} {h : Heap} {args : List WData} {vals : List Value}
    (hpre : l.row.toRowW.claim.pre args = true) (hwl : WellAll P h vals args) :
    ∃ a vs ns, vals = [Value.ref a] ∧ args = [WData.list (ns.map WData.int)] ∧ h.get? a = some { cls := .type "list", data := .seq vs.toArray } ∧ IntsAre vs ns ∧ ns.length ≤ n := by
  have hsh : WShape.hasAll [] args [.list .int] = true := (pre_splitW hpre).1
  have hc : l.pre.holds [] { args := args } = true := (pre_splitW hpre).2
  obtain ⟨d, r, rfl, h1, h2⟩ := hasAllW_cons hsh
  obtain rfl := hasAllW_nil h2
  obtain ⟨xs, rfl, h3⟩ := hasW_list h1
  obtain ⟨ns, rfl⟩ := items_int h3
  have hlen : ns.length ≤ n := by
    unfold OpenLaw.pre at hc
    have h4 : (WTm.not (.lt (.lit (.int (n : Int))) (.len (.arg 0)))).holds [] { args := [.list (ns.map .int)] } = true := by
      have h4 := (holds_andW hc).1
      rw [hn] at h4
      exact h4
    have h5 := condW_of h4 (w_not (w_lt w_lit (w_len_list (w_arg rfl))))
    rw [List.length_map] at h5
    refine Nat.le_of_not_lt fun q => ?_
    have q' : (n : Int) < ((ns.length : Nat) : Int) := by lia
    first
      | (rw [decide_eq_true q'] at h5; exact absurd h5 (by decide))
      | (simp at h5; lia)
  cases hwl with
  | cons w1 w2 =>
    cases w2
    cases w1 with
    | list ho hall => exact ⟨_, _, ns, rfl, rfl, ho, ints_of_wellAll ns _ hall, hlen⟩
theorem post_true (l : OpenLaw) (args : List WData) : l.row.toRowW.claim.post args (.bool true) args = true :=
  postW_of (r := l.row.toRowW) (X := (true == true))
    (show WShape.has [] (.bool true) .bool = true by first | rfl | decide | simp [WShape.has, WShape.arms, WShape.armsAll])
    (show (WTm.eq .res (.lit (.bool true))).value [] { args := args, res := some (.bool true), after := args } = some (.bool (true == true)) from w_eq_bool (w_res rfl) w_lit) rfl
theorem attach_call {l : OpenLaw} {n : Nat} {q : Program} {loose : List Str} {XP : (Str → Option Value) → Heap → Prop} {YP : World → Heap → Prop} {d : DefRec}
    (hn : l.most = some n) (hdf : d.params.defaults = [])
    (call : ∀ (w : World) (s₀ s₁ : Shared) (mg mb : Str → Option Value) (fa : Addr) (o : Obj) (pm cd doc : Value) (a : Addr) (vs : List Value) (ns : List Int),
      Ground q loose [] XP w s₀ mg mb s₁.heap → YP w s₁.heap →
      s₁.heap.get? fa = some o → o.data = .func (docDef d.name d.params d.body d.scope pm cd doc) → s₁.heap.CodeRec cd d.name → mg d.name = some (.ref fa) →
      s₁.heap.get? a = some { cls := .type "list", data := .seq vs.toArray } → IntsAre vs ns → ns.length ≤ n → s₁.gens = #[] →
      codeAny (model l.prog w) callerA (.call (.ref fa) ⟨[.ref a], []⟩) (fun r s' => r = .ok (.ret (.bool true)) ∧ OldK s₁.heap s'.heap ∧ s'.os = s₁.os ∧ AllBare s'.gens) s₁) :
    WalkO q loose XP YP l.row.toRowW d [] (fun f vs => PySem.call f vs) := by
  intro w s₀ s₁ mg mb G Y fa o pm cd doc dV kV ho hd hcd hD hmg hg args vals as hpre hlay hrd hwl hlo
  obtain rfl : dV = .none := Dflts.none hD hdf
  obtain rfl : kV = .none := Dflts.noKw hD
  obtain ⟨a, vs, ns, rfl, rfl, hobj, hints, hlen⟩ := script_of hn hpre hwl
  refine enter_call (codeAny_mono (call w s₀ s₁ mg mb fa o pm cd doc a vs ns G Y ho (fd_plain hd) hcd hmg hobj hints hlen hg) fun r s' hq => ?_)
  obtain ⟨rfl, h2, h3, h4⟩ := hq
  exact ⟨.inl ⟨.bool true, .bool true, [], rfl, fun _ => rfl, .bool true, post_true l _, fun _ => ⟨List.Pairwise.nil, fun _ hm => (nomatch hm)⟩⟩, h2, h3, h4⟩
section
variable {prog : Program} {w : World} {A : Around} {E : Value → Shared → Prop} {s : Shared} {K : Frag}
end
end Att
namespace L2
open PySem PySem.Spec PyProof.Rows
theorem vals_ints : ∀ {vs : List Value} {ns : List Int}, IntsAre vs ns → Vals (ns.map V.int) vs
  | _, _, .nil => .nil
  | _, _, .cons n t h => .cons ⟨t, rfl⟩ (vals_ints h)
def Only (H : Hp) : Prop := ∀ b, H b = none ∨ ∃ o xs, H b = some (.frz o (.lst xs))
theorem law_call {P : Program} {w : World} {K : PySem.W.Frag} {mg mb : Str → Option Value} {CX : CXT} {k : Nat} {fa a : Addr} {fd : FuncData} {x : Str} {sp : Sp} {s₁ : Shared} {vs : List Value} {ns : List Int}
    (KX : K.In s₁.heap) (hns : s₁.heap.Ns mainGlobals mg) (hb : s₁.heap.Ns builtinsNs mb) (hbb : ∀ x : Str, x ≠ "__name__" → mb x = bootBuiltins x) (hlim : s₁.heap.NoLimit) (hg : s₁.gens = #[])
    (ha : s₁.heap.get? a = some { cls := .type "list", data := .seq vs.toArray }) (hi : IntsAre vs ns) (hl : ns.length ≤ sizeLine) (hr : Room k callerA)
    (F : ∀ base : Heap, K.In base → base.Ns mainGlobals mg → FnOk P w K mg base CX k fa fd [x] sp) (hbind : ∀ (s : Shared) (u : Value), BindsTo s fd ⟨[u], []⟩ [(x, u)])
    (hsp : ∀ H : Hp, Only H → SqL K H a (ns.map V.int) → sp [.ref a] H (fun v _ => v = .bl true) fun _ _ _ => False)
    (hCX : ∀ H e s', CX [] H s₁ (fun _ _ _ => False) e s' → False) :
    codeAny (model P w) callerA (.call (.ref fa) ⟨[.ref a], []⟩) (fun r s' => r = .ok (.ret (.bool true)) ∧ OldK s₁.heap s'.heap ∧ s'.os = s₁.os ∧ AllBare s'.gens) s₁ := by
  have rv := vals_ints hi
  have lenV := hi.length
  have core : ∀ H : Hp, Only H → SqL K H a (ns.map V.int) → HOk P w H s₁.heap → (∀ b, H b ≠ none → b = a) → (H a ≠ none → K.lookup a = none) →
      codeAny (model P w) callerA (.call (.ref fa) ⟨[.ref a], []⟩) (fun r s' => r = .ok (.ret (.bool true)) ∧ OldK s₁.heap s'.heap ∧ s'.os = s₁.os ∧ AllBare s'.gens) s₁ := by
    intro H hO hS hok hA hK
    have base_of : ∀ {b : Addr} {o : Obj}, s₁.heap.get? b = some o → H b = none → (hidT s₁.heap H).get? b = some o := fun e n => hidT_get e n
    have noA : ∀ {b : Addr} {o : Obj} {es : Array DictEntry} {ep : Nat}, s₁.heap.get? b = some o → o.data = .dict es ep → H b = none := fun {b o es ep} e d => by
      cases q : H b with
      | none => rfl
      | some u =>
        have e' : b = a := hA b (by rw [q]; simp)
        subst e'
        rw [ha] at e; cases e
        have d' : Data.seq vs.toArray _ = Data.dict es ep := d
        cases d'
    have nsK : ∀ {b : Addr} {m : Str → Option Value}, s₁.heap.Ns b m → (hidT s₁.heap H).Ns b m := fun {b m} ⟨o, es, ep, e, d, r⟩ => ⟨o, es, ep, base_of e (noA e d), d, r⟩
    have hKb : K.In (hidT s₁.heap H) := fun b o e => base_of (KX b o e) (by
      cases q : H b with
      | none => rfl
      | some u =>
        have e' : b = a := hA b (by rw [q]; simp)
        subst e'
        rw [hK (by rw [q]; simp)] at e; cases e)
    have hM : Mod K mg (hidT s₁.heap H) := ⟨hKb, nsK hns, ⟨mb, nsK hb, hbb⟩, let ⟨mc, h1, h2⟩ := hlim; ⟨mc, nsK h1, h2⟩⟩
    have e0 : Env0 P w K mg (hidT s₁.heap H) callerA [] s₁ H := ⟨rfl, hM, fun b o e => of_hidT e, Nat.le_of_eq (hidT_size _ _), trivial, fun b hb => absurd (show b ∈ ([] : List Addr) from hb) (by simp), hok, .of_eq hg⟩
    refine codeAny_mono ((F _ hKb (nsK hns)).run callerA [] s₁ H ⟨[.ref a], []⟩ [.ref a] [.ref a] _ _ hr e0 (hbind s₁ (.ref a)) (.cons rfl .nil) (hsp H hO hS)) fun r s' h => ?_
    cases r with
    | error e => exact (hCX H e s' h).elim
    | ok fl =>
      cases fl with
      | next => exact False.elim h
      | brk => exact False.elim h
      | cont => exact False.elim h
      | ret u =>
        obtain ⟨v, H', os, bare, un, hok', r', q⟩ := h
        have q' : v = .bl true := q
        subst q'
        obtain rfl : u = Value.bool true := r'
        refine ⟨rfl, OldK.of_keep fun b o e => ?_, os, bare⟩
        cases q : H b with
        | none => exact un.keep b o e q (by intro z; exact absurd (show b ∈ ([] : List Addr) from z) (by simp)) (by simp)
        | some u =>
          rcases hO b with z | ⟨ob, xs, z⟩
          · rw [q] at z; cases z
          · have z2 := un.frzs b ob _ z
            obtain ⟨e1, _⟩ := hok b _ z
            obtain ⟨e2, _⟩ := hok' b _ z2
            rw [e] at e1; cases e1
            exact e2
  cases hk : K.lookup a with
  | some o =>
    have e := KX a o hk
    rw [ha] at e
    cases e
    refine core (fun _ => none) (fun _ => .inl rfl) (.inr ⟨_, vs.toArray, _, hk, rfl, rfl, rfl, by rw [List.size_toArray, lenV]; exact hl, by simpa using rv⟩) (fun b u z => by have z' : (none : Option HO) = some u := z; cases z') (fun b z => absurd rfl z) fun z => absurd rfl z
  | none =>
    refine core (fun b => if b = a then some (.frz { cls := .type "list", data := .seq vs.toArray } (.lst (ns.map V.int))) else none) (fun b => ?_) (.inl (.inr ⟨{ cls := .type "list", data := .seq vs.toArray }, if_pos rfl⟩)) (fun b u z => ?_) (fun b z => ?_) fun _ => hk
    · by_cases hb : b = a
      · exact .inr ⟨_, _, if_pos hb⟩
      · exact .inl (if_neg hb)
    · by_cases hb : b = a
      · have z' := (if_pos hb).symm.trans z
        cases z'
        subst hb
        exact ⟨ha, by rw [List.length_map]; exact hl, vs, _, rv, ha⟩
      · have z' := (if_neg hb).symm.trans z
        cases z'
    · by_cases hb : b = a
      · exact hb
      · exact absurd (if_neg hb) z
end L2
namespace L2
open PySem PySem.Spec PyProof.Rows
theorem walk_of {l : PySem.W.OpenLaw} {n k : Nat} {q : Program} {loose : List Str} {XP : (Str → Option Value) → Heap → Prop} {YP : World → Heap → Prop} {d : DefRec} {K : Params → PySem.W.Frag} {CX : World → CXT} {sp : World → Sp} {x : Str}
    (hn : l.most = some n) (hn2 : n ≤ sizeLine) (hdf : d.params.defaults = []) (hr : Room k callerA)
    (hY : ∀ (w : World) (h : Heap), YP w h → (K w.params).In h)
    (F : ∀ (w : World) (mg : Str → Option Value) (fa : Addr) (h : Heap), (K w.params).In h → h.Ns mainGlobals mg → mg d.name = some (.ref fa) →
      ∃ fd : FuncData, (∀ (s : Shared) (u : Value), BindsTo s fd ⟨[u], []⟩ [(x, u)]) ∧
        ∀ base : Heap, (K w.params).In base → base.Ns mainGlobals mg → FnOk l.prog w (K w.params) mg base (CX w) k fa fd [x] (sp w))
    (hsp : ∀ (w : World) (H : Hp) (a : Addr) (ns : List Int), ns.length ≤ n → Only H → SqL (K w.params) H a (ns.map V.int) → sp w [.ref a] H (fun v _ => v = .bl true) fun _ _ _ => False)
    (hCX : ∀ (w : World) (H : Hp) (s : Shared) (e : Value) (s' : Shared), CX w [] H s (fun _ _ _ => False) e s' → False) :
    PySem.W.WalkO q loose XP YP l.row.toRowW d [] (fun f vs => PySem.call f vs) := by
  refine Att.attach_call hn hdf fun w s₀ s₁ mg mb fa o pm cd doc a vs ns G Y ho hd hcd hmg hobj hints hlen hg => ?_
  have KX := hY w _ Y
  obtain ⟨fd, hb, hF⟩ := F w mg fa _ KX G.T.g hmg
  exact law_call KX G.T.g G.T.b G.T.builtins G.T.nolimit hg hobj hints (Nat.le_trans hlen hn2) hr hF hb (fun H hO hS => hsp w H a ns hlen hO hS) fun H e s' => hCX w H s₁ e s'
end L2
namespace L2
open PySem PySem.Spec PyProof.Rows
def defArgs (s : Stmt) : Arguments := match s with
  | .FunctionDef _ a _ _ _ _ _ _ _ _ => a
  | _ => { posonlyargs := [], args := [], vararg := none, kwonlyargs := [], kw_defaults := [], kwarg := none, defaults := [] }
def defBody (s : Stmt) : List Stmt := match s with
  | .FunctionDef _ _ b _ _ _ _ _ _ _ => b
  | _ => []
def defScope (s : Stmt) : Scope := match s with
  | .FunctionDef _ _ _ _ _ _ sc _ _ _ => sc
  | _ => { kind := .function, names := [], isGenerator := false, isCoroutine := false }
abbrev CX0 : CXT := fun _ _ _ _ _ _ => False
abbrev E0 : XK := fun _ _ _ => False
theorem pass0 {X : Cx} : Passes CX0 X E0 := fun _ _ _ _ _ _ _ h => h.elim
structure Fun (K : PySem.W.Frag) (x qual : Str) (st : Stmt) (f : Addr) (fd : FuncData) : Prop where
  ex : ∃ (oc : Value) (od : Option Addr) (kV doc pm : Value) (an : Option Addr) (cdv ct : Value) (osl : Array (Option Value)),
    fd = PySem.W.fnOf x qual (defArgs st) (defBody st) (defScope st) .none kV doc pm an cdv ct ∧ K.lookup f = some ⟨oc, od, .func fd, osl⟩ ∧ PySem.W.codeIn K cdv qual = true
  kp : PySem.W.keepIn K (.ref f) = true
section
variable {P : Program} {w : World} {K : PySem.W.Frag} {mg : Str → Option Value} {base : Heap}
theorem Fun.ok {x qual : Str} {st : Stmt} {f : Addr} {fd : FuncData} {N ps : List Str} {k : Nat} {sp : Sp} (F : Fun K x qual st f fd) (S : FnScope N ps (defScope st)) (len : ∀ vs H Q E, sp vs H Q E → vs.length = ps.length)
    (hbody : ∀ (cdv : Value) (A : Around) (outer : List Env) (s : Shared) (H : Hp) (vs : List V) (Q : VK) (E : XK), Room k (A.deeper (envOfC qual (defScope st) s.heap.objs.size f cdv)) → sp vs H Q E →
      ∃ t, PSs (cxOf CX0 P w K mg base N qual (defScope st) f cdv A outer s H E).nox (defBody st) t ∧ t { nx := fun _ H' => Q .non H', rt := Q } (start N vs) H) : FnOk P w K mg base CX0 (k + 1) f fd ps sp := by
  obtain ⟨oc, od, kV, doc, pm, an, cdv, ct, osl, rfl, lk, hcd⟩ := F.ex
  refine fn_of lk hcd S len fun A outer s H vs Q E hr hsp => ?_
  obtain ⟨t, h, q⟩ := hbody cdv A outer s H vs Q E hr hsp
  exact ⟨t, h.nox, q⟩
theorem Fun.binds {x qual : Str} {st : Stmt} {f : Addr} {fd : FuncData} {ps : List Str} (F : Fun K x qual st f fd)
    (h : ∀ (kV doc pm : Value) (an : Option Addr) (cdv ct : Value) (us : List Value), us.length = ps.length → bindArgs (PySem.W.fnOf x qual (defArgs st) (defBody st) (defScope st) .none kV doc pm an cdv ct) ⟨us, []⟩ = pure (ps.zip us)) : Binds K fd ps [] := by
  obtain ⟨oc, od, kV, doc, pm, an, cdv, ct, osl, rfl, lk, hcd⟩ := F.ex
  exact .all (h kV doc pm an cdv ct)
theorem fun_mk {x qual : Str} {st : Stmt} {f : Addr} {oc : Value} {od an : Option Addr} {osl : Array (Option Value)} {kV doc pm cdv ct : Value} (l : K.lookup f = some ⟨oc, od, .func (PySem.W.fnOf x qual (defArgs st) (defBody st) (defScope st) .none kV doc pm an cdv ct), osl⟩)
    (c : PySem.W.codeIn K cdv qual = true) (k : PySem.W.keepIn K (.ref f) = true) : Fun K x qual st f (PySem.W.fnOf x qual (defArgs st) (defBody st) (defScope st) .none kV doc pm an cdv ct) := ⟨⟨oc, od, kV, doc, pm, an, cdv, ct, osl, rfl, l, c⟩, k⟩
end
section
variable {X : Cx}
end
end L2
namespace L2
open PySem PySem.Spec PyProof.Rows
section
variable {κ : Type} [DecidableEq κ]
def valV (kvs : List (κ × V)) (k : κ) : Option V := (kvs.find? fun kv => decide (kv.1 = k)).map (·.2)
def putK (kvs : List (κ × V)) (k : κ) (v : V) : List (κ × V) :=
  if (kvs.any fun kv => decide (kv.1 = k)) = true then kvs.map (fun kv => if kv.1 = k then (kv.1, v) else kv) else kvs ++ [(k, v)]
theorem valV_pos {p : κ × V} {r : List (κ × V)} {k : κ} (e : p.1 = k) : valV (p :: r) k = some p.2 := by simp [valV, List.find?_cons, e]
theorem valV_neg {p : κ × V} {r : List (κ × V)} {k : κ} (e : ¬ p.1 = k) : valV (p :: r) k = valV r k := by simp [valV, List.find?_cons, e]
theorem valV_any (k : κ) : ∀ kvs : List (κ × V), (kvs.any fun kv => decide (kv.1 = k)) = (valV kvs k).isSome
  | [] => rfl
  | p :: r => by
    rw [List.any_cons]
    by_cases e : p.1 = k
    · simp only [valV_pos e, decide_eq_true e, Bool.true_or, Option.isSome_some]
    · rw [valV_neg e, decide_eq_false e, Bool.false_or]; exact valV_any k r
theorem length_putK (kvs : List (κ × V)) (k : κ) (v : V) : (putK kvs k v).length ≤ kvs.length + 1 := by
  unfold putK
  split
  · rw [List.length_map]; lia
  · rw [List.length_append, List.length_cons, List.length_nil]; lia
theorem RelO.isSome_eq {o : Option V} {u : Option Value} (r : RelO o u) : o.isSome = u.isSome := by
  cases o with
  | none => cases u with
    | none => rfl
    | some _ => exact (show False from r).elim
  | some _ => cases u with
    | none => exact (show False from r).elim
    | some _ => rfl
theorem KV.val {kvs : List (κ × V)} {vs : List (κ × Value)} (r : KV kvs vs) (k : κ) : RelO (valV kvs k) (valueAt vs k) := by
  unfold KV at r
  induction r with
  | nil => exact True.intro
  | @cons p q ps qs h t ih =>
    obtain ⟨h1, h2⟩ := h
    by_cases e : p.1 = k
    · have e' : q.1 = k := h1.symm.trans e
      have b : valueAt (q :: qs) k = some q.2 := by simp [valueAt, List.find?_cons, e']
      rw [valV_pos e, b]; exact h2
    · have e' : ¬ q.1 = k := fun z => e (h1.trans z)
      have b : valueAt (q :: qs) k = valueAt qs k := by simp [valueAt, List.find?_cons, e']
      rw [valV_neg e, b]; exact ih
theorem KV.any {kvs : List (κ × V)} {vs : List (κ × Value)} (r : KV kvs vs) (k : κ) : (kvs.any fun kv => decide (kv.1 = k)) = vs.any fun kv => decide (kv.1 = k) := by
  unfold KV at r
  induction r with
  | nil => rfl
  | cons h t ih => rw [List.any_cons, List.any_cons, ih, h.1]
theorem KV.repl {kvs : List (κ × V)} {vs : List (κ × Value)} (r : KV kvs vs) (k : κ) {y : V} {u : Value} (ry : RelV y u) :
    KV (kvs.map fun kv => if kv.1 = k then (kv.1, y) else kv) (vs.map fun kv => if kv.1 = k then (kv.1, u) else kv) := by
  unfold KV at r ⊢
  induction r with
  | nil => exact .nil
  | @cons p q ps qs h t ih =>
    rw [List.map_cons, List.map_cons]
    refine .cons ?_ ih
    obtain ⟨h1, h2⟩ := h
    by_cases e : p.1 = k
    · rw [if_pos e, if_pos (h1.symm.trans e)]; exact ⟨h1, ry⟩
    · rw [if_neg e, if_neg (fun z => e (h1.trans z))]; exact ⟨h1, h2⟩
theorem KV.put {kvs : List (κ × V)} {vs : List (κ × Value)} (r : KV kvs vs) (k : κ) {y : V} {u : Value} (ry : RelV y u) : KV (putK kvs k y) (stored vs k u) := by
  unfold putK stored
  rw [r.any k]
  by_cases e : (vs.any fun kv => decide (kv.1 = k)) = true
  · rw [if_pos e, if_pos e]; exact r.repl k ry
  · rw [if_neg e, if_neg e]; exact Paired.snoc r ⟨rfl, ry⟩
theorem KV.length {kvs : List (κ × V)} {vs : List (κ × Value)} (r : KV kvs vs) : kvs.length = vs.length := Paired.length r
end
theorem kV_is {P : Program} {w : World} {k : Key} {u : Value} (r : RelV (kV k) u) : (mixKind P w).is k u = true := by
  cases k with
  | inl i => obtain ⟨t, e⟩ := (show ∃ t, u = Value.int i t from r); subst e; exact mixKind_int P w i t
  | inr x => obtain ⟨t, e⟩ := (show ∃ t, u = Value.str x t from r); subst e; exact mixKind_str P w x t
theorem items_are {P : Program} {w : World} : ∀ {ks : List Key} {us : List Value}, Vals (ks.map kV) us → ItemsAre (mixKind P w) ks us
  | [], _, r => by rw [List.map_nil] at r; cases r; exact .nil
  | k :: ks, _, r => by
    rw [List.map_cons] at r
    cases r with
    | cons h t => exact .cons (kV_is h) (items_are t)
abbrev KT (H : Hp) : List (List Key × V) → List (List Key × Addr × Value) → Prop := Paired fun p q => p.1 = q.1 ∧ H q.2.1 = some (.tup (p.1.map kV)) ∧ RelV p.2 q.2.2
theorem KT.val {H : Hp} {kvs : List (List Key × V)} {xs : List (List Key × Addr × Value)} (r : KT H kvs xs) (k : List Key) : RelO (valV kvs k) ((atKey xs k).map (·.2)) := by
  induction r with
  | nil => exact True.intro
  | @cons p q ps qs h t ih =>
    obtain ⟨h1, _, h2⟩ := h
    by_cases e : p.1 = k
    · have e' : q.1 = k := h1.symm.trans e
      have b : atKey (q :: qs) k = some q.2 := by simp [atKey, List.find?_cons, e']
      rw [valV_pos e, b]; exact h2
    · have e' : ¬ q.1 = k := fun z => e (h1.trans z)
      have b : atKey (q :: qs) k = atKey qs k := by simp [atKey, List.find?_cons, e']
      rw [valV_neg e, b]; exact ih
theorem KT.repl {H : Hp} {kvs : List (List Key × V)} {xs : List (List Key × Addr × Value)} (r : KT H kvs xs) (k : List Key) {y : V} {u : Value} (ry : RelV y u) :
    KT H (kvs.map fun kv => if kv.1 = k then (kv.1, y) else kv) (xs.map (putAt k u)) := by
  induction r with
  | nil => exact .nil
  | @cons p q ps qs h t ih =>
    rw [List.map_cons, List.map_cons]
    refine .cons ?_ ih
    obtain ⟨h1, h2, h3⟩ := h
    unfold putAt
    by_cases e : p.1 = k
    · rw [if_pos e, if_pos (h1.symm.trans e)]; exact ⟨h1, h2, ry⟩
    · rw [if_neg e, if_neg (fun z => e (h1.trans z))]; exact ⟨h1, h2, h3⟩
theorem KT.put {H : Hp} {kvs : List (List Key × V)} {xs : List (List Key × Addr × Value)} (r : KT H kvs xs) (k : List Key) {b : Addr} {y : V} {u : Value} (hb : H b = some (.tup (k.map kV))) (ry : RelV y u) :
    KT H (putK kvs k y) (storedH xs k b u) := by
  have e : (kvs.any fun kv => decide (kv.1 = k)) = (atKey xs k).isSome := by
    rw [valV_any, (r.val k).isSome_eq, Option.isSome_map]
  unfold putK storedH
  rw [e]
  by_cases q : (atKey xs k).isSome = true
  · rw [if_pos q, if_pos q]; exact r.repl k ry
  · rw [if_neg q, if_neg q]; exact Paired.snoc r ⟨rfl, hb, ry⟩
theorem KT.keeps {H H' : Hp} {kvs : List (List Key × V)} {xs : List (List Key × Addr × Value)} (r : KT H kvs xs) (ht : ∀ b ys, H b = some (.tup ys) → H' b = some (.tup ys)) : KT H' kvs xs :=
  Paired.mapP r fun _ _ z => ⟨z.1, ht _ _ z.2.1, z.2.2⟩
section
variable {P : Program} {w : World} {H : Hp} {h : Heap} {a : Addr}
theorem rd_of {u : HO} (ok : HOk P w H h) (e : Rd H a u) : ObjOk P w H h a u := e.ok ok
theorem dk_rd {kvs : List (Key × V)} (ok : HOk P w H h) (e : Rd H a (.dK kvs)) : kvs.length ≤ sizeLine ∧ (a == sysModules) = false ∧ ∃ vs, KV kvs vs ∧ h.DictOf (mixKind P w) a vs :=
  show ObjOk P w H h a (.dK kvs) from rd_of ok e
theorem dk_of {kvs : List (Key × V)} (ok : HOk P w H h) (e : H a = some (.dK kvs)) : kvs.length ≤ sizeLine ∧ (a == sysModules) = false ∧ ∃ vs, KV kvs vs ∧ h.DictOf (mixKind P w) a vs := dk_rd ok (.inl e)
theorem key_of {ks : List Key} (ok : HOk P w H h) (e : H a = some (.tup (ks.map kV))) : (tupleKind (mixKind P w)).is h ks a := by
  obtain ⟨_, its, r, o, h1, h2, n, h3⟩ := (show ObjOk P w H h a (.tup (ks.map kV)) from ok a _ e)
  exact ⟨o, its.toArray, n, h1, h2, h3, by simpa using items_are r⟩
theorem dt_rd {kvs : List (List Key × V)} (ok : HOk P w H h) (e : Rd H a (.dT kvs)) : kvs.length ≤ sizeLine ∧ (a == sysModules) = false ∧
    ∃ xs, KT H kvs xs ∧ h.DictOfH (tupleKind (mixKind P w)) a xs := by
  obtain ⟨z, y, xs, r, o, es, ep, h1, h2, h3, h4, h5⟩ := (show ObjOk P w H h a (.dT kvs) from rd_of ok e)
  refine ⟨z, y, xs, r, o, es, ep, h1, h2, h3, h4, fun x hx => ?_, h5⟩
  have all : ∀ {l : List (List Key × V)} {m : List (List Key × Addr × Value)}, KT H l m → ∀ x ∈ m, (tupleKind (mixKind P w)).is h x.1 x.2.1 := by
    intro l m q
    induction q with
    | nil => intro x hx; exact nomatch hx
    | @cons p q ps qs hq t ih =>
      intro x hx
      rcases List.mem_cons.mp hx with e | hx
      · subst e
        exact key_of ok (by rw [← hq.1]; exact hq.2.1)
      · exact ih x hx
  exact all r x hx
theorem dt_of {kvs : List (List Key × V)} (ok : HOk P w H h) (e : H a = some (.dT kvs)) : kvs.length ≤ sizeLine ∧ (a == sysModules) = false ∧
    ∃ xs, KT H kvs xs ∧ h.DictOfH (tupleKind (mixKind P w)) a xs := dt_rd ok (.inl e)
end
def DGet (H : Hp) (a : Addr) (y : V) (r : Option V) : Prop :=
  (∃ kvs k, Rd H a (.dK kvs) ∧ y = kV k ∧ r = valV kvs k) ∨ ∃ kvs k b, Rd H a (.dT kvs) ∧ y = .ref b ∧ H b = some (.tup (k.map kV)) ∧ r = valV kvs k
def DPut (H : Hp) (a : Addr) (y v : V) (H' : Hp) : Prop :=
  (∃ kvs k, H a = some (.dK kvs) ∧ y = kV k ∧ kvs.length < sizeLine ∧ H' = upd H a (.dK (putK kvs k v))) ∨
  ∃ kvs k b, H a = some (.dT kvs) ∧ y = .ref b ∧ H b = some (.tup (k.map kV)) ∧ kvs.length < sizeLine ∧ H' = upd H a (.dT (putK kvs k v))
section
variable {X : Cx} {pins : List (Addr × Obj)} {σ : St} {H : Hp} {s : Shared} {a : Addr} {y v : V} {u r : Value} {o : Option V} {A : Around} {E : Value → Shared → Prop}
theorem Inv.big (I : Inv X pins σ H s) : sysModules < s.heap.objs.size := by
  have h : mainGlobals < s.heap.objs.size := (I.mod.glob.keeps I.bk).lt
  exact Nat.lt_trans (by decide) h
theorem d_getItem {Q : Value → Shared → Prop} (hu : A.units + 1 < cLine) (I : Inv X pins σ H s) (g : DGet H a y (some v)) (ry : RelV y u) (h : ∀ w' s', Inv X pins σ H s' → RelV v w' → Q w' s') :
    wpAny (model X.prog X.w) A (getItem (.ref a) u) Q E s := by
  rcases g with ⟨kvs, k, e, ey, l⟩ | ⟨kvs, k, b, e, ey, eb, l⟩
  · subst ey
    obtain ⟨z, hd, vs, rel, dd⟩ := dk_rd I.hok e
    obtain ⟨w', hw, rw'⟩ := RelO.some_of (v := v) (o := valueAt vs k) (by rw [l]; exact rel.val k)
    exact wpAny_getItem_of (kV_is ry) dd.mapOf hw (h w' _ (I.tok _) rw')
  · subst ey
    cases (show u = Value.ref b from ry)
    obtain ⟨z, hd, xs, rel, dd⟩ := dt_rd I.hok e
    obtain ⟨w', hw, rw'⟩ := RelO.some_of (v := v) (o := (atKey xs k).map (·.2)) (by rw [l]; exact rel.val k)
    obtain ⟨p, hp, hp2⟩ := Option.map_eq_some_iff.mp hw
    refine wpAny_getItem_heap (tupleKind_room_in1 hu) (key_of I.hok eb) dd hp ?_
    rw [hp2]
    exact h w' _ (I.tok _) rw'
theorem d_write {h' : Heap} {t' : Nat} {ob : HO} (I : Inv X pins σ H s) (mu : Mut (H a)) (hs : Heap.SameBut a s.heap h') (he : ∃ q, h'.get? a = some q) (new : ObjOk X.prog X.w (upd H a ob) h' a ob) :
    Inv X pins σ (upd H a ob) { s with heap := h', toks := t' } :=
  I.write (x := a) (e := a) mu (.inl rfl) (fun b q hb z => (hs.2 b hb).trans z) he new
theorem dk_new {P : Program} {w : World} {H' : Hp} {h' : Heap} {kvs : List (Key × V)} {vs : List (Key × Value)} (z : kvs.length ≤ sizeLine) (hd : (a == sysModules) = false) (rel : KV kvs vs) (dd : h'.DictOf (mixKind P w) a vs) :
    ObjOk P w H' h' a (.dK kvs) := ⟨z, hd, vs, rel, dd⟩
theorem d_setItem {H' : Hp} {Q : Unit → Shared → Prop} (hu : A.units + 1 < cLine) (I : Inv X pins σ H s) (g : DPut H a y v H') (ry : RelV y u) (rv : RelV v r) (h : ∀ s', Inv X pins σ H' s' → Q () s') :
    wpAny (model X.prog X.w) A (setItem (.ref a) u r) Q E s := by
  rcases g with ⟨kvs, k, e, ey, l, eH⟩ | ⟨kvs, k, b, e, ey, eb, l, eH⟩
  · subst ey eH
    obtain ⟨z, hd, vs, rel, dd⟩ := dk_of I.hok e
    have hz : vs.length ≤ sizeLine := by rw [← rel.length]; exact z
    have hl : (putK kvs k v).length ≤ sizeLine := by have := length_putK kvs k v; lia
    refine wpAny_setItem_pairs (hsz := hz) (kV_is ry) dd fun h' dd' hs => h _ ?_
    have he : ∃ q, h'.get? a = some q := let ⟨q, _, _, hq, _⟩ := dd'; ⟨q, hq⟩
    exact d_write I (by rw [e]; exact True.intro) hs he (dk_new hl hd (rel.put k rv) dd')
  · subst ey eH
    cases (show u = Value.ref b from ry)
    obtain ⟨z, hd, xs, rel, dd⟩ := dt_of I.hok e
    have hz : xs.length ≤ sizeLine := by rw [← Paired.length rel]; exact z
    have hl : (putK kvs k v).length ≤ sizeLine := by have := length_putK kvs k v; lia
    refine wpAny_setItem_heap (hsz := hz) (tupleKind_room_in1 hu) (key_of I.hok eb) dd fun h' dd' hs => h _ ?_
    obtain ⟨q, es, ep, hq, h2, h3, h4, _, h5⟩ := dd'
    refine d_write I (by rw [e]; exact True.intro) hs ⟨q, hq⟩ ⟨hl, hd, _, (rel.put k eb rv).keeps fun c ys ec => ?_, q, es, ep, hq, h2, h3, h4, h5⟩
    rw [upd_ne (ne_of ec e (fun z => nomatch z))]
    exact ec
end
section
variable {X : Cx} {pins : List (Addr × Obj)} {σ : St} {H : Hp} {s : Shared} {a : Addr} {kvs : List (Key × V)} {k : Key} {u : Value} {A : Around} {E : Value → Shared → Prop}
end
def NoSl (i : Expr) : Prop := ∀ ov iv, subscripted i false ov iv = operate [ov, iv] (getItem ov iv)
theorem subD_of {prog : Program} {w : World} {A : Around} {E : Value → Shared → Prop} {s : Shared} {env : Env} {value slice : Expr} {pos : Pos} {T id : String} {Q : Value → Shared → Prop}
    (hl : typeLookup (.type T) "__getitem__" = pure (some (.builtin id))) (hs : NoSl slice)
    (h : wpAny (model prog w) A (eval value env) (fun o s₁ => wpAny (model prog w) A (eval slice env) (fun i s₂ => s₂.TypeIs o T ∧ wpAny (model prog w) A (getItem o i) Q E s₂) E s₁) E s) :
    wpAny (model prog w) A (eval (.Subscript value slice pos) env) Q E s := by
  refine Subscript_ (wpAny_mono h (fun o s₁ h₁ => wpAny_mono h₁ (fun i s₂ h₂ => ?_) fun _ _ x => x) fun _ _ x => x)
  obtain ⟨hT, h₂⟩ := h₂
  unfold subscriptTail
  refine wpAny_bind ?_
  rw [getitemInPython_of_ne hT.not_modules]
  refine wpAny_bind (wpAny_specialOf hT hl ?_)
  have fin : wpAny (model prog w) A (subscripted slice false o i) (fun r s₃ => wpAny (model prog w) A (letTemporaryGo value o r >>= fun _ => pure r) Q E s₃) E s₂ := by
    rw [hs o i]
    exact wpAny_operating (wpAny_mono h₂ (fun r s₃ h₃ => wpAny_bind (wpAny_letTemporaryGo (wpAny_pure h₃))) fun _ _ x => x)
  first
    | exact wpAny_pure (wpAny_bind fin)
    | exact wpAny_bind (wpAny_pure (wpAny_bind fin))
    | exact wpAny_bind fin
theorem dict_typeIs {X : Cx} {pins : List (Addr × Obj)} {σ : St} {H : Hp} {s : Shared} {a : Addr} {y : V} {o : Option V} (I : Inv X pins σ H s) (g : DGet H a y o) : s.TypeIs (.ref a) "dict" := by
  rcases g with ⟨kvs, k, e, _, _⟩ | ⟨kvs, k, b, e, _, _, _⟩
  · obtain ⟨_, _, vs, _, dd⟩ := dk_rd I.hok e
    exact dd.typeIs
  · obtain ⟨_, _, xs, _, dd⟩ := dt_rd I.hok e
    exact dd.typeIs
def tDGet (td ty : TE) : TE := fun σ H Q => td σ H fun x H1 => ty σ H1 fun y H2 => ∃ a v, x = .ref a ∧ DGet H2 a y (some v) ∧ Q v H2
def sDPut (td ty tv : TE) : TS := fun D σ H => tv σ H fun v H1 => td σ H1 fun x H2 => ty σ H2 fun y H3 => ∃ a H4, x = .ref a ∧ DPut H3 a y v H4 ∧ D.nx σ H4
section
variable {X : Cx} {o i e value : Expr} {pos pos' tpos : Pos} {td ty tv : TE}
theorem pe_dget (hu : X.A.units + 1 < cLine) (ho : PE X o td) (hi : PE X i ty) (hs : NoSl i) : PE X (.Subscript o i pos) (tDGet td ty) := by
  intro pins s σ H Q I h
  refine subD_of PySem.F.slot_dict_getitem.lookup hs (thn (ho pins s σ H _ I h) fun u s1 ⟨x, H1, I1, rx, q1⟩ => thn (hi pins s1 σ H1 _ I1 q1) fun iv s2 ⟨y, H2, I2, ry, a, v, ex, g, q2⟩ => ?_)
  subst ex
  obtain rfl : u = Value.ref a := rx
  exact ⟨dict_typeIs I2 g, d_getItem hu I2 g ry fun w' s3 I3 rw' => ⟨v, H2, I3, rw', q2⟩⟩
theorem ps_dput (hu : X.A.units + 1 < cLine) (ho : PE X o td) (hi : PE X i ty) (hv : PE X value tv) (hs : swapsWith value (some (.Subscript o i pos')) pos.line X.env = pure false) :
    PS X (.Assign [.Subscript o i pos'] value pos) (sDPut td ty tv) := by
  intro pins s σ H D I h
  refine wpAny_Assign_Subscript (thn (hv pins s σ H _ I h) fun r s1 ⟨v, H1, I1, rv, q1⟩ => thn (ho pins s1 σ H1 _ I1 q1) fun u s2 ⟨x, H2, I2, rx, q2⟩ => thn (hi pins s2 σ H2 _ I2 q2) fun iv s3 ⟨y, H3, I3, ry, a, H4, ex, g, q3⟩ => ?_) hs
  subst ex
  obtain rfl : u = Value.ref a := rx
  exact d_setItem hu I3 g ry rv fun s4 I4 => ⟨σ, H4, I4, q3⟩
end
theorem dk_empty {P : Program} {w : World} {H : Hp} (h : Heap) (hb : sysModules < h.objs.size) : ObjOk P w H (h.push { cls := .type "dict", data := .dict #[] }) h.objs.size (.dK []) :=
  ⟨Nat.zero_le _, beq_eq_false_iff_ne.mpr (Ne.symm (Nat.ne_of_lt hb)), [], .nil, Heap.DictOf.new h⟩
section
variable {X : Cx} {pos : Pos}
end
def tPairs : List (TE × TE) → St → Hp → (List (V × V) → Hp → Prop) → Prop
  | [], _, H, Q => Q [] H
  | (tk, tv) :: r, σ, H, Q => tk σ H fun x H1 => tv σ H1 fun y H2 => tPairs r σ H2 fun ps H3 => Q ((x, y) :: ps) H3
abbrev VV : List (V × V) → List (Value × Value) → Prop := Paired fun p q => RelV p.1 q.1 ∧ RelV p.2 q.2
def PPs (X : Cx) (pos : Pos) (keys : List (Option Expr)) (values : List Expr) (trs : List (TE × TE)) : Prop :=
  ∀ (pins : List (Addr × Obj)) (s : Shared) (σ : St) (H : Hp) (Q : List (V × V) → Hp → Prop), Inv X pins σ H s → tPairs trs σ H Q →
    wpAny (model X.prog X.w) X.A (evalPairs (pairTrees keys values X.env pos)) (fun vs s' => ∃ ps H', Inv X pins σ H' s' ∧ VV ps vs ∧ Q ps H') X.xe s
theorem pps_nil {X : Cx} {pos : Pos} : PPs X pos [] [] [] := fun pins s σ H Q I h => pairTrees_nil_walk ⟨[], H, I, .nil, h⟩
theorem pps_cons {X : Cx} {pos : Pos} {k v : Expr} {ks : List (Option Expr)} {vs : List Expr} {tk tv : TE} {trs : List (TE × TE)} (hk : PE X k tk) (hv : PE X v tv) (hr : PPs X pos ks vs trs) :
    PPs X pos (some k :: ks) (v :: vs) ((tk, tv) :: trs) := fun pins s σ H Q I h =>
  pairTrees_cons_walk (thn (hk pins s σ H _ I h) fun u s1 ⟨x, H1, I1, rx, q1⟩ => thn (hv pins s1 σ H1 _ I1 q1) fun w2 s2 ⟨y, H2, I2, ry, q2⟩ =>
    thn (hr pins s2 σ H2 _ I2 q2) fun ws s3 ⟨ps, H3, I3, rel, q3⟩ => ⟨(x, y) :: ps, H3, I3, .cons ⟨rx, ry⟩ rel, q3⟩)
def mergeK (kvs more : List (Key × V)) : List (Key × V) := more.foldl (fun acc kv => putK acc kv.1 kv.2) kvs
theorem KV.merge : ∀ {more : List (Key × V)} {rs : List (Key × Value)} {kvs : List (Key × V)} {vs : List (Key × Value)}, KV more rs → KV kvs vs → KV (mergeK kvs more) (merged vs rs) := by
  intro more rs kvs vs r
  unfold KV at r
  induction r generalizing kvs vs with
  | nil => intro q; exact q
  | @cons p q ps qs h t ih =>
    intro r0
    have e : KV (putK kvs p.1 p.2) (stored vs q.1 q.2) := by
      have := r0.put p.1 h.2
      rw [← h.1]; exact this
    exact ih e
theorem length_mergeK : ∀ (more kvs : List (Key × V)), (mergeK kvs more).length ≤ kvs.length + more.length
  | [], kvs => by show kvs.length ≤ kvs.length + 0; lia
  | p :: r, kvs => by
    have h1 := length_mergeK r (putK kvs p.1 p.2)
    have h2 := length_putK kvs p.1 p.2
    show (mergeK (putK kvs p.1 p.2) r).length ≤ _
    rw [List.length_cons]; lia
theorem carries_of {P : Program} {w : World} : ∀ {kvs : List (Key × V)} {ws : List (Value × Value)}, VV (kvs.map fun kv => (kV kv.1, kv.2)) ws → ∃ rs, Carries (mixKind P w) ws rs ∧ KV kvs rs
  | [], _, r => by rw [List.map_nil] at r; cases r; exact ⟨[], True.intro, .nil⟩
  | p :: kvs, _, r => by
    rw [List.map_cons] at r
    cases r with
    | @cons a b as bs h t =>
      obtain ⟨rs, c, q⟩ := carries_of (P := P) (w := w) t
      obtain ⟨b1, b2⟩ := b
      exact ⟨(p.1, b2) :: rs, ⟨kV_is h.1, rfl, c⟩, .cons ⟨rfl, h.2⟩ q⟩
def tDisp (trs : List (TE × TE)) : TE := fun σ H Q => ∀ p, H p = none → tPairs trs σ (upd H p (.dK [])) fun ps H2 => H2 p = some (.dK []) ∧ ∃ kvs : List (Key × V), ps = kvs.map (fun kv => (kV kv.1, kv.2)) ∧ kvs.length ≤ 15 ∧ Q (.ref p) (upd H2 p (.dK (mergeK [] kvs)))
theorem pe_disp {X : Cx} {pos : Pos} {keys : List (Option Expr)} {values : List Expr} {trs : List (TE × TE)} (h : PPs X pos keys values trs) (hall : keys.all (·.isSome) = true) (hl : keys.length = values.length) (h0 : keys ≠ [])
    (h15 : keys.length ≤ 15) : PE X (.Dict keys values pos) (tDisp trs) := by
  intro pins s σ H Q I q
  have hn := I.hok.fresh (Nat.le_refl s.heap.objs.size)
  have I1 := I.laid (a := s.heap.objs.size) (o := .dK []) (h' := s.heap.push { cls := .type "dict", data := .dict #[] }) (t' := s.toks) (fun _ _ q => Heap.get?_push_of_some _ q) (Nat.le_refl _) (dk_empty s.heap I.big)
  refine wpAny_Dict_walk (knd := mixKind X.prog X.w) hall hl h0 h15 (thn (h pins _ σ _ _ I1 (q _ hn)) fun ws s2 ⟨ps, H2, I2, rel, e, kvs, ep, lk, q2⟩ => ?_)
  subst ep
  obtain ⟨rs, c, rk⟩ := carries_of (P := X.prog) (w := X.w) rel
  obtain ⟨z, hd, vs0, r0, dd⟩ := dk_of I2.hok e
  cases r0
  refine ⟨rs, c, dd, fun h' dd' hs => ⟨.ref s.heap.objs.size, _, ?_, rfl, q2⟩⟩
  have hz : (mergeK [] kvs).length ≤ sizeLine := by
    have h1 := length_mergeK kvs []
    rw [List.length_nil] at h1
    rw [sizeLine_eq]; lia
  have he : ∃ q, h'.get? s.heap.objs.size = some q := let ⟨q, _, _, hq, _⟩ := dd'; ⟨q, hq⟩
  exact d_write I2 (by rw [e]; exact True.intro) hs he (dk_new hz hd (rk.merge .nil) dd')
section
variable {X : Cx} {pins : List (Addr × Obj)} {σ : St} {H : Hp} {s : Shared} {a : Addr} {y d : V} {u r : Value} {o : Option V} {A : Around} {E : Value → Shared → Prop}
end
section
variable {X : Cx} {o e f : Expr} {apos cpos : Pos} {td ty tx : TE}
end
section
variable {X : Cx} {pins : List (Addr × Obj)} {σ : St} {H : Hp} {s : Shared} {a : Addr} {kvs : List (Key × V)} {A : Around} {E : Value → Shared → Prop}
end
section
variable {X : Cx} {pins : List (Addr × Obj)} {σ : St} {H : Hp} {s : Shared} {a : Addr} {y : V} {u : Value} {A : Around} {E : Value → Shared → Prop}
end
end L2
namespace L2
open PySem PySem.Spec PyProof.Rows
section
variable {X : Cx}
end
section
variable {κ : Type} [DecidableEq κ]
end
end L2
namespace L3
open PySem PySem.Spec PyProof.Rows L2
inductive D where
  | non | bl (b : Bool) | int (i : Int) | str (x : Str) | ty (n : String) | ref (a : Addr)
  | tup (xs : List D) | lst (xs : List D) | dct (kvs : List (Key × D))
inductive MO where
  | lst (xs : List D) | dct (kvs : List (Key × D)) | dt (kvs : List (List Int × D))
abbrev Mem := Addr → Option MO
def mput (M : Mem) (a : Addr) (o : MO) : Mem := fun b => if b = a then some o else M b
def mdel (M : Mem) (a : Addr) : Mem := fun b => if b = a then none else M b
theorem mput_same {M : Mem} {a : Addr} {o : MO} : mput M a o a = some o := by unfold mput; rw [if_pos rfl]
theorem mput_ne {M : Mem} {a b : Addr} {o : MO} (h : b ≠ a) : mput M a o b = M b := by unfold mput; rw [if_neg h]
theorem mput_mput {M : Mem} {a : Addr} {o u : MO} : mput (mput M a o) a u = mput M a u := by
  funext b; unfold mput; split <;> rfl
def KLst (K : PySem.W.Frag) (a : Addr) (xs : List V) : Prop :=
  ∃ (o : Obj) (its : Array Value) (n : Nat), K.lookup a = some o ∧ o.cls = .type "list" ∧ o.dict = none ∧ o.data = .seq its n ∧ its.size ≤ sizeLine ∧ Vals xs its.toList
def KTup (K : PySem.W.Frag) (a : Addr) (xs : List V) : Prop :=
  ∃ (o : Obj) (its : Array Value) (n : Nat), K.lookup a = some o ∧ o.cls = .type "tuple" ∧ o.data = .seq its n ∧ its.size ≤ sizeLine ∧ Vals xs its.toList
def Fix (M : Mem) (H : Hp) (a : Addr) (o : HO) : Prop := Rd H a o ∧ M a = none
mutual
inductive Rep (K : PySem.W.Frag) (M : Mem) (H : Hp) : D → V → Prop
  | non : Rep K M H .non .non
  | bl {b : Bool} : Rep K M H (.bl b) (.bl b)
  | int {i : Int} : Rep K M H (.int i) (.int i)
  | str {x : Str} : Rep K M H (.str x) (.str x)
  | ty {n : String} : Rep K M H (.ty n) (.ty n)
  | ref {a : Addr} : Rep K M H (.ref a) (.ref a)
  | tup {a : Addr} {ds : List D} {vs : List V} : (Fix M H a (.tup vs) ∨ KTup K a vs) → Reps K M H ds vs → Rep K M H (.tup ds) (.ref a)
  | lst {a : Addr} {ds : List D} {vs : List V} : (Fix M H a (.lst vs) ∨ KLst K a vs) → Reps K M H ds vs → Rep K M H (.lst ds) (.ref a)
  | dct {a : Addr} {ds : List (Key × D)} {vs : List (Key × V)} : Fix M H a (.dK vs) → RepK K M H ds vs → Rep K M H (.dct ds) (.ref a)
inductive Reps (K : PySem.W.Frag) (M : Mem) (H : Hp) : List D → List V → Prop
  | nil : Reps K M H [] []
  | cons {d : D} {v : V} {ds : List D} {vs : List V} : Rep K M H d v → Reps K M H ds vs → Reps K M H (d :: ds) (v :: vs)
inductive RepK (K : PySem.W.Frag) (M : Mem) (H : Hp) : List (Key × D) → List (Key × V) → Prop
  | nil : RepK K M H [] []
  | cons {k : Key} {d : D} {v : V} {ds : List (Key × D)} {vs : List (Key × V)} : Rep K M H d v → RepK K M H ds vs → RepK K M H ((k, d) :: ds) ((k, v) :: vs)
end
def entD (x : List Int × Addr × Value) : DictEntry := ⟨reduceHash (Builtin.Tuple.tupleHashOf (x.1.map hashInt)), .ref x.2.1, x.2.2⟩
def dtφ (a : Addr) (xs : List (List Int × Addr × Value)) : Heap → Prop := fun h => (a == sysModules) = false ∧ ∃ o es ep, h.get? a = some o ∧ o.ExactDict ∧ o.data = .dict es ep ∧ es.toList = xs.map entD ∧ (xs.map (·.1)).Nodup
inductive RepT (K : PySem.W.Frag) (M : Mem) (H : Hp) : List (List Int × D) → List (List Int × Addr × Value) → Prop
  | nil : RepT K M H [] []
  | cons {k : List Int} {b : Addr} {d : D} {v : V} {u : Value} {ds : List (List Int × D)} {xs : List (List Int × Addr × Value)} : Rep K M H (.tup (k.map D.int)) (.ref b) → Rep K M H d v → RelV v u → RepT K M H ds xs → RepT K M H ((k, d) :: ds) ((k, b, u) :: xs)
def RepO (K : PySem.W.Frag) (M : Mem) (H : Hp) (a : Addr) : MO → HO → Prop
  | .lst ds, .lst vs => Reps K M H ds vs
  | .dct ds, .dK vs => RepK K M H ds vs
  | .dt ds, .ext φ => ∃ xs, φ = dtφ a xs ∧ RepT K M H ds xs
  | _, _ => False
def MRel (K : PySem.W.Frag) (M : Mem) (H : Hp) : Prop := ∀ a o, M a = some o → ∃ ho, H a = some ho ∧ RepO K M H a o ho
structure Step (M : Mem) (H : Hp) (M' : Mem) (H' : Hp) : Prop where
  keep : ∀ a o, H a = some o → M a = none → H' a = some o
  dom : ∀ a, M' a ≠ none → M a ≠ none ∨ H a = none
theorem Step.refl {M : Mem} {H : Hp} : Step M H M H := ⟨fun _ _ h _ => h, fun _ h => .inl h⟩
theorem Step.gone {M M' : Mem} {H H' : Hp} (s : Step M H M' H') {a : Addr} {o : HO} (h : H a = some o) (hm : M a = none) : M' a = none := by
  cases e : M' a with
  | none => rfl
  | some u =>
    rcases s.dom a (by rw [e]; intro z; cases z) with z | z
    · exact absurd hm z
    · rw [h] at z; cases z
theorem Step.trans {M M1 M2 : Mem} {H H1 H2 : Hp} (a : Step M H M1 H1) (b : Step M1 H1 M2 H2) : Step M H M2 H2 where
  keep := fun c o h hm => b.keep c o (a.keep c o h hm) (a.gone h hm)
  dom := fun c h => by
    rcases b.dom c h with z | z
    · exact a.dom c z
    · cases e : H c with
      | none => exact .inr rfl
      | some o =>
        refine .inl fun hm => ?_
        rw [a.keep c o e hm] at z; cases z
theorem Fix.mono {M M' : Mem} {H H' : Hp} {a : Addr} {o : HO} (s : Step M H M' H') (f : Fix M H a o) : Fix M' H' a o := by
  obtain ⟨r, hm⟩ := f
  rcases r with r | ⟨ob, r⟩
  · exact ⟨.inl (s.keep _ _ r hm), s.gone r hm⟩
  · exact ⟨.inr ⟨ob, s.keep _ _ r hm⟩, s.gone r hm⟩
section
variable {K : PySem.W.Frag} {M M' : Mem} {H H' : Hp}
theorem Rep.mono {d : D} {v : V} (s : Step M H M' H') (r : Rep K M H d v) : Rep K M' H' d v :=
  Rep.rec (motive_1 := fun d v _ => Rep K M' H' d v) (motive_2 := fun ds vs _ => Reps K M' H' ds vs) (motive_3 := fun ds vs _ => RepK K M' H' ds vs)
    .non .bl .int .str .ty .ref (fun h _ ih => .tup (h.imp (Fix.mono s) id) ih) (fun h _ ih => .lst (h.imp (Fix.mono s) id) ih) (fun h _ ih => .dct (h.mono s) ih)
    .nil (fun _ _ a b => .cons a b) .nil (fun _ _ a b => .cons a b) r
theorem Reps.mono {ds : List D} {vs : List V} (s : Step M H M' H') (r : Reps K M H ds vs) : Reps K M' H' ds vs := by
  induction ds generalizing vs with
  | nil => cases r; exact .nil
  | cons d ds ih => cases r with | cons a b => exact .cons (a.mono s) (ih b)
theorem RepK.mono {ds : List (Key × D)} {vs : List (Key × V)} (s : Step M H M' H') (r : RepK K M H ds vs) : RepK K M' H' ds vs := by
  induction ds generalizing vs with
  | nil => cases r; exact .nil
  | cons d ds ih => cases r with | cons a b => exact .cons (a.mono s) (ih b)
theorem RepT.mono {ds : List (List Int × D)} {xs : List (List Int × Addr × Value)} (s : Step M H M' H') (r : RepT K M H ds xs) : RepT K M' H' ds xs := by
  induction r with
  | nil => exact .nil
  | cons a b c _ ih => exact .cons (a.mono s) (b.mono s) c ih
theorem Reps.length {ds : List D} {vs : List V} (r : Reps K M H ds vs) : ds.length = vs.length := by
  induction ds generalizing vs with
  | nil => cases r; rfl
  | cons d ds ih => cases r with | cons a b => rw [List.length_cons, List.length_cons, ih b]
theorem Reps.get {ds : List D} {vs : List V} (r : Reps K M H ds vs) {i : Nat} {d : D} (h : ds[i]? = some d) : ∃ v, vs[i]? = some v ∧ Rep K M H d v := by
  induction ds generalizing vs i with
  | nil => simp at h
  | cons d' ds ih =>
    cases r with
    | cons a b =>
      cases i with
      | zero => simp at h; subst h; exact ⟨_, rfl, a⟩
      | succ i => simpa using ih b (by simpa using h)
theorem Reps.append {ds es : List D} {vs us : List V} (r : Reps K M H ds vs) (q : Reps K M H es us) : Reps K M H (ds ++ es) (vs ++ us) := by
  induction ds generalizing vs with
  | nil => cases r; exact q
  | cons d ds ih => cases r with | cons a b => exact .cons a (ih b)
theorem Reps.take {ds : List D} {vs : List V} (r : Reps K M H ds vs) (n : Nat) : Reps K M H (ds.take n) (vs.take n) := by
  induction ds generalizing vs n with
  | nil => cases r; simp; exact .nil
  | cons d ds ih => cases r with | cons a b => cases n with
    | zero => simp; exact .nil
    | succ n => simpa using Reps.cons a (ih b n)
theorem Reps.drop {ds : List D} {vs : List V} (r : Reps K M H ds vs) (n : Nat) : Reps K M H (ds.drop n) (vs.drop n) := by
  induction ds generalizing vs n with
  | nil => cases r; simp; exact .nil
  | cons d ds ih => cases r with | cons a b => cases n with
    | zero => exact .cons a b
    | succ n => simpa using ih b n
theorem Reps.ints {ns : List Int} : Reps K M H (ns.map D.int) (ns.map V.int) := by
  induction ns with
  | nil => exact .nil
  | cons n ns ih => exact .cons .int ih
theorem MRel.free (m : MRel K M H) {a : Addr} (h : H a = none) : M a = none := by
  cases e : M a with
  | none => rfl
  | some o => obtain ⟨ho, z, _⟩ := m a o e; rw [h] at z; cases z
end
abbrev Lo := List (Option D)
structure SRel (K : PySem.W.Frag) (M : Mem) (H : Hp) (σ : Lo) (σv : L2.St) : Prop where
  len : σ.length = σv.length
  get : ∀ (i : Nat) (d : D), σ[i]? = some (some d) → ∃ v, σv[i]? = some (some v) ∧ Rep K M H d v
theorem SRel.mono {K : PySem.W.Frag} {M M' : Mem} {H H' : Hp} {σ : Lo} {σv : L2.St} (s : Step M H M' H') (r : SRel K M H σ σv) : SRel K M' H' σ σv :=
  ⟨r.len, fun i d h => let ⟨v, e, q⟩ := r.get i d h; ⟨v, e, q.mono s⟩⟩
theorem SRel.set {K : PySem.W.Frag} {M : Mem} {H : Hp} {σ : Lo} {σv : L2.St} (r : SRel K M H σ σv) {d : D} {v : V} (q : Rep K M H d v) (i : Nat) : SRel K M H (σ.set i (some d)) (σv.set i (some v)) := by
  refine ⟨by simp [r.len], fun j e h => ?_⟩
  rw [List.getElem?_set] at h
  rw [List.getElem?_set, ← r.len]
  by_cases hij : i = j
  · rw [if_pos hij] at h ⊢
    by_cases hl : j < σ.length
    · rw [hij, if_pos hl] at h
      rw [hij, if_pos hl]
      cases h
      exact ⟨v, rfl, q⟩
    · rw [hij, if_neg hl] at h; cases h
  · rw [if_neg hij] at h ⊢
    exact r.get j e h
abbrev DK := D → Mem → Prop
abbrev TE3 := Lo → Mem → DK → Prop
abbrev TT3 := Lo → Mem → (Bool → Mem → Prop) → Prop
abbrev TA3 := Lo → Mem → (List D → Mem → Prop) → Prop
structure Ends3 where
  nx : Lo → Mem → Prop
  rt : DK
  bk : Lo → Mem → Prop := fun _ _ => False
  ct : Lo → Mem → Prop := fun _ _ => False
abbrev TS3 := Ends3 → Lo → Mem → Prop
def EP3 (X : Cx) (pins : List (Addr × Obj)) (σv : L2.St) (M : Mem) (H : Hp) (Q : DK) (u : Value) (s' : Shared) : Prop :=
  ∃ d v M' H', Inv X pins σv H' s' ∧ Step M H M' H' ∧ MRel X.K M' H' ∧ RelV v u ∧ Rep X.K M' H' d v ∧ Q d M'
def TP3 (X : Cx) (pins : List (Addr × Obj)) (σv : L2.St) (M : Mem) (H : Hp) (Q : Bool → Mem → Prop) (b : Bool) (s' : Shared) : Prop :=
  ∃ M' H', Inv X pins σv H' s' ∧ Step M H M' H' ∧ MRel X.K M' H' ∧ Q b M'
def AP3 (X : Cx) (pins : List (Addr × Obj)) (σv : L2.St) (M : Mem) (H : Hp) (Q : List D → Mem → Prop) (us : List Value) (s' : Shared) : Prop :=
  ∃ ds vs M' H', Inv X pins σv H' s' ∧ Step M H M' H' ∧ MRel X.K M' H' ∧ Vals vs us ∧ Reps X.K M' H' ds vs ∧ Q ds M'
def SP3 (X : Cx) (pins : List (Addr × Obj)) (M : Mem) (H : Hp) (T : Ends3) (f : Flow) (s' : Shared) : Prop :=
  match f with
  | .next => ∃ σ' σv' M' H', Inv X pins σv' H' s' ∧ Step M H M' H' ∧ MRel X.K M' H' ∧ SRel X.K M' H' σ' σv' ∧ T.nx σ' M'
  | .brk => ∃ σ' σv' M' H', Inv X pins σv' H' s' ∧ Step M H M' H' ∧ MRel X.K M' H' ∧ SRel X.K M' H' σ' σv' ∧ T.bk σ' M'
  | .cont => ∃ σ' σv' M' H', Inv X pins σv' H' s' ∧ Step M H M' H' ∧ MRel X.K M' H' ∧ SRel X.K M' H' σ' σv' ∧ T.ct σ' M'
  | .ret u => ∃ d v σv' M' H', Inv X pins σv' H' s' ∧ Step M H M' H' ∧ MRel X.K M' H' ∧ RelV v u ∧ Rep X.K M' H' d v ∧ T.rt d M'
def PE3 (X : Cx) (e : Expr) (t : TE3) : Prop :=
  ∀ (pins : List (Addr × Obj)) (s : Shared) (σv : L2.St) (H : Hp) (σ : Lo) (M : Mem) (Q : DK), Inv X pins σv H s → SRel X.K M H σ σv → MRel X.K M H → t σ M Q →
    wpAny (model X.prog X.w) X.A (eval e X.env) (EP3 X pins σv M H Q) X.xe s
def PT3 (X : Cx) (e : Expr) (t : TT3) : Prop :=
  ∀ (pins : List (Addr × Obj)) (s : Shared) (σv : L2.St) (H : Hp) (σ : Lo) (M : Mem) (Q : Bool → Mem → Prop), Inv X pins σv H s → SRel X.K M H σ σv → MRel X.K M H → t σ M Q →
    wpAny (model X.prog X.w) X.A (isTrue e X.env (eval e X.env)) (TP3 X pins σv M H Q) X.xe s
def PA3 (X : Cx) (es : List Expr) (t : TA3) : Prop :=
  ∀ (pos : Pos) (pins : List (Addr × Obj)) (s : Shared) (σv : L2.St) (H : Hp) (σ : Lo) (M : Mem) (Q : List D → Mem → Prop), Inv X pins σv H s → SRel X.K M H σ σv → MRel X.K M H → t σ M Q →
    wpAny (model X.prog X.w) X.A (spliced (backTo pos (starEach es X.env))) (AP3 X pins σv M H Q) X.xe s
def PS3 (X : Cx) (st : Stmt) (t : TS3) : Prop :=
  ∀ (pins : List (Addr × Obj)) (s : Shared) (σv : L2.St) (H : Hp) (σ : Lo) (M : Mem) (T : Ends3), Inv X pins σv H s → SRel X.K M H σ σv → MRel X.K M H → t T σ M →
    wpAny (model X.prog X.w) X.A (exec st X.env) (SP3 X pins M H T) X.xe s
def PSs3 (X : Cx) (st : List Stmt) (t : TS3) : Prop :=
  ∀ (pins : List (Addr × Obj)) (s : Shared) (σv : L2.St) (H : Hp) (σ : Lo) (M : Mem) (T : Ends3), Inv X pins σv H s → SRel X.K M H σ σv → MRel X.K M H → t T σ M →
    wpAny (model X.prog X.w) X.A (execs st X.env) (SP3 X pins M H T) X.xe s
def dnE (K : PySem.W.Frag) (t : TE3) : TE := fun σv H Q2 => ∃ σ M Q, SRel K M H σ σv ∧ MRel K M H ∧ t σ M Q ∧ ∀ d v M' H', Step M H M' H' → MRel K M' H' → Rep K M' H' d v → Q d M' → Q2 v H'
def dnT (K : PySem.W.Frag) (t : TT3) : TT := fun σv H Q2 => ∃ σ M Q, SRel K M H σ σv ∧ MRel K M H ∧ t σ M Q ∧ ∀ b M' H', Step M H M' H' → MRel K M' H' → Q b M' → Q2 b H'
def dnA (K : PySem.W.Frag) (t : TA3) : TA := fun σv H Q2 => ∃ σ M Q, SRel K M H σ σv ∧ MRel K M H ∧ t σ M Q ∧ ∀ ds vs M' H', Step M H M' H' → MRel K M' H' → Reps K M' H' ds vs → Q ds M' → Q2 vs H'
structure EndsDn (K : PySem.W.Frag) (M : Mem) (H : Hp) (T : Ends3) (D2 : Ends) : Prop where
  nx : ∀ σ' σv' M' H', Step M H M' H' → MRel K M' H' → SRel K M' H' σ' σv' → T.nx σ' M' → D2.nx σv' H'
  bk : ∀ σ' σv' M' H', Step M H M' H' → MRel K M' H' → SRel K M' H' σ' σv' → T.bk σ' M' → D2.bk σv' H'
  ct : ∀ σ' σv' M' H', Step M H M' H' → MRel K M' H' → SRel K M' H' σ' σv' → T.ct σ' M' → D2.ct σv' H'
  rt : ∀ d v M' H', Step M H M' H' → MRel K M' H' → Rep K M' H' d v → T.rt d M' → D2.rt v H'
def dnS (K : PySem.W.Frag) (t : TS3) : TS := fun D2 σv H => ∃ σ M T, SRel K M H σ σv ∧ MRel K M H ∧ t T σ M ∧ EndsDn K M H T D2
section
variable {X : Cx} {e : Expr} {es : List Expr} {st : Stmt} {sts : List Stmt}
theorem PE3.dn {t : TE3} (h : PE3 X e t) : PE X e (dnE X.K t) := by
  rintro pins s σv H Q2 I ⟨σ, M, Q, hS, hM, ht, hq⟩
  exact thn (h pins s σv H σ M Q I hS hM ht) fun u s' ⟨d, v, M', H', I', st, m', r, rep, q⟩ => ⟨v, H', I', r, hq d v M' H' st m' rep q⟩
theorem PT3.dn {t : TT3} (h : PT3 X e t) : PT X e (dnT X.K t) := by
  rintro pins s σv H Q2 I ⟨σ, M, Q, hS, hM, ht, hq⟩
  exact thn (h pins s σv H σ M Q I hS hM ht) fun u s' ⟨M', H', I', st, m', q⟩ => ⟨H', I', hq u M' H' st m' q⟩
theorem PA3.dn {t : TA3} (h : PA3 X es t) : PA X es (dnA X.K t) := by
  rintro pos pins s σv H Q2 I ⟨σ, M, Q, hS, hM, ht, hq⟩
  exact thn (h pos pins s σv H σ M Q I hS hM ht) fun u s' ⟨d, v, M', H', I', st, m', r, rep, q⟩ => ⟨v, H', I', r, hq d v M' H' st m' rep q⟩
theorem sp_dn {pins : List (Addr × Obj)} {M : Mem} {H : Hp} {T : Ends3} {D2 : Ends} (h : EndsDn X.K M H T D2) {f : Flow} {s' : Shared} (q : SP3 X pins M H T f s') : SP X pins D2 f s' := by
  cases f with
  | next => obtain ⟨σ', σv', M', H', I, st, m, r, q⟩ := q; exact ⟨σv', H', I, h.nx _ _ _ _ st m r q⟩
  | brk => obtain ⟨σ', σv', M', H', I, st, m, r, q⟩ := q; exact ⟨σv', H', I, h.bk _ _ _ _ st m r q⟩
  | cont => obtain ⟨σ', σv', M', H', I, st, m, r, q⟩ := q; exact ⟨σv', H', I, h.ct _ _ _ _ st m r q⟩
  | ret u => obtain ⟨d, v, σv', M', H', I, st, m, rv, r, q⟩ := q; exact ⟨v, σv', H', I, rv, h.rt _ _ _ _ st m r q⟩
theorem PSs3.dn {t : TS3} (h : PSs3 X sts t) : PSs X sts (dnS X.K t) := by
  rintro pins s σv H D2 I ⟨σ, M, T, hS, hM, ht, hq⟩
  exact thn (h pins s σv H σ M T I hS hM ht) fun f s' q => sp_dn hq q
abbrev Up (K : PySem.W.Frag) (M : Mem) (H : Hp) (Q : DK) : VK := fun v H' => ∃ d M', Step M H M' H' ∧ MRel K M' H' ∧ Rep K M' H' d v ∧ Q d M'
theorem PE3.of {t : TE3} {t2 : TE} (h : PE X e t2) (hr : ∀ pins s σv H σ M Q, Inv X pins σv H s → SRel X.K M H σ σv → MRel X.K M H → t σ M Q → t2 σv H (Up X.K M H Q)) : PE3 X e t := by
  intro pins s σv H σ M Q I hS hM ht
  exact thn (h pins s σv H _ I (hr pins s σv H σ M Q I hS hM ht)) fun u s' ⟨v, H', I', r, d, M', st, m', rep, q⟩ => ⟨d, v, M', H', I', st, m', r, rep, q⟩
abbrev UpE (K : PySem.W.Frag) (M : Mem) (H : Hp) (T : Ends3) : Ends where
  nx := fun σv' H' => ∃ σ' M', Step M H M' H' ∧ MRel K M' H' ∧ SRel K M' H' σ' σv' ∧ T.nx σ' M'
  rt := fun v H' => ∃ d M', Step M H M' H' ∧ MRel K M' H' ∧ Rep K M' H' d v ∧ T.rt d M'
  bk := fun σv' H' => ∃ σ' M', Step M H M' H' ∧ MRel K M' H' ∧ SRel K M' H' σ' σv' ∧ T.bk σ' M'
  ct := fun σv' H' => ∃ σ' M', Step M H M' H' ∧ MRel K M' H' ∧ SRel K M' H' σ' σv' ∧ T.ct σ' M'
theorem PS3.of {t : TS3} {t2 : TS} (h : PS X st t2) (hr : ∀ pins s σv H σ M T, Inv X pins σv H s → SRel X.K M H σ σv → MRel X.K M H → t T σ M → t2 (UpE X.K M H T) σv H) : PS3 X st t := by
  intro pins s σv H σ M T I hS hM ht
  refine thn (h pins s σv H _ I (hr pins s σv H σ M T I hS hM ht)) fun f s' q => ?_
  cases f with
  | next => obtain ⟨σv', H', I, σ', M', st, m, r, q⟩ := q; exact ⟨σ', σv', M', H', I, st, m, r, q⟩
  | brk => obtain ⟨σv', H', I, σ', M', st, m, r, q⟩ := q; exact ⟨σ', σv', M', H', I, st, m, r, q⟩
  | cont => obtain ⟨σv', H', I, σ', M', st, m, r, q⟩ := q; exact ⟨σ', σv', M', H', I, st, m, r, q⟩
  | ret u => obtain ⟨v, σv', H', I, rv, d, M', st, m, r, q⟩ := q; exact ⟨d, v, σv', M', H', I, st, m, rv, r, q⟩
end
end L3
namespace L3
open PySem PySem.Spec PyProof.Rows L2
section
variable {K : PySem.W.Frag} {M : Mem} {H : Hp} {p : Addr} {ho : HO} {o : MO}
theorem Step.lay (hp : H p = none) : Step M H M (upd H p ho) :=
  ⟨fun a u h _ => by rw [upd_ne (ne_of_none h hp)]; exact h, fun _ h => .inl h⟩
theorem MRel.lay (m : MRel K M H) (hp : H p = none) : MRel K M (upd H p ho) := fun a u e => by
  obtain ⟨hu, e1, r⟩ := m a u e
  refine ⟨hu, by rw [upd_ne (ne_of_none e1 hp)]; exact e1, ?_⟩
  cases u <;> cases hu <;> first | exact r.elim | exact Reps.mono (Step.lay hp) r | exact RepK.mono (Step.lay hp) r | (obtain ⟨xs, e, r⟩ := r; exact ⟨xs, e, r.mono (Step.lay hp)⟩)
theorem Step.put (h : H p = none ∨ M p ≠ none) : Step M H (mput M p o) (upd H p ho) := by
  refine ⟨fun a u e hm => ?_, fun a e => ?_⟩
  · have : a ≠ p := by
      rintro rfl
      rcases h with h | h
      · rw [h] at e; cases e
      · exact h hm
    rw [upd_ne this]; exact e
  · by_cases ha : a = p
    · subst ha; exact h.elim .inr .inl
    · rw [mput_ne ha] at e; exact .inl e
theorem RepO.mono {M' : Mem} {H' : Hp} (s : Step M H M' H') (r : RepO K M H p o ho) : RepO K M' H' p o ho := by
  cases o <;> cases ho <;> first | exact r.elim | exact Reps.mono s r | exact RepK.mono s r | (obtain ⟨xs, e, r⟩ := r; exact ⟨xs, e, r.mono s⟩)
theorem MRel.put (m : MRel K M H) (h : H p = none ∨ M p ≠ none) (r : RepO K M H p o ho) : MRel K (mput M p o) (upd H p ho) := fun a u e => by
  by_cases ha : a = p
  · subst ha
    rw [mput_same] at e; cases e
    exact ⟨ho, upd_same, r.mono (Step.put h)⟩
  · rw [mput_ne ha] at e
    obtain ⟨hu, e1, r1⟩ := m a u e
    exact ⟨hu, by rw [upd_ne ha]; exact e1, r1.mono (Step.put h)⟩
end
mutual
def pyD : D → PyData
  | .non => .none | .bl b => .bool b | .int i => .int i | .str x => .str x
  | .tup xs => .tuple (pyDs xs) | .lst xs => .list (pyDs xs)
  | .dct _ => .none | .ty _ => .none | .ref _ => .none
def pyDs : List D → List PyData
  | [] => [] | d :: ds => pyD d :: pyDs ds
end
mutual
def plain : D → Bool
  | .non | .bl _ | .int _ | .str _ => true
  | .tup xs | .lst xs => plains xs
  | .dct _ | .ty _ | .ref _ => false
def plains : List D → Bool
  | [] => true | d :: ds => plain d && plains ds
end
section
variable {X : Cx} {pins : List (Addr × Obj)} {σv : L2.St} {M : Mem} {H : Hp} {s : Shared}
theorem SqT.of3 {K : PySem.W.Frag} {a : Addr} {vs : List V} (h : Fix M H a (.tup vs) ∨ KTup K a vs) : SqT K H a vs := h.imp (·.1) id
theorem SqL.of3 {K : PySem.W.Frag} {a : Addr} {vs : List V} (h : Fix M H a (.lst vs) ∨ KLst K a vs) : SqL K H a vs := h.imp (·.1) id
mutual
theorem rep_readsX (I : Inv X pins σv H s) (d : D) {v : V} {u : Value} (hp : plain d = true) (p : Rep X.K M H d v) (r : RelV v u) : ∃ as, Reads s.heap u (pyD d) as := by
  cases d with
  | non => cases p; cases r; exact ⟨[], .none⟩
  | bl b => cases p; cases r; exact ⟨[], .bool b⟩
  | int i => cases p; obtain ⟨t, rfl⟩ := r; exact ⟨[], .int i t⟩
  | str x => cases p; obtain ⟨t, rfl⟩ := r; exact ⟨[], .str x t⟩
  | tup xs =>
    cases p with
    | tup h q =>
    cases r
    obtain ⟨its, rv, ⟨o, e1, e2, n, e3⟩, _⟩ := I.tuple (SqT.of3 h)
    obtain ⟨as, ra⟩ := rep_readsAll I xs (by simpa [plain] using hp) q rv
    exact ⟨as, by rw [pyD]; exact .tuple e1 e2 e3 (by simpa using ra)⟩
  | lst xs =>
    cases p with
    | @lst a _ _ h q =>
    cases r
    obtain ⟨its, rv, ⟨o, n, e1, e2, _, e3⟩, _⟩ := I.list (SqL.of3 h)
    obtain ⟨as, ra⟩ := rep_readsAll I xs (by simpa [plain] using hp) q rv
    exact ⟨a :: as, by rw [pyD]; exact .list e1 e2 e3 (by simpa using ra)⟩
  | dct _ => cases hp
  | ty _ => cases hp
  | ref _ => cases hp
theorem rep_readsAll (I : Inv X pins σv H s) (ds : List D) {vs : List V} {us : List Value} (hp : plains ds = true) (p : Reps X.K M H ds vs) (r : Vals vs us) : ∃ as, ReadsAll s.heap us (pyDs ds) as := by
  cases ds with
  | nil => cases p; cases r; exact ⟨[], .nil⟩
  | cons d ds =>
    cases p with
    | cons q qs =>
    cases r with
    | cons r rs =>
      have hp' : plain d = true ∧ plains ds = true := by simpa [plains] using hp
      obtain ⟨as, h1⟩ := rep_readsX I d hp'.1 q r
      obtain ⟨bs, h2⟩ := rep_readsAll I ds hp'.2 qs rs
      exact ⟨as ++ bs, by rw [pyDs]; exact .cons h1 h2⟩
end
end
theorem rep_reads {X : Cx} {pins : List (Addr × Obj)} {σv : L2.St} {M : Mem} {H : Hp} {s : Shared} (I : Inv X pins σv H s) {d : D} {v : V} {u : Value} (hp : plain d = true) (p : Rep X.K M H d v) (r : RelV v u) : ∃ as, Reads s.heap u (pyD d) as := rep_readsX I d hp p r
abbrev R3 := D → D → Mem → DK → Prop
abbrev U3 := D → Mem → DK → Prop
abbrev C3 := List D → Mem → DK → Prop
def OpR3 (X : Cx) (f : Value → Value → Sem Value) (r : R3) : Prop :=
  ∀ (pins : List (Addr × Obj)) (s : Shared) (σv : L2.St) (H : Hp) (M : Mem) (x y : D) (xv yv : V) (v u : Value) (Q : DK), Inv X pins σv H s → MRel X.K M H → RelV xv v → RelV yv u → Rep X.K M H x xv → Rep X.K M H y yv → r x y M Q →
    wpAny (model X.prog X.w) X.A (f v u) (EP3 X pins σv M H Q) X.xe s
def UnR3 (X : Cx) (f : Value → Sem Value) (r : U3) : Prop :=
  ∀ (pins : List (Addr × Obj)) (s : Shared) (σv : L2.St) (H : Hp) (M : Mem) (x : D) (xv : V) (v : Value) (Q : DK), Inv X pins σv H s → MRel X.K M H → RelV xv v → Rep X.K M H x xv → r x M Q →
    wpAny (model X.prog X.w) X.A (f v) (EP3 X pins σv M H Q) X.xe s
def CallR3 (X : Cx) (f : Value) (r : C3) : Prop :=
  ∀ (pins : List (Addr × Obj)) (s : Shared) (σv : L2.St) (H : Hp) (M : Mem) (xs : List D) (xvs : List V) (us : List Value) (Q : DK), Inv X pins σv H s → MRel X.K M H → Vals xvs us → Reps X.K M H xs xvs → r xs M Q →
    wpAny (model X.prog X.w) X.A (call f us) (EP3 X pins σv M H Q) X.xe s
section
variable {X : Cx}
theorem ep_up {pins : List (Addr × Obj)} {σv : L2.St} {M : Mem} {H : Hp} {Q : DK} {u : Value} {s' : Shared} (h : EP X pins σv (Up X.K M H Q) u s') : EP3 X pins σv M H Q u s' := by
  obtain ⟨v, H', I', r, d, M', st, m', rep, q⟩ := h
  exact ⟨d, v, M', H', I', st, m', r, rep, q⟩
theorem OpR3.of {f : Value → Value → Sem Value} {r : R2} {r3 : R3} (h : OpR X f r)
    (hr : ∀ (H : Hp) (M : Mem) (x y : D) (xv yv : V) (Q : DK), MRel X.K M H → Rep X.K M H x xv → Rep X.K M H y yv → r3 x y M Q → r xv yv H (Up X.K M H Q)) : OpR3 X f r3 :=
  fun pins s σv H M x y xv yv v u Q I m rx ry px py q => thn (h pins s σv H xv yv v u _ I rx ry (hr H M x y xv yv Q m px py q)) fun _ _ z => ep_up z
theorem UnR3.of {f : Value → Sem Value} {r : V → Hp → VK → Prop} {r3 : U3} (h : UnR X f r)
    (hr : ∀ (H : Hp) (M : Mem) (x : D) (xv : V) (Q : DK), MRel X.K M H → Rep X.K M H x xv → r3 x M Q → r xv H (Up X.K M H Q)) : UnR3 X f r3 :=
  fun pins s σv H M x xv v Q I m rx px q => thn (h pins s σv H xv v _ I rx (hr H M x xv Q m px q)) fun _ _ z => ep_up z
theorem CallR3.of {f : Value} {r : List V → Hp → VK → Prop} {r3 : C3} (h : CallR X f r)
    (hr : ∀ (H : Hp) (M : Mem) (xs : List D) (xvs : List V) (Q : DK), MRel X.K M H → Reps X.K M H xs xvs → r3 xs M Q → r xvs H (Up X.K M H Q)) : CallR3 X f r3 :=
  fun pins s σv H M xs xvs us Q I m rv px q => thn (h pins s σv H xvs us _ I rv (hr H M xs xvs Q m px q)) fun _ _ z => ep_up z
theorem up0 {K : PySem.W.Frag} {M : Mem} {H : Hp} {Q : DK} {d : D} {v : V} (m : MRel K M H) (r : Rep K M H d v) (q : Q d M) : Up K M H Q v H := ⟨d, M, .refl, m, r, q⟩
def tOp3 (r : R3) (ta tb : TE3) : TE3 := fun σ M Q => ta σ M fun x M1 => tb σ M1 fun y M2 => r x y M2 Q
def tUn3 (r : U3) (ta : TE3) : TE3 := fun σ M Q => ta σ M fun x M1 => r x M1 Q
variable {a b c e : Expr} {es : List Expr} {ta tb tc te : TE3} {t : TA3} {pos : Pos}
theorem EP3.trans {pins : List (Addr × Obj)} {σv : L2.St} {M M1 : Mem} {H H1 : Hp} {Q : DK} {u : Value} {s' : Shared} (st : Step M H M1 H1) (h : EP3 X pins σv M1 H1 Q u s') : EP3 X pins σv M H Q u s' := by
  obtain ⟨d, v, M', H', I', st', m', r, rep, q⟩ := h
  exact ⟨d, v, M', H', I', st.trans st', m', r, rep, q⟩
theorem bin3 (ha : PE3 X a ta) (hb : PE3 X b tb) {f : Value → Value → Sem Value} {r : R3} (ho : OpR3 X f r) {pins : List (Addr × Obj)} {s : Shared} {σv : L2.St} {H : Hp} {σ : Lo} {M : Mem} {Q : DK}
    (I : Inv X pins σv H s) (hS : SRel X.K M H σ σv) (hM : MRel X.K M H) (h : tOp3 r ta tb σ M Q) :
    wpAny (model X.prog X.w) X.A (eval a X.env) (fun v s₁ => wpAny (model X.prog X.w) X.A (eval b X.env) (fun u s₂ => wpAny (model X.prog X.w) X.A (f v u) (EP3 X pins σv M H Q) X.xe s₂) X.xe s₁) X.xe s := by
  refine thn (ha pins s σv H σ M _ I hS hM h) fun v s1 hx0 => ?_
  obtain ⟨x, xv, M1, H1, I1, st1, m1, rv1, p1, q1⟩ := hx0
  refine thn (hb pins s1 σv H1 σ M1 _ I1 (hS.mono st1) m1 q1) fun u s2 hx0 => ?_
  obtain ⟨y, yv, M2, H2, I2, st2, m2, rv2, p2, q2⟩ := hx0
  exact thn (ho pins s2 σv H2 M2 x y xv yv v u Q I2 m2 rv1 rv2 (p1.mono st2) p2 q2) fun _ _ z => z.trans (st1.trans st2)
theorem pe3_op {op : Operator} {r : R3} (ho : OpR3 X (binaryOp op) r) (ha : PE3 X a ta) (hb : PE3 X b tb) : PE3 X (.BinOp a op b pos) (tOp3 r ta tb) :=
  fun pins s σv H σ M Q I hS hM h => wpAny_BinOp (bin3 ha hb ho I hS hM h)
theorem pe3_un {op : UnaryOp} {r : U3} (ho : UnR3 X (unaryOp op) r) (ha : PE3 X a ta) : PE3 X (.UnaryOp op a pos) (tUn3 r ta) :=
  fun pins s σv H σ M Q I hS hM h => UnaryOp_ (thn (ha pins s σv H σ M _ I hS hM h) fun v s1 ⟨x, xv, M1, H1, I1, st1, m1, rv1, p1, q1⟩ =>
    thn (ho pins s1 σv H1 M1 x xv v Q I1 m1 rv1 p1 q1) fun _ _ z => z.trans st1)
theorem pe3_cmp {op : CmpOp} {r : R3} (ho : OpR3 X (compareOp op) r) (ha : PE3 X a ta) (hb : PE3 X b tb) (hm : behindInMarks op b = false) : PE3 X (.Compare a [op] [b] pos) (tOp3 r ta tb) :=
  fun pins s σv H σ M Q I hS hM h => wpAny_Compare1 (bin3 ha hb ho I hS hM h) hm
def tTest3 (t : TE3) : TT3 := fun σ M Q => t σ M fun x M' => ∃ k, x = .bl k ∧ Q k M'
theorem pt3_cmp {op : CmpOp} {r : R3} (ho : OpR3 X (compareOp op) r) (ha : PE3 X a ta) (hb : PE3 X b tb) (hm : behindInMarks op b = false) : PT3 X (.Compare a [op] [b] pos) (tTest3 (tOp3 r ta tb)) := by
  intro pins s σv H σ M Q I hS hM h
  refine wpAny_isTrue_Compare1 (thn (bin3 (Q := fun x M' => ∃ k, x = .bl k ∧ Q k M') ha hb ho I hS hM h) fun v s1 h1 => thn h1 fun u s2 h2 => thn h2 fun d s3 ⟨x, xv, M1, H1, I1, st1, m1, rv1, p1, k, e, q1⟩ => ?_) hm
  subst e
  cases p1
  cases rv1
  exact wpAny_truthy_bool ⟨M1, H1, I1, st1, m1, q1⟩
theorem pt3_val (h : PE3 X e te) (he : ∀ whole, isTrue e X.env whole = (do let v ← whole; standAt e.pos; holding [v] (truthy v)) := by intro _; rfl) : PT3 X e (tTest3 te) := by
  intro pins s σv H σ M Q I hS hM hw
  refine isTrue_plain (thn (h pins s σv H σ M _ I hS hM hw) fun v s1 ⟨x, xv, M1, H1, I1, st1, m1, rv1, p1, k, e, q1⟩ => ?_) (he _)
  subst e
  cases p1
  cases rv1
  exact wpAny_truthy_bool ⟨M1, H1, I1, st1, m1, q1⟩
def PW3 (X : Cx) (e : Expr) (t : TT3) : Prop :=
  ∀ (whole : Sem Value) (pins : List (Addr × Obj)) (s : Shared) (σv : L2.St) (H : Hp) (σ : Lo) (M : Mem) (Q : Bool → Mem → Prop), Inv X pins σv H s → SRel X.K M H σ σv → MRel X.K M H → t σ M Q →
    wpAny (model X.prog X.w) X.A (isTrue e X.env whole) (TP3 X pins σv M H Q) X.xe s
theorem PW3.pt {t : TT3} (h : PW3 X e t) : PT3 X e t := h _
variable {tA tB' : TT3} {rest : List Expr}
def tAnd3 (t u : TT3) : TT3 := fun σ M Q => t σ M fun c M1 => if c = true then u σ M1 Q else Q false M1
def tOr3 (t u : TT3) : TT3 := fun σ M Q => t σ M fun c M1 => if c = true then Q true M1 else u σ M1 Q
theorem TP3.trans {pins : List (Addr × Obj)} {σv : L2.St} {M M1 : Mem} {H H1 : Hp} {Q : Bool → Mem → Prop} {u : Bool} {s' : Shared} (st : Step M H M1 H1) (h : TP3 X pins σv M1 H1 Q u s') : TP3 X pins σv M H Q u s' := by
  obtain ⟨M', H', I', st', m', q⟩ := h
  exact ⟨M', H', I', st.trans st', m', q⟩
theorem pw3_and1 (ha : PT3 X a tA) : PW3 X (.BoolOp .And [a] pos) tA := by
  intro wh pins s σv H σ M Q I hS hM h
  refine isTrue_and (thn (ha pins s σv H σ M Q I hS hM h) fun c s1 e => ?_)
  cases c with
  | true => exact isTrue_and_nil e
  | false => exact e
theorem pw3_or1 (ha : PT3 X a tA) : PW3 X (.BoolOp .Or [a] pos) tA := by
  intro wh pins s σv H σ M Q I hS hM h
  refine isTrue_or (thn (ha pins s σv H σ M Q I hS hM h) fun c s1 e => ?_)
  cases c with
  | false => exact isTrue_or_nil e
  | true => exact e
theorem pw3_and (ha : PT3 X a tA) (hb : PW3 X (.BoolOp .And (b :: rest) pos) tB') : PW3 X (.BoolOp .And (a :: b :: rest) pos) (tAnd3 tA tB') := by
  intro wh pins s σv H σ M Q I hS hM h
  refine isTrue_and (thn (ha pins s σv H σ M _ I hS hM h) fun c s1 ⟨M1, H1, I1, st1, m1, q1⟩ => ?_)
  cases c with
  | true => exact thn (hb wh pins s1 σv H1 σ M1 Q I1 (hS.mono st1) m1 q1) fun _ _ z => z.trans st1
  | false => exact ⟨M1, H1, I1, st1, m1, q1⟩
theorem pw3_or (ha : PT3 X a tA) (hb : PW3 X (.BoolOp .Or (b :: rest) pos) tB') : PW3 X (.BoolOp .Or (a :: b :: rest) pos) (tOr3 tA tB') := by
  intro wh pins s σv H σ M Q I hS hM h
  refine isTrue_or (thn (ha pins s σv H σ M _ I hS hM h) fun c s1 ⟨M1, H1, I1, st1, m1, q1⟩ => ?_)
  cases c with
  | false => exact thn (hb wh pins s1 σv H1 σ M1 Q I1 (hS.mono st1) m1 q1) fun _ _ z => z.trans st1
  | true => exact ⟨M1, H1, I1, st1, m1, q1⟩
def tAndV3 (ta tb : TE3) : TE3 := fun σ M Q => ta σ M fun x M1 => ∃ c, x = .bl c ∧ if c = true then tb σ M1 Q else Q (.bl false) M1
def tOrV3 (ta tb : TE3) : TE3 := fun σ M Q => ta σ M fun x M1 => ∃ c, x = .bl c ∧ if c = true then Q (.bl true) M1 else tb σ M1 Q
def tNotV3 (ta : TE3) : TE3 := fun σ M Q => ta σ M fun x M1 => ∃ c, x = .bl c ∧ Q (.bl (!c)) M1
theorem pe3_one {op} (h : PE3 X a ta) : PE3 X (.BoolOp op [a] pos) ta := fun pins s σv H σ M Q I hS hM hw => BoolOp_one (h pins s σv H σ M Q I hS hM hw)
theorem pe3_and (ha : PE3 X a ta) (hb : PE3 X (.BoolOp .And (b :: rest) pos) tb) : PE3 X (.BoolOp .And (a :: b :: rest) pos) (tAndV3 ta tb) := by
  intro pins s σv H σ M Q I hS hM h
  refine BoolOp_and (thn (ha pins s σv H σ M _ I hS hM h) fun v s1 ⟨x, xv, M1, H1, I1, st1, m1, rv1, p1, c, e, q1⟩ => ?_)
  subst e
  cases p1
  cases rv1
  refine wpAny_truthy_bool ?_
  cases c with
  | true => exact thn (hb pins s1 σv H1 σ M1 Q I1 (hS.mono st1) m1 q1) fun _ _ z => z.trans st1
  | false => exact ⟨.bl false, .bl false, M1, H1, I1, st1, m1, rfl, .bl, q1⟩
theorem pe3_or (ha : PE3 X a ta) (hb : PE3 X (.BoolOp .Or (b :: rest) pos) tb) : PE3 X (.BoolOp .Or (a :: b :: rest) pos) (tOrV3 ta tb) := by
  intro pins s σv H σ M Q I hS hM h
  refine BoolOp_or (thn (ha pins s σv H σ M _ I hS hM h) fun v s1 ⟨x, xv, M1, H1, I1, st1, m1, rv1, p1, c, e, q1⟩ => ?_)
  subst e
  cases p1
  cases rv1
  refine wpAny_truthy_bool ?_
  cases c with
  | false => exact thn (hb pins s1 σv H1 σ M1 Q I1 (hS.mono st1) m1 q1) fun _ _ z => z.trans st1
  | true => exact ⟨.bl true, .bl true, M1, H1, I1, st1, m1, rfl, .bl, q1⟩
theorem pe3_not (ha : PE3 X a ta) : PE3 X (.UnaryOp .Not a pos) (tNotV3 ta) := by
  intro pins s σv H σ M Q I hS hM h
  refine UnaryOp_ (thn (ha pins s σv H σ M _ I hS hM h) fun v s1 ⟨x, xv, M1, H1, I1, st1, m1, rv1, p1, c, e, q1⟩ => ?_)
  subst e
  cases p1
  cases rv1
  exact not_of (wpAny_truthy_bool ⟨.bl (!c), .bl (!c), M1, H1, I1, st1, m1, rfl, .bl, q1⟩)
def tVar3 (i : Nat) : TE3 := fun σ M Q => match σ[i]? with
  | some (some d) => Q d M
  | _ => False
def tC3 (d : D) : TE3 := fun _ M Q => Q d M
theorem pe3_var {i : Nat} (h : PE X e (tVar i)) : PE3 X e (tVar3 i) := PE3.of h fun pins s σv H σ M Q I hS hM q => by
  unfold tVar3 at q
  cases e : σ[i]? with
  | none => rw [e] at q; exact q.elim
  | some od =>
    rw [e] at q
    cases od with
    | none => exact q.elim
    | some d =>
      obtain ⟨v, hv, r⟩ := hS.get i d e
      exact ⟨v, hv, up0 hM r q⟩
theorem pv3 (i : Nat) {x : Str} {pos : Pos} (hN : X.N[i]? = some x := by rfl) (hv : Vis X.env.scope x := by first | exact Or.inl rfl | exact Or.inr (Or.inl rfl) | exact Or.inr (Or.inr rfl)) (hd : (x == ("__debug__" : Str)) = false := by decide)
    (hcd : (x == ("__classdict__" : Str)) = false := by decide) : PE3 X (.Name x pos) (tVar3 i) := pe3_var (pe_var hN hv hd hcd)
theorem pe3_c {v : V} {d : D} (h : PE X e (tC v)) (hr : ∀ K M H, Rep K M H d v) : PE3 X e (tC3 d) := PE3.of h fun pins s σv H σ M Q I hS hM q => up0 hM (hr _ _ _) q
theorem pe3_int {i j pos} : PE3 X (.Constant (.int i) j pos) (tC3 (.int i)) := pe3_c pe_int fun _ _ _ => .int
theorem pe3_bl {b j pos} : PE3 X (.Constant (.bool b) j pos) (tC3 (.bl b)) := pe3_c pe_bl fun _ _ _ => .bl
theorem pe3_non {j pos} : PE3 X (.Constant .none j pos) (tC3 .non) := pe3_c pe_non fun _ _ _ => .non
theorem pe3_str {x j pos} : PE3 X (.Constant (.str x) j pos) (tC3 (.str x)) := pe3_c pe_str fun _ _ _ => .str
def tNil3 : TA3 := fun _ M Q => Q [] M
def tCons3 (ta : TE3) (tr : TA3) : TA3 := fun σ M Q => ta σ M fun x M1 => tr σ M1 fun xs M2 => Q (x :: xs) M2
theorem pa3_nil : PA3 X [] tNil3 := fun pos pins s σv H σ M Q I hS hM h => Calls.spliced_nil ⟨[], [], M, H, I, .refl, hM, .nil, .nil, h⟩
theorem pa3_cons (ha : PE3 X e te) (hr : PA3 X es t) (hs : starEach (e :: es) X.env = (false, eval e X.env) :: starEach es X.env := by rfl) : PA3 X (e :: es) (tCons3 te t) := by
  intro pos pins s σv H σ M Q I hS hM h
  rw [hs]
  show wpAny _ _ (spliced ((false, eval e X.env) :: backTo pos (starEach es X.env))) _ _ s
  refine Calls.spliced_cons (thn (ha pins s σv H σ M _ I hS hM h) fun u s1 ⟨x, xv, M1, H1, I1, st1, m1, rv1, p1, q1⟩ => ?_)
  exact thn (hr pos pins s1 σv H1 σ M1 _ I1 (hS.mono st1) m1 q1) fun us s2 ⟨xs, xvs, M2, H2, I2, st2, m2, rv2, p2, q2⟩ => ⟨x :: xs, xv :: xvs, M2, H2, I2, st1.trans st2, m2, .cons rv1 rv2, .cons (p1.mono st2) p2, q2⟩
def tTup3 (t : TA3) : TE3 := fun σ M Q => t σ M fun xs M1 => xs.length ≤ sizeLine ∧ Q (.tup xs) M1
def tLst3 (t : TA3) : TE3 := fun σ M Q => t σ M fun xs M1 => xs.length ≤ sizeLine ∧ Q (.lst xs) M1
def tLstM3 (t : TA3) : TE3 := fun σ M Q => t σ M fun xs M1 => xs.length ≤ sizeLine ∧ ∀ p, M1 p = none → Q (.ref p) (mput M1 p (.lst xs))
theorem pe3_tup {x1} (h : PA3 X es t) : PE3 X (.Tuple es x1 pos) (tTup3 t) := PE3.of (pe_tup h.dn) fun pins s σv H σ M Q I hS hM h => by
  refine ⟨σ, M, _, hS, hM, h, fun ds vs M' H' st m r ⟨hl, q⟩ => ⟨by rw [← r.length]; exact hl, fun p hp => ?_⟩⟩
  exact ⟨.tup ds, M', st.trans (Step.lay hp), m.lay hp, .tup (.inl ⟨.inl upd_same, m.free hp⟩) (r.mono (Step.lay hp)), q⟩
theorem pe3_lst (h : PA3 X es t) : PE3 X (.List es pos) (tLst3 t) := PE3.of (pe_lst h.dn) fun pins s σv H σ M Q I hS hM h => by
  refine ⟨σ, M, _, hS, hM, h, fun ds vs M' H' st m r ⟨hl, q⟩ => ⟨by rw [← r.length]; exact hl, fun p hp => ?_⟩⟩
  exact ⟨.lst ds, M', st.trans (Step.lay hp), m.lay hp, .lst (.inl ⟨.inl upd_same, m.free hp⟩) (r.mono (Step.lay hp)), q⟩
theorem pe3_lstM (h : PA3 X es t) : PE3 X (.List es pos) (tLstM3 t) := PE3.of (pe_lst h.dn) fun pins s σv H σ M Q I hS hM h => by
  refine ⟨σ, M, _, hS, hM, h, fun ds vs M' H' st m r ⟨hl, q⟩ => ⟨by rw [← r.length]; exact hl, fun p hp => ?_⟩⟩
  exact ⟨.ref p, mput M' p (.lst ds), st.trans (Step.put (.inl hp)), m.put (.inl hp) r, .ref, q p (m.free hp)⟩
end
end L3
namespace L3
open PySem PySem.Spec PyProof.Rows L2
section
variable {X : Cx}
def rI3 (C : Int → Int → Prop) (g : Int → Int → D) : R3 := fun x y M Q => match x, y with
  | .int i, .int j => C i j ∧ Q (g i j) M
  | _, _ => False
def rI30 (g : Int → Int → D) : R3 := fun x y M Q => match x, y with
  | .int i, .int j => Q (g i j) M
  | _, _ => False
theorem op3_I {f : Value → Value → Sem Value} {C : Int → Int → Prop} {g : Int → Int → Int} (h : OpR X f (rI C fun i j => .int (g i j))) : OpR3 X f (rI3 C fun i j => .int (g i j)) :=
  OpR3.of h fun H M x y xv yv Q m px py q => by
    cases x <;> cases y <;> first | exact q.elim | skip
    cases px; cases py
    exact ⟨_, _, rfl, rfl, q.1, up0 m .int q.2⟩
theorem op3_I0 {f : Value → Value → Sem Value} {g : Int → Int → Int} (h : OpR X f (rI0 fun i j => .int (g i j))) : OpR3 X f (rI30 fun i j => .int (g i j)) :=
  OpR3.of h fun H M x y xv yv Q m px py q => by
    cases x <;> cases y <;> first | exact q.elim | skip
    cases px; cases py
    exact ⟨_, _, rfl, rfl, up0 m .int q⟩
theorem op3_B0 {f : Value → Value → Sem Value} {g : Int → Int → Bool} (h : OpR X f (rI0 fun i j => .bl (g i j))) : OpR3 X f (rI30 fun i j => .bl (g i j)) :=
  OpR3.of h fun H M x y xv yv Q m px py q => by
    cases x <;> cases y <;> first | exact q.elim | skip
    cases px; cases py
    exact ⟨_, _, rfl, rfl, up0 m .bl q⟩
def CMulB (i j : Int) : Prop := CMul i j ∨ (i.natAbs < 2 ^ 4096 ∧ j.natAbs < 2 ^ 4096)
theorem bits_le {i : Int} (h : i.natAbs < 2 ^ 4096) : Builtin.Int.intBits i ≤ 4096 := by
  unfold Builtin.Int.intBits
  split
  · lia
  · rename_i hi
    have h0 : i.natAbs ≠ 0 := by intro z; apply hi; have : i = 0 := by lia
                                 subst this; rfl
    have := (Nat.log2_lt h0).mpr h
    lia
theorem mul_ok {i j : Int} (h : CMulB i j) : IntMulOk i j := by
  rcases h with h | ⟨h1, h2⟩
  · exact h.ok
  · have b1 := bits_le h1
    have b2 := bits_le h2
    unfold IntMulOk Builtin.Int.intTooBig
    have : decide (((Builtin.Int.intBits i + Builtin.Int.intBits j : Nat) : Int) > ((bitsLine : Nat) : Int)) = false := by
      refine decide_eq_false ?_
      have : bitsLine = 134217728 := rfl
      lia
    intro z
    simp only [Bool.and_eq_true] at z
    have z2 := z.2
    simp only [Int.natCast_add] at this
    rw [this] at z2; cases z2
theorem op_mulB : OpR X (binaryOp .Mult) (rI CMulB fun i j => .int (i * j)) := opI fun _ _ _ _ _ _ _ hc q => mul_int q (mul_ok hc)
def CDivB (i j : Int) : Prop := 0 < j ∧ j.natAbs < 2 ^ 4096
theorem op_fdivB : OpR X (binaryOp .FloorDiv) (rI CDivB fun i j => .int (i / j)) := opI fun i j _ _ _ _ _ hc q => by
  have h1 : (0 : Int) < j := hc.1
  refine floordiv_int (by lia) (by rw [Int.fdiv_eq_ediv_of_nonneg i (by lia)]; exact q) (.inl (PyProof.noPylong_of_log2 ?_))
  have h0 : j.natAbs ≠ 0 := by lia
  have := (Nat.log2_lt h0).mpr hc.2
  lia
theorem o3_sub : OpR3 X (binaryOp .Sub) (rI30 fun i j => .int (i - j)) := op3_I0 op_sub
theorem o3_mul : OpR3 X (binaryOp .Mult) (rI3 CMulB fun i j => .int (i * j)) := op3_I op_mulB
theorem o3_fdiv : OpR3 X (binaryOp .FloorDiv) (rI3 CDivB fun i j => .int (i / j)) := op3_I op_fdivB
theorem o3_mod : OpR3 X (binaryOp .Mod) (rI3 (fun _ j => 0 < j) fun i j => .int (i % j)) := op3_I op_mod
theorem o3_pow : OpR3 X (binaryOp .Pow) (rI3 CPow fun i j => .int (i ^ j.toNat)) := op3_I op_pow
theorem o3_lt : OpR3 X (compareOp .Lt) (rI30 fun i j => .bl (decide (i < j))) := op3_B0 op_lt
theorem o3_le : OpR3 X (compareOp .LtE) (rI30 fun i j => .bl (decide (i ≤ j))) := op3_B0 op_le
theorem o3_gt : OpR3 X (compareOp .Gt) (rI30 fun i j => .bl (decide (j < i))) := op3_B0 op_gt
theorem o3_ge : OpR3 X (compareOp .GtE) (rI30 fun i j => .bl (decide (j ≤ i))) := op3_B0 op_ge
def rU3 (g : Int → Int) : U3 := fun x M Q => match x with
  | .int i => Q (.int (g i)) M
  | _ => False
theorem u3_neg : UnR3 X (unaryOp .USub) (rU3 fun i => -i) := UnR3.of un_neg fun H M x xv Q m px q => by
  cases x <;> first | exact q.elim | skip
  cases px
  exact ⟨_, rfl, up0 m .int q⟩
def rAdd3 : R3 := fun x y M Q => match x, y with
  | .int i, .int j => Q (.int (i + j)) M
  | .str a, .str b => a.length + b.length ≤ sizeLine ∧ Q (.str (a ++ b)) M
  | .lst a, .lst b => a.length + b.length ≤ sizeLine ∧ Q (.lst (a ++ b)) M
  | .tup a, .tup b => a.length + b.length ≤ sizeLine ∧ Q (.tup (a ++ b)) M
  | _, _ => False
theorem o3_add : OpR3 X (binaryOp .Add) rAdd3 := by
  intro pins s σv H M x y xv yv v u Q I m rx ry px py q
  cases x <;> cases y <;> first | exact q.elim | skip
  · cases px; cases py
    exact thn (op_add pins s σv H _ _ v u _ I rx ry ⟨_, _, rfl, rfl, up0 m .int q⟩) fun _ _ z => ep_up z
  · cases px; cases py
    exact thn (op_add_str pins s σv H _ _ v u _ I rx ry ⟨_, _, rfl, rfl, q.1, up0 m .str q.2⟩) fun _ _ z => ep_up z
  · cases px with | tup h1 r1 => cases py with | tup h2 r2 =>
    cases rx; cases ry
    obtain ⟨its, e1, p1, z1⟩ := I.tuple (SqT.of3 h1)
    obtain ⟨its2, e2, p2, z2⟩ := I.tuple (SqT.of3 h2)
    obtain ⟨⟨cls, dd, data, sl⟩, ho, hc, n, hd⟩ := id p1
    obtain ⟨⟨cls2, dd2, data2, sl2⟩, ho2, hc2, n2, hd2⟩ := id p2
    simp only at hc hd hc2 hd2
    subst hc hd hc2 hd2
    have l1 := r1.length
    have l2 := r2.length
    have l3 := e1.length
    have l4 := e2.length
    obtain ⟨hz, q⟩ := q
    by_cases hA : its.toArray.isEmpty = true
    · refine concat_meets ⟨_, ho, rfl⟩ ⟨_, ho2, rfl⟩ noFill_tuple_add seq_tuple_add PySem.F.slot_tuple_add PySem.F.entry_tuple_add (PySem.F.args_tuple_add_2 _ _) (tuple_addW0 _ _ _ _ n n2 dd dd2 sl sl2 hA) ⟨ho, ho2, ?_⟩
      have h0 : its = [] := by simpa using hA
      subst h0
      cases e1
      cases r1
      exact ⟨_, .ref _, M, H, I, .refl, m, rfl, .tup h2 r2, q⟩
    · by_cases hB : its2.toArray.isEmpty = true
      · refine concat_meets ⟨_, ho, rfl⟩ ⟨_, ho2, rfl⟩ noFill_tuple_add seq_tuple_add PySem.F.slot_tuple_add PySem.F.entry_tuple_add (PySem.F.args_tuple_add_2 _ _) (tuple_addW1 _ _ _ _ n n2 dd dd2 sl sl2 hA hB) ⟨ho, ho2, ?_⟩
        have h0 : its2 = [] := by simpa using hB
        subst h0
        cases e2
        cases r2
        rw [List.append_nil] at q
        exact ⟨_, .ref _, M, H, I, .refl, m, rfl, .tup h1 r1, q⟩
      · refine concat_meets ⟨_, ho, rfl⟩ ⟨_, ho2, rfl⟩ noFill_tuple_add seq_tuple_add PySem.F.slot_tuple_add PySem.F.entry_tuple_add (PySem.F.args_tuple_add_2 _ _) (tuple_addW2 _ _ _ _ n n2 dd dd2 sl sl2 hA hB (by simp; lia)) ⟨ho, ho2, ?_⟩
        have ea : its.toArray ++ its2.toArray = (its ++ its2).toArray := by simp
        rw [ea]
        have hf := I.fresh
        have rr := r1.append r2
        refine ⟨_, .ref s.heap.objs.size, M, _, I.laid (t' := s.toks) (o := .tup _) (fun b ob q => Heap.get?_push_of_some _ q) (Nat.le_refl _) ⟨by rw [List.length_append]; lia, _, e1.append e2, IsTup.new _ _⟩, Step.lay hf, m.lay hf, rfl, .tup (.inl ⟨.inl upd_same, m.free hf⟩) (rr.mono (Step.lay hf)), q⟩
  · cases px with | lst h1 r1 => cases py with | lst h2 r2 =>
    cases rx; cases ry
    obtain ⟨its, e1, p1, z1⟩ := I.list (SqL.of3 h1)
    obtain ⟨its2, e2, p2, z2⟩ := I.list (SqL.of3 h2)
    obtain ⟨⟨cls, dd, data, sl⟩, ho, hc, n, hd⟩ := p1.isList
    obtain ⟨⟨cls2, dd2, data2, sl2⟩, ho2, hc2, n2, hd2⟩ := p2.isList
    simp only at hc hd hc2 hd2
    subst hc hd hc2 hd2
    have l1 := r1.length
    have l2 := r2.length
    have l3 := e1.length
    have l4 := e2.length
    obtain ⟨hz, q⟩ := q
    refine concat_meets ⟨_, ho, rfl⟩ ⟨_, ho2, rfl⟩ noFill_list_add seq_list_add PySem.F.slot_list_add PySem.F.entry_list_add (PySem.F.args_list_add_2 _ _) (list_addW _ _ _ _ n n2 dd dd2 sl sl2 (by simp; lia)) ⟨ho, ho2, ?_⟩
    have ea : its.toArray ++ its2.toArray = (its ++ its2).toArray := by simp
    rw [ea]
    have hf := I.fresh
    have rr := r1.append r2
    exact ⟨_, .ref s.heap.objs.size, M, _, I.lnew (t' := s.toks) (e1.append e2) (by rw [List.length_append]; lia), Step.lay hf, m.lay hf, rfl, .lst (.inl ⟨.inl upd_same, m.free hf⟩) (rr.mono (Step.lay hf)), q⟩
def dOk (d : D) : Prop := plain d = true ∧ (pyD d).canLay0 = true ∧ (pyD d).depth ≤ 60
def rEq3 : R3 := fun x y M Q => (dOk x ∧ dOk y ∧ Q (.bl (PyData.eqv (pyD x) (pyD y))) M) ∨ ∃ a b, x = .str a ∧ y = .str b ∧ Q (.bl (a == b)) M
def rNe3 : R3 := fun x y M Q => (dOk x ∧ dOk y ∧ Q (.bl (!PyData.eqv (pyD x) (pyD y))) M) ∨ ∃ a b, x = .str a ∧ y = .str b ∧ Q (.bl (!(a == b))) M
theorem o3_eq {k : Nat} (hr : Room k X.A) : OpR3 X (compareOp .Eq) rEq3 := by
  intro pins s σv H M x y xv yv v u Q I m rx ry px py h
  rcases h with ⟨dx, dy, q⟩ | ⟨a, b, rfl, rfl, q⟩
  rotate_left
  · cases px; cases py
    exact thn (op_eq pins s σv H _ _ v u _ I rx ry ⟨rfl, up0 m .bl (by rw [dec_str]; exact q)⟩) fun _ _ z => ep_up z
  obtain ⟨as, r1⟩ := rep_reads I dx.1 px rx
  obtain ⟨bs, r2⟩ := rep_reads I dy.1 py ry
  exact SeqAt.compareEq_reads r1 r2 dx.2.1 dy.2.1 (by have := hr.units; have := dx.2.2; lia) ⟨_, .bl _, M, H, I, .refl, m, rfl, .bl, q⟩
theorem o3_ne {k : Nat} (hr : Room k X.A) : OpR3 X (compareOp .NotEq) rNe3 := by
  intro pins s σv H M x y xv yv v u Q I m rx ry px py h
  rcases h with ⟨dx, dy, q⟩ | ⟨a, b, rfl, rfl, q⟩
  rotate_left
  · cases px; cases py
    exact thn (op_ne pins s σv H _ _ v u _ I rx ry ⟨rfl, up0 m .bl (by rw [dec_str]; exact q)⟩) fun _ _ z => ep_up z
  obtain ⟨as, r1⟩ := rep_reads I dx.1 px rx
  obtain ⟨bs, r2⟩ := rep_reads I dy.1 py ry
  exact SeqAt.compareNe_reads r1 r2 dx.2.1 dy.2.1 (by have := hr.units; have := dx.2.2; lia) ⟨_, .bl _, M, H, I, .refl, m, rfl, .bl, q⟩
def rIs3 : R3 := fun x y M Q => y = .non ∧ Q (.bl (match x with | .non => true | _ => false)) M
def rIsN3 : R3 := fun x y M Q => y = .non ∧ Q (.bl (match x with | .non => false | _ => true)) M
theorem o3_isnot : OpR3 X (compareOp .IsNot) rIsN3 := OpR3.of op_notN fun H M x y xv yv Q m px py hx0 => by
  obtain ⟨e, q⟩ := hx0
  subst e; cases py
  refine ⟨rfl, ?_⟩
  cases px <;> exact up0 m .bl (by simpa using q)
variable {a b e : Expr} {ta tb te : TE3} {pos : Pos}
def rIx3 : R3 := fun x y M Q => match x, y with
  | .lst ds, .int i => ∃ d, atI ds i = some d ∧ Q d M
  | .tup ds, .int i => ∃ d, atI ds i = some d ∧ Q d M
  | .ref a, .int i => ∃ ds d, M a = some (.lst ds) ∧ atI ds i = some d ∧ Q d M
  | .str z, .int i => z.length ≤ sizeLine ∧ ∃ c, atI z.cps.toList i = some c ∧ Q (.str ⟨#[c]⟩) M
  | _, _ => False
theorem Reps.atI {K : PySem.W.Frag} {M : Mem} {H : Hp} {ds : List D} {vs : List V} (r : Reps K M H ds vs) {i : Int} {d : D} (h : L2.atI ds i = some d) : ∃ v, L2.atI vs i = some v ∧ Rep K M H d v := by
  unfold L2.atI at h ⊢
  rw [← r.length]
  cases e : ixN ds.length i with
  | none => rw [e] at h; cases h
  | some j =>
    rw [e] at h
    exact r.get (show ds[j]? = some d from h)
theorem pe3_ix (ha : PE3 X a ta) (hb : PE3 X b tb) (hs : PlainIx b) : PE3 X (.Subscript a b pos) (tOp3 rIx3 ta tb) := by
  intro pins s σv H σ M Q I hS hM h
  refine Subscript_ (thn (ha pins s σv H σ M _ I hS hM h) fun v s1 ⟨x, xv, M1, H1, I1, st1, m1, rv1, p1, q1⟩ =>
    thn (hb pins s1 σv H1 σ M1 _ I1 (hS.mono st1) m1 q1) fun u s2 ⟨y, yv, M2, H2, I2, st2, m2, rv2, p2, q2⟩ => ?_)
  have fin : rIx X.K xv yv H2 (Up X.K M2 H2 Q) := by
    have p1' := p1.mono st2
    cases x <;> cases y <;> first | exact q2.elim | skip
    · cases p1'; cases p2
      obtain ⟨hz, c, hc, q⟩ := q2
      exact .inr (.inr ⟨_, _, c, rfl, rfl, hz, hc, up0 m2 .str q⟩)
    · cases p1'; cases p2
      obtain ⟨ds, d, hm, hd, q⟩ := q2
      obtain ⟨ho, e1, r⟩ := m2 _ _ hm
      cases ho <;> first | exact r.elim | skip
      obtain ⟨v', hv, rv⟩ := Reps.atI r hd
      exact .inl ⟨_, _, _, v', rfl, rfl, .inl (.inl e1), hv, up0 m2 rv q⟩
    · cases p1' with | tup h1 r => cases p2; obtain ⟨d, hd, q⟩ := q2; obtain ⟨v', hv, rv⟩ := Reps.atI r hd; exact .inr (.inl ⟨_, _, _, v', rfl, rfl, SqT.of3 h1, hv, up0 m2 rv q⟩)
    · cases p1' with | lst h1 r => cases p2; obtain ⟨d, hd, q⟩ := q2; obtain ⟨v', hv, rv⟩ := Reps.atI r hd; exact .inl ⟨_, _, _, v', rfl, rfl, SqL.of3 h1, hv, up0 m2 rv q⟩
  exact thn (ix_seq a b pins s2 σv H2 xv yv v u _ I2 rv1 rv2 fin (hs _ _)) fun _ _ z => (ep_up z).trans (st1.trans st2)
def tNoPart3 : Lo → Mem → (Option Int → Mem → Prop) → Prop := fun _ M Q => Q none M
def tPart3 (t : TE3) : Lo → Mem → (Option Int → Mem → Prop) → Prop := fun σ M Q => t σ M fun x M1 => match x with
  | .int i => Q (some i) M1
  | _ => False
abbrev TO3 := Lo → Mem → (Option Int → Mem → Prop) → Prop
def PO3 (X : Cx) (e : Option Expr) (t : TO3) : Prop :=
  ∀ (pins : List (Addr × Obj)) (s : Shared) (σv : L2.St) (H : Hp) (σ : Lo) (M : Mem) (Q : Option Int → Mem → Prop), Inv X pins σv H s → SRel X.K M H σ σv → MRel X.K M H → t σ M Q →
    wpAny (model X.prog X.w) X.A (evalPart e X.env) (fun v s' => ∃ o M' H', Inv X pins σv H' s' ∧ Step M H M' H' ∧ MRel X.K M' H' ∧ IsPart v o ∧ Q o M') X.xe s
theorem po3_none : PO3 X none tNoPart3 := by
  intro pins s σv H σ M Q I hS hM h
  rw [evalPart_none]
  exact wpAny_pure ⟨none, M, H, I, .refl, hM, .none, h⟩
theorem po3_some (h : PE3 X e te) : PO3 X (some e) (tPart3 te) := by
  intro pins s σv H σ M Q I hS hM hw
  rw [evalPart_some]
  refine thn (h pins s σv H σ M _ I hS hM hw) fun u s1 hx0 => ?_
  obtain ⟨x, xv, M1, H1, I1, st1, m1, rv1, p1, q1⟩ := hx0
  cases x <;> first | exact q1.elim | skip
  cases p1
  obtain ⟨t, rfl⟩ := rv1
  exact ⟨some _, M1, H1, I1, st1, m1, .int _ t, q1⟩
def cutD (xs : List D) (lo hi : Option Int) : List D := (xs.drop (HT.sIx xs.length 0 lo)).take (HT.sIx xs.length xs.length hi - HT.sIx xs.length 0 lo)
theorem Reps.cut {K : PySem.W.Frag} {M : Mem} {H : Hp} {ds : List D} {vs : List V} (r : Reps K M H ds vs) (lo hi : Option Int) : Reps K M H (cutD ds lo hi) (cutV vs lo hi) := by
  unfold cutD cutV
  rw [r.length]
  exact (r.drop _).take _
def rSl3 : D → Option Int → Option Int → Mem → DK → Prop := fun x lo hi M Q => match x with
  | .lst ds => Q (.lst (cutD ds lo hi)) M
  | .tup ds => ¬ (HT.sIx ds.length 0 lo = 0 ∧ HT.sIx ds.length ds.length hi = ds.length) ∧ Q (.tup (cutD ds lo hi)) M
  | _ => False
theorem pe3_slice {lo hi : Option Expr} {tl th : TO3} {p2 : Pos} (he : PE3 X e te) (hl : PO3 X lo tl) (hu : PO3 X hi th) :
    PE3 X (.Subscript e (.Slice lo hi none p2) pos) (fun σ M Q => te σ M fun x M1 => tl σ M1 fun l M2 => th σ M2 fun u M3 => rSl3 x l u M3 Q) := by
  intro pins s σv H σ M Q I hS hM h
  refine Subscript_ (thn (he pins s σv H σ M _ I hS hM h) fun v s1 ⟨x, xv, M1, H1, I1, st1, m1, rv1, p1, q1⟩ => ?_)
  refine wpAny_Slice (thn (hl pins s1 σv H1 σ M1 _ I1 (hS.mono st1) m1 q1) fun vl s2 ⟨l, M2, H2, I2, st2, m2, pl, q2⟩ => thn (hu pins s2 σv H2 σ M2 _ I2 (hS.mono (st1.trans st2)) m2 q2) fun vu s3 ⟨u, M3, H3, I3, st3, m3, pu, q3⟩ => ?_)
  rw [evalPart_none]
  refine wpAny_pure ?_
  have I4 : Inv X pins σv H3 { s3 with heap := s3.heap.push { cls := .type "slice", data := .fields #[vl, vu, .none] } } := I3.kept (t' := s3.toks) fun b ob q => Heap.get?_push_of_some _ q
  have p3 := p1.mono (st2.trans st3)
  have fin : rSlL X.K xv l u H3 (Up X.K M3 H3 Q) ∨ rSlT X.K xv l u H3 (Up X.K M3 H3 Q) := by
    cases x <;> first | exact q3.elim | skip
    · cases p3 with | tup h1 r =>
      obtain ⟨hw, q⟩ := q3
      rw [r.length] at hw
      exact .inr ⟨_, _, rfl, SqT.of3 h1, hw, fun p hp => ⟨_, M3, Step.lay hp, m3.lay hp, .tup (.inl ⟨.inl upd_same, m3.free hp⟩) ((r.cut l u).mono (Step.lay hp)), q⟩⟩
    · cases p3 with | lst h1 r =>
      refine .inl ⟨_, _, rfl, SqL.of3 h1, fun p hp => ?_⟩
      exact ⟨_, M3, Step.lay hp, m3.lay hp, .lst (.inl ⟨.inl upd_same, m3.free hp⟩) ((r.cut l u).mono (Step.lay hp)), q3⟩
  obtain ⟨T, id, hT, ht, hg⟩ := (sl_list.or sl_tup) pins { s3 with heap := s3.heap.push { cls := .type "slice", data := .fields #[vl, vu, .none] } } σv H3 xv v vl vu l u s3.heap.objs.size _ I4 rv1 (Heap.IsSliceOf.new ..) pl pu fin
  show wpAny (model X.prog X.w) X.A (subscriptTail e (.Slice lo hi none p2) v (.ref s3.heap.objs.size)) (EP3 X pins σv M H Q) X.xe { s3 with heap := s3.heap.push { cls := .type "slice", data := .fields #[vl, vu, .none] } }
  exact tail_any (ops := [.ref s3.heap.objs.size, v]) ht hT (thn hg fun _ _ z => (ep_up z).trans ((st1.trans st2).trans st3)) (by with_unfolding_all rfl)
end
end L3
namespace L3
open PySem PySem.Spec PyProof.Rows L2
section
variable {X : Cx} {a b e o i value : Expr} {es : List Expr} {ta tb te td ty tv : TE3} {t : TA3} {pos p pos' : Pos} {x : Str} {id T : String} {r : C3}
def tCB3 (r : C3) (t : TA3) : TE3 := fun σ M Q => t σ M fun ds M1 => r ds M1 Q
theorem pe3_callB (hc : CallR3 X (.builtin id) r) (hg : Gl X x) (hm : X.mg x = none) (hv : bootBuiltins x = some (.builtin id)) (ha : PA3 X (e :: es) t) (hn : x ≠ "__name__" := by decide) (hdb : (x == ("__debug__" : Str)) = false := by decide)
    (he : starEach (e :: es) X.env = (false, eval e X.env) :: starEach es X.env := by rfl) (hpl : (backTo pos (starEach es X.env)).any (·.1) = false := by rfl) : PE3 X (.Call (.Name x p) (e :: es) [] pos) (tCB3 r t) := by
  intro pins s σv H σ M Q I hS hM h
  refine wpAny_Call_Name_kw (ld_blt I hg hm hv ?_ hn hdb)
  exact PyProof.Rows.callWith_builtin1 (thn (ha pos pins s σv H σ M _ I hS hM h) fun us s1 ⟨ds, vs, M1, H1, I1, st1, m1, rv1, p1, q1⟩ => thn (hc pins s1 σv H1 M1 ds vs us Q I1 m1 rv1 p1 q1) fun _ _ z => z.trans st1) he hpl
theorem pe3_callTy (hc : CallR3 X (.type T) r) (hg : Gl X x) (hm : X.mg x = none) (hv : bootBuiltins x = some (.type T)) (ha : PA3 X (e :: es) t) (hn : x ≠ "__name__" := by decide) (hdb : (x == ("__debug__" : Str)) = false := by decide)
    (he : starEach (e :: es) X.env = (false, eval e X.env) :: starEach es X.env := by rfl) (hpl : (backTo pos (starEach es X.env)).any (·.1) = false := by rfl) : PE3 X (.Call (.Name x p) (e :: es) [] pos) (tCB3 r t) := by
  intro pins s σv H σ M Q I hS hM h
  refine wpAny_Call_Name_kw (ld_blt I hg hm hv ?_ hn hdb)
  exact PyProof.Rows.callWith_type1 (thn (ha pos pins s σv H σ M _ I hS hM h) fun us s1 ⟨ds, vs, M1, H1, I1, st1, m1, rv1, p1, q1⟩ => thn (hc pins s1 σv H1 M1 ds vs us Q I1 m1 rv1 p1 q1) fun _ _ z => z.trans st1) he hpl
def rLen3 : C3 := fun ds M Q => match ds with
  | [.lst xs] => Q (.int xs.length) M
  | [.tup xs] => Q (.int xs.length) M
  | [.str z] => z.length ≤ sizeLine ∧ Q (.int z.length) M
  | [.ref a] => ∃ xs, M a = some (.lst xs) ∧ Q (.int xs.length) M
  | _ => False
theorem c3_len : CallR3 X (.builtin "len") rLen3 := CallR3.of (call_len_seq.or call_len_str) fun H M xs xvs Q m px q => by
  rcases px with _ | ⟨pd, ps⟩; (exact (q : False).elim); rcases ps with _ | ⟨p2, ps2⟩; rotate_left; (first | exact (q : False).elim | (cases pd <;> exact (q : False).elim))
  cases pd with
  | lst h r => exact .inl ⟨_, _, rfl, .inl (SqL.of3 h), by rw [← r.length]; exact up0 m .int q⟩
  | tup h r => exact .inl ⟨_, _, rfl, .inr (SqT.of3 h), by rw [← r.length]; exact up0 m .int q⟩
  | str => exact .inr ⟨_, rfl, q.1, up0 m .int q.2⟩
  | ref =>
    obtain ⟨ds, hm, q⟩ := q
    obtain ⟨ho, e1, r⟩ := m _ _ hm
    cases ho <;> first | exact r.elim | skip
    have r' : Reps X.K M H ds _ := r
    exact .inl ⟨_, _, rfl, .inl (.inl (.inl e1)), by rw [← r'.length]; exact up0 m .int q⟩
  | _ => exact (q : False).elim
def rAbs3 : C3 := fun ds M Q => match ds with
  | [.int i] => Q (.int (if i < 0 then -i else i)) M
  | _ => False
theorem c3_abs : CallR3 X (.builtin "abs") rAbs3 := CallR3.of call_abs fun H M xs xvs Q m px q => by
  rcases px with _ | ⟨pd, ps⟩; (exact (q : False).elim); rcases ps with _ | ⟨p2, ps2⟩; rotate_left; (first | exact (q : False).elim | (cases pd <;> exact (q : False).elim))
  cases pd with
  | int => exact ⟨_, rfl, up0 m .int q⟩
  | _ => exact (q : False).elim
def rInt3 : C3 := fun ds M Q => match ds with
  | [.int i] => Q (.int i) M
  | [.bl k] => Q (.int (if k then 1 else 0)) M
  | _ => False
theorem c3_int : CallR3 X (.type "int") rInt3 := CallR3.of call_int1 fun H M xs xvs Q m px q => by
  rcases px with _ | ⟨pd, ps⟩; (exact (q : False).elim); rcases ps with _ | ⟨p2, ps2⟩; rotate_left; (first | exact (q : False).elim | (cases pd <;> exact (q : False).elim))
  cases pd with
  | int => exact .inl ⟨_, rfl, up0 m .int q⟩
  | bl => exact .inr ⟨_, rfl, up0 m .int q⟩
  | _ => exact (q : False).elim
def rList3 : C3 := fun ds M Q => match ds with
  | [.lst xs] => Q (.lst xs) M
  | [.tup xs] => Q (.lst xs) M
  | _ => False
theorem c3_list : CallR3 X (.type "list") rList3 := CallR3.of call_list_of fun H M xs xvs Q m px q => by
  rcases px with _ | ⟨pd, ps⟩; (exact (q : False).elim); rcases ps with _ | ⟨p2, ps2⟩; rotate_left; (first | exact (q : False).elim | (cases pd <;> exact (q : False).elim))
  cases pd with
  | lst h r => exact ⟨_, _, rfl, .inl (SqL.of3 h), fun l hl => ⟨_, M, Step.lay hl, m.lay hl, .lst (.inl ⟨.inl upd_same, m.free hl⟩) (r.mono (Step.lay hl)), q⟩⟩
  | tup h r => exact ⟨_, _, rfl, .inr (SqT.of3 h), fun l hl => ⟨_, M, Step.lay hl, m.lay hl, .lst (.inl ⟨.inl upd_same, m.free hl⟩) (r.mono (Step.lay hl)), q⟩⟩
  | _ => exact (q : False).elim
def shOk (d : D) : Prop := plain d = true ∧ (pyD d).showable = true ∧ (pyD d).hasDict = false ∧ (pyD d).depth ≤ 60 ∧ (pyD d).shown.length ≤ sizeLine
def rRepr3 : C3 := fun ds M Q => match ds with
  | [d] => shOk d ∧ Q (.str (pyD d).shown) M
  | _ => False
theorem c3_repr {k : Nat} (hr : Room k X.A) : CallR3 X (.builtin "repr") rRepr3 := by
  intro pins s σv H M xs xvs us Q I m rv px q
  rcases px with _ | ⟨pd, ps⟩; (exact (q : False).elim); rcases ps with _ | ⟨p2, ps2⟩; rotate_left; (first | exact (q : False).elim | (cases pd <;> exact (q : False).elim))
  · rename_i d _
    obtain ⟨⟨h1, h2, h3, h4, h5⟩, q⟩ := q
    obtain ⟨u, rfl, ru⟩ := vals1 rv
    have hz : sizeLine = 16777216 := sizeLine_eq
    cases pd with
    | non => cases ru; exact PySem.P.repr_of_none ⟨_, .str _, M, H, I.tok _, .refl, m, ⟨_, rfl⟩, .str, q⟩
    | bl => cases ru; exact PySem.P.repr_of_bool ⟨_, .str _, M, H, I.tok _, .refl, m, ⟨_, rfl⟩, .str, q⟩
    | @int i =>
      obtain ⟨t, rfl⟩ := ru
      exact PySem.P.repr_of_int (by simpa [pyD, PyData.showable] using h2) ⟨_, .str _, M, H, I.tok _, .refl, m, ⟨_, rfl⟩, .str, q⟩
    | @str z =>
      obtain ⟨t, rfl⟩ := ru
      exact PySem.P.repr_of_str ⟨_, .str _, M, H, I.tok _, .refl, m, ⟨_, rfl⟩, .str, q⟩ (by simpa [pyD, PyData.shown] using h5)
    | @tup a ds vs h r =>
      cases ru
      obtain ⟨as, rd⟩ := rep_reads I h1 (.tup h r) rfl
      refine PySem.repr_of_reads' rd h2 (PyData.noDict_hsm h3) hr.gd (by have := hr.units; lia) (fun b o e => e) (fun h' u tk kp => ?_) h5
      exact ⟨_, .str _, M, H, I.kept (t' := tk) kp, .refl, m, ⟨_, rfl⟩, .str, q⟩
    | @lst a ds vs h r =>
      cases ru
      obtain ⟨as, rd⟩ := rep_reads I h1 (.lst h r) rfl
      refine PySem.repr_of_reads' rd h2 (PyData.noDict_hsm h3) hr.gd (by have := hr.units; lia) (fun b o e => e) (fun h' u tk kp => ?_) h5
      exact ⟨_, .str _, M, H, I.kept (t' := tk) kp, .refl, m, ⟨_, rfl⟩, .str, q⟩
    | dct _ _ => exact absurd h1 (by simp [plain])
    | ty => exact absurd h1 (by simp [plain])
    | ref => exact absurd h1 (by simp [plain])
end
end L3
namespace L3
open PySem PySem.Spec PyProof.Rows L2
section
variable {X : Cx} {a b e o i value : Expr} {es : List Expr} {ta tb te td ty tv : TE3} {t : TA3} {pos p pos' : Pos} {x : Str}
def valD (kds : List (Key × D)) (k : Key) : Option D := (kds.find? fun kv => decide (kv.1 = k)).map (·.2)
def putD (kds : List (Key × D)) (k : Key) (d : D) : List (Key × D) :=
  if (kds.any fun kv => decide (kv.1 = k)) = true then kds.map (fun kv => if kv.1 = k then (kv.1, d) else kv) else kds ++ [(k, d)]
def mergeD (kds more : List (Key × D)) : List (Key × D) := more.foldl (fun acc kv => putD acc kv.1 kv.2) kds
def kD : Key → D
  | .inl i => .int i
  | .inr x => .str x
def dK? : D → Option Key
  | .int i => some (.inl i)
  | .str x => some (.inr x)
  | _ => none
section
variable {K : PySem.W.Frag} {M : Mem} {H : Hp}
theorem RepK.length {kds : List (Key × D)} {kvs : List (Key × V)} (r : RepK K M H kds kvs) : kds.length = kvs.length := by
  induction kds generalizing kvs with
  | nil => cases r; rfl
  | cons d ds ih => cases r with | cons a b => rw [List.length_cons, List.length_cons, ih b]
theorem RepK.val {kds : List (Key × D)} {kvs : List (Key × V)} (r : RepK K M H kds kvs) (k : Key) : (∃ d v, valD kds k = some d ∧ valV kvs k = some v ∧ Rep K M H d v) ∨ (valD kds k = none ∧ valV kvs k = none) := by
  induction kds generalizing kvs with
  | nil => cases r; exact .inr ⟨rfl, rfl⟩
  | cons d ds ih =>
    cases r with
    | @cons k' d v ds vs a b =>
      by_cases e : k' = k
      · exact .inl ⟨d, v, by simp [valD, e], by simp [valV, e], a⟩
      · have e1 : valD ((k', d) :: ds) k = valD ds k := by simp [valD, e]
        have e2 : valV ((k', v) :: vs) k = valV vs k := by simp [valV, e]
        rw [e1, e2]; exact ih b
theorem RepK.some {kds : List (Key × D)} {kvs : List (Key × V)} (r : RepK K M H kds kvs) {k : Key} {d : D} (h : valD kds k = Option.some d) : ∃ v, valV kvs k = Option.some v ∧ Rep K M H d v := by
  rcases r.val k with ⟨d', v, e1, e2, q⟩ | ⟨e1, _⟩
  · rw [h] at e1; cases e1; exact ⟨v, e2, q⟩
  · rw [h] at e1; cases e1
theorem RepK.anyK {kds : List (Key × D)} {kvs : List (Key × V)} (r : RepK K M H kds kvs) (k : Key) : (kds.any fun kv => decide (kv.1 = k)) = kvs.any fun kv => decide (kv.1 = k) := by
  induction kds generalizing kvs with
  | nil => cases r; rfl
  | cons d ds ih => cases r with | cons a b => rw [List.any_cons, List.any_cons, ih b]
theorem RepK.repl {kds : List (Key × D)} {kvs : List (Key × V)} (r : RepK K M H kds kvs) (k : Key) {d : D} {v : V} (q : Rep K M H d v) : RepK K M H (kds.map (fun kv => if kv.1 = k then (kv.1, d) else kv)) (kvs.map (fun kv => if kv.1 = k then (kv.1, v) else kv)) := by
  induction kds generalizing kvs with
  | nil => cases r; exact .nil
  | cons d' ds ih =>
    cases r with
    | @cons k' d' v' ds vs a b =>
      rw [List.map_cons, List.map_cons]
      by_cases e : k' = k
      · simp only [e, if_true]; exact .cons q (ih b)
      · simp only [e, if_false]; exact .cons a (ih b)
theorem RepK.snoc {kds : List (Key × D)} {kvs : List (Key × V)} (r : RepK K M H kds kvs) (k : Key) {d : D} {v : V} (q : Rep K M H d v) : RepK K M H (kds ++ [(k, d)]) (kvs ++ [(k, v)]) := by
  induction kds generalizing kvs with
  | nil => cases r; exact .cons q .nil
  | cons d' ds ih => cases r with | cons a b => exact .cons a (ih b)
theorem RepK.put {kds : List (Key × D)} {kvs : List (Key × V)} (r : RepK K M H kds kvs) (k : Key) {d : D} {v : V} (q : Rep K M H d v) : RepK K M H (putD kds k d) (putK kvs k v) := by
  unfold putD putK
  rw [r.anyK]
  split
  · exact r.repl k q
  · exact r.snoc k q
theorem RepK.merge {more : List (Key × D)} {mv : List (Key × V)} (q : RepK K M H more mv) : ∀ {kds : List (Key × D)} {kvs : List (Key × V)}, RepK K M H kds kvs → RepK K M H (mergeD kds more) (mergeK kvs mv) := by
  induction more generalizing mv with
  | nil => cases q; exact fun r => r
  | cons d ds ih => cases q with | cons a b => exact fun r => ih b (r.put _ a)
theorem rep_key {k : Key} {v : V} (r : Rep K M H (kD k) v) : v = kV k := by
  cases k <;> (cases r; rfl)
theorem dK_of {d : D} {k : Key} (h : dK? d = Option.some k) : d = kD k := by
  cases d <;> first | (cases h; rfl) | cases h
end
def rDGet3 : R3 := fun x y M Q => ∃ k d, dK? y = some k ∧ (match x with
  | .dct kds => valD kds k = some d
  | .ref a => ∃ kds, M a = some (.dct kds) ∧ valD kds k = some d
  | _ => False) ∧ Q d M
theorem pe3_dget (hu : X.A.units + 1 < cLine) (ho : PE3 X o td) (hi : PE3 X i ty) (hs : NoSl i) : PE3 X (.Subscript o i pos) (tOp3 rDGet3 td ty) := PE3.of (pe_dget hu ho.dn hi.dn hs) fun pins s σv H σ M Q I hS hM h => by
  refine ⟨σ, M, _, hS, hM, h, fun x xv M1 H1 st1 m1 p1 q1 => ⟨σ, M1, _, hS.mono st1, m1, q1, fun y yv M2 H2 st2 m2 p2 q2 => ?_⟩⟩
  obtain ⟨k, d, hk, hx, q⟩ := q2
  have hy := dK_of hk
  subst hy
  have ey := rep_key p2
  subst ey
  have p1' := p1.mono st2
  cases x <;> first | exact hx.elim | skip
  · cases p1'
    obtain ⟨kds, hm, hv⟩ := hx
    obtain ⟨ho, e1, r⟩ := m2 _ _ hm
    cases ho <;> first | exact r.elim | skip
    obtain ⟨v, hv', rv⟩ := RepK.some r hv
    exact ⟨_, v, rfl, .inl ⟨_, k, .inl e1, rfl, hv'.symm⟩, d, M2, st1.trans st2, m2, rv, q⟩
  · cases p1' with
    | dct hf r =>
      obtain ⟨v, hv', rv⟩ := RepK.some r hx
      exact ⟨_, v, rfl, .inl ⟨_, k, hf.1, rfl, hv'.symm⟩, d, M2, st1.trans st2, m2, rv, q⟩
def tDPut3 (td ty tv : TE3) : TS3 := fun T σ M => tv σ M fun d M1 => td σ M1 fun x M2 => ty σ M2 fun y M3 => ∃ k a kds, dK? y = some k ∧ x = .ref a ∧ M3 a = some (.dct kds) ∧ kds.length < sizeLine ∧ T.nx σ (mput M3 a (.dct (putD kds k d)))
theorem ps3_dput (hu : X.A.units + 1 < cLine) (ho : PE3 X o td) (hi : PE3 X i ty) (hv : PE3 X value tv) (hs : swapsWith value (some (.Subscript o i pos')) pos.line X.env = pure false) :
    PS3 X (.Assign [.Subscript o i pos'] value pos) (tDPut3 td ty tv) := PS3.of (ps_dput hu ho.dn hi.dn hv.dn hs) fun pins s σv H σ M T I hS hM h => by
  refine ⟨σ, M, _, hS, hM, h, fun d v M1 H1 st1 m1 p1 q1 => ⟨σ, M1, _, hS.mono st1, m1, q1, fun x xv M2 H2 st2 m2 p2 q2 => ⟨σ, M2, _, hS.mono (st1.trans st2), m2, q2, fun y yv M3 H3 st3 m3 p3 q3 => ?_⟩⟩⟩
  obtain ⟨k, a, kds, hk, rfl, hm, hl, q⟩ := q3
  have hy := dK_of hk
  subst hy
  have ey := rep_key p3
  subst ey
  cases p2
  obtain ⟨ho, e1, r⟩ := m3 _ _ hm
  cases ho <;> first | exact r.elim | skip
  have r' : RepK X.K M3 H3 kds _ := r
  have hne : H3 a = none ∨ M3 a ≠ none := .inr (by rw [hm]; intro z; cases z)
  have pd := p1.mono (st2.trans st3)
  refine ⟨a, _, rfl, .inl ⟨_, k, e1, rfl, by rw [← r'.length]; exact hl, rfl⟩, σ, mput M3 a (.dct (putD kds k d)), ((st1.trans st2).trans st3).trans (Step.put hne), m3.put hne (r'.put k pd), ?_, q⟩
  exact hS.mono (((st1.trans st2).trans st3).trans (Step.put hne))
def tPairs3 : List (TE3 × TE3) → Lo → Mem → (List (D × D) → Mem → Prop) → Prop
  | [], _, M, Q => Q [] M
  | (tk, tv) :: r, σ, M, Q => tk σ M fun x M1 => tv σ M1 fun y M2 => tPairs3 r σ M2 fun ps M3 => Q ((x, y) :: ps) M3
def PPs3 (X : Cx) (pos : Pos) (keys : List (Option Expr)) (values : List Expr) (trs : List (TE3 × TE3)) : Prop := PPs X pos keys values (trs.map fun z => (dnE X.K z.1, dnE X.K z.2))
theorem pps3_nil : PPs3 X pos [] [] [] := pps_nil
theorem pps3_cons {k v : Expr} {ks : List (Option Expr)} {vs : List Expr} {tk tv : TE3} {trs : List (TE3 × TE3)} (hk : PE3 X k tk) (hv : PE3 X v tv) (hr : PPs3 X pos ks vs trs) : PPs3 X pos (some k :: ks) (v :: vs) ((tk, tv) :: trs) := pps_cons hk.dn hv.dn hr
inductive RepP (K : PySem.W.Frag) (M : Mem) (H : Hp) : List (D × D) → List (V × V) → Prop
  | nil : RepP K M H [] []
  | cons {d1 d2 : D} {v1 v2 : V} {ds : List (D × D)} {vs : List (V × V)} : Rep K M H d1 v1 → Rep K M H d2 v2 → RepP K M H ds vs → RepP K M H ((d1, d2) :: ds) ((v1, v2) :: vs)
theorem tPairs_dn {K : PySem.W.Frag} : ∀ (trs : List (TE3 × TE3)) {σ : Lo} {σv : L2.St} {M : Mem} {H : Hp} {Q : List (D × D) → Mem → Prop} {Q2 : List (V × V) → Hp → Prop}, SRel K M H σ σv → MRel K M H → tPairs3 trs σ M Q →
    (∀ ps vs M' H', Step M H M' H' → MRel K M' H' → RepP K M' H' ps vs → Q ps M' → Q2 vs H') → tPairs (trs.map fun z => (dnE K z.1, dnE K z.2)) σv H Q2
  | [], σ, σv, M, H, Q, Q2, hS, hM, h, hq => hq [] [] M H .refl hM .nil h
  | (tk, tv) :: r, σ, σv, M, H, Q, Q2, hS, hM, h, hq => by
    refine ⟨σ, M, _, hS, hM, h, fun x xv M1 H1 st1 m1 p1 q1 => ⟨σ, M1, _, hS.mono st1, m1, q1, fun y yv M2 H2 st2 m2 p2 q2 => ?_⟩⟩
    refine tPairs_dn r (hS.mono (st1.trans st2)) m2 q2 fun ps vs M3 H3 st3 m3 p3 q3 => ?_
    exact hq _ _ M3 H3 ((st1.trans st2).trans st3) m3 (.cons (p1.mono (st2.trans st3)) (p2.mono st3) p3) q3
def tDispM3 (trs : List (TE3 × TE3)) : TE3 := fun σ M Q => ∀ p, M p = none → tPairs3 trs σ (mput M p (.dct [])) fun ps M1 => M1 p = some (.dct []) ∧
  ∃ kds : List (Key × D), ps = kds.map (fun kd => (kD kd.1, kd.2)) ∧ kds.length ≤ 15 ∧ Q (.ref p) (mput M1 p (.dct (mergeD [] kds)))
theorem repP_keys {K : PySem.W.Frag} {M : Mem} {H : Hp} : ∀ (kds : List (Key × D)) {vs : List (V × V)}, RepP K M H (kds.map (fun kd => (kD kd.1, kd.2))) vs → ∃ kvs : List (Key × V), vs = kvs.map (fun kv => (kV kv.1, kv.2)) ∧ RepK K M H kds kvs
  | [], vs, r => by cases r; exact ⟨[], rfl, .nil⟩
  | (k, d) :: kds, vs, r => by
    cases r with
    | cons a b c =>
      obtain ⟨kvs, e, q⟩ := repP_keys kds c
      have ek := rep_key a
      subst ek e
      exact ⟨(k, _) :: kvs, rfl, .cons b q⟩
theorem pe3_dispM {keys : List (Option Expr)} {values : List Expr} {trs : List (TE3 × TE3)} (h : PPs3 X pos keys values trs) (hall : keys.all (·.isSome) = true) (hl : keys.length = values.length) (h0 : keys ≠ []) (h15 : keys.length ≤ 15) :
    PE3 X (.Dict keys values pos) (tDispM3 trs) := PE3.of (pe_disp h hall hl h0 h15) fun pins s σv H σ M Q I hS hM h => by
  intro p hp
  have st0 : Step M H (mput M p (.dct [])) (upd H p (.dK [])) := Step.put (.inl hp)
  refine tPairs_dn trs (hS.mono st0) (hM.put (.inl hp) (show RepK _ _ _ _ _ from .nil)) (h p (hM.free hp)) fun ps vs M1 H1 st1 m1 r1 hx0 => ?_
  obtain ⟨hm, kds, e, hl, q⟩ := hx0
  subst e
  obtain ⟨kvs, rfl, rk⟩ := repP_keys kds r1
  obtain ⟨ho, e1, r⟩ := m1 _ _ hm
  cases ho <;> first | exact r.elim | skip
  have r' : RepK X.K M1 H1 [] _ := r
  cases r'
  have hne : H1 p = none ∨ M1 p ≠ none := .inr (by rw [hm]; intro z; cases z)
  exact ⟨e1, kvs, rfl, by rw [← rk.length]; exact hl, .ref p, mput M1 p (.dct (mergeD [] kds)), (st0.trans st1).trans (Step.put hne), m1.put hne (rk.merge .nil), .ref, q⟩
end
def Vs (M : Mem) (d : D) (M' : Mem) (d' : D) : Prop := ∀ (K : PySem.W.Frag) (H : Hp) (v : V), MRel K M H → Rep K M H d v → MRel K M' H ∧ Rep K M' H d' v ∧ ∀ a, M' a ≠ none → M a ≠ none
section
variable {K : PySem.W.Frag} {M M' : Mem} {H : Hp}
theorem Rep.shrink {d : D} {v : V} (s : ∀ a, M a = none → M' a = none) (r : Rep K M H d v) : Rep K M' H d v :=
  Rep.rec (motive_1 := fun d v _ => Rep K M' H d v) (motive_2 := fun ds vs _ => Reps K M' H ds vs) (motive_3 := fun ds vs _ => RepK K M' H ds vs)
    .non .bl .int .str .ty .ref (fun h _ ih => .tup (h.imp (fun z => ⟨z.1, s _ z.2⟩) id) ih) (fun h _ ih => .lst (h.imp (fun z => ⟨z.1, s _ z.2⟩) id) ih) (fun h _ ih => .dct ⟨h.1, s _ h.2⟩ ih)
    .nil (fun _ _ a b => .cons a b) .nil (fun _ _ a b => .cons a b) r
theorem Reps.shrink {ds : List D} {vs : List V} (s : ∀ a, M a = none → M' a = none) (r : Reps K M H ds vs) : Reps K M' H ds vs := by
  induction ds generalizing vs with
  | nil => cases r; exact .nil
  | cons d ds ih => cases r with | cons a b => exact .cons (a.shrink s) (ih b)
theorem RepK.shrink {ds : List (Key × D)} {vs : List (Key × V)} (s : ∀ a, M a = none → M' a = none) (r : RepK K M H ds vs) : RepK K M' H ds vs := by
  induction ds generalizing vs with
  | nil => cases r; exact .nil
  | cons d ds ih => cases r with | cons a b => exact .cons (a.shrink s) (ih b)
theorem RepT.shrink {ds : List (List Int × D)} {xs : List (List Int × Addr × Value)} (s : ∀ a, M a = none → M' a = none) (r : RepT K M H ds xs) : RepT K M' H ds xs := by
  induction r with
  | nil => exact .nil
  | cons a b c _ ih => exact .cons (a.shrink s) (b.shrink s) c ih
def Sub (M' M : Mem) : Prop := ∀ a o, M' a = some o → M a = some o
theorem Sub.refl : Sub M M := fun _ _ h => h
theorem Sub.none {a : Addr} (s : Sub M' M) (h : M a = Option.none) : M' a = Option.none := by
  cases e : M' a with
  | none => rfl
  | some o => rw [s a o e] at h; cases h
theorem MRel.sub (s : Sub M' M) (m : MRel K M H) : MRel K M' H := fun a o e => by
  obtain ⟨ho, e1, r⟩ := m a o (s a o e)
  refine ⟨ho, e1, ?_⟩
  cases o <;> cases ho <;> first | exact r.elim | exact Reps.shrink (fun _ z => s.none z) r | exact RepK.shrink (fun _ z => s.none z) r | (obtain ⟨xs, e, r⟩ := r; exact ⟨xs, e, r.shrink fun _ z => s.none z⟩)
theorem Vs.sub (s : Sub M' M) (d : D) : Vs M d M' d := fun K H v m r => ⟨m.sub s, r.shrink fun _ z => s.none z, fun a h z => h (s.none z)⟩
theorem Vs.refl (d : D) : Vs M d M d := Vs.sub .refl d
theorem mdel_sub {a : Addr} : Sub (mdel M a) M := fun b o h => by
  unfold mdel at h
  split at h
  · cases h
  · exact h
theorem mdel_self {a : Addr} : mdel M a a = none := by unfold mdel; rw [if_pos rfl]
theorem Vs.frzL {a : Addr} {ds : List D} (h : M a = some (.lst ds)) : Vs M (.ref a) (mdel M a) (.lst ds) := fun K H v m r => by
  cases r
  obtain ⟨ho, e1, q⟩ := m a _ h
  cases ho <;> first | exact q.elim | skip
  exact ⟨m.sub mdel_sub, .lst (.inl ⟨.inl e1, mdel_self⟩) (Reps.shrink (fun _ z => mdel_sub.none z) q), fun b hb z => hb (mdel_sub.none z)⟩
theorem Step.less {M0 : Mem} {H0 : Hp} (s : Step M0 H0 M H) (h : ∀ a, M' a ≠ none → M a ≠ none) : Step M0 H0 M' H := ⟨s.keep, fun a z => s.dom a (h a z)⟩
end
end L3
namespace L3
open PySem PySem.Spec PyProof.Rows L2
section
variable {X : Cx} {a b e o i value : Expr} {es : List Expr} {ta tb te td ty tv : TE3} {t : TA3} {pos p pos' : Pos} {x : Str} {st : Stmt} {rest : List Stmt} {t1 t2 : TS3}
theorem SP3.trans {pins : List (Addr × Obj)} {M M1 : Mem} {H H1 : Hp} {T : Ends3} {f : Flow} {s' : Shared} (s : Step M H M1 H1) (h : SP3 X pins M1 H1 T f s') : SP3 X pins M H T f s' := by
  cases f with
  | next => obtain ⟨σ', σv', M', H', I, st, r⟩ := h; exact ⟨σ', σv', M', H', I, s.trans st, r⟩
  | brk => obtain ⟨σ', σv', M', H', I, st, r⟩ := h; exact ⟨σ', σv', M', H', I, s.trans st, r⟩
  | cont => obtain ⟨σ', σv', M', H', I, st, r⟩ := h; exact ⟨σ', σv', M', H', I, s.trans st, r⟩
  | ret u => obtain ⟨d, v, σv', M', H', I, st, r⟩ := h; exact ⟨d, v, σv', M', H', I, s.trans st, r⟩
def tNext3 : TS3 := fun T σ M => T.nx σ M
def tSeq3 (t u : TS3) : TS3 := fun T σ M => t { T with nx := u T } σ M
theorem pss3_nil : PSs3 X [] tNext3 := fun _ _ σv H σ M T I hS hM h => wpAny_execs_nil ⟨σ, σv, M, H, I, .refl, hM, hS, h⟩
theorem pss3_cons (h1 : PS3 X st t1) (h2 : PSs3 X rest t2) : PSs3 X (st :: rest) (tSeq3 t1 t2) := by
  intro pins s σv H σ M T I hS hM h
  refine wpAny_execs_cons (thn (h1 pins s σv H σ M { T with nx := t2 T } I hS hM h) fun f s1 q => ?_)
  cases f with
  | next =>
    obtain ⟨σ', σv', M', H', I', st, m', r', q⟩ := q
    exact thn (h2 pins s1 σv' H' σ' M' T I' r' m' q) fun _ _ z => z.trans st
  | ret v => exact q
  | brk => exact q
  | cont => exact q
theorem pss3_one (h1 : PS3 X st t1) : PSs3 X [st] t1 := by
  intro pins s σv H σ M T I hS hM h
  refine wpAny_execs_cons (thn (h1 pins s σv H σ M T I hS hM h) fun f s1 q => ?_)
  cases f with
  | next => exact wpAny_execs_nil q
  | ret v => exact q
  | brk => exact q
  | cont => exact q
def tDrop3 (te : TE3) : TS3 := fun T σ M => te σ M fun _ M1 => T.nx σ M1
theorem ps3_expr (he : PE3 X e te) (hs : swapsWith e none pos.line X.env = pure false := by rfl) : PS3 X (.Expr e pos) (tDrop3 te) := by
  intro pins s σv H σ M T I hS hM h
  exact wpAny_Expr_any (thn (he pins s σv H σ M _ I hS hM h) fun v s1 ⟨d, xv, M1, H1, I1, st1, m1, r1, p1, q1⟩ => ⟨σ, σv, M1, H1, I1, st1, m1, hS.mono st1, q1⟩) I.quiet hs
def tRet3 (te : TE3) : TS3 := fun T σ M => te σ M T.rt
theorem ps3_ret (he : PE3 X e te) : PS3 X (.Return (some e) pos) (tRet3 te) := by
  intro pins s σv H σ M T I hS hM h
  exact wpAny_Return_some (thn (he pins s σv H σ M _ I hS hM h) fun v s1 ⟨d, xv, M1, H1, I1, st1, m1, r1, p1, q1⟩ => ⟨d, xv, σv, M1, H1, I1, st1, m1, r1, p1, q1⟩)
def tIfS3 (c : TT3) (t u : TS3) : TS3 := fun T σ M => c σ M fun b M1 => if b = true then t T σ M1 else u T σ M1
theorem ps3_if {c : Expr} {a b : List Stmt} {tc : TT3} (hc : PT3 X c tc) (ha : PSs3 X a t1) (hb : PSs3 X b t2) : PS3 X (.If c a b pos) (tIfS3 tc t1 t2) := by
  intro pins s σv H σ M T I hS hM h
  refine wpAny_If (thn (hc pins s σv H σ M _ I hS hM h) fun d s1 ⟨M1, H1, I1, st1, m1, q1⟩ => ?_)
  cases d with
  | true => exact thn (ha pins s1 σv H1 σ M1 T I1 (hS.mono st1) m1 q1) fun _ _ z => z.trans st1
  | false => exact thn (hb pins s1 σv H1 σ M1 T I1 (hS.mono st1) m1 q1) fun _ _ z => z.trans st1
def tSet3 (i : Nat) (te : TE3) : TS3 := fun T σ M => te σ M fun d M1 => T.nx (σ.set i (some d)) M1
theorem ps3_set {i : Nat} (hN : X.N.Nodup) (hi : X.N[i]? = some x) (hx : Loc X.env.scope x) (he : PE3 X e te) (hs : swapsWith e (some (.Name x pos')) pos.line X.env = pure false := by rfl) (hf : X.fn x = true ∨ X.env.scope.names.lookup x = some .local := by first | exact .inl rfl | exact .inr rfl | assumption) :
    PS3 X (.Assign [.Name x pos'] e pos) (tSet3 i te) := PS3.of (ps_set hN hi hx he.dn hs hf) fun pins s σv H σ M T I hS hM h =>
  ⟨σ, M, _, hS, hM, h, fun d v M' H' st m r q => ⟨σ.set i (some d), M', st, m, (hS.mono st).set r i, q⟩⟩
def Wk (K : PySem.W.Frag) (J : It) (ds : List D) (M : Mem) (H : Hp) : Prop := ∀ M' H', Step M H M' H' →
  (∀ i, i < ds.length → J.go i H') ∧ (∀ i d x H'', ds[i]? = some d → J.yld i H' x H'' → H'' = H' ∧ Rep K M' H' d x) ∧ ∀ i, ds.length ≤ i → J.stop i H'
abbrev TI3 := Lo → Mem → (List D → Mem → Prop) → Prop
def dnI (K : PySem.W.Frag) (t : TI3) : TI := fun σv H R2 => ∃ σ M R, SRel K M H σ σv ∧ MRel K M H ∧ t σ M R ∧ ∀ ds J M' H', Step M H M' H' → MRel K M' H' → Wk K J ds M' H' → R ds M' → R2 J H'
def PI3 (X : Cx) (tg iter : Expr) (t : TI3) : Prop := PI X tg iter (dnI X.K t)
theorem PI.weak {tg iter : Expr} {w1 w2 : TI} (h : PI X tg iter w1) (hw : ∀ σ H R, w2 σ H R → w1 σ H R) : PI X tg iter w2 := fun pins s σ H R I q => h pins s σ H R I (hw _ _ _ q)
def tFor3 (ti : TI3) (i : Nat) (tb : TS3) : TS3 := fun T σ M => ti σ M fun ds M1 => ∃ Pv : Nat → Lo → Mem → Prop, Pv 0 σ M1 ∧
  (∀ k d σ M, ds[k]? = some d → Pv k σ M → tb { T with nx := Pv (k + 1), ct := Pv (k + 1), bk := T.nx } (σ.set i (some d)) M) ∧ ∀ σ M, Pv ds.length σ M → T.nx σ M
theorem ps3_for {iter : Expr} {body : List Stmt} {ti : TI3} {tb : TS3} {i : Nat} {px : Pos} (hp : PassesOwn (model X.prog X.w) X.A X.env X.xe) (hc : X.calm = true) (hi : PI3 X (.Name x px) iter ti)
    (hN : X.N.Nodup) (hix : X.N[i]? = some x) (hx : Loc X.env.scope x) (hb : PSs3 X body tb)
    (hs : ∀ y, foldedSetIterable iter X.env y = pure y := by intro _; rfl) (hf : X.fn x = true ∨ X.env.scope.names.lookup x = some .local := by first | exact .inl rfl | exact .inr rfl | assumption) :
    PS3 X (.For (.Name x px) iter body [] pos) (tFor3 ti i tb) := PS3.of (ps_for hp hc hi (pg_name hN hix hx hf) hb.dn hs) fun pins s σv H σ M T I hS hM h => by
  refine ⟨σ, M, _, hS, hM, h, fun ds J M1 H1 st1 m1 wk ⟨Pv, p0, turn, done⟩ => ?_⟩
  refine ⟨fun k m σv' H' => m = ds.length - k ∧ k ≤ ds.length ∧ ∃ σ' M', Step M1 H1 M' H' ∧ MRel X.K M' H' ∧ SRel X.K M' H' σ' σv' ∧ Pv k σ' M', ⟨_, rfl, Nat.zero_le _, σ, M1, .refl, m1, hS.mono st1, p0⟩, ?_⟩
  rintro k m σv' H' ⟨rfl, hk, σ', M', st', m', hS', pk⟩
  obtain ⟨go, yld, stop⟩ := wk M' H' st'
  by_cases hlt : k < ds.length
  · refine .inr ⟨go k hlt, fun σ2 H2 => ∃ σ'' M'', Step M1 H1 M'' H2 ∧ MRel X.K M'' H2 ∧ SRel X.K M'' H2 σ'' σ2 ∧ Pv (k + 1) σ'' M'', ?_, ?_⟩
    · rintro σ2 H2 ⟨σ'', M'', q⟩
      exact ⟨ds.length - (k + 1), by lia, rfl, hlt, σ'', M'', q⟩
    · intro y H'' hy
      obtain ⟨rfl, ry⟩ := yld k ds[k] y H'' (by simp [hlt]) hy
      refine ⟨σ'.set i (some ds[k]), M', _, hS'.set ry i, m', turn k ds[k] σ' M' (by simp [hlt]) pk, ?_⟩
      exact ⟨fun σ2 v2 M2 H2 s2 m2 r2 q2 => ⟨σ2, M2, st'.trans s2, m2, r2, q2⟩, fun σ2 v2 M2 H2 s2 m2 r2 q2 => ⟨σ2, M2, (st1.trans st').trans s2, m2, r2, q2⟩,
        fun σ2 v2 M2 H2 s2 m2 r2 q2 => ⟨σ2, M2, st'.trans s2, m2, r2, q2⟩, fun d v2 M2 H2 s2 m2 r2 q2 => ⟨d, M2, (st1.trans st').trans s2, m2, r2, q2⟩⟩
  · have e : k = ds.length := by lia
    subst e
    exact .inl ⟨stop _ (Nat.le_refl _), σ', M', st1.trans st', m', hS', done σ' M' pk⟩
def iRng3 (ta : TA3) : TI3 := fun σ M R => ta σ M fun ds M1 => match ds with
  | [.int j] => -(2 ^ 62) ≤ j ∧ j < 2 ^ 62 ∧ R ((List.range j.toNat).map fun k => D.int (k : Nat)) M1
  | _ => False
theorem pi3_range1 {tg : Expr} (hg : Gl X "range") (hm : X.mg "range" = none) (ha : PA3 X [a] t) (hs : starEach [a] X.env = [(false, eval a X.env)] := by rfl) : PI3 X tg (.Call (.Name "range" p) [a] [] pos) (iRng3 t) :=
  PI.weak (pi_range1 hg hm ha.dn hs) fun σv H R2 hx0 => by
    obtain ⟨σ, M, R, hS, hM, h, k⟩ := hx0
    refine ⟨σ, M, _, hS, hM, h, fun ds vs M' H' st m r q => ?_⟩
    have px := r
    clear r
    rcases px with _ | ⟨pd, ps⟩; (exact (q : False).elim); rcases ps with _ | ⟨p2, ps2⟩; rotate_left; (first | exact (q : False).elim | (cases pd <;> exact (q : False).elim))
    cases pd with
    | @int j =>
      obtain ⟨h1, h2, q⟩ := q
      refine ⟨j, rfl, h1, h2, k _ _ M' H' st m (fun M2 H2 s2 => ⟨fun i hi => ?_, fun i d x H3 hd hy => ?_, fun i hi => ?_⟩) q⟩
      · show i < j.toNat
        simpa using hi
      · obtain ⟨rfl, rfl⟩ := hy
        refine ⟨rfl, ?_⟩
        rw [List.getElem?_map] at hd
        cases e : (List.range j.toNat)[i]? with
        | none => rw [e] at hd; cases hd
        | some n =>
          rw [e] at hd
          have en : n = i := by
            rw [List.getElem?_range] at e
            · exact (Option.some.inj e).symm
            · have := (List.getElem?_eq_some_iff.mp e).1; simpa using this
          subst en
          cases hd
          have z : (0 : Int) + (n : Int) = (n : Int) := by lia
          rw [z]; exact .int
      · show j.toNat ≤ i
        simpa using hi
    | _ => exact (q : False).elim
theorem pi3_list {tg : Expr} {te' : TE3} (ha : PE3 X a te') (hte : te' = te) : PI3 X tg a (fun σ M R => te σ M fun d M1 => match d with | .lst ds => R ds M1 | _ => False) := by
  subst hte
  refine PI.weak (pi_list ha.dn) fun σv H R2 hx0 => ?_
  obtain ⟨σ, M, R, hS, hM, h, k⟩ := hx0
  refine ⟨σ, M, _, hS, hM, h, fun d v M' H' st m r q => ?_⟩
  cases r <;> first | exact q.elim | skip
  rename_i a' ds vs h1 rs
  refine ⟨a', rfl, ⟨vs, SqL.of3 h1⟩, k ds _ M' H' st m (fun M2 H2 s2 => ?_) q⟩
  have h2 : SqL X.K H2 a' vs := SqL.of3 (h1.imp (Fix.mono s2) id)
  have r2 := rs.mono s2
  refine ⟨fun i hi => ?_, fun i d x H3 hd hy => ?_, fun i hi => ?_⟩
  · obtain ⟨v, hv, _⟩ := r2.get (i := i) (d := ds[i]) (by simp [hi])
    exact ⟨vs, v, h2, hv⟩
  · obtain ⟨rfl, hy⟩ := hy
    obtain ⟨v, hv, rv⟩ := r2.get hd
    rw [hy vs h2] at hv
    cases hv
    exact ⟨rfl, rv⟩
  · exact ⟨vs, h2, by rw [← r2.length]; exact hi⟩
theorem pi3_tup {tg : Expr} (ha : PE3 X a te) : PI3 X tg a (fun σ M R => te σ M fun d M1 => match d with | .tup ds => R ds M1 | _ => False) := by
  refine PI.weak (pi_tup ha.dn) fun σv H R2 hx0 => ?_
  obtain ⟨σ, M, R, hS, hM, h, k⟩ := hx0
  refine ⟨σ, M, _, hS, hM, h, fun d v M' H' st m r q => ?_⟩
  cases r <;> first | exact q.elim | skip
  rename_i a' ds vs h1 rs
  refine ⟨a', rfl, ⟨vs, SqT.of3 h1⟩, k ds _ M' H' st m (fun M2 H2 s2 => ?_) q⟩
  have h2 : SqT X.K H2 a' vs := SqT.of3 (h1.imp (Fix.mono s2) id)
  have r2 := rs.mono s2
  refine ⟨fun i hi => ?_, fun i d x H3 hd hy => ?_, fun i hi => ?_⟩
  · obtain ⟨v, hv, _⟩ := r2.get (i := i) (d := ds[i]) (by simp [hi])
    exact ⟨vs, v, h2, hv⟩
  · obtain ⟨rfl, hy⟩ := hy
    obtain ⟨v, hv, rv⟩ := r2.get hd
    rw [hy vs h2] at hv
    cases hv
    exact ⟨rfl, rv⟩
  · exact ⟨vs, h2, by rw [← r2.length]; exact hi⟩
end
abbrev Sp3 := List D → Mem → DK → Prop
def dnSp (K : PySem.W.Frag) (sp : Sp3) : Sp := fun vs H Q _ => ∃ ds M Q3, Reps K M H ds vs ∧ MRel K M H ∧ sp ds M Q3 ∧ ∀ d v M' H', Step M H M' H' → MRel K M' H' → Rep K M' H' d v → Q3 d M' → Q v H'
def View (Q : DK) : DK := fun d M => ∃ d' M', Vs M d M' d' ∧ Q d' M'
theorem View.of {Q : DK} {d : D} {M : Mem} (q : Q d M) : View Q d M := ⟨d, M, .refl d, q⟩
theorem View.sub {Q : DK} {d : D} {M M' : Mem} (s : Sub M' M) (q : Q d M') : View Q d M := ⟨d, M', .sub s d, q⟩
def start3 (N : List Str) (ds : List D) : Lo := ds.map some ++ List.replicate (N.length - ds.length) none
theorem start_rel {K : PySem.W.Frag} {M : Mem} {H : Hp} {N : List Str} {ds : List D} {vs : List V} (r : Reps K M H ds vs) : SRel K M H (start3 N ds) (L2.start N vs) := by
  refine ⟨by simp [start3, L2.start, r.length], fun i d h => ?_⟩
  unfold start3 at h
  unfold L2.start
  by_cases hi : i < ds.length
  · rw [List.getElem?_append_left (by simpa using hi), List.getElem?_map] at h
    rw [List.getElem?_append_left (by simpa [← r.length] using hi), List.getElem?_map]
    cases e : ds[i]? with
    | none => rw [e] at h; cases h
    | some d' =>
      rw [e] at h; cases h
      obtain ⟨v, hv, rv⟩ := r.get e
      exact ⟨v, by rw [hv]; rfl, rv⟩
  · rw [List.getElem?_append_right (by simpa using hi), List.getElem?_replicate] at h
    split at h <;> cases h
section
variable {P : Program} {w : World} {K : PySem.W.Frag} {mg : Str → Option Value} {base : Heap}
theorem Fun.ok3 {x qual : Str} {st : Stmt} {f : Addr} {fd : FuncData} {N ps : List Str} {k : Nat} {sp : Sp3} (F : Fun K x qual st f fd) (S : FnScope N ps (defScope st)) (len : ∀ ds M Q, sp ds M Q → ds.length = ps.length)
    (hbody : ∀ (cdv : Value) (A : Around) (outer : List Env) (s : Shared) (H : Hp) (E : XK), Room k (A.deeper (envOfC qual (defScope st) s.heap.objs.size f cdv)) →
      ∃ t, PSs3 (cxOf CX0 P w K mg base N qual (defScope st) f cdv A outer s H E).nox (defBody st) t ∧ ∀ ds M Q, sp ds M Q → t { nx := fun _ M' => View Q .non M', rt := View Q } (start3 N ds) M) :
    FnOk P w K mg base CX0 (k + 1) f fd ps (dnSp K sp) := by
  refine F.ok S (fun vs H Q E ⟨ds, M, Q3, r, _, h, _⟩ => by rw [← r.length]; exact len _ _ _ h) fun cdv A outer s H vs Q E hr hx0 => ?_
  obtain ⟨ds, M, Q3, r, m, h, q⟩ := hx0
  obtain ⟨t, ht, hs⟩ := hbody cdv A outer s H E hr
  have fin : ∀ d v M' H', Step M H M' H' → MRel K M' H' → Rep K M' H' d v → View Q3 d M' → Q v H' := fun d v M' H' st m' r' hx0 => by
    obtain ⟨d2, M2, vs2, q2⟩ := hx0
    obtain ⟨m2, r2, s2⟩ := vs2 K H' v m' r'
    exact q d2 v M2 H' (st.less s2) m2 r2 q2
  refine ⟨_, ht.dn, start3 N ds, M, _, start_rel r, m, hs ds M Q3 h, ?_⟩
  exact ⟨fun σ' σv' M' H' st m' _ z => fin .non .non M' H' st m' .non z, fun _ _ _ _ _ _ _ z => z.elim, fun _ _ _ _ _ _ _ z => z.elim, fin⟩
end
section
variable {X : Cx} {e : Expr} {es : List Expr} {t : TA3} {x : Str} {p pos : Pos} {k : Nat} {f : Addr} {fd : FuncData} {ps : List Str} {sp : Sp3}
def tCall3 (sp : Sp3) (t : TA3) : TE3 := fun σ M Q => t σ M fun ds M1 => sp ds M1 Q
theorem pe3_call (F : FnOk X.prog X.w X.K X.mg X.base CX0 k f fd ps (dnSp X.K sp)) (hr : Room k X.A) (hg : Gl X x) (hm : X.mg x = some (.ref f)) (hk : PySem.W.keepIn X.K (.ref f) = true) (hb : Binds X.K fd ps [])
    (ha : PA3 X (e :: es) t) (hdb : (x == ("__debug__" : Str)) = false := by decide) (he : starEach (e :: es) X.env = (false, eval e X.env) :: starEach es X.env := by rfl) (hpl : (backTo pos (starEach es X.env)).any (·.1) = false := by rfl) :
    PE3 X (.Call (.Name x p) (e :: es) [] pos) (tCall3 sp t) :=
  PE3.of (pe_call F hr hg hm hk hb .nil pass0 ha.dn hdb he hpl) fun pins s σv H σ M Q I hS hM h => by
    refine ⟨σ, M, _, hS, hM, h, fun ds vs M1 H1 st1 m1 r1 q1 => ?_⟩
    show dnSp X.K sp (vs ++ []) H1 _ _
    rw [List.append_nil]
    exact ⟨ds, M1, Q, r1, m1, q1, fun d v M' H' st m r q => ⟨d, M', st1.trans st, m, r, q⟩⟩
end
end L3
namespace L3
open PySem PySem.Spec PyProof.Rows L2
abbrev rSub3 : R3 := rI30 fun i j => .int (i - j)
abbrev rMul3 : R3 := rI3 CMulB fun i j => .int (i * j)
abbrev rFdiv3 : R3 := rI3 CDivB fun i j => .int (i / j)
abbrev rMod3 : R3 := rI3 (fun _ j => 0 < j) fun i j => .int (i % j)
abbrev rPow3 : R3 := rI3 CPow fun i j => .int (i ^ j.toNat)
abbrev rLt3 : R3 := rI30 fun i j => .bl (decide (i < j))
abbrev rLe3 : R3 := rI30 fun i j => .bl (decide (i ≤ j))
abbrev rGt3 : R3 := rI30 fun i j => .bl (decide (j < i))
abbrev rGe3 : R3 := rI30 fun i j => .bl (decide (j ≤ i))
abbrev rNeg3 : U3 := rU3 fun i => -i
def tSl3 (te : TE3) (tl th : TO3) : TE3 := fun σ M Q => te σ M fun x M1 => tl σ M1 fun l M2 => th σ M2 fun u M3 => rSl3 x l u M3 Q
def iList3 (te : TE3) : TI3 := fun σ M R => te σ M fun d M1 => match d with | .lst ds => R ds M1 | _ => False
def iTup3 (te : TE3) : TI3 := fun σ M R => te σ M fun d M1 => match d with | .tup ds => R ds M1 | _ => False
section
variable {X : Cx} {a e : Expr} {te : TE3} {pos : Pos} {lo hi : Option Expr} {tl th : TO3} {p2 : Pos} {tg : Expr}
theorem pe3_sl (he : PE3 X e te) (hl : PO3 X lo tl) (hu : PO3 X hi th) : PE3 X (.Subscript e (.Slice lo hi none p2) pos) (tSl3 te tl th) := pe3_slice he hl hu
theorem pi3_l (ha : PE3 X a te) : PI3 X tg a (iList3 te) := pi3_list ha rfl
theorem pi3_t (ha : PE3 X a te) : PI3 X tg a (iTup3 te) := pi3_tup ha
theorem hu3 {k : Nat} (hr : Room k X.A) : X.A.units + 1 < cLine := by have := hr.units; lia
end
theorem b3_len : bootBuiltins "len" = some (.builtin "len") := by decide +kernel
theorem b3_abs : bootBuiltins "abs" = some (.builtin "abs") := by decide +kernel
theorem b3_repr : bootBuiltins "repr" = some (.builtin "repr") := by decide +kernel
theorem b3_int : bootBuiltins "int" = some (.type "int") := by decide +kernel
theorem b3_list : bootBuiltins "list" = some (.type "list") := by decide +kernel
theorem b3_tuple : bootBuiltins "tuple" = some (.type "tuple") := by decide +kernel
structure FnAt (K : PySem.W.Frag) (mg : Str → Option Value) (x : Str) (st : Stmt) (ps : List Str) (f : Addr) (fd : FuncData) : Prop where
  fn : Fun K x x st f fd
  bd : Binds K fd ps []
  gl : mg x = some (.ref f)
theorem us0 {us : List Value} (h : us.length = 0) : us = [] := List.length_eq_zero_iff.mp h
theorem us1 {us : List Value} (h : us.length = 1) : ∃ a, us = [a] := by
  cases us with
  | nil => cases h
  | cons a r => exact ⟨a, by rw [us0 (Nat.succ.inj h)]⟩
theorem us2 {us : List Value} (h : us.length = 2) : ∃ a b, us = [a, b] := by
  cases us with
  | nil => cases h
  | cons a r => obtain ⟨b, e⟩ := us1 (Nat.succ.inj h); exact ⟨a, b, by rw [e]⟩
theorem us3 {us : List Value} (h : us.length = 3) : ∃ a b c, us = [a, b, c] := by
  cases us with
  | nil => cases h
  | cons a r => obtain ⟨b, c, e⟩ := us2 (Nat.succ.inj h); exact ⟨a, b, c, by rw [e]⟩
theorem us4 {us : List Value} (h : us.length = 4) : ∃ a b c d, us = [a, b, c, d] := by
  cases us with
  | nil => cases h
  | cons a r => obtain ⟨b, c, d, e⟩ := us3 (Nat.succ.inj h); exact ⟨a, b, c, d, by rw [e]⟩
theorem us5 {us : List Value} (h : us.length = 5) : ∃ a b c d f, us = [a, b, c, d, f] := by
  cases us with
  | nil => cases h
  | cons a r => obtain ⟨b, c, d, f, e⟩ := us4 (Nat.succ.inj h); exact ⟨a, b, c, d, f, by rw [e]⟩
theorem fnAt_mk {K : PySem.W.Frag} {h : Heap} {mg : Str → Option Value} {x : Str} {st : Stmt} {ps : List Str} {f : Addr} {oc : Value} {od an : Option Addr} {osl : Array (Option Value)} {kV doc pm cdv ct : Value} (X : K.In h) (G : h.Ns mainGlobals mg)
    (a : PySem.W.nsIn K mainGlobals x = some (some (.ref f))) (l : K.lookup f = some ⟨oc, od, .func (PySem.W.fnOf x x (defArgs st) (defBody st) (defScope st) .none kV doc pm an cdv ct), osl⟩)
    (c : PySem.W.codeIn K cdv x = true) (k : PySem.W.keepIn K (.ref f) = true)
    (hb : ∀ (kV doc pm : Value) (an : Option Addr) (cdv ct : Value) (us : List Value), us.length = ps.length → bindArgs (PySem.W.fnOf x x (defArgs st) (defBody st) (defScope st) .none kV doc pm an cdv ct) ⟨us, []⟩ = pure (ps.zip us)) :
    FnAt K mg x st ps f (PySem.W.fnOf x x (defArgs st) (defBody st) (defScope st) .none kV doc pm an cdv ct) :=
  ⟨fun_mk l c k, (fun_mk l c k).binds hb, PySem.W.mg_of X G a⟩
def spLaw3 : Sp3 := fun ds M Q => ∃ ns : List Int, ds = [.lst (ns.map D.int)] ∧ ns.length ≤ 63 ∧ (∀ a, M a = none) ∧ ∀ M', Q (.bl true) M'
theorem walk3 {l : PySem.W.OpenLaw} {q : Program} {loose : List Str} {XP : (Str → Option Value) → Heap → Prop} {YP : World → Heap → Prop} {d : DefRec} {K : Params → PySem.W.Frag} {k : Nat} {x : Str} (hn : l.most = some 63) (hdf : d.params.defaults = []) (hr : Room k callerA)
    (hY : ∀ (w : World) (h : Heap), YP w h → (K w.params).In h)
    (F : ∀ (w : World) (mg : Str → Option Value) (fa : Addr) (h : Heap), (K w.params).In h → h.Ns mainGlobals mg → mg d.name = some (.ref fa) →
      ∃ fd : FuncData, (∀ (s : Shared) (u : Value), BindsTo s fd ⟨[u], []⟩ [(x, u)]) ∧ ∀ base : Heap, (K w.params).In base → base.Ns mainGlobals mg → FnOk l.prog w (K w.params) mg base CX0 k fa fd [x] (dnSp (K w.params) spLaw3)) :
    PySem.W.WalkO q loose XP YP l.row.toRowW d [] (fun f vs => PySem.call f vs) :=
  L2.walk_of (n := 63) (k := k) (x := x) (CX := fun _ => CX0) (sp := fun w => dnSp (K w.params) spLaw3) hn (by decide) hdf hr hY F
    (fun w H a ns hl _ hS => ⟨[.lst (ns.map D.int)], fun _ => none, fun d _ => d = .bl true, .cons (.lst (hS.imp (fun z => ⟨z, rfl⟩) id) .ints) .nil, (fun _ _ z => nomatch z), ⟨ns, rfl, hl, fun _ => rfl, fun _ => rfl⟩,
      fun d v M' H' _ _ r e => by subst e; cases r; rfl⟩) fun _ _ _ _ _ z => z
def penO (ns : List Int) (a l : Int) : MO := .dct [(.inr "cells", .lst (ns.map D.int)), (.inr "at", .int a), (.inr "left", .int l)]
def Pen (M : Mem) (p : Addr) (b : Nat) : Prop := ∃ ns a l, M p = some (penO ns a l) ∧ ns.length ≤ 63 ∧ 0 ≤ a ∧ a ≤ (b : Int) ∧ 0 ≤ l
def Same3 (p : Addr) (M M' : Mem) : Prop := ∀ q, q ≠ p → M' q = M q
theorem Same3.refl {p : Addr} {M : Mem} : Same3 p M M := fun _ _ => rfl
theorem Same3.trans {p : Addr} {M M1 M2 : Mem} (a : Same3 p M M1) (b : Same3 p M1 M2) : Same3 p M M2 := fun q h => (b q h).trans (a q h)
def spPen : Sp3 := fun ds M Q => ∃ ns : List Int, ds = [.lst (ns.map D.int)] ∧ ns.length ≤ 63 ∧ ∀ p M', M p = none → Pen M' p 0 → Same3 p M M' → Q (.ref p) M'
def spDraw : Sp3 := fun ds M Q => ∃ p many b, ds = [.ref p, .int many] ∧ Pen M p b ∧ b < 2 ^ 30 ∧ 0 < many ∧ many < 2 ^ 200 ∧ ∀ n M', 0 ≤ n → n < many → Pen M' p (b + 1) → Same3 p M M' → Q (.int n) M'
end L3
namespace L3
open PySem PySem.Spec PyProof.Rows L2
def closN (c : Str → Addr) : List (Str × NameKind) → List (Str × Addr) → List (Str × Addr)
  | [], acc => acc
  | (n, k) :: r, acc => closN c r (if (k == .free) = true then (n, c n) :: acc else acc)
theorem closureFor_of {scope : Scope} {env : Env} {c : Str → Addr} (h : ∀ p ∈ scope.names, p.2 = .free → env.cells.lookup p.1 = some (c p.1)) : closureFor scope env = pure (closN c scope.names []) := by
  unfold closureFor
  have key : ∀ (l : List (Str × NameKind)) (acc : List (Str × Addr)), (∀ p ∈ l, p.2 = .free → env.cells.lookup p.1 = some (c p.1)) →
      (forIn l acc fun (x : Str × NameKind) (r : List (Str × Addr)) => match x with
        | (name, kind) => if (kind == NameKind.free) = true then do let y ← cellOf env name; pure (ForInStep.yield ((name, y) :: r)) else pure (ForInStep.yield r) : Sem (List (Str × Addr))) = pure (closN c l acc) := by
    intro l
    induction l with
    | nil => intro acc _; rfl
    | cons p l ih =>
      intro acc hp
      obtain ⟨n, k⟩ := p
      rw [List.forIn_cons]
      by_cases hk : (k == NameKind.free) = true
      · have hkf : k = .free := by simpa using hk
        have hc := hp (n, k) List.mem_cons_self hkf
        have e : cellOf env n = pure (c n) := by unfold cellOf; rw [show env.cells.lookup n = some (c n) from hc]
        simp only [hk, if_true, e]
        have := ih ((n, c n) :: acc) fun q hq => hp q (List.mem_cons_of_mem _ hq)
        unfold closN
        rw [if_pos hk, ← this]
        rfl
      · simp only [hk, if_false]
        have := ih acc fun q hq => hp q (List.mem_cons_of_mem _ hq)
        unfold closN
        rw [if_neg hk, ← this]
        rfl
  have k2 := key scope.names [] h
  first
    | exact k2
    | (refine Eq.trans ?_ k2; rfl)
    | (simp only [bind_pure]; exact k2)
theorem closN_acc (c : Str → Addr) : ∀ (l : List (Str × NameKind)) (acc : List (Str × Addr)) (p : Str × Addr), p ∈ closN c l acc → p ∈ acc ∨ (p.2 = c p.1 ∧ (p.1, NameKind.free) ∈ l)
  | [], acc, p, h => .inl h
  | (n, k) :: r, acc, p, h => by
    unfold closN at h
    rcases closN_acc c r _ p h with h | ⟨h1, h2⟩
    · by_cases hk : (k == NameKind.free) = true
      · rw [if_pos hk] at h
        rcases List.mem_cons.mp h with rfl | h
        · have hkf : k = .free := by simpa using hk
          exact .inr ⟨rfl, by rw [hkf]; exact List.mem_cons_self⟩
        · exact .inl h
      · rw [if_neg hk] at h; exact .inl h
    · exact .inr ⟨h1, List.mem_cons_of_mem _ h2⟩
theorem closN_has (c : Str → Addr) : ∀ (l : List (Str × NameKind)) (acc : List (Str × Addr)) (n : Str), ((n, NameKind.free) ∈ l ∨ (n, c n) ∈ acc) → (n, c n) ∈ closN c l acc
  | [], acc, n, h => by
    rcases h with h | h
    · exact absurd h (by simp)
    · exact h
  | (m, k) :: r, acc, n, h => by
    unfold closN
    refine closN_has c r _ n ?_
    rcases h with h | h
    · rcases List.mem_cons.mp h with e | h
      · cases e
        exact .inr (by rw [if_pos (by decide)]; exact List.mem_cons_self)
      · exact .inl h
    · by_cases hk : (k == NameKind.free) = true
      · rw [if_pos hk]; exact .inr (List.mem_cons_of_mem _ h)
      · rw [if_neg hk]; exact .inr h
theorem lookup_of_all {l : List (Str × Addr)} {c : Str → Addr} (h : ∀ p ∈ l, p.2 = c p.1) {n : Str} (hm : (n, c n) ∈ l) : l.lookup n = some (c n) := by
  induction l with
  | nil => exact absurd hm (by simp)
  | cons p r ih =>
    obtain ⟨m, a⟩ := p
    by_cases e : n = m
    · subst e
      have : a = c n := h (n, a) List.mem_cons_self
      simp [List.lookup_cons, this]
    · have e' : (n == m) = false := by simpa using e
      simp only [List.lookup_cons, e']
      refine ih (fun q hq => h q (List.mem_cons_of_mem _ hq)) ?_
      rcases List.mem_cons.mp hm with z | z
      · cases z; exact absurd rfl e
      · exact z
theorem closN_all (c : Str → Addr) (l : List (Str × NameKind)) : ∀ p ∈ closN c l [], p.2 = c p.1 := fun p hp => by
  rcases closN_acc c l [] p hp with h | h
  · exact absurd h (by simp)
  · exact h.1
theorem closN_lookup {c : Str → Addr} {l : List (Str × NameKind)} {n : Str} (h : (n, NameKind.free) ∈ l) : (closN c l []).lookup n = some (c n) :=
  lookup_of_all (closN_all c l) (closN_has c l [] n (.inl h))
theorem of_closN {c : Str → Addr} {l : List (Str × NameKind)} {n : Str} {a : Addr} (h : (closN c l []).lookup n = some a) : a = c n ∧ (n, NameKind.free) ∈ l := by
  have hm := PySem.mem_of_lookup h
  rcases closN_acc c l [] (n, a) hm with z | z
  · exact absurd z (by simp)
  · exact z
theorem comp_loop {prog : Program} {w : World} {A : Around} {R : Result → Shared → Prop} {s : Shared} {elt target iter : Expr} {ifs : List Expr} {scope : Scope} {pos : Pos} {it acc : Value} {env : Env} (I : Nat → Shared → Prop)
    (turn : ∀ n s, I n s → wpAny (model prog w) A (pyNext it) (fun r s₁ => match r with
      | none => R (.ok .next) s₁
      | some v => wpAny (model prog w) A (letOwnedTupleGo target it v) (fun _ s₁' => wpAny (model prog w) A (assign target env v) (fun _ s₂ =>
          wpAny (model prog w) A (forIn ifs true fun c r => if r = true then do let ok ← isTrue c env (eval c env); pure (ForInStep.yield ok) else pure (ForInStep.yield r)) (fun ok s₃ =>
            if ok = true then wpAny (model prog w) A (eval elt env) (fun x s₄ =>
              wpAny (model prog w) A (call (.builtin "list.append") [acc, x]) (fun _ s₅ => ∃ m, m < n ∧ I m s₅) (fun _ _ => False) s₄) (fun _ _ => False) s₃
            else ∃ m, m < n ∧ I m s₃) (fun _ _ => False) s₂) (fun _ _ => False) s₁') (fun _ _ => False) s₁) (fun _ _ => False) s)
    (n : Nat) (h : I n s) : codeAny (model prog w) A (.compLoop (.ListComp elt [⟨target, iter, ifs, 0⟩] scope pos) 0 it acc env) R s := by
  refine codeAny_loop rfl I (fun n s hI => ?_) n h
  show wpAny _ A ((compTurn (.ListComp elt [⟨target, iter, ifs, 0⟩] scope pos) 0 it acc env).onRaise (fun x => do noteFrame x env; theTreesLotGoes x)) _ _ s
  refine wpAny_noted ?_
  rw [compTurn_list]
  refine wpAny_bind (wpAny_standAt (wpAny_bind (wpAny_mono (turn n s hI) (fun r s₁ h₁ => ?_) fun _ _ h' => h'.elim)))
  cases r with
  | none => exact wpAny_pure h₁
  | some v =>
    refine wpAny_bind (wpAny_mono h₁ (fun _ s₁' h₁' => ?_) fun _ _ h' => h'.elim)
    refine wpAny_bind (wpAny_mono h₁' (fun _ s₂ h₂ => wpAny_bind (wpAny_mono h₂ (fun ok s₃ h₃ => ?_) fun _ _ h' => h'.elim)) fun _ _ h' => h'.elim)
    cases ok with
    | false => exact wpAny_pure ⟨rfl, h₃⟩
    | true =>
      exact wpAny_bind (wpAny_bind (wpAny_mono h₃ (fun x s₄ h₄ => wpAny_bind (wpAny_mono h₄ (fun _ s₅ h₅ => wpAny_pure (wpAny_pure ⟨rfl, h₅⟩)) fun _ _ h' => h'.elim)) fun _ _ h' => h'.elim))
def compCx (X : Cx) (scope : Scope) (cl : List (Str × Addr)) (s₀ : Shared) (H₀ : Hp) (ex : List Addr) (N' : List Str) : Cx :=
  { X with N := N', s₀ := s₀, H₀ := H₀, env := compEnvC scope cl s₀.heap.objs.size X.env, outer := X.stack, stack := X.stack, ex := ex, fn := fun _ => false, pn := [], xe := fun _ _ => False }
theorem relabel_free {scope : Scope} {env : Env} (hcell : ∀ y ∈ scope.names, y.2 ≠ .cell) {x : Str} (h : (relabel scope env).names.lookup x = some .cell ∨ (relabel scope env).names.lookup x = some .free) : (x, NameKind.free) ∈ scope.names := by
  have key : ∀ k', (k' = .cell ∨ k' = .free) → (relabel scope env).names.lookup x = some k' → (x, NameKind.free) ∈ scope.names := fun k' hk h => by
    have hm := PySem.mem_of_lookup h
    obtain ⟨⟨n, k⟩, hn, e⟩ := List.mem_map.mp hm
    by_cases hc : (k == NameKind.free && env.scope.kind == .function && env.kindOf n == some .cell) = true
    · dsimp only at e
      rw [if_pos hc] at e
      cases e
      have : k = .free := by
        simp only [Bool.and_eq_true] at hc
        simpa using hc.1.1
      rw [this] at hn; exact hn
    · dsimp only at e
      rw [if_neg hc] at e
      cases e
      rcases hk with rfl | rfl
      · exact absurd rfl (hcell _ hn)
      · exact hn
  rcases h with h | h
  · exact key _ (.inl rfl) h
  · exact key _ (.inr rfl) h
def PIfs (X : Cx) (ifs : List Expr) (t : TT3) : Prop :=
  ∀ (pins : List (Addr × Obj)) (s : Shared) (σv : L2.St) (H : Hp) (σ : Lo) (M : Mem) (Q : Bool → Mem → Prop), Inv X pins σv H s → SRel X.K M H σ σv → MRel X.K M H → t σ M Q →
    wpAny (model X.prog X.w) X.A (forIn ifs true fun c r => if r = true then do let ok ← isTrue c X.env (eval c X.env); pure (ForInStep.yield ok) else pure (ForInStep.yield r)) (TP3 X pins σv M H Q) X.xe s
def tTrue3 : TT3 := fun _ M Q => Q true M
theorem pifs_nil {X : Cx} : PIfs X [] tTrue3 := fun pins s σv H σ M Q I hS hM h => by
  rw [List.forIn_nil]
  exact wpAny_pure ⟨M, H, I, .refl, hM, h⟩
theorem pifs_one {X : Cx} {c : Expr} {t : TT3} (hc : PT3 X c t) : PIfs X [c] t := fun pins s σv H σ M Q I hS hM h => by
  rw [List.forIn_cons]
  simp only [if_true]
  refine wpAny_bind (wpAny_bind (thn (hc pins s σv H σ M Q I hS hM h) fun b s1 q => wpAny_pure ?_))
  show wpAny _ _ (forIn [] b _) _ _ _
  rw [List.forIn_nil]
  exact wpAny_pure q
abbrev TG3 := D → Lo → Mem → (Lo → Mem → Prop) → Prop
def dnG (K : PySem.W.Frag) (g : TG3) : TG := fun v σv H Q2 => ∃ d σ M Q, Rep K M H d v ∧ SRel K M H σ σv ∧ MRel K M H ∧ g d σ M Q ∧ ∀ σ' σv' M' H', Step M H M' H' → MRel K M' H' → SRel K M' H' σ' σv' → Q σ' M' → Q2 σv' H'
def PG3 (X : Cx) (tg : Expr) (g : TG3) : Prop := PG X tg (dnG X.K g)
theorem PG.weak {X : Cx} {tg : Expr} {g1 g2 : TG} (h : PG X tg g1) (hw : ∀ v σ H Q, g2 v σ H Q → g1 v σ H Q) : PG X tg g2 := fun pins s σ H v u Q I r q => h pins s σ H v u Q I r (hw _ _ _ _ q)
def gName3 (i : Nat) : TG3 := fun d σ M Q => Q (σ.set i (some d)) M
theorem pg3_name {X : Cx} {i : Nat} {x : Str} {pos : Pos} (hN : X.N.Nodup) (hi : X.N[i]? = some x) (hx : Loc X.env.scope x) (hf : X.fn x = true ∨ X.env.scope.names.lookup x = some .local := by first | exact .inl rfl | exact .inr rfl | assumption) : PG3 X (.Name x pos) (gName3 i) :=
  PG.weak (pg_name hN hi hx hf) fun v σv H Q2 ⟨d, σ, M, Q, r, hS, hM, h, k⟩ => k (σ.set i (some d)) _ M H .refl hM (hS.set r i) h
def setAll {α : Type} : List (Option α) → List Nat → List α → List (Option α)
  | σ, i :: is, x :: xs => setAll (σ.set i (some x)) is xs
  | σ, _, _ => σ
def gSet (is : List Nat) : TGs := fun vs σ H Q => vs.length = is.length ∧ Q (setAll σ is vs) H
theorem PGs.weak {X : Cx} {ts : List Expr} {g1 g2 : TGs} (h : PGs X ts g1) (hw : ∀ v σ H Q, g2 v σ H Q → g1 v σ H Q) : PGs X ts g2 := fun pins s σ H v u Q I r q => h pins s σ H v u Q I r (hw _ _ _ _ q)
theorem pgs3_nil {X : Cx} : PGs X [] (gSet []) := PGs.weak pgs_nil fun vs σ H Q hx0 => by
  obtain ⟨hl, q⟩ := hx0
  have e : vs = [] := List.length_eq_zero_iff.mp hl
  subst e
  exact ⟨rfl, q⟩
theorem pgs3_cons {X : Cx} {i : Nat} {is : List Nat} {x : Str} {pos : Pos} {es : List Expr} (hN : X.N.Nodup) (hi : X.N[i]? = some x) (hx : Loc X.env.scope x) (h2 : PGs X es (gSet is))
    (hf : X.fn x = true ∨ X.env.scope.names.lookup x = some .local := by first | exact .inl rfl | exact .inr rfl | assumption)
    (hs : (assignEach (.Name x pos :: es) X.env).map (·.2) = assign (.Name x pos) X.env :: (assignEach es X.env).map (·.2) := by rfl) : PGs X (.Name x pos :: es) (gSet (i :: is)) :=
  PGs.weak (pgs_cons (pg_name hN hi hx hf) h2 hs) fun vs σ H Q hx0 => by
    obtain ⟨hl, q⟩ := hx0
    cases vs with
    | nil => cases hl
    | cons v r => exact ⟨v, r, rfl, by simpa using hl, q⟩
theorem setAll_rel {K : PySem.W.Frag} {M : Mem} {H : Hp} : ∀ {is : List Nat} {ds : List D} {vs : List V} {σ : Lo} {σv : L2.St}, Reps K M H ds vs → SRel K M H σ σv → SRel K M H (setAll σ is ds) (setAll σv is vs)
  | [], ds, vs, σ, σv, r, hS => by cases ds <;> cases vs <;> exact hS
  | i :: is, _, _, σ, σv, .nil, hS => hS
  | i :: is, _, _, σ, σv, .cons a b, hS => setAll_rel (is := is) b (hS.set a i)
def gTup3 (is : List Nat) : TG3 := fun d σ M Q => ∃ ds, d = .tup ds ∧ ds.length = is.length ∧ Q (setAll σ is ds) M
theorem pg3_tup {X : Cx} {es : List Expr} {k : Nat} {pos : Pos} {is : List Nat} (hc : X.calm = true) (h : PGs X es (gSet is))
    (hn : (assignEach es X.env).length = is.length := by rfl) (hst : (assignEach es X.env).findIdx? (·.1) = none := by rfl) : PG3 X (.Tuple es k pos) (gTup3 is) :=
  PG.weak (pg_tup hc h hn hst) fun v σv H Q2 hx0 => by
    obtain ⟨d, σ, M, Q, r, hS, hM, ⟨ds, e, hl, q⟩, kk⟩ := hx0
    subst e
    cases r with
    | tup h1 rs => exact ⟨_, _, rfl, SqT.of3 h1, by rw [← rs.length]; exact hl, by rw [← rs.length]; exact hl, kk _ _ M H .refl hM (setAll_rel rs hS) q⟩
def tAsg3 (g : TG3) (te : TE3) : TS3 := fun T σ M => te σ M fun d M1 => g d σ M1 T.nx
theorem ps3_asg {X : Cx} {tg e : Expr} {te : TE3} {g : TG3} {pos : Pos} (he : PE3 X e te) (hg : PG3 X tg g) (hs : swapsWithSole [tg] e pos.line X.env = pure false := by rfl) (hw : swappedStores [tg] e X.env = pure none := by rfl)
    (h1 : (assignEach [tg] X.env).map (·.2) = [assign tg X.env] := by rfl) : PS3 X (.Assign [tg] e pos) (tAsg3 g te) := PS3.of (ps_asg he.dn hg hs hw h1) fun pins s σv H σ M T I hS hM h =>
  ⟨σ, M, _, hS, hM, h, fun d v M' H' st m r q => ⟨d, σ, M', _, r, hS.mono st, m, q, fun σ' σv' M2 H2 st2 m2 r2 q2 => ⟨σ', M2, st.trans st2, m2, r2, q2⟩⟩⟩
def tForG3 (ti : TI3) (g : TG3) (tb : TS3) : TS3 := fun T σ M => ti σ M fun ds M1 => ∃ Pv : Nat → Lo → Mem → Prop, Pv 0 σ M1 ∧
  (∀ k d σ M, ds[k]? = some d → Pv k σ M → g d σ M fun σ' M' => tb { T with nx := Pv (k + 1), ct := Pv (k + 1), bk := T.nx } σ' M') ∧ ∀ σ M, Pv ds.length σ M → T.nx σ M
theorem ps3_forG {X : Cx} {tg iter : Expr} {body : List Stmt} {ti : TI3} {g : TG3} {tb : TS3} {pos : Pos} (hp : PassesOwn (model X.prog X.w) X.A X.env X.xe) (hc : X.calm = true) (hi : PI3 X tg iter ti)
    (hg : PG3 X tg g) (hb : PSs3 X body tb) (hs : ∀ y, foldedSetIterable iter X.env y = pure y := by intro _; rfl) :
    PS3 X (.For tg iter body [] pos) (tForG3 ti g tb) := PS3.of (ps_for hp hc hi hg hb.dn hs) fun pins s σv H σ M T I hS hM h => by
  refine ⟨σ, M, _, hS, hM, h, fun ds J M1 H1 st1 m1 wk ⟨Pv, p0, turn, done⟩ => ?_⟩
  refine ⟨fun k m σv' H' => m = ds.length - k ∧ k ≤ ds.length ∧ ∃ σ' M', Step M1 H1 M' H' ∧ MRel X.K M' H' ∧ SRel X.K M' H' σ' σv' ∧ Pv k σ' M', ⟨_, rfl, Nat.zero_le _, σ, M1, .refl, m1, hS.mono st1, p0⟩, ?_⟩
  rintro k m σv' H' ⟨rfl, hk, σ', M', st', m', hS', pk⟩
  obtain ⟨go, yld, stop⟩ := wk M' H' st'
  by_cases hlt : k < ds.length
  · refine .inr ⟨go k hlt, fun σ2 H2 => ∃ σ'' M'', Step M1 H1 M'' H2 ∧ MRel X.K M'' H2 ∧ SRel X.K M'' H2 σ'' σ2 ∧ Pv (k + 1) σ'' M'', ?_, ?_⟩
    · rintro σ2 H2 ⟨σ'', M'', q⟩
      exact ⟨ds.length - (k + 1), by lia, rfl, hlt, σ'', M'', q⟩
    · intro y H'' hy
      obtain ⟨rfl, ry⟩ := yld k ds[k] y H'' (by simp [hlt]) hy
      refine ⟨ds[k], σ', M', _, ry, hS', m', turn k ds[k] σ' M' (by simp [hlt]) pk, fun σ9 v9 M9 H9 s9 m9 r9 q9 => ?_⟩
      refine ⟨σ9, M9, _, r9, m9, q9, ?_⟩
      have s8 := st'.trans s9
      exact ⟨fun σ2 v2 M2 H2 s2 m2 r2 q2 => ⟨σ2, M2, s8.trans s2, m2, r2, q2⟩, fun σ2 v2 M2 H2 s2 m2 r2 q2 => ⟨σ2, M2, (st1.trans s8).trans s2, m2, r2, q2⟩,
        fun σ2 v2 M2 H2 s2 m2 r2 q2 => ⟨σ2, M2, s8.trans s2, m2, r2, q2⟩, fun d v2 M2 H2 s2 m2 r2 q2 => ⟨d, M2, (st1.trans s8).trans s2, m2, r2, q2⟩⟩
  · have e : k = ds.length := by lia
    subst e
    exact .inl ⟨stop _ (Nat.le_refl _), σ', M', st1.trans st', m', hS', done σ' M' pk⟩
end L3
namespace L3
open PySem PySem.Spec PyProof.Rows L2
theorem lookup_mapk {f : Str × NameKind → Str × NameKind} (hf : ∀ p, (f p).1 = p.1) {x : Str} : ∀ {l : List (Str × NameKind)}, (l.map f).lookup x = (l.lookup x).map fun k => (f (x, k)).2
  | [] => rfl
  | (n, k) :: r => by
    have h1 := hf (n, k)
    rw [List.map_cons]
    generalize hq : f (n, k) = q at h1 ⊢
    obtain ⟨q1, q2⟩ := q
    cases h1
    rw [List.lookup_cons, List.lookup_cons]
    by_cases e : x = n
    · subst e
      simp [hq]
    · have e' : (x == n) = false := by simpa using e
      rw [e']
      exact lookup_mapk hf
theorem relabel_lookup {scope : Scope} {env : Env} {x : Str} : (relabel scope env).names.lookup x = (scope.names.lookup x).map fun k => if (k == NameKind.free && env.scope.kind == .function && env.kindOf x == some .cell) = true then NameKind.cell else k := by
  have := lookup_mapk (f := fun p => if (p.2 == NameKind.free && env.scope.kind == .function && env.kindOf p.1 == some .cell) = true then (p.1, NameKind.cell) else (p.1, p.2)) (fun p => by split <;> rfl) (x := x) (l := scope.names)
  refine this.trans ?_
  congr 1
  funext k
  split <;> rfl
theorem relabel_free' {scope : Scope} {env : Env} {x : Str} (h : scope.names.lookup x = some .free) : (relabel scope env).names.lookup x = some .cell ∨ (relabel scope env).names.lookup x = some .free := by
  rw [relabel_lookup, h, Option.map_some]
  split
  · exact .inl rfl
  · exact .inr rfl
def tComp3 (ti : TI3) (n : Nat) (slots : List Nat) (g : TG3) (tt : TT3) (te : TE3) : TE3 := fun σ M Q => ti σ M fun ds M1 => ∀ p, M1 p = none → ∃ Pv : Nat → List D → Mem → Prop, Pv 0 [] (mput M1 p (.lst [])) ∧
  (∀ k d acc M, ds[k]? = some d → Pv k acc M → g d (List.replicate n none ++ slots.map fun j => (σ[j]?).getD none) M fun σ' M0 => tt σ' M0 fun b M' =>
    if b = true then te σ' M' fun e M'' => M'' p = some (.lst acc) ∧ acc.length < sizeLine ∧ Pv (k + 1) (acc ++ [e]) (mput M'' p (.lst (acc ++ [e]))) else Pv (k + 1) acc M') ∧
  ∀ acc M, Pv ds.length acc M → M p = some (.lst acc) ∧ Q (.lst acc) (mdel M p)
def tCompM3 (ti : TI3) (n : Nat) (slots : List Nat) (g : TG3) (tt : TT3) (te : TE3) : TE3 := fun σ M Q => ti σ M fun ds M1 => ∀ p, M1 p = none → ∃ Pv : Nat → List D → Mem → Prop, Pv 0 [] (mput M1 p (.lst [])) ∧
  (∀ k d acc M, ds[k]? = some d → Pv k acc M → g d (List.replicate n none ++ slots.map fun j => (σ[j]?).getD none) M fun σ' M0 => tt σ' M0 fun b M' =>
    if b = true then te σ' M' fun e M'' => M'' p = some (.lst acc) ∧ acc.length < sizeLine ∧ Pv (k + 1) (acc ++ [e]) (mput M'' p (.lst (acc ++ [e]))) else Pv (k + 1) acc M') ∧
  ∀ acc M, Pv ds.length acc M → M p = some (.lst acc) ∧ Q (.ref p) M
def WkE (K : PySem.W.Frag) (J : It) (ds : List D) (M : Mem) (H : Hp) : Prop := ∀ M' H', Step M H M' H' → MRel K M' H' →
  (∀ i, i < ds.length → J.go i H') ∧ (∀ i d x H'', ds[i]? = some d → J.yld i H' x H'' → Step M' H' M' H'' ∧ MRel K M' H'' ∧ Rep K M' H'' d x) ∧ J.stop ds.length H'
def dnIE (K : PySem.W.Frag) (t : TI3) : TI := fun σv H R2 => ∃ σ M R, SRel K M H σ σv ∧ MRel K M H ∧ t σ M R ∧ ∀ ds J M' H', Step M H M' H' → MRel K M' H' → WkE K J ds M' H' → R ds M' → R2 J H'
def PI3E (X : Cx) (tg iter : Expr) (t : TI3) : Prop := PI X tg iter (dnIE X.K t)
theorem PI3.toE {X : Cx} {tg iter : Expr} {t : TI3} (h : PI3 X tg iter t) : PI3E X tg iter t := PI.weak h fun σv H R2 ⟨σ, M, R, hS, hM, ht, k⟩ => ⟨σ, M, R, hS, hM, ht, fun ds J M' H' st m wk => k ds J M' H' st m fun M2 H2 st2 m2 =>
  let ⟨go, yld, stop⟩ := wk M2 H2 st2
  ⟨go, fun i d x H'' e y => by obtain ⟨rfl, r⟩ := yld i d x H'' e y; exact ⟨.refl, m2, r⟩, stop _ (Nat.le_refl _)⟩⟩
def tCompF (ti : TI3) (n : Nat) (slots : List Nat) (g : TG3) (tt : TT3) (te : TE3) (F : Addr → List D → Mem → Prop) (σ : Lo) (M : Mem) : Prop := ti σ M fun ds M1 => ∀ p, M1 p = none → ∃ Pv : Nat → List D → Mem → Prop, Pv 0 [] (mput M1 p (.lst [])) ∧
  (∀ k d acc M, ds[k]? = some d → Pv k acc M → g d (List.replicate n none ++ slots.map fun j => (σ[j]?).getD none) M fun σ' M0 => tt σ' M0 fun b M' =>
    if b = true then te σ' M' fun e M'' => M'' p = some (.lst acc) ∧ acc.length < sizeLine ∧ Pv (k + 1) (acc ++ [e]) (mput M'' p (.lst (acc ++ [e]))) else Pv (k + 1) acc M') ∧
  ∀ acc M, Pv ds.length acc M → M p = some (.lst acc) ∧ F p acc M
set_option maxHeartbeats 2000000 in
theorem comp_core {X : Cx} {elt tg iter : Expr} {pos : Pos} {ifs : List Expr} {scope : Scope} {tns caps : List Str} {slots : List Nat} {ti : TI3} {g : TG3} {tt : TT3} {te : TE3}
    (hc : X.calm = true) (hi : PI3E X tg iter ti) (hkind : scope.kind = .function) (hcell : ∀ y ∈ scope.names, y.2 ≠ .cell)
    (hnames : ∀ y ∈ scope.names, y.2 = .local → scope.names.lookup y.1 = some .local)
    (hfree : ∀ y ∈ scope.names, y.2 = .free → X.env.kindOf y.1 = some .cell ∨ X.env.kindOf y.1 = some .free)
    (hcf : ∀ y ∈ caps, scope.names.lookup y = some .free) (hcaps : slots.map (fun j => X.N[j]?) = caps.map some)
    (hgk : ∀ d M Q (cs : Lo), g d (List.replicate tns.length none ++ cs) M Q → g d (List.replicate tns.length none ++ cs) M (fun σ' M' => σ'.drop tns.length = cs ∧ Q σ' M'))
    (hg : ∀ cl s₀ H₀ ex, PG3 (compCx X scope cl s₀ H₀ ex (tns ++ caps)) tg g)
    (ht : ∀ cl s₀ H₀ ex, PIfs (compCx X scope cl s₀ H₀ ex (tns ++ caps)) ifs tt) (he : ∀ cl s₀ H₀ ex, PE3 (compCx X scope cl s₀ H₀ ex (tns ++ caps)) elt te)
    (hs : ∀ y, foldedSetIterable iter X.env y = pure y)
    {use : Option (Value → Sem Unit)} {Post : Value → Shared → Prop} {pins : List (Addr × Obj)} {s : Shared} {σv : L2.St} {H : Hp} {σ : Lo} {M : Mem} {F : Addr → List L3.D → Mem → Prop} (I : Inv X pins σv H s) (hS : SRel X.K M H σ σv) (hM : MRel X.K M H) (h : tCompF ti tns.length slots g tt te F σ M)
    (fin : ∀ (D C : Addr) (acc : List L3.D) (H5 : Hp) (M5 : Mem) (s6 : Shared) (m : Str → Option Value), s6.heap.Ns C m → Inv X pins σv H5 s6 → H5 C = none → C ≠ X.env.locals → C ∉ X.fs → X.s₀.heap.objs.size ≤ C → (∀ x c, X.env.cells.lookup x = some c → c ≠ C) → (∀ p ∈ X.pn ++ pins, p.1 ≠ C) →
      Step M H M5 H5 → MRel X.K M5 H5 → M5 D = some (.lst acc) → F D acc M5 → compPost (model X.prog X.w) X.A X.xe use Post (.ref D) C (.ok .next) s6) :
    wpAny (model X.prog X.w) X.A (comprehension (.ListComp elt [⟨tg, iter, ifs, 0⟩] scope pos) scope X.env (firstIterPos [⟨tg, iter, ifs, 0⟩] pos) (newList []) false (firstIter [⟨tg, iter, ifs, 0⟩] X.env) use) Post X.xe s := by
  have hclos : closureFor scope X.env = pure (closN (fun n => (X.env.cells.lookup n).getD 0) scope.names []) := closureFor_of fun p hp hk => by
    obtain ⟨a, e⟩ := I.ok.has p.1 (hfree p hp hk)
    rw [e]; rfl
  have cellsOf : ∀ x c, (closN (fun n => (X.env.cells.lookup n).getD 0) scope.names []).lookup x = some c → X.env.cells.lookup x = some c := fun x c e => by
    obtain ⟨e1, e2⟩ := of_closN e
    obtain ⟨a, e3⟩ := I.ok.has x (hfree _ e2 rfl)
    rw [e3] at e1
    rw [e3, e1]; rfl
  have clHas : ∀ n, (n, NameKind.free) ∈ scope.names → ∃ c, (closN (fun n => (X.env.cells.lookup n).getD 0) scope.names []).lookup n = some c := fun n hn => ⟨_, closN_lookup hn⟩
  generalize closN (fun n => (X.env.cells.lookup n).getD 0) scope.names [] = cl at hclos cellsOf clHas
  refine wpAny_comprehension_free rfl hs hclos hkind hnames ?_
  refine thn (hi pins s σv H (fun J H2 => ∃ ds M1, Step M H M1 H2 ∧ MRel X.K M1 H2 ∧ WkE X.K J ds M1 H2 ∧ _) I ⟨σ, M, _, hS, hM, h, fun ds J M1 H1 st m wk q => ⟨ds, M1, st, m, wk, q⟩⟩) fun v s1 h1 => thn h1 fun itv s2 h2 => ?_
  obtain ⟨it, fp, tn, J, H2, e0, I2, T, st2, f2, ds, M1, stp, m1, wk, cont⟩ := h2
  subst e0
  refine wpAny_newObj_type ?_
  have I3 := I2.lnew (its := []) (ys := []) (t' := s2.toks) .nil (Nat.zero_le _)
  have hget : ∀ b o, s2.heap.get? b = some o → ({ s2 with heap := s2.heap.push { cls := .type "list", data := .seq #[] }, toks := s2.toks } : Shared).heap.get? b = some o := fun b o e => Heap.get?_push_of_some _ e
  have hsz : s2.heap.objs.size < ({ s2 with heap := s2.heap.push { cls := .type "list", data := .seq #[] }, toks := s2.toks } : Shared).heap.objs.size := Heap.lt_size (Heap.get?_push_size _ rfl)
  change wpAny _ _ _ _ _ ({ s2 with heap := s2.heap.push { cls := .type "list", data := .seq #[] }, toks := s2.toks } : Shared)
  change Inv X pins σv _ ({ s2 with heap := s2.heap.push { cls := .type "list", data := .seq #[] }, toks := s2.toks } : Shared) at I3
  have hos3 : ({ s2 with heap := s2.heap.push { cls := .type "list", data := .seq #[] }, toks := s2.toks } : Shared).os = s2.os := rfl
  generalize ({ s2 with heap := s2.heap.push { cls := .type "list", data := .seq #[] }, toks := s2.toks } : Shared) = s3 at I3 hget hsz hos3 ⊢
  refine wpAny_newFunctionEnv hcell (fun _ hx => absurd hx (by simp)) (fun h4 hns hsb => ?_) hkind
  have hDn : H2 s2.heap.objs.size = none := I2.fresh
  have hD : upd H2 s2.heap.objs.size (.lst []) s2.heap.objs.size = some (.lst []) := upd_same
  have fpne : ∀ b ∈ fp, b ≠ s2.heap.objs.size := fun b hb => by
    obtain ⟨o, e, _⟩ := T.obj _ _ st2 b hb
    exact Nat.ne_of_lt (Heap.lt_size e)
  generalize s2.heap.objs.size = D at hDn hD hsz I3 fpne ⊢
  have stD : Step M1 H2 (mput M1 D (.lst [])) (upd H2 D (.lst [])) := Step.put (.inl hDn)
  have mD : MRel X.K (mput M1 D (.lst [])) (upd H2 D (.lst [])) := m1.put (.inl hDn) .nil
  have k4 : ∀ b o, s3.heap.get? b = some o → h4.get? b = some o := fun b o e => (hsb.2 b (Nat.ne_of_lt (Heap.lt_size e))).trans (Heap.get?_push_of_some _ e)
  have fpold : ∀ b ∈ fp, b < s3.heap.objs.size := fun b hb => by
    obtain ⟨o, e, _⟩ := T.obj _ _ st2 b hb
    exact Heap.lt_size (hget b o e)
  have fpD : ∀ b ∈ fp, upd H2 D (.lst []) b = none := fun b hb => by
    rw [upd_ne (fpne b hb)]; exact (f2 b hb).1
  have xok : (compCx X scope cl s3 (upd H2 D (.lst [])) fp (tns ++ caps)).Ok := {
    mod := I.ok.mod
    kind := hkind
    glob := I.ok.glob
    blt := I.ok.blt
    above := Nat.le_refl _
    inj := fun x y c e1 e2 => I.ok.inj x y c (cellsOf x c e1) (cellsOf y c e2)
    has := fun x hx => clHas x (relabel_free hcell hx)
    cab := fun x c hf => by cases hf
    hd := I.ok.hd
    frames := I.ok.frames
    stk := .inl rfl
    exf := fun b hb => ⟨Nat.ne_of_lt (fpold b hb), fun x c e => (f2 b hb).2.2.2.2.1 x c (cellsOf x c e)⟩
    bs := I3.bs
    bsz := Nat.le_trans I3.ok.bsz I3.sz
    noex := fun b o e hb => by
      rcases (f2 b hb).2.2.2.1 with z | z
      · exact I.ok.noex b o e z
      · exact absurd (Nat.lt_of_lt_of_le (Heap.lt_size e) (Nat.le_trans I.ok.bsz z)) (Nat.lt_irrefl _)
    exfs := fun b hb z => by
      rcases List.mem_cons.mp (I2.stkSub b z) with z | z
      · exact (f2 b hb).2.1 z
      · exact (f2 b hb).2.2.1 z
    funs := I3.stack
    frf := I3.stkFree }
  have I4 : Inv (compCx X scope cl s3 (upd H2 D (.lst [])) fp (tns ++ caps)) [] (List.replicate tns.length none ++ slots.map fun j => (σv[j]?).getD none) (upd H2 D (.lst [])) { s3 with heap := h4, toks := s3.toks + ([] : List (Str × Value)).length } := {
    ok := xok
    os := rfl
    bare := I3.bare
    base := Un.kept k4
    loc := by
      refine ⟨_, hns, fun i x v e1 e2 vis => ?_⟩
      have hlen : caps.length = slots.length := by
        have := congrArg List.length hcaps
        simpa using this.symm
      have hi : tns.length ≤ i := by
        rcases Nat.lt_or_ge i tns.length with z | z
        · rw [List.getElem?_append_left (by simpa using z), List.getElem?_replicate] at e2
          split at e2 <;> cases e2
        · exact z
      change (tns ++ caps)[i]? = some x at e1
      rw [List.getElem?_append_right hi] at e1
      rw [List.getElem?_append_right (by simpa using hi), List.length_replicate, List.getElem?_map] at e2
      cases e3 : slots[i - tns.length]? with
      | none => rw [e3] at e2; cases e2
      | some j =>
        rw [e3, Option.map_some] at e2
        have e2' : (σv[j]?).getD none = some v := Option.some.inj e2
        have e5 : σv[j]? = some (some v) := by
          cases q : σv[j]? with
          | none => rw [q] at e2'; cases e2'
          | some z => rw [q] at e2'; simp only [Option.getD_some] at e2'; rw [e2']
        have e4 : X.N[j]? = some x := by
          have := congrArg (fun l => l[i - tns.length]?) hcaps
          simp only [List.getElem?_map, e3, e1, Option.map_some] at this
          exact Option.some.inj this
        have hxf := hcf x (List.mem_of_getElem? e1)
        have hk := hfree (x, .free) (PySem.mem_of_lookup hxf) rfl
        obtain ⟨m, hm, hl⟩ := I3.loc
        obtain ⟨u, ru, lk⟩ := hl j x v e4 e5 (hk.elim (fun z => .inr (.inl z)) fun z => .inr (.inr z))
        refine ⟨u, ru, .inr ⟨relabel_free' hxf, ?_⟩⟩
        rcases lk with ⟨z, _⟩ | ⟨_, c, ec, ic⟩
        · rcases hk with y | y <;> (rw [show X.env.kindOf x = _ from z] at y; cases y)
        · obtain ⟨c', ec'⟩ := clHas x (PySem.mem_of_lookup hxf)
          have := cellsOf x c' ec'
          rw [ec] at this
          cases this
          obtain ⟨o, ho, r⟩ := ic
          exact ⟨c, ec', o, k4 _ _ ho, r⟩
    cell := fun x c e => by
      obtain ⟨v, o, ho, r⟩ := I3.cell x c (cellsOf x c e)
      exact ⟨v, o, k4 _ _ ho, r⟩
    free := I3.fresh
    freeC := fun x c e => I3.freeC x c (cellsOf x c e)
    pin := fun p hp => absurd hp (by simp [compCx])
    hok := I3.hok.kept k4
    len := by
      have := congrArg List.length hcaps
      simp at this
      simp [compCx, this] }
  have hlen : caps.length = slots.length := by
    have := congrArg List.length hcaps
    simpa using this.symm
  have stat : ∀ {H' : Hp}, (∀ b ∈ fp, H' b = none) → ∀ b ∈ fp, FpOk (compCx X scope cl s3 (upd H2 D (.lst [])) fp (tns ++ caps)) [] H' b := fun hn b hb =>
    ⟨hn b hb, (xok.exf b hb).1, xok.exfs b hb, .inl hb, (xok.exf b hb).2, fun p hp => absurd hp (by simp [compCx])⟩
  have hMD : M1 D = none := m1.free hDn
  obtain ⟨Pv, p0, turn, done⟩ := cont D hMD
  have hS0 : SRel X.K (mput M1 D (.lst [])) (upd H2 D (.lst [])) (List.replicate tns.length none ++ slots.map fun j => (σ[j]?).getD none) (List.replicate tns.length none ++ slots.map fun j => (σv[j]?).getD none) := by
    refine ⟨by simp, fun i d e => ?_⟩
    rcases Nat.lt_or_ge i tns.length with z | z
    · rw [List.getElem?_append_left (by simpa using z), List.getElem?_replicate] at e
      split at e <;> cases e
    · rw [List.getElem?_append_right (by simpa using z), List.length_replicate, List.getElem?_map] at e ⊢
      cases e3 : slots[i - tns.length]? with
      | none => rw [e3] at e; cases e
      | some j =>
        rw [e3, Option.map_some] at e
        have e2' : (σ[j]?).getD none = some d := Option.some.inj e
        have e5 : σ[j]? = some (some d) := by
          cases q : σ[j]? with
          | none => rw [q] at e2'; cases e2'
          | some z => rw [q] at e2'; simp only [Option.getD_some] at e2'; rw [e2']
        obtain ⟨v, ev, rv⟩ := hS.get j d e5
        exact ⟨v, by rw [Option.map_some, ev]; rfl, rv.mono (stp.trans stD)⟩
  generalize hcs : (slots.map fun j => (σ[j]?).getD none) = cs at turn hS0
  have hcsl : cs.length = caps.length := by rw [← hcs, hlen]; simp
  have loop : codeAny (model X.prog X.w) X.A (.compLoop (.ListComp elt [⟨tg, iter, ifs, 0⟩] scope pos) 0 (.ref it) (.ref D) (compEnvC scope cl s3.heap.objs.size X.env)) (compPost (model X.prog X.w) X.A X.xe use Post (.ref D) s3.heap.objs.size) { s3 with heap := h4, toks := s3.toks + ([] : List (Str × Value)).length } := by
    refine comp_loop (fun n s' => ∃ k acc σv' H' M', n = ds.length - k ∧ k ≤ ds.length ∧ Inv (compCx X scope cl s3 (upd H2 D (.lst [])) fp (tns ++ caps)) [] σv' H' s' ∧ tn k s'.heap ∧ (∀ b ∈ fp, H' b = none) ∧
      Step (mput M1 D (.lst [])) (upd H2 D (.lst [])) M' H' ∧ MRel X.K M' H' ∧ SRel X.K M' H' (List.replicate tns.length none ++ cs) σv' ∧ Pv k acc M') ?_ _ ⟨0, [], _, _, _, rfl, Nat.zero_le _, I4, T.keep _ _ _ st2 fun b hb o e => k4 _ _ (hget _ _ e), fpD, .refl, mD, hS0, p0⟩
    rintro n s5 ⟨k, acc, σv5, H5, M5, rfl, hk, I5, tn5, fr5, st5, m5, hS5, pk⟩
    obtain ⟨go, yld, stop⟩ := wk M5 H5 (stD.trans st5) m5
    by_cases hlt : k < ds.length
    · refine thn (T.item (compCx X scope cl s3 (upd H2 D (.lst [])) fp (tns ++ caps)) rfl rfl rfl hc k [] s5 σv5 H5 (fun _ _ => False) I5 (stat fr5) tn5 (go k hlt)) fun r s6 hx0 => ?_
      obtain ⟨u, hr, h6⟩ := hx0
      subst hr
      refine thn h6 fun _ s7 hx0 => ?_
      obtain ⟨x, H7, I7, r7, y7, tn7, fr7⟩ := hx0
      obtain ⟨sy, my, ry⟩ := yld k ds[k] x H7 (by simp [hlt]) y7
      have I7' := I7.pinned (stat fr7) (T.obj _ _ tn7)
      refine thn (hg cl s3 (upd H2 D (.lst [])) fp _ s7 σv5 _ x u (fun σv' H' => ∃ σ' M', Step M5 H7 M' H' ∧ MRel X.K M' H' ∧ SRel X.K M' H' σ' σv' ∧ _) I7' r7 ⟨ds[k], _, M5, _, ry, hS5.mono sy, my, hgk _ _ _ _ (turn k ds[k] acc M5 (by simp [hlt]) pk), fun σ' σv' M' H' st m r q => ⟨σ', M', st, m, r, q⟩⟩) fun _ s8 hx0 => ?_
      obtain ⟨σ8, H8, I8, σ', M8, st8, m8, hS8, hdr, q8⟩ := hx0
      have again : ∀ (sF : Shared) (HF : Hp) (MF : Mem) (accF : List L3.D), Inv (compCx X scope cl s3 (upd H2 D (.lst [])) fp (tns ++ caps)) ([] ++ pinsAt fp s7.heap) σ8 HF sF → Step M8 H8 MF HF → MRel X.K MF HF → Pv (k + 1) accF MF →
          ∃ m, m < ds.length - k ∧ ∃ k acc σv' H' M', m = ds.length - k ∧ k ≤ ds.length ∧ Inv (compCx X scope cl s3 (upd H2 D (.lst [])) fp (tns ++ caps)) [] σv' H' sF ∧ tn k sF.heap ∧ (∀ b ∈ fp, H' b = none) ∧
            Step (mput M1 D (.lst [])) (upd H2 D (.lst [])) M' H' ∧ MRel X.K M' H' ∧ SRel X.K M' H' (List.replicate tns.length none ++ cs) σv' ∧ Pv k acc M' := by
        intro sF HF MF accF IF stF mF pF
        refine ⟨ds.length - (k + 1), by lia, k + 1, accF, σ8, HF, MF, rfl, hlt, IF.unpinned, T.keep _ _ _ tn7 fun b hb o e => (IF.pin (b, o) (List.mem_append_right _ (List.mem_append_right _ (mem_pinsAt hb e)))).1, fun b hb => ?_, ((st5.trans sy).trans st8).trans stF, mF, ?_, pF⟩
        · obtain ⟨o, e, d⟩ := T.obj _ _ tn7 b hb
          exact (IF.pin (b, o) (List.mem_append_right _ (List.mem_append_right _ (mem_pinsAt hb e)))).2.1
        · refine SRel.mono stF ⟨?_, fun i d e => ?_⟩
          · have := I8.len
            rw [this, List.length_append, List.length_replicate, hcsl]
            simp [compCx]
          · rcases Nat.lt_or_ge i tns.length with z | z
            · rw [List.getElem?_append_left (by simpa using z), List.getElem?_replicate] at e
              split at e <;> cases e
            · rw [List.getElem?_append_right (by simpa using z), List.length_replicate, ← hdr, List.getElem?_drop] at e
              have : tns.length + (i - tns.length) = i := by lia
              rw [this] at e
              exact hS8.get i d e
      refine thn (ht cl s3 (upd H2 D (.lst [])) fp _ s8 σ8 H8 σ' M8 _ I8 hS8 m8 q8) fun ok s9 hx0 => ?_
      obtain ⟨M9, H9, I9, st9, m9, q9⟩ := hx0
      cases ok with
      | false => exact again s9 H9 M9 acc I9 st9 m9 q9
      | true =>
        refine thn (he cl s3 (upd H2 D (.lst [])) fp _ s9 σ8 H9 σ' M9 _ I9 (hS8.mono st9) m9 q9) fun xv s10 hx0 => ?_
        obtain ⟨e, v, M10, H10, I10, st10, m10, r10, rep10, hMp, hlt2, q10⟩ := hx0
        obtain ⟨ho, hHo, rO⟩ := m10 D _ hMp
        cases ho <;> first | exact (rO : False).elim | skip
        rename_i vs
        have rO' : Reps X.K M10 H10 acc vs := rO
        refine thn (mt_append _ s10 σ8 H10 (.ref D) [v] (.ref D) [xv] (fun w H' => H' = upd H10 D (.lst (vs ++ [v]))) I10 rfl (.cons r10 .nil) ⟨D, vs, v, rfl, rfl, hHo, by rw [← rO'.length]; exact hlt2, rfl⟩) fun _ s11 hx0 => ?_
        obtain ⟨w, H11, I11, _, e11⟩ := hx0
        subst e11
        exact again s11 _ _ _ I11 (st9.trans (st10.trans (Step.put (.inr (by rw [hMp]; simp))))) (m10.put (.inr (by rw [hMp]; simp)) (o := .lst (acc ++ [e])) (Reps.append rO' (.cons rep10 .nil))) q10
    · have e : k = ds.length := by lia
      subst e
      refine thn (T.done (compCx X scope cl s3 (upd H2 D (.lst [])) fp (tns ++ caps)) rfl rfl rfl hc _ [] s5 σv5 H5 (fun _ _ => False) I5 (stat fr5) tn5 stop) fun r s6 hx0 => ?_
      obtain ⟨hr, I6⟩ := hx0
      subst hr
      obtain ⟨m, hn, _⟩ := I6.loc
      obtain ⟨hp, hq⟩ := done acc M5 pk
      refine fin D s3.heap.objs.size acc H5 M5 s6 m hn (I3.call' (ch := fp) I6.os I6.base I6.hok I6.bare (fun b hb => ⟨(f2 b hb).2.2.2.1, (f2 b hb).2.1, (f2 b hb).2.2.2.2.1, (f2 b hb).2.2.2.2.2⟩)) I6.free (Nat.ne_of_gt I3.lt) (I3.nofs (Nat.le_refl _)) I3.sz (fun x c e z => ?_) (fun p hp z => absurd (Heap.lt_size (I3.pin p hp).1) (by rw [z]; exact Nat.lt_irrefl _)) ((stp.trans stD).trans st5) m5 hp hq
      obtain ⟨v, q⟩ := I3.cell x c e
      exact absurd q.lt (by rw [z]; exact Nat.lt_irrefl _)
  exact codeAny_compStart_list loop (T.self _ _ _ _ _ (T.keep _ _ _ st2 fun b hb o e => k4 _ _ (hget _ _ e)) loop)
theorem pe3_compME {X : Cx} {elt tg iter : Expr} {pos : Pos} {ifs : List Expr} {scope : Scope} {tns caps : List Str} {slots : List Nat} {ti : TI3} {g : TG3} {tt : TT3} {te : TE3}
    (hc : X.calm = true) (hi : PI3E X tg iter ti) (hkind : scope.kind = .function) (hcell : ∀ y ∈ scope.names, y.2 ≠ .cell)
    (hnames : ∀ y ∈ scope.names, y.2 = .local → scope.names.lookup y.1 = some .local)
    (hfree : ∀ y ∈ scope.names, y.2 = .free → X.env.kindOf y.1 = some .cell ∨ X.env.kindOf y.1 = some .free)
    (hcf : ∀ y ∈ caps, scope.names.lookup y = some .free) (hcaps : slots.map (fun j => X.N[j]?) = caps.map some)
    (hgk : ∀ d M Q (cs : Lo), g d (List.replicate tns.length none ++ cs) M Q → g d (List.replicate tns.length none ++ cs) M (fun σ' M' => σ'.drop tns.length = cs ∧ Q σ' M'))
    (hg : ∀ cl s₀ H₀ ex, PG3 (compCx X scope cl s₀ H₀ ex (tns ++ caps)) tg g)
    (ht : ∀ cl s₀ H₀ ex, PIfs (compCx X scope cl s₀ H₀ ex (tns ++ caps)) ifs tt) (he : ∀ cl s₀ H₀ ex, PE3 (compCx X scope cl s₀ H₀ ex (tns ++ caps)) elt te)
    (hs : ∀ y, foldedSetIterable iter X.env y = pure y := by intro _; rfl) :
    PE3 X (.ListComp elt [⟨tg, iter, ifs, 0⟩] scope pos) (tCompM3 ti tns.length slots g tt te) := by
  intro pins s σv H σ M Q I hS hM h
  rw [eval_ListComp]
  refine comp_core hc hi hkind hcell hnames hfree hcf hcaps hgk hg ht he hs (use := none) (F := fun p _ M => Q (.ref p) M) I hS hM h fun D C acc H5 M5 s6 m hn I7 c1 c2 c3 c4 c5 c6 st m5 hp hq => ?_
  exact ⟨m, hn, fun h' sb => ⟨.ref D, .ref D, M5, H5, I7.turned (t' := s6.toks) (it := C) (fun b o hb e => (sb.2 b hb).trans e) c1 c2 (.inr c4) c5 c6, st, m5, rfl, .ref, hq⟩⟩
theorem pe3_compM0 {X : Cx} {elt tg iter : Expr} {pos : Pos} {ifs : List Expr} {scope : Scope} {tns caps : List Str} {slots : List Nat} {ti : TI3} {g : TG3} {tt : TT3} {te : TE3}
    (hc : X.calm = true) (hi : PI3 X tg iter ti) (hkind : scope.kind = .function) (hcell : ∀ y ∈ scope.names, y.2 ≠ .cell)
    (hnames : ∀ y ∈ scope.names, y.2 = .local → scope.names.lookup y.1 = some .local)
    (hfree : ∀ y ∈ scope.names, y.2 = .free → X.env.kindOf y.1 = some .cell ∨ X.env.kindOf y.1 = some .free)
    (hcf : ∀ y ∈ caps, scope.names.lookup y = some .free) (hcaps : slots.map (fun j => X.N[j]?) = caps.map some)
    (hgk : ∀ d M Q (cs : Lo), g d (List.replicate tns.length none ++ cs) M Q → g d (List.replicate tns.length none ++ cs) M (fun σ' M' => σ'.drop tns.length = cs ∧ Q σ' M'))
    (hg : ∀ cl s₀ H₀ ex, PG3 (compCx X scope cl s₀ H₀ ex (tns ++ caps)) tg g)
    (ht : ∀ cl s₀ H₀ ex, PIfs (compCx X scope cl s₀ H₀ ex (tns ++ caps)) ifs tt) (he : ∀ cl s₀ H₀ ex, PE3 (compCx X scope cl s₀ H₀ ex (tns ++ caps)) elt te)
    (hs : ∀ y, foldedSetIterable iter X.env y = pure y := by intro _; rfl) :
    PE3 X (.ListComp elt [⟨tg, iter, ifs, 0⟩] scope pos) (tCompM3 ti tns.length slots g tt te) := pe3_compME hc hi.toE hkind hcell hnames hfree hcf hcaps hgk hg ht he hs
theorem pe3_compE {X : Cx} {elt tg iter : Expr} {pos : Pos} {ifs : List Expr} {scope : Scope} {tns caps : List Str} {slots : List Nat} {ti : TI3} {g : TG3} {tt : TT3} {te : TE3}
    (hc : X.calm = true) (hi : PI3E X tg iter ti) (hkind : scope.kind = .function) (hcell : ∀ y ∈ scope.names, y.2 ≠ .cell)
    (hnames : ∀ y ∈ scope.names, y.2 = .local → scope.names.lookup y.1 = some .local)
    (hfree : ∀ y ∈ scope.names, y.2 = .free → X.env.kindOf y.1 = some .cell ∨ X.env.kindOf y.1 = some .free)
    (hcf : ∀ y ∈ caps, scope.names.lookup y = some .free) (hcaps : slots.map (fun j => X.N[j]?) = caps.map some)
    (hgk : ∀ d M Q (cs : Lo), g d (List.replicate tns.length none ++ cs) M Q → g d (List.replicate tns.length none ++ cs) M (fun σ' M' => σ'.drop tns.length = cs ∧ Q σ' M'))
    (hg : ∀ cl s₀ H₀ ex, PG3 (compCx X scope cl s₀ H₀ ex (tns ++ caps)) tg g)
    (ht : ∀ cl s₀ H₀ ex, PIfs (compCx X scope cl s₀ H₀ ex (tns ++ caps)) ifs tt) (he : ∀ cl s₀ H₀ ex, PE3 (compCx X scope cl s₀ H₀ ex (tns ++ caps)) elt te)
    (hs : ∀ y, foldedSetIterable iter X.env y = pure y := by intro _; rfl) :
    PE3 X (.ListComp elt [⟨tg, iter, ifs, 0⟩] scope pos) (tComp3 ti tns.length slots g tt te) := by
  intro pins s σv H σ M Q I hS hM h
  rw [eval_ListComp]
  refine comp_core hc hi hkind hcell hnames hfree hcf hcaps hgk hg ht he hs (use := none) (F := fun p acc M => Q (.lst acc) (mdel M p)) I hS hM h fun D C acc H5 M5 s6 m hn I7 c1 c2 c3 c4 c5 c6 st m5 hp hq => ?_
  obtain ⟨mF, rF, sF⟩ := Vs.frzL hp X.K H5 (.ref D) m5 .ref
  exact ⟨m, hn, fun h' sb => ⟨.lst acc, .ref D, mdel M5 D, H5, I7.turned (t' := s6.toks) (it := C) (fun b o hb e => (sb.2 b hb).trans e) c1 c2 (.inr c4) c5 c6, st.less sF, mF, rfl, rF, hq⟩⟩
theorem pe3_comp {X : Cx} {elt tg iter : Expr} {pos : Pos} {ifs : List Expr} {scope : Scope} {tns caps : List Str} {slots : List Nat} {ti : TI3} {g : TG3} {tt : TT3} {te : TE3}
    (hc : X.calm = true) (hi : PI3 X tg iter ti) (hkind : scope.kind = .function) (hcell : ∀ y ∈ scope.names, y.2 ≠ .cell)
    (hnames : ∀ y ∈ scope.names, y.2 = .local → scope.names.lookup y.1 = some .local)
    (hfree : ∀ y ∈ scope.names, y.2 = .free → X.env.kindOf y.1 = some .cell ∨ X.env.kindOf y.1 = some .free)
    (hcf : ∀ y ∈ caps, scope.names.lookup y = some .free) (hcaps : slots.map (fun j => X.N[j]?) = caps.map some)
    (hgk : ∀ d M Q (cs : Lo), g d (List.replicate tns.length none ++ cs) M Q → g d (List.replicate tns.length none ++ cs) M (fun σ' M' => σ'.drop tns.length = cs ∧ Q σ' M'))
    (hg : ∀ cl s₀ H₀ ex, PG3 (compCx X scope cl s₀ H₀ ex (tns ++ caps)) tg g)
    (ht : ∀ cl s₀ H₀ ex, PIfs (compCx X scope cl s₀ H₀ ex (tns ++ caps)) ifs tt) (he : ∀ cl s₀ H₀ ex, PE3 (compCx X scope cl s₀ H₀ ex (tns ++ caps)) elt te)
    (hs : ∀ y, foldedSetIterable iter X.env y = pure y := by intro _; rfl) :
    PE3 X (.ListComp elt [⟨tg, iter, ifs, 0⟩] scope pos) (tComp3 ti tns.length slots g tt te) := pe3_compE hc hi.toE hkind hcell hnames hfree hcf hcaps hgk hg ht he hs
end L3
namespace L3
open PySem PySem.Spec PyProof.Rows L2
theorem draw_list {prog : Program} {w : World} {A : Around} {E : Value → Shared → Prop} {it l : Addr} : ∀ {n : Nat} {s : Shared} {items : Array Value} {i : Nat} {Q : List Value → Shared → Prop}, s.heap.IsListIter it l i → s.heap.IsList l items → it ≠ l → i + n ≤ items.size →
    (∀ h', h'.IsListIter it l (i + n) → Heap.SameBut it s.heap h' → Q ((items.toList.drop i).take n) { s with heap := h' }) → wpAny (model prog w) A (PySem.draw (.ref it) n) Q E s
  | 0, s, items, i, Q, hi, hl, hne, hn, k => by
    unfold PySem.draw
    exact wpAny_pure (by simpa using k s.heap hi ⟨rfl, fun _ _ => rfl⟩)
  | n + 1, s, items, i, Q, hi, hl, hne, hn, k => by
    have hlt : i < items.size := by lia
    unfold PySem.draw
    refine wpAny_bind (wpAny_pyNext_list_item hi hl (x := items[i]) (by simp [hlt]) fun h' hi' sb => ?_)
    have hl' : h'.IsList l items := by
      obtain ⟨o, ho, r⟩ := hl
      exact ⟨o, (sb.2 l (Ne.symm hne)).trans ho, r⟩
    refine wpAny_bind (wpAny_holding (draw_list (n := n) (s := { s with heap := h' }) (i := i + 1) hi' hl' hne (by lia) fun h2 hi2 sb2 => wpAny_pure ?_))
    have e : items.toList.drop i = items[i] :: items.toList.drop (i + 1) := by
      rw [List.drop_eq_getElem_cons (by simpa using hlt)]
      simp
    have := k h2 (by rw [show i + (n + 1) = i + 1 + n by lia]; exact hi2) ⟨sb2.1.trans sb.1, fun b hb => (sb2.2 b hb).trans (sb.2 b hb)⟩
    rw [e, List.take_succ_cons] at this
    exact this
theorem unpack_list {prog : Program} {w : World} {A : Around} {E : Value → Shared → Prop} {s : Shared} {l : Addr} {items : Array Value} {targets : List (Bool × (Value → Sem Unit))} {Q : Unit → Shared → Prop} (ha : A.handled = none) (hl : s.heap.IsList l items)
    (hn : targets.length = items.size) (hst : targets.findIdx? (·.1) = none)
    (k : ∀ h', Heap.ExtBut s.heap.objs.size s.heap h' → wpAny (model prog w) A (assignInOrder (targets.map (·.2)) items.toList) Q E { s with heap := h' }) : wpAny (model prog w) A (PySem.unpack (.ref l) targets) Q E s := by
  obtain ⟨o, ho, hc, n, hd⟩ := id hl
  have hlt := Heap.lt_size ho
  unfold PySem.unpack
  rw [hst]
  refine wpAny_bind (wpAny_holding ?_)
  unfold PySem.unpackItems
  refine wpAny_bind ?_
  unfold PySem.notIterableAtAll
  refine wpAny_bind (wpAny_specialOf (T := "list") ⟨o, ho, hc⟩ (F.slot_list_iter).1 ?_)
  refine wpAny_pure ?_
  refine wpAny_bind (wpAny_holding (wpAny_pyIter_list hl ?_))
  refine wpAny_bind (wpAny_holding (draw_list (i := 0) (l := l) (items := items) ⟨_, Heap.get?_push_size _ rfl, rfl, rfl⟩ ⟨o, Heap.get?_push_of_some _ ho, hc, n, hd⟩ (Nat.ne_of_gt hlt) (by lia) fun h' hi' sb => ?_))
  have e : (items.toList.drop 0).take targets.length = items.toList := by rw [List.drop_zero, List.take_of_length_le (by simp [hn])]
  rw [e]
  have hlen : ¬ items.toList.length < targets.length := by simp [hn]
  simp only [hlen, if_false]
  have hl' : h'.IsList l items := ⟨o, (sb.2 l (Nat.ne_of_lt hlt)).trans (Heap.get?_push_of_some _ ho), hc, n, hd⟩
  refine wpAny_bind (wpAny_holding (wpAny_pyNext_list_end ha hi' hl' (by simp [hn]) fun h2 eb => ?_))
  refine wpAny_pure (k h2 fun b ob hb hob => eb b ob hb ((sb.2 b hb).trans (Heap.get?_push_of_some _ hob)))
def gLst3 (is : List Nat) : TG3 := fun d σ M Q => ∃ ds, d = .lst ds ∧ ds.length = is.length ∧ Q (setAll σ is ds) M
theorem pg3_lst {X : Cx} {es : List Expr} {k : Nat} {pos : Pos} {is : List Nat} (hc : X.calm = true) (h : PGs X es (gSet is))
    (hn : (assignEach es X.env).length = is.length := by rfl) (hst : (assignEach es X.env).findIdx? (·.1) = none := by rfl) : PG3 X (.Tuple es k pos) (gLst3 is) := by
  rintro pins s σv H v u Q2 I r ⟨d, σ, M, Q, rep, hS, hM, ⟨ds, e, hl, q⟩, kk⟩
  subst e
  cases rep with
  | lst h1 rs =>
    cases r
    obtain ⟨its, rv, pl, hz⟩ := I.list (SqL.of3 h1)
    rw [assign_Tuple]
    refine wpAny_bind (wpAny_standAt (unpack_list (I.ok.hd hc) pl.isList (by rw [hn, ← hl, rs.length, rv.length]; simp) hst fun h' hx => ?_))
    have I1 : Inv X pins σv H { s with heap := h' } := I.kept (t' := s.toks) fun b o e => hx b o (Nat.ne_of_lt (Heap.lt_size e)) e
    exact h pins _ σv H _ _ Q2 I1 (by simpa using rv) ⟨by rw [← rs.length]; exact hl, kk _ _ M H .refl hM (setAll_rel rs hS) q⟩
theorem setAll_drop {α : Type} {n : Nat} : ∀ {is : List Nat} {σ : List (Option α)} {xs : List α}, (∀ i ∈ is, i < n) → (setAll σ is xs).drop n = σ.drop n
  | [], σ, xs, _ => by cases xs <;> rfl
  | i :: is, σ, [], _ => rfl
  | i :: is, σ, x :: xs, h => by
    show (setAll (σ.set i (some x)) is xs).drop n = σ.drop n
    rw [setAll_drop fun j hj => h j (List.mem_cons_of_mem _ hj), List.drop_set_of_lt (h i List.mem_cons_self)]
theorem gk_name {i n : Nat} (hi : i < n) (d : D) (M : Mem) (Q : Lo → Mem → Prop) (cs : Lo) (h : gName3 i d (List.replicate n none ++ cs) M Q) : gName3 i d (List.replicate n none ++ cs) M (fun σ' M' => σ'.drop n = cs ∧ Q σ' M') := by
  refine ⟨?_, h⟩
  rw [List.drop_set_of_lt hi, List.drop_left' (by simp)]
theorem gk_tup {n : Nat} {is : List Nat} (hi : ∀ i ∈ is, i < n) (d : D) (M : Mem) (Q : Lo → Mem → Prop) (cs : Lo) (h : gTup3 is d (List.replicate n none ++ cs) M Q) : gTup3 is d (List.replicate n none ++ cs) M (fun σ' M' => σ'.drop n = cs ∧ Q σ' M') := by
  obtain ⟨ds, e, hl, q⟩ := h
  refine ⟨ds, e, hl, ?_, q⟩
  rw [setAll_drop hi, List.drop_left' (by simp)]
abbrev M3 := D → List D → Mem → DK → Prop
def MtR3 (X : Cx) (id : String) (r : M3) : Prop :=
  ∀ (pins : List (Addr × Obj)) (s : Shared) (σv : L2.St) (H : Hp) (M : Mem) (x : D) (xs : List D) (xv : V) (xvs : List V) (v : Value) (us : List Value) (Q : DK), Inv X pins σv H s → MRel X.K M H → RelV xv v → Vals xvs us → Rep X.K M H x xv → Reps X.K M H xs xvs → r x xs M Q →
    wpAny (model X.prog X.w) X.A (call (.builtin id) (v :: us)) (EP3 X pins σv M H Q) X.xe s
def tyD (T : String) (M : Mem) : D → Prop
  | .str _ => T = "str"
  | .lst _ => T = "list"
  | .ref a => (T = "list" ∧ ∃ ds, M a = some (.lst ds)) ∨ (T = "dict" ∧ ∃ ds, M a = some (.dct ds))
  | _ => False
theorem tyD_V {X : Cx} {T : String} {M : Mem} {H : Hp} {d : D} {v : V} (m : MRel X.K M H) (r : Rep X.K M H d v) (h : tyD T M d) : tyV X.K T v H := by
  cases r with
  | str => exact h
  | lst h1 _ => exact .inl ⟨h, _, SqL.of3 h1⟩
  | ref =>
    rcases h with ⟨rfl, ds, e⟩ | ⟨rfl, ds, e⟩
    · obtain ⟨ho, e1, r⟩ := m _ _ e
      cases ho <;> first | exact (r : False).elim | skip
      exact .inl ⟨rfl, _, .inl (.inl e1)⟩
    · obtain ⟨ho, e1, r⟩ := m _ _ e
      cases ho <;> first | exact (r : False).elim | skip
      exact .inr (.inr (.inl ⟨rfl, .inl ⟨_, e1⟩⟩))
  | dct h1 _ => exact h.elim
  | _ => exact h.elim
def tBM3 (T : String) (r : M3) (to : TE3) (t : TA3) : TE3 := fun σ M Q => to σ M fun x M1 => tyD T M1 x ∧ t σ M1 fun xs M2 => r x xs M2 Q
section
variable {X : Cx} {o e : Expr} {es : List Expr} {to : TE3} {t : TA3} {name : Str} {apos cpos : Pos} {T id : String} {r : M3}
theorem pe3_bm (pa : PlainAttrs T) (slot : Slot T name id) (hty : typeOf (.builtin id) = pure (.type "method_descriptor")) (hm : MtR3 X id r) (ho : PE3 X o to) (ha : PA3 X (e :: es) t)
    (hbase : attributeBase o name X.env (eval o X.env) = eval o X.env := by rfl)
    (hfew : ((backTo cpos (starEach (e :: es) X.env)).all (fun x => !x.1) && (backToKw cpos (keywordEach [] X.env)).all (fun x => x.1.isSome)
      && decide ((e :: es).length + ([] : List Keyword).length + (if ([] : List Keyword).isEmpty then 0 else 1) < 30)) = true := by rfl)
    (hline : (apos.endLine == cpos.line) = true := by rfl) (hs : starEach (e :: es) X.env = (false, eval e X.env) :: starEach es X.env := by rfl) (hplain : (backTo cpos (starEach es X.env)).any (·.1) = false := by rfl) :
    PE3 X (.Call (.Attribute o name apos) (e :: es) [] cpos) (tBM3 T r to t) := by
  intro pins s σv H σ M Q I hS hM h
  refine wpAny_Call_method_late hbase hfew hline rfl (thn (ho pins s σv H σ M _ I hS hM h) fun v s1 ⟨d, xv, M1, H1, I1, st1, m1, r1, p1, ty, q1⟩ => ?_)
  obtain ⟨h1, h2⟩ := tyV_is I1 r1 (tyD_V m1 p1 ty)
  refine ⟨T, id, pa, slot, hty, h1, h2, ?_⟩
  have hA := ha cpos pins s1 σv H1 σ M1 _ I1 (hS.mono st1) m1 q1
  rw [hs] at hA ⊢
  refine Calls.callWith_builtin (by show (false || (backTo cpos (starEach es X.env)).any (·.1)) = false; rw [hplain] <;> rfl) (Calls.evalArgs_plain ?_)
  exact thn hA fun us s2 ⟨ds, vs, M2, H2, I2, st2, m2, rv2, p2, q2⟩ => thn (hm pins s2 σv H2 M2 d ds xv vs v us Q I2 m2 r1 rv2 (p1.mono st2) p2 q2) fun _ _ z => z.trans (st1.trans st2)
theorem MtR3.of {id : String} {r : M3} {r2 : V → List V → Hp → VK → Prop} (h : MtM X id r2) (hr : ∀ H M x xs xv xvs Q, MRel X.K M H → Rep X.K M H x xv → Reps X.K M H xs xvs → r x xs M Q → r2 xv xvs H (Up X.K M H Q)) : MtR3 X id r := by
  intro pins s σv H M x xs xv xvs v us Q I m rv rvs px pxs q
  exact thn (h pins s σv H xv xvs v us _ I rv rvs (hr H M x xs xv xvs Q m px pxs q)) fun _ _ z => ep_up z
theorem reps1 {K : PySem.W.Frag} {M : Mem} {H : Hp} {d : D} {vs : List V} (r : Reps K M H [d] vs) : ∃ v, vs = [v] ∧ Rep K M H d v := by
  cases r with
  | cons a b => cases b; exact ⟨_, rfl, a⟩
def rAppend3 : M3 := fun x xs M Q => ∃ a ds y, x = .ref a ∧ xs = [y] ∧ M a = some (.lst ds) ∧ ds.length < sizeLine ∧ Q .non (mput M a (.lst (ds ++ [y])))
theorem m3_append : MtR3 X "list.append" rAppend3 := MtR3.of mt_append fun H M x xs xv xvs Q m px pxs hx0 => by
  obtain ⟨a, ds, y, e1, e2, hm, hl, q⟩ := hx0
  subst e1 e2
  cases px
  obtain ⟨yv, rfl, py⟩ := reps1 pxs
  obtain ⟨ho, e3, r⟩ := m _ _ hm
  cases ho <;> first | exact (r : False).elim | skip
  rename_i vs
  have r' : Reps X.K M H ds vs := r
  refine ⟨a, vs, _, rfl, rfl, e3, by rw [← r'.length]; exact hl, .non, _, Step.put (.inr (by rw [hm]; simp)), m.put (.inr (by rw [hm]; simp)) (o := .lst (ds ++ [y])) (Reps.append r' (.cons py .nil)), .non, q⟩
end
def compOk (env : Env) (scope : Scope) (caps : List Str) : Bool :=
  (scope.names.all fun y => match y.2 with
    | .free => (match env.kindOf y.1 with | some .cell => true | some .free => true | _ => false)
    | .cell => false
    | .local => (match scope.names.lookup y.1 with | some .local => true | _ => false)
    | _ => true) && caps.all fun y => match scope.names.lookup y with | some .free => true | _ => false
theorem pe3_compB {X : Cx} {elt tg iter : Expr} {pos : Pos} {ifs : List Expr} {scope : Scope} (tns caps : List Str) (slots : List Nat) {ti : TI3} {g : TG3} {tt : TT3} {te : TE3}
    (hc : X.calm = true) (hi : PI3 X tg iter ti) (hkind : scope.kind = .function) (hok : compOk X.env scope caps = true) (hcaps : slots.map (fun j => X.N[j]?) = caps.map some)
    (hgk : ∀ d M Q (cs : Lo), g d (List.replicate tns.length none ++ cs) M Q → g d (List.replicate tns.length none ++ cs) M (fun σ' M' => σ'.drop tns.length = cs ∧ Q σ' M'))
    (hg : ∀ cl s₀ H₀ ex, PG3 (compCx X scope cl s₀ H₀ ex (tns ++ caps)) tg g)
    (ht : ∀ cl s₀ H₀ ex, PIfs (compCx X scope cl s₀ H₀ ex (tns ++ caps)) ifs tt) (he : ∀ cl s₀ H₀ ex, PE3 (compCx X scope cl s₀ H₀ ex (tns ++ caps)) elt te)
    (hs : ∀ y, foldedSetIterable iter X.env y = pure y := by intro _; rfl) :
    PE3 X (.ListComp elt [⟨tg, iter, ifs, 0⟩] scope pos) (tComp3 ti tns.length slots g tt te) := by
  unfold compOk at hok
  rw [Bool.and_eq_true, List.all_eq_true, List.all_eq_true] at hok
  obtain ⟨h1, h2⟩ := hok
  refine pe3_comp hc hi hkind (fun y hy e => ?_) (fun y hy e => ?_) (fun y hy e => ?_) (fun y hy => ?_) hcaps hgk hg ht he hs
  · have := h1 y hy; rw [e] at this; cases this
  · have := h1 y hy
    rw [e] at this
    dsimp only at this
    split at this
    · assumption
    · cases this
  · have := h1 y hy
    rw [e] at this
    dsimp only at this
    split at this
    · exact .inl (by assumption)
    · exact .inr (by assumption)
    · cases this
  · have := h2 y hy
    split at this
    · assumption
    · cases this
def tFrz3 (i : Nat) (t : TS3) : TS3 := fun T σ M => ∃ a ds, σ[i]? = some (some (.ref a)) ∧ M a = some (.lst ds) ∧ t T (σ.set i (some (.lst ds))) (mdel M a)
theorem pss3_frz {X : Cx} {sts : List Stmt} {t : TS3} (i : Nat) (h : PSs3 X sts t) : PSs3 X sts (tFrz3 i t) := by
  rintro pins s σv H σ M T I hS hM ⟨a, ds, e1, e2, q⟩
  obtain ⟨m, r, sub⟩ := Vs.frzL e2 X.K H (.ref a) hM .ref
  have st : Step M H (mdel M a) H := ⟨fun _ _ h _ => h, fun b h => .inl (sub b h)⟩
  have hS' : SRel X.K (mdel M a) H (σ.set i (some (.lst ds))) σv := by
    refine ⟨by simp [hS.len], fun j d e => ?_⟩
    rw [List.getElem?_set] at e
    by_cases hij : i = j
    · subst hij
      have hl : i < σ.length := (List.getElem?_eq_some_iff.mp e1).1
      rw [if_pos rfl, if_pos hl] at e
      cases e
      obtain ⟨v, ev, rv⟩ := hS.get i _ e1
      cases rv
      exact ⟨_, ev, r⟩
    · rw [if_neg hij] at e
      obtain ⟨v, ev, rv⟩ := hS.get j d e
      exact ⟨v, ev, rv.mono st⟩
  exact thn (h pins s σv H _ _ T I hS' m q) fun _ _ z => z.trans st
end L3
namespace L3
open PySem L2
section
variable {t u : TS3} {T : Ends3} {σ : Lo} {M : Mem} {Q : DK} {QB : Bool → Mem → Prop} {QA : List D → Mem → Prop} {c tA tB : TT3} {te ta tb tc : TE3} {tas : TA3} {i : Nat} {d x y : D} {r r' : R3} {ru : U3} {rc : C3} {sp : Sp3}
theorem rd_seq (h : t { T with nx := u T } σ M) : tSeq3 t u T σ M := h
theorem rd_ifs (h : c σ M fun b M1 => if b = true then t T σ M1 else u T σ M1) : tIfS3 c t u T σ M := h
theorem rd_test (h : te σ M fun x M' => ∃ k, x = .bl k ∧ QB k M') : tTest3 te σ M QB := h
theorem rd_op (h : ta σ M fun x M1 => tb σ M1 fun y M2 => r x y M2 Q) : tOp3 r ta tb σ M Q := h
theorem rd_un (h : ta σ M fun x M1 => ru x M1 Q) : tUn3 ru ta σ M Q := h
theorem rd_var {i : Nat} (e : σ[i]? = some (some d)) (h : Q d M) : tVar3 i σ M Q := by unfold tVar3; rw [e]; exact h
theorem rd_c (h : Q d M) : tC3 d σ M Q := h
theorem rd_ret (h : te σ M T.rt) : tRet3 te T σ M := h
theorem rd_set (h : te σ M fun d M1 => T.nx (σ.set i (some d)) M1) : tSet3 i te T σ M := h
theorem rd_drop (h : te σ M fun _ M1 => T.nx σ M1) : tDrop3 te T σ M := h
theorem rd_next (h : T.nx σ M) : tNext3 T σ M := h
theorem rd_call (h : tas σ M fun ds M1 => sp ds M1 Q) : tCall3 sp tas σ M Q := h
theorem rd_cb (h : tas σ M fun ds M1 => rc ds M1 Q) : tCB3 rc tas σ M Q := h
theorem rd_nil (h : QA [] M) : tNil3 σ M QA := h
theorem rd_cons (h : te σ M fun x M1 => tas σ M1 fun xs M2 => QA (x :: xs) M2) : tCons3 te tas σ M QA := h
theorem rd_tupE (h : tas σ M fun xs M1 => xs.length ≤ sizeLine ∧ Q (.tup xs) M1) : tTup3 tas σ M Q := h
theorem rd_lstE (h : tas σ M fun xs M1 => xs.length ≤ sizeLine ∧ Q (.lst xs) M1) : tLst3 tas σ M Q := h
theorem rd_and (h : tA σ M fun c M1 => if c = true then tB σ M1 QB else QB false M1) : tAnd3 tA tB σ M QB := h
theorem rd_or (h : tA σ M fun c M1 => if c = true then QB true M1 else tB σ M1 QB) : tOr3 tA tB σ M QB := h
theorem rd_andV (h : ta σ M fun x M1 => ∃ c, x = .bl c ∧ if c = true then tb σ M1 Q else Q (.bl false) M1) : tAndV3 ta tb σ M Q := h
theorem rd_orV (h : ta σ M fun x M1 => ∃ c, x = .bl c ∧ if c = true then Q (.bl true) M1 else tb σ M1 Q) : tOrV3 ta tb σ M Q := h
theorem rd_notV (h : ta σ M fun x M1 => ∃ c, x = .bl c ∧ Q (.bl (!c)) M1) : tNotV3 ta σ M Q := h
theorem rd_sl {tl th : TO3} (h : te σ M fun x M1 => tl σ M1 fun l M2 => th σ M2 fun u M3 => rSl3 x l u M3 Q) : tSl3 te tl th σ M Q := h
theorem rd_np {QO : Option Int → Mem → Prop} (h : QO none M) : tNoPart3 σ M QO := h
theorem rd_part {QO : Option Int → Mem → Prop} (h : te σ M fun x M1 => match x with | .int i => QO (some i) M1 | _ => False) : tPart3 te σ M QO := h
theorem rd_bl {b : Bool} {P : Bool → Prop} (h : P b) : ∃ k, D.bl b = .bl k ∧ P k := ⟨b, rfl, h⟩
theorem rd_iteT {P R : Prop} (h : P) : if true = true then P else R := by rw [if_pos rfl]; exact h
theorem rd_iteF {P R : Prop} (h : R) : if false = true then P else R := by rw [if_neg Bool.false_ne_true]; exact h
theorem rd_dec {c P R : Prop} [Decidable c] (h1 : c → P) (h2 : ¬ c → R) : if decide c = true then P else R := by
  by_cases h : c
  · rw [decide_eq_true h, if_pos rfl]; exact h1 h
  · rw [decide_eq_false h, if_neg Bool.false_ne_true]; exact h2 h
theorem rd_I0 {g : Int → Int → D} {i j : Int} (h : Q (g i j) M) : rI30 g (.int i) (.int j) M Q := h
theorem rd_I {C : Int → Int → Prop} {g : Int → Int → D} {i j : Int} (hc : C i j) (h : Q (g i j) M) : rI3 C g (.int i) (.int j) M Q := ⟨hc, h⟩
theorem rd_U {g : Int → Int} {i : Int} (h : Q (.int (g i)) M) : rU3 g (.int i) M Q := h
theorem rd_addI {i j : Int} (h : Q (.int (i + j)) M) : rAdd3 (.int i) (.int j) M Q := h
theorem rd_addS {a b : Str} (hl : a.length + b.length ≤ sizeLine) (h : Q (.str (a ++ b)) M) : rAdd3 (.str a) (.str b) M Q := ⟨hl, h⟩
theorem rd_addL {a b : List D} (hl : a.length + b.length ≤ sizeLine) (h : Q (.lst (a ++ b)) M) : rAdd3 (.lst a) (.lst b) M Q := ⟨hl, h⟩
theorem rd_addT {a b : List D} (hl : a.length + b.length ≤ sizeLine) (h : Q (.tup (a ++ b)) M) : rAdd3 (.tup a) (.tup b) M Q := ⟨hl, h⟩
theorem rd_eqS {a b : Str} (h : Q (.bl (a == b)) M) : rEq3 (.str a) (.str b) M Q := .inr ⟨a, b, rfl, rfl, h⟩
theorem rd_neS {a b : Str} (h : Q (.bl (!(a == b))) M) : rNe3 (.str a) (.str b) M Q := .inr ⟨a, b, rfl, rfl, h⟩
theorem rd_ne (hx : dOk x) (hy : dOk y) (h : Q (.bl (!PyData.eqv (pyD x) (pyD y))) M) : rNe3 x y M Q := .inl ⟨hx, hy, h⟩
theorem rd_ixL {ds : List D} {i : Int} (e : atI ds i = some d) (h : Q d M) : rIx3 (.lst ds) (.int i) M Q := ⟨d, e, h⟩
theorem rd_ixT {ds : List D} {i : Int} (e : atI ds i = some d) (h : Q d M) : rIx3 (.tup ds) (.int i) M Q := ⟨d, e, h⟩
theorem rd_ixS {z : Str} {i : Int} {c : Nat} (hl : z.length ≤ sizeLine) (e : atI z.cps.toList i = some c) (h : Q (.str ⟨#[c]⟩) M) : rIx3 (.str z) (.int i) M Q := ⟨hl, c, e, h⟩
theorem rd_lenL {ds : List D} (h : Q (.int ds.length) M) : rLen3 [.lst ds] M Q := h
theorem rd_lenT {ds : List D} (h : Q (.int ds.length) M) : rLen3 [.tup ds] M Q := h
theorem rd_abs {i : Int} (h : Q (.int (if i < 0 then -i else i)) M) : rAbs3 [.int i] M Q := h
theorem rd_intB {b : Bool} (h : Q (.int (if b then 1 else 0)) M) : rInt3 [.bl b] M Q := h
theorem rd_listL {ds : List D} (h : Q (.lst ds) M) : rList3 [.lst ds] M Q := h
theorem rd_slL {ds : List D} {l u : Option Int} (h : Q (.lst (cutD ds l u)) M) : rSl3 (.lst ds) l u M Q := h
theorem rd_isN (h : Q (.bl (match x with | .non => true | _ => false)) M) : rIs3 x .non M Q := ⟨rfl, h⟩
theorem rd_isntN (h : Q (.bl (match x with | .non => false | _ => true)) M) : rIsN3 x .non M Q := ⟨rfl, h⟩
theorem rd_for {ti : TI3} {tb : TS3} (h : ti σ M fun ds M1 => ∃ Pv : Nat → Lo → Mem → Prop, Pv 0 σ M1 ∧
  (∀ k d σ M, ds[k]? = some d → Pv k σ M → tb { T with nx := Pv (k + 1), ct := Pv (k + 1), bk := T.nx } (σ.set i (some d)) M) ∧ ∀ σ M, Pv ds.length σ M → T.nx σ M) : tFor3 ti i tb T σ M := h
theorem rd_rng {R : List D → Mem → Prop} (h : tas σ M fun ds M1 => match ds with | [.int j] => -(2 ^ 62) ≤ j ∧ j < 2 ^ 62 ∧ R ((List.range j.toNat).map fun k => D.int (k : Nat)) M1 | _ => False) : iRng3 tas σ M R := h
end
theorem pen_mono {M : Mem} {p : Addr} {b c : Nat} (h : Pen M p b) (hc : b ≤ c) : Pen M p c := by
  obtain ⟨ns, a, l, h1, h2, h3, h4, h5⟩ := h
  exact ⟨ns, a, l, h1, h2, h3, by lia, h5⟩
theorem atI_mem {α : Type} {ds : List α} {n : Int} (h0 : 0 ≤ n) (h1 : n < (ds.length : Int)) : ∃ d, atI ds n = some d ∧ d ∈ ds := by
  obtain ⟨k, rfl⟩ : ∃ k : Nat, n = (k : Int) := ⟨n.toNat, by lia⟩
  have hk : k < ds.length := by lia
  exact ⟨ds[k], atI_nat (by simp [hk]), List.getElem_mem hk⟩
theorem draw {p : Addr} {many : Int} {b : Nat} {M : Mem} {Q : DK} (hP : Pen M p b) (hb : b < 2 ^ 30) (h0 : 0 < many) (h1 : many < 2 ^ 200) (h : ∀ n M', 0 ≤ n → n < many → Pen M' p (b + 1) → Same3 p M M' → Q (.int n) M') : spDraw [.ref p, .int many] M Q :=
  ⟨p, many, b, rfl, hP, hb, h0, h1, h⟩
theorem intOkD {i : Int} : dOk (.int i) := ⟨rfl, rfl, by simp [pyD, PyData.depth]⟩
end L3
namespace L3
open PySem L2
def tPenB : TS3 :=
    (tRet3 (tDispM3 [((tC3 (.str "cells")), (tCB3 rList3 (tCons3 (tSl3 (tVar3 0) tNoPart3 (tPart3 (tC3 (.int 63)))) tNil3))), ((tC3 (.str "at")), (tC3 (.int 0))), ((tC3 (.str "left")), (tC3 (.int 0)))]))
def tDrawB : TS3 :=
    (tSeq3 (tIfS3 (tTest3 (tOp3 rGt3 (tOp3 rDGet3 (tVar3 0) (tC3 (.str "left"))) (tC3 (.int 0)))) (tSeq3 (tSet3 2 (tOp3 rMod3 (tOp3 rDGet3 (tVar3 0) (tC3 (.str "left"))) (tVar3 1)))
    (tSeq3 (tDPut3 (tVar3 0) (tC3 (.str "left")) (tOp3 rFdiv3 (tOp3 rDGet3 (tVar3 0) (tC3 (.str "left"))) (tVar3 1)))
    (tRet3 (tVar3 2)))) tNext3)
    (tSeq3 (tSet3 3 (tOp3 rDGet3 (tVar3 0) (tC3 (.str "cells"))))
    (tSeq3 (tSet3 4 (tOp3 rDGet3 (tVar3 0) (tC3 (.str "at"))))
    (tSeq3 (tDPut3 (tVar3 0) (tC3 (.str "at")) (tOp3 rAdd3 (tVar3 4) (tC3 (.int 1))))
    (tSeq3 (tSet3 5 (tOp3 rAdd3 (tOp3 rMul3 (tC3 (.int 30011)) (tVar3 4)) (tC3 (.int 77))))
    (tSeq3 (tIfS3 (tTest3 (tOp3 rNe3 (tVar3 3) (tLst3 tNil3))) (tSet3 5 (tOp3 rIx3 (tVar3 3) (tOp3 rMod3 (tVar3 4) (tCB3 rLen3 (tCons3 (tVar3 3) tNil3))))) tNext3)
    (tSeq3 (tIfS3 (tAnd3 (tTest3 (tOp3 rLt3 (tVar3 4) (tCB3 rLen3 (tCons3 (tVar3 3) tNil3)))) (tTest3 (tOp3 rGe3 (tCB3 rAbs3 (tCons3 (tVar3 5) tNil3)) (tOp3 rPow3 (tC3 (.int 10)) (tC3 (.int 18)))))) (tSeq3 (tDPut3 (tVar3 0) (tC3 (.str "left")) (tOp3 rFdiv3 (tCB3 rAbs3 (tCons3 (tVar3 5) tNil3)) (tVar3 1)))
    (tRet3 (tOp3 rMod3 (tCB3 rAbs3 (tCons3 (tVar3 5) tNil3)) (tVar3 1)))) tNext3)
    (tSeq3 (tSet3 6 (tOp3 rMod3 (tOp3 rPow3 (tOp3 rAdd3 (tOp3 rAdd3 (tOp3 rMod3 (tVar3 5) (tC3 (.int 2147483587))) (tOp3 rMul3 (tC3 (.int 50021)) (tVar3 4))) (tC3 (.int 29))) (tC3 (.int 5))) (tC3 (.int 2147483629))))
    (tSeq3 (tSet3 6 (tOp3 rMod3 (tOp3 rPow3 (tOp3 rAdd3 (tOp3 rMul3 (tVar3 6) (tOp3 rAdd3 (tOp3 rMul3 (tC3 (.int 2)) (tVar3 4)) (tC3 (.int 5)))) (tC3 (.int 81799))) (tC3 (.int 3))) (tC3 (.int 2147483647))))
    (tRet3 (tOp3 rMod3 (tOp3 rFdiv3 (tVar3 6) (tC3 (.int 16))) (tVar3 1))))))))))))
local macro_rules | `(tactic| walk_at "r1") => `(tactic| first | (with_reducible first | refine rd_seq ?_ | refine rd_ifs ?_ | refine rd_test ?_ | refine rd_op ?_ | refine rd_un ?_ | refine rd_c ?_ | refine rd_ret ?_ | refine rd_set ?_ | refine rd_drop ?_ | refine rd_next ?_ | refine rd_call ?_ | refine rd_cb ?_ | refine rd_nil ?_ | refine rd_cons ?_ | refine rd_tupE ?_ | refine rd_lstE ?_ | refine rd_and ?_ | refine rd_or ?_ | refine rd_not ?_ | refine rd_andV ?_ | refine rd_orV ?_ | refine rd_notV ?_ | refine rd_if3 ?_ | refine rd_chain ?_ | refine rd_sl ?_ | refine rd_np ?_ | refine rd_part ?_ | refine rd_bl ?_ | refine rd_iteT ?_ | refine rd_iteF ?_ | refine rd_I0 ?_ | refine rd_U ?_ | refine rd_addI ?_ | refine rd_lenL ?_ | refine rd_lenT ?_ | refine rd_abs ?_ | refine rd_intI ?_ | refine rd_intB ?_ | refine rd_listL ?_ | refine rd_listT ?_ | refine rd_slL ?_ | refine rd_isN ?_ | refine rd_isntN ?_ | refine rd_for ?_ | refine rd_rng ?_) | ((with_reducible show tVar3 _ _ _ _); refine rd_var rfl ?_) | ((with_reducible show _ ∧ _); refine ⟨(by first | decide | (simp only [List.length_cons, List.length_nil]; decide)), ?_⟩))
local macro_rules | `(tactic| walk_at "rd") => `(tactic| repeat walk_at "r1")
theorem k_ca : ¬ (("cells" : Str) = "at") := by decide +kernel
theorem k_cl : ¬ (("cells" : Str) = "left") := by decide +kernel
theorem k_al : ¬ (("at" : Str) = "left") := by decide +kernel
theorem k_la : ¬ (("left" : Str) = "at") := by decide +kernel
theorem inr_ne {x y : Str} (h : ¬ x = y) : ¬ (Sum.inr x : Key) = Sum.inr y := fun z => h (Sum.inr.inj z)
theorem merge_pen (x y z : D) : mergeD [] [(.inr "cells", x), (.inr "at", y), (.inr "left", z)] = ([(.inr "cells", x), (.inr "at", y), (.inr "left", z)] : List (Key × D)) := by
  simp [mergeD, putD, inr_ne k_ca, inr_ne k_cl, inr_ne k_al]
theorem put_left (x y z d : D) : putD [(.inr "cells", x), (.inr "at", y), (.inr "left", z)] (.inr "left") d = ([(.inr "cells", x), (.inr "at", y), (.inr "left", d)] : List (Key × D)) := by
  simp [putD, inr_ne k_cl, inr_ne k_al]
theorem put_at (x y z d : D) : putD [(.inr "cells", x), (.inr "at", y), (.inr "left", z)] (.inr "at") d = ([(.inr "cells", x), (.inr "at", d), (.inr "left", z)] : List (Key × D)) := by
  simp [putD, inr_ne k_ca, inr_ne k_la]
theorem get_left {ns : List Int} {a l : Int} {M : Mem} {p : Addr} {Q : DK} (h : M p = some (penO ns a l)) : rDGet3 (.ref p) (.str "left") M Q ↔ Q (.int l) M := by
  constructor
  · rintro ⟨k, d, hk, ⟨kds, hm, hv⟩, q⟩
    cases hk
    rw [h] at hm
    cases hm
    simp [valD, inr_ne k_cl, inr_ne k_al] at hv
    subst hv; exact q
  · intro q
    exact ⟨_, .int l, rfl, ⟨_, h, by simp [valD, inr_ne k_cl, inr_ne k_al]⟩, q⟩
theorem get_at {ns : List Int} {a l : Int} {M : Mem} {p : Addr} {Q : DK} (h : M p = some (penO ns a l)) : rDGet3 (.ref p) (.str "at") M Q ↔ Q (.int a) M := by
  constructor
  · rintro ⟨k, d, hk, ⟨kds, hm, hv⟩, q⟩
    cases hk
    rw [h] at hm
    cases hm
    simp [valD, inr_ne k_ca] at hv
    subst hv; exact q
  · intro q
    exact ⟨_, .int a, rfl, ⟨_, h, by simp [valD, inr_ne k_ca]⟩, q⟩
theorem get_cells {ns : List Int} {a l : Int} {M : Mem} {p : Addr} {Q : DK} (h : M p = some (penO ns a l)) : rDGet3 (.ref p) (.str "cells") M Q ↔ Q (.lst (ns.map D.int)) M := by
  constructor
  · rintro ⟨k, d, hk, ⟨kds, hm, hv⟩, q⟩
    cases hk
    rw [h] at hm
    cases hm
    simp [valD] at hv
    subst hv; exact q
  · intro q
    exact ⟨_, .lst (ns.map D.int), rfl, ⟨_, h, by simp [valD]⟩, q⟩
theorem dput_left {ns : List Int} {a l l' : Int} {M : Mem} {p : Addr} {T : Lo → Mem → Prop} {σ : Lo} (h : M p = some (penO ns a l)) (q : T σ (mput M p (penO ns a l'))) :
    ∃ k a' kds, dK? (.str "left") = some k ∧ D.ref p = .ref a' ∧ M a' = some (.dct kds) ∧ kds.length < sizeLine ∧ T σ (mput M a' (.dct (putD kds k (.int l')))) :=
  ⟨_, p, _, rfl, rfl, h, by show 3 < sizeLine; decide, by rw [put_left]; exact q⟩
theorem dput_at {ns : List Int} {a a1 l : Int} {M : Mem} {p : Addr} {T : Lo → Mem → Prop} {σ : Lo} (h : M p = some (penO ns a l)) (q : T σ (mput M p (penO ns a1 l))) :
    ∃ k a' kds, dK? (.str "at") = some k ∧ D.ref p = .ref a' ∧ M a' = some (.dct kds) ∧ kds.length < sizeLine ∧ T σ (mput M a' (.dct (putD kds k (.int a1)))) :=
  ⟨_, p, _, rfl, rfl, h, by show 3 < sizeLine; decide, by rw [put_at]; exact q⟩
theorem cut_ints (ns : List Int) (lo hi : Option Int) : ∃ ms : List Int, cutD (ns.map D.int) lo hi = ms.map D.int ∧ ms.length ≤ ns.length := by
  unfold cutD
  refine ⟨(ns.drop (HT.sIx (ns.map D.int).length 0 lo)).take (HT.sIx (ns.map D.int).length (ns.map D.int).length hi - HT.sIx (ns.map D.int).length 0 lo), ?_, ?_⟩
  · rw [← List.map_drop, ← List.map_take]
  · rw [List.length_take, List.length_drop]; lia
theorem ints_ok : ∀ ns : List Int, plains (ns.map D.int) = true ∧ PyData.canLayAll0 (pyDs (ns.map D.int)) = true ∧ PyData.depthAll (pyDs (ns.map D.int)) = 0
  | [] => ⟨rfl, rfl, rfl⟩
  | n :: ns => by
    obtain ⟨h1, h2, h3⟩ := ints_ok ns
    simp [List.map_cons, plains, plain, pyDs, pyD, PyData.canLayAll0, PyData.canLay0, PyData.depthAll, PyData.depth, h1, h2, h3]
theorem dOk_ints (ns : List Int) : dOk (.lst (ns.map D.int)) := by
  obtain ⟨h1, h2, h3⟩ := ints_ok ns
  refine ⟨by simpa [plain] using h1, by simpa [pyD, PyData.canLay0] using h2, ?_⟩
  simp [pyD, PyData.depth, h3]
theorem rd_pen {Q : DK} {ds : List D} {M : Mem} (h : spPen ds M Q) (d : D) (e : ds = [d]) (T : Lo → Mem → Prop) : tPenB { nx := T, rt := View Q } [some d] M := by
  obtain ⟨ns, rfl, hl, q⟩ := h
  cases e
  unfold tPenB
  walk_at "rd"
  intro p hp
  unfold tPairs3
  walk_at "rd"
  unfold tPairs3
  walk_at "rd"
  unfold tPairs3
  walk_at "rd"
  unfold tPairs3
  refine ⟨mput_same, [(.inr "cells", _), (.inr "at", _), (.inr "left", _)], rfl, by simp, View.of ?_⟩
  rw [merge_pen, mput_mput]
  obtain ⟨ms, e, hms⟩ := cut_ints ns none (some 63)
  rw [e]
  exact q p _ hp ⟨ms, 0, 0, mput_same, by lia, by lia, by simp, by lia⟩ fun b hb => mput_ne hb
theorem mix1 {a c : Int} (h0 : 0 ≤ a) (h1 : a < 2 ^ 31) : CPow (c % 2147483587 + 50021 * a + 29) 5 := by
  have z1 := Int.emod_nonneg c (show (2147483587 : Int) ≠ 0 by decide)
  have z2 := Int.emod_lt_of_pos c (show (0 : Int) < 2147483587 by decide)
  refine ⟨by decide, by decide, ?_⟩
  lia
theorem mix2 {a n : Int} (h0 : 0 ≤ a) (h1 : a < 2 ^ 30) (h2 : 0 ≤ n) (h3 : n < 2147483629) : CPow (n * (2 * a + 5) + 81799) 3 := by
  refine ⟨by decide, by decide, ?_⟩
  have e : n * (2 * a + 5) ≤ 2147483629 * 2147483653 := Int.mul_le_mul (by lia) (by lia) (by lia) (by lia)
  have e0 : 0 ≤ n * (2 * a + 5) := Int.mul_nonneg h2 (by lia)
  lia
theorem rd_dp {td ty tv : TE3} {T : Ends3} {σ : Lo} {M : Mem} (h : tv σ M fun d M1 => td σ M1 fun x M2 => ty σ M2 fun y M3 => ∃ k a kds, dK? y = some k ∧ x = .ref a ∧ M3 a = some (.dct kds) ∧ kds.length < sizeLine ∧ T.nx σ (mput M3 a (.dct (putD kds k d)))) : tDPut3 td ty tv T σ M := h
theorem big200 {x : Int} (h0 : 0 < x) (h : x < 2 ^ 200) : CDivB 0 x := by
  refine ⟨h0, ?_⟩
  have h2 : x.natAbs < 2 ^ 200 := by lia
  exact Nat.lt_trans h2 (Nat.pow_lt_pow_right (by decide) (by decide))
theorem at_ints {ns : List Int} {a : Int} (h0 : 0 ≤ a) (h : a < (ns.length : Int)) : ∃ c, atI (ns.map D.int) a = some (D.int c) := by
  obtain ⟨k, rfl⟩ : ∃ k : Nat, a = (k : Int) := ⟨a.toNat, by lia⟩
  have hk : k < ns.length := by lia
  exact ⟨ns[k], atI_nat (by simp [hk])⟩
def tDrawTail : TS3 :=
    (tSeq3 (tSet3 6 (tOp3 rMod3 (tOp3 rPow3 (tOp3 rAdd3 (tOp3 rAdd3 (tOp3 rMod3 (tVar3 5) (tC3 (.int 2147483587))) (tOp3 rMul3 (tC3 (.int 50021)) (tVar3 4))) (tC3 (.int 29))) (tC3 (.int 5))) (tC3 (.int 2147483629))))
    (tSeq3 (tSet3 6 (tOp3 rMod3 (tOp3 rPow3 (tOp3 rAdd3 (tOp3 rMul3 (tVar3 6) (tOp3 rAdd3 (tOp3 rMul3 (tC3 (.int 2)) (tVar3 4)) (tC3 (.int 5)))) (tC3 (.int 81799))) (tC3 (.int 3))) (tC3 (.int 2147483647))))
    (tRet3 (tOp3 rMod3 (tOp3 rFdiv3 (tVar3 6) (tC3 (.int 16))) (tVar3 1)))))
def tDrawRest : TS3 :=
    tSeq3 (tIfS3 (tAnd3 (tTest3 (tOp3 rLt3 (tVar3 4) (tCB3 rLen3 (tCons3 (tVar3 3) tNil3)))) (tTest3 (tOp3 rGe3 (tCB3 rAbs3 (tCons3 (tVar3 5) tNil3)) (tOp3 rPow3 (tC3 (.int 10)) (tC3 (.int 18)))))) (tSeq3 (tDPut3 (tVar3 0) (tC3 (.str "left")) (tOp3 rFdiv3 (tCB3 rAbs3 (tCons3 (tVar3 5) tNil3)) (tVar3 1)))
    (tRet3 (tOp3 rMod3 (tCB3 rAbs3 (tCons3 (tVar3 5) tNil3)) (tVar3 1)))) tNext3)
    tDrawTail
theorem rd_draw {Q : DK} {ds : List D} {M : Mem} (h : spDraw ds M Q) (d0 d1 : D) (e : ds = [d0, d1]) (T : Lo → Mem → Prop) : tDrawB { nx := T, rt := View Q } [some d0, some d1, none, none, none, none, none] M := by
  obtain ⟨p, many, b, rfl, ⟨ns, a, l, hM, hl, ha0, hab, hl0⟩, hb, hm0, hm1, q⟩ := h
  cases e
  have hdv : ∀ i, CDivB i many := fun i => ⟨hm0, (big200 hm0 hm1).2⟩
  have hb' : (b : Int) < 2 ^ 30 := by
    have : ((2 ^ 30 : Nat) : Int) = (2 : Int) ^ 30 := by decide
    lia
  unfold tDrawB
  walk_at "rd"
  refine (get_left hM).mpr ?_
  walk_at "rd"
  refine rd_dec (fun hpos => ?_) (fun hneg => ?_)
  · walk_at "rd"
    refine (get_left hM).mpr ?_
    walk_at "rd"
    refine rd_I hm0 ?_
    walk_at "rd"
    refine rd_dp ?_
    walk_at "rd"
    refine (get_left hM).mpr ?_
    walk_at "rd"
    refine rd_I (hdv _) ?_
    walk_at "rd"
    refine dput_left hM ?_
    walk_at "rd"
    exact View.of (q _ _ (Int.emod_nonneg _ (by lia)) (Int.emod_lt_of_pos _ hm0) ⟨ns, a, _, mput_same, hl, ha0, by lia, Int.ediv_nonneg hl0 (by lia)⟩ fun _ h => mput_ne h)
  · walk_at "rd"
    refine (get_cells hM).mpr ?_
    walk_at "rd"
    refine (get_at hM).mpr ?_
    walk_at "rd"
    refine rd_dp ?_
    walk_at "rd"
    refine dput_at hM ?_
    have hM1 : mput M p (penO ns (a + 1) l) p = some (penO ns (a + 1) l) := mput_same
    walk_at "rd"
    refine rd_I (.inl (.inl ⟨by decide, by decide⟩)) ?_
    walk_at "rd"
    refine rd_ne (dOk_ints ns) ⟨rfl, rfl, by decide⟩ ?_
    have rest : ∀ c : Int, tDrawRest { nx := T, rt := View Q } [some (.ref p), some (.int many), none, some (.lst (ns.map D.int)), some (.int a), some (.int c), none] (mput M p (penO ns (a + 1) l)) := by
      intro c
      have abs0 : 0 ≤ (if c < 0 then -c else c) := by split <;> lia
      have tail : tDrawTail { nx := T, rt := View Q } [some (.ref p), some (.int many), none, some (.lst (ns.map D.int)), some (.int a), some (.int c), none] (mput M p (penO ns (a + 1) l)) := by
        unfold tDrawTail
        walk_at "rd"
        refine rd_I (by decide) ?_
        walk_at "rd"
        refine rd_I (.inl (.inl ⟨by decide, by decide⟩)) ?_
        walk_at "rd"
        refine rd_I (mix1 ha0 (by lia)) ?_
        walk_at "rd"
        refine rd_I (by decide) ?_
        walk_at "rd"
        refine rd_I (.inl (.inl ⟨by decide, by decide⟩)) ?_
        walk_at "rd"
        have z1 := Int.emod_nonneg ((c % 2147483587 + 50021 * a + 29) ^ Int.toNat 5) (show (2147483629 : Int) ≠ 0 by decide)
        have z2 := Int.emod_lt_of_pos ((c % 2147483587 + 50021 * a + 29) ^ Int.toNat 5) (show (0 : Int) < 2147483629 by decide)
        refine rd_I (.inl (.inl ⟨by lia, by lia⟩)) ?_
        walk_at "rd"
        refine rd_I (mix2 ha0 (by lia) z1 z2) ?_
        walk_at "rd"
        refine rd_I (by decide) ?_
        walk_at "rd"
        refine rd_I ⟨by decide, by decide +kernel⟩ ?_
        walk_at "rd"
        refine rd_I hm0 ?_
        walk_at "rd"
        exact View.of (q _ _ (Int.emod_nonneg _ (by lia)) (Int.emod_lt_of_pos _ hm0) ⟨ns, a + 1, _, mput_same, hl, by lia, by lia, hl0⟩ fun _ h => mput_ne h)
      unfold tDrawRest
      walk_at "rd"
      refine rd_dec (fun hlt => ?_) (fun hge => ?_)
      · walk_at "rd"
        refine rd_I ⟨by decide, by decide, by decide⟩ ?_
        walk_at "rd"
        refine rd_dec (fun h18 => ?_) (fun h18 => ?_)
        · walk_at "rd"
          refine rd_dp ?_
          walk_at "rd"
          refine rd_I (hdv _) ?_
          walk_at "rd"
          refine dput_left hM1 ?_
          walk_at "rd"
          refine rd_I hm0 ?_
          walk_at "rd"
          rw [mput_mput]
          exact View.of (q _ _ (Int.emod_nonneg _ (by lia)) (Int.emod_lt_of_pos _ hm0) ⟨ns, a + 1, _, mput_same, hl, by lia, by lia, Int.ediv_nonneg abs0 (by lia)⟩ fun _ h => mput_ne h)
        · exact tail
      · exact tail
    cases ns with
    | nil =>
      refine rd_bl (show if (!true) = true then _ else _ from ?_)
      exact rd_iteF (rest _)
    | cons n ns =>
      refine rd_bl (show if (!false) = true then _ else _ from ?_)
      refine rd_iteT ?_
      walk_at "rd"
      have hlen : (0 : Int) < ((List.map D.int (n :: ns)).length : Int) := by rw [List.length_map, List.length_cons]; lia
      refine rd_I hlen ?_
      obtain ⟨c, hc⟩ := at_ints (ns := n :: ns) (a := a % ((List.map D.int (n :: ns)).length : Int)) (Int.emod_nonneg _ (by lia)) (by have := Int.emod_lt_of_pos a hlen; simpa using this)
      refine rd_ixL hc ?_
      exact rest c
end L3
namespace L3
open PySem L2
section
variable {t u : TS3} {T : Ends3} {σ : Lo} {M : Mem} {Q : DK} {QB : Bool → Mem → Prop} {QA : List D → Mem → Prop} {c tA tB : TT3} {te ta tb tc to : TE3} {tas : TA3} {i : Nat} {d x y : D} {r r' : R3} {g : TG3} {ti : TI3} {tt : TT3} {slots : List Nat} {n : Nat}
theorem rd_asg (h : te σ M fun d M1 => g d σ M1 T.nx) : tAsg3 g te T σ M := h
theorem rd_gName {QG : Lo → Mem → Prop} (h : QG (σ.set i (some d)) M) : gName3 i d σ M QG := h
theorem rd_gTup {is : List Nat} {ds : List D} {QG : Lo → Mem → Prop} (hl : ds.length = is.length) (h : QG (setAll σ is ds) M) : gTup3 is (.tup ds) σ M QG := ⟨ds, rfl, hl, h⟩
theorem rd_gLst {is : List Nat} {ds : List D} {QG : Lo → Mem → Prop} (hl : ds.length = is.length) (h : QG (setAll σ is ds) M) : gLst3 is (.lst ds) σ M QG := ⟨ds, rfl, hl, h⟩
theorem rd_true (h : QB true M) : tTrue3 σ M QB := h
theorem rd_bm {ty : String} {rm : M3} (h : to σ M fun x M1 => tyD ty M1 x ∧ tas σ M1 fun xs M2 => rm x xs M2 Q) : tBM3 ty rm to tas σ M Q := h
theorem rd_append {a : Addr} {ds : List D} (hm : M a = some (.lst ds)) (hl : ds.length < sizeLine) (h : Q .non (mput M a (.lst (ds ++ [y])))) : rAppend3 (.ref a) [y] M Q := ⟨a, ds, y, rfl, rfl, hm, hl, h⟩
theorem rd_frz {a : Addr} {ds : List D} (e : σ[i]? = some (some (.ref a))) (hm : M a = some (.lst ds)) (h : t T (σ.set i (some (.lst ds))) (mdel M a)) : tFrz3 i t T σ M := ⟨a, ds, e, hm, h⟩
def CompB (g : TG3) (tt : TT3) (te : TE3) (σ0 : Lo) (ds : List D) (M1 : Mem) (Q : DK) : Prop := ∀ p, M1 p = none → ∃ Pv : Nat → List D → Mem → Prop, Pv 0 [] (mput M1 p (.lst [])) ∧
  (∀ k d acc M, ds[k]? = some d → Pv k acc M → g d σ0 M fun σ' M0 => tt σ' M0 fun b M' =>
    if b = true then te σ' M' fun e M'' => M'' p = some (.lst acc) ∧ acc.length < sizeLine ∧ Pv (k + 1) (acc ++ [e]) (mput M'' p (.lst (acc ++ [e]))) else Pv (k + 1) acc M') ∧
  ∀ acc M, Pv ds.length acc M → M p = some (.lst acc) ∧ Q (.lst acc) (mdel M p)
theorem rd_comp (h : ti σ M fun ds M1 => CompB g tt te (List.replicate n none ++ slots.map fun j => (σ[j]?).getD none) ds M1 Q) : tComp3 ti n slots g tt te σ M Q := h
theorem rd_forG {tb : TS3} (h : ti σ M fun ds M1 => ∃ Pv : Nat → Lo → Mem → Prop, Pv 0 σ M1 ∧
  (∀ k d σ M, ds[k]? = some d → Pv k σ M → g d σ M fun σ' M' => tb { T with nx := Pv (k + 1), ct := Pv (k + 1), bk := T.nx } σ' M') ∧ ∀ σ M, Pv ds.length σ M → T.nx σ M) : tForG3 ti g tb T σ M := h
def onTup (R : List D → Mem → Prop) : DK := fun d M1 => match d with | .tup ds => R ds M1 | _ => False
def onLst (R : List D → Mem → Prop) : DK := fun d M1 => match d with | .lst ds => R ds M1 | _ => False
theorem rd_iTup {R : List D → Mem → Prop} (h : te σ M (onTup R)) : iTup3 te σ M R := h
theorem rd_iList {R : List D → Mem → Prop} (h : te σ M (onLst R)) : iList3 te σ M R := h
theorem rd_onTup {R : List D → Mem → Prop} {ds : List D} (h : R ds M) : onTup R (.tup ds) M := h
theorem rd_onLst {R : List D → Mem → Prop} {ds : List D} (h : R ds M) : onLst R (.lst ds) M := h
end
theorem rd_iteTe {b : Bool} {P R : Prop} (e : b = true) (h : P) : if b = true then P else R := by rw [if_pos e]; exact h
theorem rd_iteFe {b : Bool} {P R : Prop} (e : b = false) (h : R) : if b = true then P else R := by rw [if_neg (by rw [e]; exact Bool.false_ne_true)]; exact h
theorem rd_eqv {x y : D} {b : Bool} {M : Mem} {Q : DK} (hx : dOk x) (hy : dOk y) (e : PyData.eqv (pyD x) (pyD y) = b) (h : Q (.bl b) M) : rEq3 x y M Q := .inl ⟨hx, hy, by rw [e]; exact h⟩
theorem rd_nev {x y : D} {b : Bool} {M : Mem} {Q : DK} (hx : dOk x) (hy : dOk y) (e : PyData.eqv (pyD x) (pyD y) = b) (h : Q (.bl (!b)) M) : rNe3 x y M Q := .inl ⟨hx, hy, by rw [e]; exact h⟩
theorem eqvI (x y : Int) : PyData.eqv (pyD (.int x)) (pyD (.int y)) = (x == y) := by simp [pyD, PyData.eqv]
theorem rd_eqI {x y : Int} {M : Mem} {Q : DK} (h : Q (.bl (x == y)) M) : rEq3 (.int x) (.int y) M Q := rd_eqv intOkD intOkD (eqvI x y) h
theorem rd_neI {x y : Int} {M : Mem} {Q : DK} (h : Q (.bl (!(x == y))) M) : rNe3 (.int x) (.int y) M Q := rd_nev intOkD intOkD (eqvI x y) h
theorem pen_same {M M' : Mem} {p q : Addr} {b : Nat} (h : Pen M q b) (s : Same3 p M M') (hn : q ≠ p) : Pen M' q b := by
  obtain ⟨ns, a, l, h1, h2⟩ := h
  exact ⟨ns, a, l, by rw [s q hn]; exact h1, h2⟩
theorem pen_put {M : Mem} {p q : Addr} {b : Nat} {o : MO} (h : Pen M q b) (hn : q ≠ p) : Pen (mput M p o) q b := pen_same h (fun a ha => mput_ne ha) hn
theorem pen_ne {M : Mem} {p q : Addr} {b : Nat} (h : Pen M q b) (hp : M p = none) : q ≠ p := by
  rintro rfl
  obtain ⟨ns, a, l, h1, _⟩ := h
  rw [hp] at h1; cases h1
theorem mdel_ne {M : Mem} {a b : Addr} (h : b ≠ a) : mdel M a b = M b := by unfold mdel; rw [if_neg h]
theorem mdel_same {M : Mem} {a : Addr} : mdel M a a = none := by unfold mdel; rw [if_pos rfl]
theorem comp_pen {g : TG3} {tt : TT3} {te : TE3} {σ0 : Lo} {M1 : Mem} {Q : DK} {ds : List D} {q : Addr} {b : Nat} (c : Nat) (P : Nat → D → D → Prop) (hP : Pen M1 q b) (hl : ds.length < sizeLine)
    (turn : ∀ k d p acc M2 (R : D → Mem → Prop) (F : Mem → Prop), ds[k]? = some d → Pen M2 q (b + c * k) → M2 p = some (.lst acc) → q ≠ p → (∀ a, a ≠ q → a ≠ p → M2 a = M1 a) → (∀ e M5, P k d e → Pen M5 q (b + c * (k + 1)) → Same3 q M2 M5 → R e M5) →
      g d σ0 M2 fun σ' M3 => tt σ' M3 fun bb M4 => if bb = true then te σ' M4 R else F M4)
    (done : ∀ acc M2, acc.length = ds.length → (∀ k d e, ds[k]? = some d → acc[k]? = some e → P k d e) → Pen M2 q (b + c * ds.length) → Same3 q M1 M2 → Q (.lst acc) M2) :
    CompB g tt te σ0 ds M1 Q := by
  intro p hp
  have hqp := pen_ne hP hp
  refine ⟨fun k acc M2 => acc.length = k ∧ (∀ j d e, ds[j]? = some d → acc[j]? = some e → P j d e) ∧ Pen M2 q (b + c * k) ∧ M2 p = some (.lst acc) ∧ ∀ a, a ≠ q → a ≠ p → M2 a = M1 a, ⟨rfl, fun j d e _ h => by simp at h, by rw [Nat.mul_zero, Nat.add_zero]; exact pen_put hP hqp, mput_same, fun a _ ha => mput_ne ha⟩, ?_, ?_⟩
  · rintro k d acc M2 hd ⟨hk, hall, hpen, hacc, hsame⟩
    have hkl : k < ds.length := (List.getElem?_eq_some_iff.mp hd).1
    refine turn k d p acc M2 _ _ hd hpen hacc hqp hsame fun e M5 he hp5 hs5 => ?_
    refine ⟨by rw [hs5 p (Ne.symm hqp)]; exact hacc, by lia, by simp [hk], fun j d' e' hd' he' => ?_, pen_put hp5 hqp, mput_same, fun a ha1 ha2 => ?_⟩
    · rcases Nat.lt_or_ge j acc.length with hj | hj
      · rw [List.getElem?_append_left hj] at he'
        exact hall j d' e' hd' he'
      · rw [List.getElem?_append_right hj] at he'
        have hj0 : j - acc.length = 0 := by
          rcases Nat.eq_zero_or_pos (j - acc.length) with z | z
          · exact z
          · rw [List.getElem?_eq_none (by simp; lia)] at he'; cases he'
        rw [hj0] at he'
        cases he'
        have : j = k := by lia
        subst this
        rw [hd] at hd'; cases hd'
        exact he
    · rw [mput_ne ha2, hs5 a ha1]; exact hsame a ha1 ha2
  · rintro acc M2 ⟨hk, hall, hpen, hacc, hsame⟩
    refine ⟨hacc, done acc (mdel M2 p) hk hall ?_ fun a ha => ?_⟩
    · exact pen_same hpen (p := p) (fun a ha => mdel_ne ha) hqp
    · by_cases hap : a = p
      · subst hap; rw [mdel_same, hp]
      · rw [mdel_ne hap]; exact hsame a ha hap
end L3
namespace L3
open PySem PySem.Spec PyProof.Rows L2
section
variable {X : Cx} {a b e : Expr} {ta tb te : TE3} {pos : Pos}
def rMin3 : C3 := fun ds M Q => match ds with
  | [.int i, .int j] => Q (.int (if j < i then j else i)) M
  | _ => False
theorem c3_min (hc : X.calm = true) : CallR3 X (.builtin "min") rMin3 := CallR3.of (call_min2 hc) fun H M xs xvs Q m px q => by
  cases px with
  | nil => exact (q : False).elim
  | cons p1 ps =>
  cases ps with
  | nil => first | exact (q : False).elim | (cases p1 <;> exact (q : False).elim)
  | cons p2 ps2 =>
  cases p1 with
  | int =>
    cases p2 with
    | int =>
      cases ps2 with
      | nil => exact ⟨_, _, rfl, up0 m .int q⟩
      | cons _ _ => exact (q : False).elim
    | _ => first | exact (q : False).elim | (cases ps2 <;> exact (q : False).elim)
  | _ => first | exact (q : False).elim | (cases ps2 <;> exact (q : False).elim) | (cases p2 <;> cases ps2 <;> exact (q : False).elim)
def rTuple3 : C3 := fun ds M Q => match ds with
  | [.lst xs] => Q (.tup xs) M
  | [.tup xs] => Q (.tup xs) M
  | [.ref a] => ∃ xs, M a = some (.lst xs) ∧ Q (.tup xs) M
  | _ => False
theorem c3_tuple : CallR3 X (.type "tuple") rTuple3 := CallR3.of call_tuple_of fun H M xs xvs Q m px q => by
  rcases px with _ | ⟨pd, ps⟩; (exact (q : False).elim); rcases ps with _ | ⟨p2, ps2⟩; rotate_left; (first | exact (q : False).elim | (cases pd <;> exact (q : False).elim))
  cases pd with
  | lst h r => exact ⟨_, _, rfl, .inl ⟨SqL.of3 h, fun l hl => ⟨_, M, Step.lay hl, m.lay hl, .tup (.inl ⟨.inl upd_same, m.free hl⟩) (r.mono (Step.lay hl)), q⟩⟩⟩
  | tup h r => exact ⟨_, _, rfl, .inr ⟨SqT.of3 h, _, M, .refl, m, .tup h r, q⟩⟩
  | ref =>
    obtain ⟨ds, hm, q⟩ := q
    obtain ⟨ho, e1, r⟩ := m _ _ hm
    cases ho <;> first | exact r.elim | skip
    have r' : Reps X.K M H ds _ := r
    exact ⟨_, _, rfl, .inl ⟨.inl (.inl e1), fun l hl => ⟨_, M, Step.lay hl, m.lay hl, .tup (.inl ⟨.inl upd_same, m.free hl⟩) (r'.mono (Step.lay hl)), q⟩⟩⟩
  | _ => exact (q : False).elim
def joinOk (x : Str) (ys : List Str) : Prop := (ys.map fun y => y.length).sum + ys.length * x.length ≤ 16777216
def rJoin3 : M3 := fun x xs M Q => ∃ z, ∃ ys : List Str, x = .str z ∧ xs = [.lst (ys.map D.str)] ∧ joinOk z ys ∧ Q (.str (Txt.join z ys)) M
theorem strs_of {K : PySem.W.Frag} {M : Mem} {H : Hp} : ∀ {ys : List Str} {vs : List V} {its : List Value}, Reps K M H (ys.map D.str) vs → Vals vs its → StrsAre its ys
  | [], _, _, r, v => by cases r; cases v; exact .nil
  | y :: ys, _, _, .cons p1 p2, v => by
    cases p1
    cases v with
    | cons i1 i2 =>
      obtain ⟨t, rfl⟩ := i1
      exact .cons y t (strs_of p2 i2)
theorem m3_join : MtR3 X "str.join" rJoin3 := by
  rintro pins s σv H M x xs xv xvs v us Q I m rv rvs px pxs ⟨z, ys, rfl, rfl, hj, q⟩
  obtain ⟨yv, rfl, py⟩ := reps1 pxs
  obtain ⟨u, rfl, ru⟩ := vals1 rvs
  cases px
  obtain ⟨t, rfl⟩ := rv
  cases py with
  | lst h1 r1 =>
    cases ru
    obtain ⟨its, ri, pl, hz⟩ := I.list (SqL.of3 h1)
    exact join_list pl.isList (by simpa using strs_of r1 ri) hj fun t' k => ⟨_, .str _, M, H, I.tok k, .refl, m, ⟨_, rfl⟩, .str, q⟩
def subIn (z w : Str) : Bool := !(Builtin.Str.occurrences w z 0 w.length 1).isEmpty
def seqD (M : Mem) : D → Option (List D)
  | .lst ds => some ds
  | .tup ds => some ds
  | .ref a => match M a with | some (.lst ds) => some ds | _ => none
  | _ => none
def rIn3 (neg : Bool) : R3 := fun x y M Q => (∃ z w, x = .str z ∧ y = .str w ∧ Q (.bl (neg ^^ subIn z w)) M) ∨ ∃ z, ∃ ys : List Str, x = .str z ∧ seqD M y = some (ys.map D.str) ∧ Q (.bl (neg ^^ ys.any (· == z))) M
theorem strsV_of {K : PySem.W.Frag} {M : Mem} {H : Hp} : ∀ {ys : List Str} {vs : List V}, Reps K M H (ys.map D.str) vs → vs = ys.map V.str
  | [], _, r => by cases r; rfl
  | y :: ys, _, .cons p1 p2 => by
    cases p1
    rw [strsV_of p2]; rfl
theorem seqD_sq {K : PySem.W.Frag} {M : Mem} {H : Hp} {y : D} {yv : V} {ds : List D} (m : MRel K M H) (r : Rep K M H y yv) (e : seqD M y = some ds) : ∃ p vs, yv = .ref p ∧ (SqL K H p vs ∨ SqT K H p vs) ∧ Reps K M H ds vs := by
  cases r with
  | tup h r => cases e; exact ⟨_, _, rfl, .inr (SqT.of3 h), r⟩
  | lst h r => cases e; exact ⟨_, _, rfl, .inl (SqL.of3 h), r⟩
  | @ref a =>
    unfold seqD at e
    dsimp only at e
    cases hm : M a with
    | none => rw [hm] at e; cases e
    | some o =>
      rw [hm] at e
      cases o with
      | dct _ => cases e
      | dt _ => cases e
      | lst xs =>
        cases e
        obtain ⟨ho, e1, r⟩ := m _ _ hm
        cases ho <;> first | exact (r : False).elim | skip
        exact ⟨_, _, rfl, .inl (.inl (.inl e1)), r⟩
  | _ => cases e
theorem in_strs {z : Str} {ys : List Str} : inV (.str z) (ys.map V.str) = ys.any (· == z) := by
  unfold inV
  rw [List.any_map]
  rfl
theorem flat_strs (ys : List Str) : (ys.map V.str).all flatV = true := by
  rw [List.all_map, List.all_eq_true]
  intro _ _; rfl
theorem o3_in : OpR3 X (compareOp .In) (rIn3 false) := by
  rintro pins s σv H M x y xv yv v u Q I m rx ry px py (⟨z, w, rfl, rfl, q⟩ | ⟨z, ys, rfl, hy, q⟩)
  · cases px; cases py
    exact thn (op_in_str pins s σv H _ _ v u _ I rx ry ⟨z, w, rfl, rfl, up0 m .bl (by rw [Bool.false_xor] at q; exact q)⟩) fun _ _ h => ep_up h
  · cases px
    obtain ⟨p, vs, rfl, sq, r⟩ := seqD_sq m py hy
    have e := strsV_of r
    subst e
    exact thn (op_in_seq pins s σv H _ _ v u _ I rx ry ⟨p, _, rfl, sq, rfl, flat_strs ys, up0 m .bl (by rw [in_strs]; rw [Bool.false_xor] at q; exact q)⟩) fun _ _ h => ep_up h
end
end L3
namespace L3
open PySem PySem.Spec PyProof.Rows L2
section
variable {X : Cx} {e : Expr} {te : TE3} {pos : Pos}
def rSlS : V → Option Int → Option Int → Hp → VK → Prop := fun x lo hi H Q => ∃ z, x = .str z ∧ z.length ≤ sizeLine ∧ Q (.str (Txt.slice z lo hi)) H
theorem sl_str : SlR X rSlS := by
  intro pins s σ H x v vl vu lo hi sl Q I rx hs pl pu h
  obtain ⟨z, rfl, hz, q⟩ := h
  obtain ⟨t, rfl⟩ := rx
  refine ⟨"str", _, PyProof.Rows.slot_str_getitem.lookup, typeIs_str _ _ _, ?_⟩
  obtain ⟨l, rfl, el⟩ : ∃ l : Option (Int × Tok), vl = partValue l ∧ lo = l.map (·.1) := by
    cases pl with
    | none => exact ⟨none, rfl, rfl⟩
    | int i t => exact ⟨some (i, t), rfl, rfl⟩
  obtain ⟨u, rfl, eu⟩ : ∃ u : Option (Int × Tok), vu = partValue u ∧ hi = u.map (·.1) := by
    cases pu with
    | none => exact ⟨none, rfl, rfl⟩
    | int i t => exact ⟨some (i, t), rfl, rfl⟩
  subst el eu
  refine wpAny_getItem_str_slice (st := none) (l := l) (u := u) hs rfl ?_
  have hle : (Txt.slice z (l.map (·.1)) (u.map (·.1))).length ≤ sizeLine := Nat.le_trans (Txt.slice_le _ _ _) hz
  unfold sliceMade slicePicked
  unfold Txt.slice at q hle
  split
  · rename_i hc
    split at q
    · exact ⟨.str _, H, I, ⟨_, rfl⟩, q⟩
    · rename_i hn
      exact absurd hc hn
  · rename_i hc
    split at hle
    · rename_i hn
      exact absurd hn hc
    · rename_i hn
      rw [if_neg hn] at q
      exact ⟨hle, .str _, H, I.tok _, ⟨_, rfl⟩, q⟩
def rSlA3 : D → Option Int → Option Int → Mem → DK → Prop := fun x lo hi M Q => match x with
  | .lst ds => Q (.lst (cutD ds lo hi)) M
  | .tup ds => ¬ (HT.sIx ds.length 0 lo = 0 ∧ HT.sIx ds.length ds.length hi = ds.length) ∧ Q (.tup (cutD ds lo hi)) M
  | .str z => z.length ≤ sizeLine ∧ Q (.str (Txt.slice z lo hi)) M
  | _ => False
def tSlA3 (te : TE3) (tl th : TO3) : TE3 := fun σ M Q => te σ M fun x M1 => tl σ M1 fun l M2 => th σ M2 fun u M3 => rSlA3 x l u M3 Q
theorem pe3_slA {lo hi : Option Expr} {tl th : TO3} {p2 : Pos} (he : PE3 X e te) (hl : PO3 X lo tl) (hu : PO3 X hi th) :
    PE3 X (.Subscript e (.Slice lo hi none p2) pos) (tSlA3 te tl th) := by
  intro pins s σv H σ M Q I hS hM h
  refine Subscript_ (thn (he pins s σv H σ M _ I hS hM h) fun v s1 ⟨x, xv, M1, H1, I1, st1, m1, rv1, p1, q1⟩ => ?_)
  refine wpAny_Slice (thn (hl pins s1 σv H1 σ M1 _ I1 (hS.mono st1) m1 q1) fun vl s2 ⟨l, M2, H2, I2, st2, m2, pl, q2⟩ => thn (hu pins s2 σv H2 σ M2 _ I2 (hS.mono (st1.trans st2)) m2 q2) fun vu s3 ⟨u, M3, H3, I3, st3, m3, pu, q3⟩ => ?_)
  rw [evalPart_none]
  refine wpAny_pure ?_
  have I4 : Inv X pins σv H3 { s3 with heap := s3.heap.push { cls := .type "slice", data := .fields #[vl, vu, .none] } } := I3.kept (t' := s3.toks) fun b ob q => Heap.get?_push_of_some _ q
  have p3 := p1.mono (st2.trans st3)
  have fin : (rSlL X.K xv l u H3 (Up X.K M3 H3 Q) ∨ rSlT X.K xv l u H3 (Up X.K M3 H3 Q)) ∨ rSlS xv l u H3 (Up X.K M3 H3 Q) := by
    cases x <;> first | exact (q3 : False).elim | skip
    · cases p3
      exact .inr ⟨_, rfl, q3.1, up0 m3 .str q3.2⟩
    · cases p3 with | tup h1 r =>
      obtain ⟨hw, q⟩ := q3
      rw [r.length] at hw
      exact .inl (.inr ⟨_, _, rfl, SqT.of3 h1, hw, fun p hp => ⟨_, M3, Step.lay hp, m3.lay hp, .tup (.inl ⟨.inl upd_same, m3.free hp⟩) ((r.cut l u).mono (Step.lay hp)), q⟩⟩)
    · cases p3 with | lst h1 r =>
      refine .inl (.inl ⟨_, _, rfl, SqL.of3 h1, fun p hp => ?_⟩)
      exact ⟨_, M3, Step.lay hp, m3.lay hp, .lst (.inl ⟨.inl upd_same, m3.free hp⟩) ((r.cut l u).mono (Step.lay hp)), q3⟩
  obtain ⟨T, id, hT, ht, hg⟩ := ((sl_list.or sl_tup).or sl_str) pins { s3 with heap := s3.heap.push { cls := .type "slice", data := .fields #[vl, vu, .none] } } σv H3 xv v vl vu l u s3.heap.objs.size _ I4 rv1 (Heap.IsSliceOf.new ..) pl pu fin
  show wpAny (model X.prog X.w) X.A (subscriptTail e (.Slice lo hi none p2) v (.ref s3.heap.objs.size)) (EP3 X pins σv M H Q) X.xe { s3 with heap := s3.heap.push { cls := .type "slice", data := .fields #[vl, vu, .none] } }
  exact tail_any (ops := [.ref s3.heap.objs.size, v]) ht hT (thn hg fun _ _ z => (ep_up z).trans ((st1.trans st2).trans st3)) (by with_unfolding_all rfl)
end
theorem fnOk_zero {P : Program} {w : World} {K : PySem.W.Frag} {mg : Str → Option Value} {base : Heap} {k : Nat} {f : Addr} {fd : FuncData} {ps : List Str} {sp : Nat → Sp3} (hl : ∀ n ds M Q, sp n ds M Q → ds.length = ps.length) (hz : ∀ ds M Q, ¬ sp 0 ds M Q) :
    FnOk P w K mg base CX0 k f fd ps (dnSp K (sp 0)) := ⟨fun vs H Q E ⟨ds, M, Q3, r, _, h, _⟩ => absurd h (hz _ _ _), fun A outer s H args us vs Q E hr he hb hv ⟨ds, M, Q3, r, _, h, _⟩ => absurd h (hz _ _ _)⟩
theorem b3_min : bootBuiltins "min" = some (.builtin "min") := by decide +kernel
end L3
namespace L3
open PySem PySem.Spec PyProof.Rows L2
theorem cps_app (x y : Str) : (x ++ y).cps.toList = x.cps.toList ++ y.cps.toList := by
  show (x.cps ++ y.cps).toList = _
  simp
theorem len_cps (x : Str) : x.length = x.cps.toList.length := by
  show x.cps.size = _
  simp
theorem rd_iteNT {P R : Prop} (h : R) : if (!true) = true then P else R := h
theorem rd_iteNF {P R : Prop} (h : P) : if (!false) = true then P else R := h
theorem rd_slA {te : TE3} {tl th : TO3} {σ : Lo} {M : Mem} {Q : DK} (h : te σ M fun x M1 => tl σ M1 fun l M2 => th σ M2 fun u M3 => rSlA3 x l u M3 Q) : tSlA3 te tl th σ M Q := h
theorem rd_lstM {tas : TA3} {σ : Lo} {M : Mem} {Q : DK} (h : tas σ M fun xs M1 => xs.length ≤ sizeLine ∧ ∀ p, M1 p = none → Q (.ref p) (mput M1 p (.lst xs))) : tLstM3 tas σ M Q := h
end L3
namespace L3
open PySem PySem.Spec PyProof.Rows L2
section
variable {X : Cx} {a b e : Expr} {ta tb te : TE3} {t : TA3} {pos p : Pos}
def tWhile3 (c : TT3) (tb : TS3) : TS3 := fun T σ M => ∃ W : Nat → Lo → Mem → Prop, (∃ m, W m σ M) ∧ ∀ m σ M, W m σ M →
  c σ M fun b M1 => if b = true then tb { T with nx := fun σ' M' => ∃ m', m' < m ∧ W m' σ' M', ct := fun σ' M' => ∃ m', m' < m ∧ W m' σ' M', bk := T.nx } σ M1 else T.nx σ M1
theorem ps3_while {c : Expr} {body : List Stmt} {tc : TT3} {tb : TS3} (hp : PassesOwn (model X.prog X.w) X.A X.env X.xe) (hc : PT3 X c tc) (hb : PSs3 X body tb) : PS3 X (.While c body [] pos) (tWhile3 tc tb) :=
  PS3.of (ps_while hp hc.dn hb.dn) fun pins s σv H σ M T I hS hM hx0 => by
    obtain ⟨W, ⟨m0, w0⟩, turn⟩ := hx0
    refine ⟨fun m σv' H' => ∃ σ' M', Step M H M' H' ∧ MRel X.K M' H' ∧ SRel X.K M' H' σ' σv' ∧ W m σ' M', ⟨m0, σ, M, .refl, hM, hS, w0⟩, ?_⟩
    rintro m σv' H' ⟨σ', M', st, mm, sr, w⟩
    refine ⟨σ', M', _, sr, mm, turn m σ' M' w, fun b M1 H1 st1 m1 q1 => ?_⟩
    cases b with
    | true =>
      rw [if_pos rfl] at q1 ⊢
      refine ⟨fun σ2 H2 => ∃ m', m' < m ∧ ∃ σ'' M'', Step M H M'' H2 ∧ MRel X.K M'' H2 ∧ SRel X.K M'' H2 σ'' σ2 ∧ W m' σ'' M'', fun σ2 H2 ⟨m', hm, z⟩ => ⟨m', hm, z⟩, σ', M1, _, sr.mono st1, m1, q1, ?_⟩
      have s0 := st.trans st1
      exact ⟨fun σ2 v2 M2 H2 s2 m2 r2 ⟨m', hm, q2⟩ => ⟨m', hm, σ2, M2, s0.trans s2, m2, r2, q2⟩, fun σ2 v2 M2 H2 s2 m2 r2 q2 => ⟨σ2, M2, s0.trans s2, m2, r2, q2⟩,
        fun σ2 v2 M2 H2 s2 m2 r2 ⟨m', hm, q2⟩ => ⟨m', hm, σ2, M2, s0.trans s2, m2, r2, q2⟩, fun d v2 M2 H2 s2 m2 r2 q2 => ⟨d, M2, s0.trans s2, m2, r2, q2⟩⟩
    | false =>
      rw [if_neg Bool.false_ne_true] at q1 ⊢
      exact ⟨σ', M1, st.trans st1, m1, sr.mono st1, q1⟩
def tListM3 (t : TA3) : TE3 := fun σ M Q => t σ M fun ds M1 => match ds with
  | [.lst xs] => ∀ p, M1 p = none → Q (.ref p) (mput M1 p (.lst xs))
  | [.tup xs] => ∀ p, M1 p = none → Q (.ref p) (mput M1 p (.lst xs))
  | _ => False
def rExt3 : M3 := fun x xs M Q => ∃ a b ds es, x = .ref a ∧ xs = [.ref b] ∧ M a = some (.lst ds) ∧ M b = some (.lst es) ∧ ds.length + es.length ≤ sizeLine ∧ Q .non (mput M a (.lst (ds ++ es)))
theorem m3_extend : MtR3 X "list.extend" rExt3 := MtR3.of mt_extend fun H M x xs xv xvs Q m px pxs hx0 => by
  obtain ⟨a, b, ds, es, e1, e2, ha, hb, hl, q⟩ := hx0
  subst e1 e2
  cases px
  obtain ⟨yv, rfl, py⟩ := reps1 pxs
  cases py
  obtain ⟨ho, h3, r⟩ := m _ _ ha
  cases ho <;> first | exact (r : False).elim | skip
  rename_i vs
  obtain ⟨ho2, h4, r2⟩ := m _ _ hb
  cases ho2 <;> first | exact (r2 : False).elim | skip
  rename_i us
  have r' : Reps X.K M H ds vs := r
  have r2' : Reps X.K M H es us := r2
  exact ⟨a, b, vs, us, rfl, rfl, h3, h4, by rw [← r'.length, ← r2'.length]; exact hl, .non, _, Step.put (.inr (by rw [ha]; simp)), m.put (.inr (by rw [ha]; simp)) (o := .lst (ds ++ es)) (Reps.append r' r2'), .non, q⟩
def rSum3 : C3 := fun ds M Q => ∃ ns : List Int, ds = [.lst (ns.map D.int)] ∧ (∀ n ∈ ns, 0 ≤ n ∧ n ≤ 1000000) ∧ ns.length ≤ 1000000 ∧ Q (.int ns.sum) M
theorem ints_of {K : PySem.W.Frag} {M : Mem} {H : Hp} : ∀ {ns : List Int} {vs : List V} {its : List Value}, Reps K M H (ns.map D.int) vs → Vals vs its → ∀ i v, its[i]? = some v → ∃ t, v = Value.int (ns.getD i 0) t
  | [], _, _, r, v => by cases r; cases v; intro i v h; simp at h
  | n :: ns, _, _, .cons p1 p2, v => by
    cases p1
    cases v with
    | cons i1 i2 =>
      obtain ⟨t, rfl⟩ := i1
      intro i v h
      cases i with
      | zero => simp at h; exact ⟨t, by simp [← h]⟩
      | succ i => simpa using ints_of p2 i2 i v (by simpa using h)
theorem preSum_take (ns : List Int) : ∀ k, k ≤ ns.length → preSum (fun i => ns.getD i 0) k = (ns.take k).sum
  | 0, _ => rfl
  | k + 1, h => by
    have e : preSum (fun i => ns.getD i 0) (k + 1) = preSum (fun i => ns.getD i 0) k + ns.getD k 0 := rfl
    rw [e, preSum_take ns k (by lia), List.take_succ, List.sum_append]
    have : ns[k]? = some ns[k] := by simp
    simp [List.getD, this]
theorem sum_bound : ∀ (ns : List Int), (∀ n ∈ ns, 0 ≤ n ∧ n ≤ 1000000) → 0 ≤ ns.sum ∧ ns.sum ≤ 1000000 * ns.length
  | [], _ => by simp
  | n :: ns, h => by
    obtain ⟨a, b⟩ := sum_bound ns fun x hx => h x (List.mem_cons_of_mem _ hx)
    have := h n List.mem_cons_self
    simp only [List.sum_cons, List.length_cons]
    lia
theorem c3_sum (hc : X.calm = true) : CallR3 X (.builtin "sum") rSum3 := by
  rintro pins s σv H M xs xvs us Q I m rv px ⟨ns, rfl, hn, hlen, q⟩
  obtain ⟨xv, rfl, p1⟩ := reps1 px
  obtain ⟨u, rfl, ru⟩ := vals1 rv
  cases p1 with
  | @lst aL dsL vsL h1 r1 =>
    cases ru
    obtain ⟨its, ri, pl, hz⟩ := I.list (SqL.of3 h1)
    obtain ⟨o, ho, hcl, n, hd⟩ := id pl.isList
    have hlt := Heap.lt_size ho
    have hil : its.length = ns.length := by rw [← ri.length, ← r1.length]; simp
    refine call_sum_walk (wpAny_pyIter_list pl.isList ?_)
    refine ⟨s.heap.objs.size, _, _, _, _, _, fun i => ns.getD i 0, rfl, Walks.list (A := X.A.in1) (by exact I.ok.hd hc) s.heap.objs.size _ (Nat.ne_of_lt hlt) _, ⟨⟨_, Heap.get?_push_size _ rfl, rfl, rfl⟩, ⟨o, Heap.get?_push_of_some _ ho, hcl, n, hd⟩⟩, ?_, ?_, ?_, fun h' tk t' k => ?_⟩
    · intro b hb
      simp only [List.mem_cons, List.not_mem_nil, or_false] at hb
      have e0 : s.heap.objs.size < (s.heap.push { cls := .type "list_iterator", data := .fields #[.ref aL, .int 0 0] }).objs.size := Heap.lt_size (Heap.get?_push_size _ rfl)
      rcases hb with rfl | rfl
      · exact e0
      · exact Nat.lt_trans hlt e0
    · intro i v hv
      exact ints_of r1 ri i v (by simpa using hv)
    · intro j hj
      have hj' : j < ns.length := by rw [← hil]; simpa using hj
      have hb := hn (ns[j]) (List.getElem_mem hj')
      have e1 : ns.getD j 0 = ns[j] := by simp [List.getD, hj']
      refine ⟨by show InLong (ns.getD j 0); rw [e1]; constructor <;> lia, ?_⟩
      rw [preSum_take ns (j + 1) (by lia)]
      obtain ⟨c1, c2⟩ := sum_bound (ns.take (j + 1)) fun x hx => hn x (List.mem_of_mem_take hx)
      have : (ns.take (j + 1)).length ≤ 1000000 := by rw [List.length_take]; lia
      constructor <;> lia
    · rw [show its.toArray.size = ns.length by rw [List.size_toArray]; exact hil, preSum_take ns _ (Nat.le_refl _), List.take_length]
      exact ⟨_, .int _, M, H, I.kept (t' := tk) fun b ob e => k b ob (by simp; exact Nat.ne_of_lt (Heap.lt_size e)) (Heap.get?_push_of_some _ e), .refl, m, ⟨_, rfl⟩, .int, q⟩
theorem pe3_listM (hg : Gl X "list") (hm : X.mg "list" = none) (ha : PA3 X [e] t) (he : starEach [e] X.env = (false, eval e X.env) :: starEach [] X.env := by rfl) (hpl : (backTo pos (starEach [] X.env)).any (·.1) = false := by rfl) : PE3 X (.Call (.Name "list" p) [e] [] pos) (tListM3 t) := by
  intro pins s σv H σ M Q I hS hM h
  refine wpAny_Call_Name_kw (ld_blt I hg hm b3_list ?_ (by decide) (by decide))
  refine PyProof.Rows.callWith_type1 (thn (ha pos pins s σv H σ M _ I hS hM h) fun us s1 ⟨ds, vs, M1, H1, I1, st1, m1, rv1, p1, q1⟩ => ?_) he hpl
  have key : ∀ (xs : List D) (vs' : List V) (pp : Addr), Reps X.K M1 H1 xs vs' → (SqL X.K H1 pp vs' ∨ SqT X.K H1 pp vs') → vs = [.ref pp] → (∀ p, M1 p = none → Q (.ref p) (mput M1 p (.lst xs))) → wpAny (model X.prog X.w) X.A (call (.type "list") us) (EP3 X pins σv M H Q) X.xe s1 := by
    intro xs vs' pp r sq e q
    subst e
    refine thn (call_list_of pins s1 σv H1 [.ref pp] us (fun v H2 => ∃ l, v = .ref l ∧ H1 l = none ∧ H2 = upd H1 l (.lst vs')) I1 rv1 ⟨pp, vs', rfl, sq, fun l hl => ⟨l, rfl, hl, rfl⟩⟩) fun u s2 hx0 => ?_
    obtain ⟨v, H2, I2, ru, l, e1, hl, e2⟩ := hx0
    subst e1 e2
    exact ⟨.ref l, .ref l, mput M1 l (.lst xs), _, I2, st1.trans (Step.put (.inl hl)), m1.put (.inl hl) (o := .lst xs) r, ru, .ref, q l (m1.free hl)⟩
  have px := p1
  have q := q1
  clear p1 q1
  rcases px with _ | ⟨pd, ps⟩; (exact (q : False).elim); rcases ps with _ | ⟨p2, ps2⟩; rotate_left; (first | exact (q : False).elim | (cases pd <;> exact (q : False).elim))
  cases pd with
  | lst h1 r1 => exact key _ _ _ r1 (.inl (SqL.of3 h1)) rfl q
  | tup h1 r1 => exact key _ _ _ r1 (.inr (SqT.of3 h1)) rfl q
  | _ => exact (q : False).elim
def rSplit3 : M3 := fun x xs M Q => ∃ z c, x = .str z ∧ xs = [.str ⟨#[c]⟩] ∧ c < 128 ∧ (1 ≤ z.length ∧ z.length ≤ 100000) ∧ (∀ c ∈ z.cps.toList, c < 128) ∧ (Builtin.Str.occurrences z ⟨#[c]⟩ 0 z.length (z.length + 1)).isEmpty = false ∧
  (Builtin.Str.partsBetween z (Builtin.Str.occurrences z ⟨#[c]⟩ 0 z.length (z.length + 1)) 1).length ≤ sizeLine ∧ Q (.lst ((Builtin.Str.partsBetween z (Builtin.Str.occurrences z ⟨#[c]⟩ 0 z.length (z.length + 1)) 1).map D.str)) M
theorem strsFrom_vals : ∀ (n : Nat) (l : List Str), Vals (l.map V.str) (strsFrom n l)
  | _, [] => .nil
  | n, x :: l => .cons ⟨n, rfl⟩ (strsFrom_vals (n + 1) l)
theorem strs_reps {K : PySem.W.Frag} {M : Mem} {H : Hp} : ∀ l : List Str, Reps K M H (l.map D.str) (l.map V.str)
  | [] => .nil
  | x :: l => .cons .str (strs_reps l)
theorem m3_split : MtR3 X "str.split" rSplit3 := by
  rintro pins s σv H M x xs xv xvs v us Q I m rv rvs px pxs ⟨z, c, rfl, rfl, hc, ⟨h1l, hl⟩, hz, ho, hp, q⟩
  obtain ⟨yv, rfl, py⟩ := reps1 pxs
  obtain ⟨u, rfl, ru⟩ := vals1 rvs
  cases px
  cases py
  obtain ⟨t, rfl⟩ := rv
  obtain ⟨t', rfl⟩ := ru
  have k1 : Builtin.Str.strKind z = 1 := by
    unfold Builtin.Str.strKind
    rw [if_pos]
    rw [Array.all_eq_true']
    intro c hc
    have := hz c (Array.mem_toList_iff.mpr hc)
    simp; lia
  have k2 : Builtin.Str.strKind ⟨#[c]⟩ = 1 := by
    unfold Builtin.Str.strKind
    rw [if_pos]
    simp; lia
  have hlen : (decide (z.length < (⟨#[c]⟩ : Str).length) || decide (Builtin.Str.strKind z < Builtin.Str.strKind ⟨#[c]⟩)) = false := by
    rw [k1, k2]
    simp [show (⟨#[c]⟩ : Str).length = 1 from rfl]
    lia
  refine call_meets F.slot_str_split (typeIs_str _ _ _) F.entry_str_split (F.args_str_split_2 _ _) (meets_str_split_sep z ⟨#[c]⟩ t t' hlen rfl ho (by rw [sizeLine_eq]; lia) hp) ?_
  have hf := I.fresh
  exact ⟨_, .ref _, M, _, I.lnew (strsFrom_vals _ _) (by rw [List.length_map]; exact hp), Step.lay hf, m.lay hf, rfl, .lst (.inl ⟨.inl upd_same, m.free hf⟩) (strs_reps _), q⟩
end
theorem b3_sum : bootBuiltins "sum" = some (.builtin "sum") := by decide +kernel
theorem b3_enumerate : bootBuiltins "enumerate" = some (.type "enumerate") := by decide +kernel
end L3
namespace MK
open PySem L2 L3
def ten30 : Int := 1000000000000000000000000000000
def bnd (n : Int) : Prop := -ten30 < n ∧ n < ten30
def ltr (x : Str) : Prop := ∀ c ∈ x.cps.toList, 97 ≤ c ∧ c ≤ 122
def nm (x : Str) : Prop := ltr x ∧ 1 ≤ x.length ∧ x.length ≤ 8
mutual
inductive Ex where
  | none | num (n : Int) | var (x : Str) | op (s : Str) (a b : Ex) | make (r : Str) (as : Exs)
inductive Exs where
  | nil | cons (a : Ex) (r : Exs)
end
mutual
def eD : Ex → D
  | .none => .tup [.str "none"]
  | .num n => .tup [.str "number", .int n]
  | .var x => .tup [.str "var", .str x]
  | .op s a b => .tup [.str "op", .str s, eD a, eD b]
  | .make r as => .tup [.str "make", .str r, .tup (eDs as)]
def eDs : Exs → List D
  | .nil => []
  | .cons a r => eD a :: eDs r
end
mutual
def nd : Ex → Nat
  | .none => 1
  | .num _ => 1
  | .var _ => 1
  | .op _ a b => 1 + nd a + nd b
  | .make _ as => 1 + nds as
def nds : Exs → Nat
  | .nil => 0
  | .cons a r => nd a + nds r
end
mutual
def dp : Ex → Nat
  | .none => 1
  | .num _ => 1
  | .var _ => 1
  | .op _ a b => 1 + max (dp a) (dp b)
  | .make _ as => 1 + dps as
def dps : Exs → Nat
  | .nil => 0
  | .cons a r => max (dp a) (dps r)
end
def exl : Exs → Nat
  | .nil => 0
  | .cons _ r => exl r + 1
def sgn (s : Str) : Prop := s = "+" ∨ s = "-" ∨ s = "*" ∨ s = "<" ∨ s = "="
mutual
def wf : Ex → Prop
  | .none => True
  | .num n => bnd n
  | .var x => nm x
  | .op s a b => sgn s ∧ wf a ∧ wf b
  | .make r as => nm r ∧ exl as ≤ 3 ∧ wfs as
def wfs : Exs → Prop
  | .nil => True
  | .cons a r => wf a ∧ wfs r
end
inductive Head where
  | leaf (h : Str) (rest : List D) | ife (e : D) | whl (e : D) | tr (cs : List (Str × Str))
mutual
inductive Deed where
  | mk (h : Head) (bs : Bls)
inductive Blk where
  | nil | cons (d : Deed) (r : Blk)
inductive Bls where
  | nil | cons (b : Blk) (r : Bls)
end
def catD : List (Str × Str) → List D → List D
  | (w, x) :: cs, t :: ts => .tup [.str w, .str x, t] :: catD cs ts
  | _, _ => []
def headD : Head → List D → D
  | .leaf h r, _ => .tup (.str h :: r)
  | .ife e, ts => .tup (.str "if" :: e :: ts)
  | .whl e, ts => .tup (.str "while" :: e :: ts)
  | .tr cs, ts => .tup [.str "try", ts.getD 0 (.tup []), .tup (catD cs ts.tail), ts.getD (cs.length + 1) (.tup [])]
mutual
def dD : Deed → D
  | .mk h bs => headD h (dTs bs)
def dB : Blk → List D
  | .nil => []
  | .cons d r => dD d :: dB r
def dTs : Bls → List D
  | .nil => []
  | .cons b r => .tup (dB b) :: dTs r
end
mutual
def cntD : Deed → Nat
  | .mk _ bs => 1 + cntBs bs
def cntB : Blk → Nat
  | .nil => 0
  | .cons d r => cntD d + cntB r
def cntBs : Bls → Nat
  | .nil => 0
  | .cons b r => cntB b + cntBs r
end
mutual
def dpD : Deed → Nat
  | .mk _ bs => dpBs bs
def dpB : Blk → Nat
  | .nil => 0
  | .cons d r => max (dpD d) (dpB r)
def dpBs : Bls → Nat
  | .nil => 0
  | .cons b r => max (1 + dpB b) (dpBs r)
end
def blen : Blk → Nat
  | .nil => 0
  | .cons _ r => blen r + 1
def bsl : Bls → Nat
  | .nil => 0
  | .cons _ r => bsl r + 1
def exOk (d : D) : Prop := ∃ e, d = eD e ∧ wf e ∧ nd e ≤ 9 ∧ dp e ≤ 4
def LeafOk (h : Str) (r : List D) : Prop :=
  ((h = "let" ∨ h = "give" ∨ h = "on") ∧ ∃ x e, r = [.str x, e] ∧ nm x ∧ exOk e) ∨
  ((h = "note" ∨ h = "close" ∨ h = "end") ∧ ∃ e, r = [e] ∧ exOk e) ∨
  (h = "ask" ∧ ∃ x y g e, r = [.str x, .str y, g, e] ∧ nm x ∧ nm y ∧ exOk g ∧ exOk e) ∨
  (h = "cast" ∧ ∃ x y g w e, r = [.str x, .str y, g, .str w, e] ∧ nm x ∧ nm y ∧ nm w ∧ exOk g ∧ exOk e) ∨
  (h = "leave" ∧ r = []) ∨
  (h = "fault" ∧ ∃ w e, r = [.str w, e] ∧ nm w ∧ exOk e)
def hOk : Head → Nat → Prop
  | .leaf h r, n => n = 0 ∧ LeafOk h r
  | .ife e, n => n = 2 ∧ exOk e
  | .whl e, n => n = 1 ∧ exOk e
  | .tr cs, n => n = cs.length + 2 ∧ cs.length ≤ 3 ∧ ∀ c ∈ cs, nm c.1 ∧ nm c.2
mutual
def okD : Deed → Prop
  | .mk h bs => hOk h (bsl bs) ∧ okBs bs
def okB : Blk → Prop
  | .nil => True
  | .cons d r => okD d ∧ okB r
def okBs : Bls → Prop
  | .nil => True
  | .cons b r => okB b ∧ okBs r
end
def hdD (h : Str × List Str) : D := .tup [.str h.1, .tup (h.2.map D.str)]
def EnvOk (M : Mem) (e p : Addr) : Prop := ∃ (hs : List (Str × List Str)) (ps : List Str), M e = some (.dct [(.inr "heads", .lst (hs.map hdD)), (.inr "pool", .lst (ps.map D.str))]) ∧
  (hs ≠ [] ∧ hs.length ≤ 8 ∧ ∀ h ∈ hs, nm h.1 ∧ h.2.length ≤ 3 ∧ ∀ y ∈ h.2, nm y) ∧ (ps ≠ [] ∧ ps.length ≤ 15 ∧ ∀ y ∈ ps, nm y) ∧ e ≠ p
def spLetters : Sp3 := fun ds M Q => ∃ p b, ∃ n : Int, ds = [.ref p, .int n] ∧ Pen M p b ∧ b + 12 < 2 ^ 30 ∧ 0 ≤ n ∧ n ≤ 10 ∧ ∀ x M', ltr x → (x.length : Int) = n → Pen M' p (b + 10) → Same3 p M M' → Q (.str x) M'
def spFresh : Sp3 := fun ds M Q => ∃ p a b, ∃ ys : List Str, ds = [.ref p, .ref a] ∧ a ≠ p ∧ M a = some (.lst (ys.map D.str)) ∧ ys.length ≤ 15 ∧ Pen M p b ∧ b + 30 < 2 ^ 30 ∧ ∀ x M', nm x → Pen M' p (b + 20) → Same3 p M M' → Q (.str x) M'
def spNames : Sp3 := fun ds M Q => ∃ p b, ∃ n : Int, ds = [.ref p, .int n] ∧ Pen M p b ∧ b + 300 < 2 ^ 30 ∧ 0 ≤ n ∧ n ≤ 8 ∧ ∀ (ys : List Str) M', (ys.length : Int) = n → (∀ y ∈ ys, nm y) → Pen M' p (b + 200) → Same3 p M M' → Q (.lst (ys.map D.str)) M'
def spWord : Sp3 := fun ds M Q => ∃ p b, ds = [.ref p] ∧ Pen M p b ∧ b + 30 < 2 ^ 30 ∧ ∀ x M', nm x → Pen M' p (b + 20) → Same3 p M M' → Q (.str x) M'
def spLeaf : Sp3 := fun ds M Q => ∃ p e b, ds = [.ref p, .ref e] ∧ EnvOk M e p ∧ Pen M p b ∧ b + 30 < 2 ^ 30 ∧ ∀ x M', wf x → nd x = 1 → dp x = 1 → Pen M' p (b + 20) → Same3 p M M' → Q (eD x) M'
def cst : Nat → Nat
  | 0 => 0
  | n + 1 => 3 * cst n + 40
def spExpr (n : Nat) : Sp3 := fun ds M Q => ∃ p e b, ∃ room deep : Nat, ds = [.ref p, .ref e, .int room, .int deep] ∧ EnvOk M e p ∧ Pen M p b ∧ b + cst n < 2 ^ 30 ∧ (1 ≤ room ∧ room ≤ 9) ∧ (1 ≤ deep ∧ deep ≤ n ∧ deep ≤ 4) ∧
  ∀ x M', wf x → nd x ≤ room → dp x ≤ deep → Pen M' p (b + cst n) → Same3 p M M' → Q (eD x) M'
def spSimple : Sp3 := fun ds M Q => ∃ p e b w, ds = [.ref p, .ref e, .bl w] ∧ EnvOk M e p ∧ Pen M p b ∧ b + 11000 < 2 ^ 30 ∧ ∀ h r M', LeafOk h r → Pen M' p (b + 11000) → Same3 p M M' → Q (dD (.mk (.leaf h r) .nil)) M'
def spInner : Sp3 := fun ds M Q => ∃ h bs, ds = [dD (.mk h bs)] ∧ hOk h (bsl bs) ∧ Q (.lst (dTs bs)) M
def spCount (n : Nat) : Sp3 := fun ds M Q => ∃ b, ds = [.tup (dB b)] ∧ okB b ∧ dpB b + 1 ≤ n ∧ cntB b ≤ 1000 ∧ Q (.int (cntB b)) M
def KK : Nat := 20000
def spTry (n : Nat) : Sp3 := fun ds M Q => ∃ p e b w, ∃ deep left : Nat, ds = [.ref p, .ref e, .int deep, .bl w, .int left] ∧ EnvOk M e p ∧ Pen M p b ∧ b + KK * left < 2 ^ 30 ∧ (1 ≤ deep ∧ deep ≤ 4 ∧ 3 * (5 - deep) + 1 ≤ n) ∧ (4 ≤ left ∧ left ≤ 30) ∧
  ∀ d M', okD d → cntD d ≤ left → dpD d ≤ 5 - deep → Pen M' p (b + KK * cntD d) → Same3 p M M' → Q (dD d) M'
def spDeed (n : Nat) : Sp3 := fun ds M Q => ∃ p e b w, ∃ deep left : Nat, ds = [.ref p, .ref e, .int deep, .bl w, .int left] ∧ EnvOk M e p ∧ Pen M p b ∧ b + 5 + KK * left < 2 ^ 30 ∧ (1 ≤ deep ∧ deep ≤ 5 ∧ 3 * (5 - deep) + 2 ≤ n) ∧ (1 ≤ left ∧ left ≤ 30) ∧
  ∀ d M', okD d → cntD d ≤ left → dpD d ≤ 5 - deep → Pen M' p (b + 5 + KK * cntD d) → Same3 p M M' → Q (dD d) M'
def spBlock (n : Nat) : Sp3 := fun ds M Q => ∃ p e b w, ∃ deep left : Nat, ds = [.ref p, .ref e, .int deep, .bl w, .int left] ∧ EnvOk M e p ∧ Pen M p b ∧ b + 30 + KK * left < 2 ^ 30 ∧ (1 ≤ deep ∧ deep ≤ 5 ∧ 3 * (5 - deep) + 3 ≤ n) ∧ (1 ≤ left ∧ left ≤ 30) ∧
  ∀ k M', okB k → k ≠ .nil → cntB k ≤ left → dpB k ≤ 5 - deep → Pen M' p (b + 30 + KK * cntB k) → Same3 p M M' → Q (.tup (dB k)) M'
structure Rl where
  name : Str
  pars : List Str
  blk : Blk
def rD (r : Rl) : D := .tup [.str r.name, .tup (r.pars.map D.str), .tup (dB r.blk)]
def rOk (deeds : Nat) (r : Rl) : Prop := nm r.name ∧ r.pars.length ≤ 3 ∧ (∀ y ∈ r.pars, nm y) ∧ okB r.blk ∧ r.blk ≠ .nil ∧ cntB r.blk ≤ deeds ∧ dpB r.blk ≤ 4
def spBook : Sp3 := fun ds M Q => ∃ p b, ∃ rules deeds : Nat, ds = [.ref p, .int rules, .int deeds] ∧ Pen M p b ∧ b + 8000000 < 2 ^ 30 ∧ (1 ≤ rules ∧ rules ≤ 8) ∧ (1 ≤ deeds ∧ deeds ≤ 30) ∧
  ∀ (bk : List Rl) M', (1 ≤ bk.length ∧ bk.length ≤ rules) → (∀ r ∈ bk, rOk deeds r) → Pen M' p (b + 8000000) → Same3 p M M' → Q (.tup (bk.map rD)) M'
end MK
namespace MK
open PySem L2 L3
abbrev N__law_pen : List Str := ["_law_script"]
def t__law_pen : TS3 :=
    (tRet3 (tDispM3 [((tC3 (.str "cells")), (tCB3 rList3 (tCons3 (tSl3 (tVar3 0) tNoPart3 (tPart3 (tC3 (.int 63)))) tNil3))), ((tC3 (.str "at")), (tC3 (.int 0))), ((tC3 (.str "left")), (tC3 (.int 0)))]))
abbrev N__law_draw : List Str := ["_law_pen_here", "_law_many", "_law_digit", "_law_cells", "_law_at", "_law_cell", "_law_number"]
def t__law_draw : TS3 :=
    (tSeq3 (tIfS3 (tTest3 (tOp3 rGt3 (tOp3 rDGet3 (tVar3 0) (tC3 (.str "left"))) (tC3 (.int 0)))) (tSeq3 (tSet3 2 (tOp3 rMod3 (tOp3 rDGet3 (tVar3 0) (tC3 (.str "left"))) (tVar3 1)))
    (tSeq3 (tDPut3 (tVar3 0) (tC3 (.str "left")) (tOp3 rFdiv3 (tOp3 rDGet3 (tVar3 0) (tC3 (.str "left"))) (tVar3 1)))
    (tRet3 (tVar3 2)))) tNext3)
    (tSeq3 (tSet3 3 (tOp3 rDGet3 (tVar3 0) (tC3 (.str "cells"))))
    (tSeq3 (tSet3 4 (tOp3 rDGet3 (tVar3 0) (tC3 (.str "at"))))
    (tSeq3 (tDPut3 (tVar3 0) (tC3 (.str "at")) (tOp3 rAdd3 (tVar3 4) (tC3 (.int 1))))
    (tSeq3 (tSet3 5 (tOp3 rAdd3 (tOp3 rMul3 (tC3 (.int 30011)) (tVar3 4)) (tC3 (.int 77))))
    (tSeq3 (tIfS3 (tTest3 (tOp3 rNe3 (tVar3 3) (tLst3 tNil3))) (tSet3 5 (tOp3 rIx3 (tVar3 3) (tOp3 rMod3 (tVar3 4) (tCB3 rLen3 (tCons3 (tVar3 3) tNil3))))) tNext3)
    (tSeq3 (tIfS3 (tAnd3 (tTest3 (tOp3 rLt3 (tVar3 4) (tCB3 rLen3 (tCons3 (tVar3 3) tNil3)))) (tTest3 (tOp3 rGe3 (tCB3 rAbs3 (tCons3 (tVar3 5) tNil3)) (tOp3 rPow3 (tC3 (.int 10)) (tC3 (.int 18)))))) (tSeq3 (tDPut3 (tVar3 0) (tC3 (.str "left")) (tOp3 rFdiv3 (tCB3 rAbs3 (tCons3 (tVar3 5) tNil3)) (tVar3 1)))
    (tRet3 (tOp3 rMod3 (tCB3 rAbs3 (tCons3 (tVar3 5) tNil3)) (tVar3 1)))) tNext3)
    (tSeq3 (tSet3 6 (tOp3 rMod3 (tOp3 rPow3 (tOp3 rAdd3 (tOp3 rAdd3 (tOp3 rMod3 (tVar3 5) (tC3 (.int 2147483587))) (tOp3 rMul3 (tC3 (.int 50021)) (tVar3 4))) (tC3 (.int 29))) (tC3 (.int 5))) (tC3 (.int 2147483629))))
    (tSeq3 (tSet3 6 (tOp3 rMod3 (tOp3 rPow3 (tOp3 rAdd3 (tOp3 rMul3 (tVar3 6) (tOp3 rAdd3 (tOp3 rMul3 (tC3 (.int 2)) (tVar3 4)) (tC3 (.int 5)))) (tC3 (.int 81799))) (tC3 (.int 3))) (tC3 (.int 2147483647))))
    (tRet3 (tOp3 rMod3 (tOp3 rFdiv3 (tVar3 6) (tC3 (.int 16))) (tVar3 1))))))))))))
abbrev N__law_letters : List Str := ["_law_pen_here", "_law_size"]
def t__law_letters : TS3 :=
    (tRet3 (tBM3 "str" rJoin3 (tC3 (.str "")) (tCons3 (tComp3 (iRng3 (tCons3 (tVar3 1) tNil3)) 1 [0] (gName3 0) tTrue3 (tOp3 rIx3 (tC3 (.str "abcdefghijklmnopqrstuvwxyz")) (tCall3 spDraw (tCons3 (tVar3 1) (tCons3 (tC3 (.int 26)) tNil3))))) tNil3)))
theorem st__law_letters (d0 d1 : D) : start3 N__law_letters [d0, d1] = [some d0, some d1] := rfl
abbrev N__law_fresh : List Str := ["_law_pen_here", "_law_taken", "_law_shut", "_law_some", "_law_word_here"]
def t__law_fresh : TS3 :=
    (tSeq3 (tSet3 2 (tC3 (.str "any ask cast catch close else end fault give if last leave make none note on rule try while")))
    (tSeq3 (tSet3 3 (tLst3 (tCons3 (tC3 (.str "let")) (tCons3 (tC3 (.str "x")) (tCons3 (tC3 (.str "g")) (tCons3 (tC3 (.str "i")) (tCons3 (tC3 (.str "onn")) (tCons3 (tC3 (.str "a")) (tCons3 (tC3 (.str "rules")) (tCons3 (tC3 (.str "tryy")) tNil3))))))))))
    (tSeq3 (tSet3 4 (tOp3 rIx3 (tLst3 (tCons3 (tCall3 spLetters (tCons3 (tVar3 0) (tCons3 (tOp3 rAdd3 (tC3 (.int 1)) (tCall3 spDraw (tCons3 (tVar3 0) (tCons3 (tC3 (.int 7)) tNil3)))) tNil3))) (tCons3 (tOp3 rIx3 (tVar3 3) (tCall3 spDraw (tCons3 (tVar3 0) (tCons3 (tC3 (.int 8)) tNil3)))) tNil3))) (tCall3 spDraw (tCons3 (tVar3 0) (tCons3 (tC3 (.int 2)) tNil3)))))
    (tSeq3 (tIfS3 (tOr3 (tTest3 (tOp3 (rIn3 false) (tVar3 4) (tVar3 1))) (tOr3 (tTest3 (tOp3 (rIn3 false) (tVar3 4) (tBM3 "str" rSplit3 (tVar3 2) (tCons3 (tC3 (.str " ")) tNil3)))) (tTest3 (tOp3 rEq3 (tCall3 spDraw (tCons3 (tVar3 0) (tCons3 (tC3 (.int 8)) tNil3))) (tC3 (.int 0)))))) (tRet3 (tOp3 rAdd3 (tC3 (.str "qqqqqqq")) (tOp3 rIx3 (tC3 (.str "abcdefghijklmnop")) (tCB3 rLen3 (tCons3 (tVar3 1) tNil3))))) tNext3)
    (tRet3 (tVar3 4))))))
theorem st__law_fresh (d0 d1 : D) : start3 N__law_fresh [d0, d1] = [some d0, some d1, none, none, none] := rfl
abbrev N__law_names : List Str := ["_law_pen_here", "_law_many", "_law_found", "_law_k"]
def t__law_names : TS3 :=
    (tSeq3 (tSet3 2 (tLstM3 tNil3))
    (tSeq3 (tFor3 (iRng3 (tCons3 (tVar3 1) tNil3)) 3 (tDrop3 (tBM3 "list" rAppend3 (tVar3 2) (tCons3 (tCall3 spFresh (tCons3 (tVar3 0) (tCons3 (tVar3 2) tNil3))) tNil3))))
    (tRet3 (tVar3 2))))
theorem st__law_names (d0 d1 : D) : start3 N__law_names [d0, d1] = [some d0, some d1, none, none] := rfl
abbrev N__law_word : List Str := ["_law_pen_here", "_law_some", "_law_word_here"]
def t__law_word : TS3 :=
    (tSeq3 (tSet3 1 (tLst3 (tCons3 (tC3 (.str "close")) (tCons3 (tC3 (.str "ring")) (tCons3 (tC3 (.str "kind")) (tCons3 (tC3 (.str "none")) (tCons3 (tC3 (.str "anyy")) (tCons3 (tC3 (.str "e")) (tCons3 (tC3 (.str "gives")) (tCons3 (tC3 (.str "if")) tNil3))))))))))
    (tSeq3 (tSet3 2 (tOp3 rIx3 (tLst3 (tCons3 (tOp3 rIx3 (tVar3 1) (tCall3 spDraw (tCons3 (tVar3 0) (tCons3 (tC3 (.int 8)) tNil3)))) (tCons3 (tCall3 spLetters (tCons3 (tVar3 0) (tCons3 (tOp3 rAdd3 (tC3 (.int 1)) (tCall3 spDraw (tCons3 (tVar3 0) (tCons3 (tC3 (.int 8)) tNil3)))) tNil3))) tNil3))) (tCall3 spDraw (tCons3 (tVar3 0) (tCons3 (tC3 (.int 2)) tNil3)))))
    (tRet3 (tOp3 rIx3 (tLst3 (tCons3 (tVar3 2) (tCons3 (tC3 (.str "an")) tNil3))) (tCB3 rInt3 (tCons3 (tOp3 rEq3 (tVar3 2) (tC3 (.str "any"))) tNil3))))))
theorem st__law_word (d0 : D) : start3 N__law_word [d0] = [some d0, none, none] := rfl
abbrev N__law_leaf : List Str := ["_law_pen_here", "_law_env", "_law_way", "_law_bare", "_law_some"]
def t__law_leaf : TS3 :=
    (tSeq3 (tSet3 2 (tCall3 spDraw (tCons3 (tVar3 0) (tCons3 (tC3 (.int 6)) tNil3))))
    (tSeq3 (tSet3 3 (tComp3 (iList3 (tOp3 rDGet3 (tVar3 1) (tC3 (.str "heads")))) 2 [] (gTup3 [0, 1]) (tTest3 (tOp3 rEq3 (tVar3 1) (tTup3 tNil3))) (tVar3 0)))
    (tSeq3 (tIfS3 (tTest3 (tOp3 rEq3 (tVar3 2) (tC3 (.int 0)))) (tRet3 (tTup3 (tCons3 (tC3 (.str "none")) tNil3))) tNext3)
    (tSeq3 (tIfS3 (tAnd3 (tTest3 (tOp3 rEq3 (tVar3 2) (tC3 (.int 5)))) (tTest3 (tOp3 rNe3 (tVar3 3) (tLst3 tNil3)))) (tRet3 (tTup3 (tCons3 (tC3 (.str "make")) (tCons3 (tOp3 rIx3 (tVar3 3) (tCall3 spDraw (tCons3 (tVar3 0) (tCons3 (tCB3 rLen3 (tCons3 (tVar3 3) tNil3)) tNil3)))) (tCons3 (tTup3 tNil3) tNil3))))) tNext3)
    (tSeq3 (tIfS3 (tTest3 (tOp3 rLt3 (tVar3 2) (tC3 (.int 3)))) (tSeq3 (tSet3 4 (tLst3 (tCons3 (tCall3 spDraw (tCons3 (tVar3 0) (tCons3 (tC3 (.int 4)) tNil3))) (tCons3 (tOp3 rSub3 (tCall3 spDraw (tCons3 (tVar3 0) (tCons3 (tC3 (.int 100)) tNil3))) (tC3 (.int 50))) (tCons3 (tOp3 rSub3 (tOp3 rPow3 (tC3 (.int 10)) (tC3 (.int 30))) (tC3 (.int 1))) (tCons3 (tOp3 rAdd3 (tUn3 rNeg3 (tOp3 rPow3 (tC3 (.int 10)) (tC3 (.int 30)))) (tC3 (.int 1))) (tCons3 (tCall3 spDraw (tCons3 (tVar3 0) (tCons3 (tOp3 rPow3 (tC3 (.int 10)) (tC3 (.int 30))) tNil3))) tNil3)))))))
    (tRet3 (tTup3 (tCons3 (tC3 (.str "number")) (tCons3 (tOp3 rIx3 (tVar3 4) (tCall3 spDraw (tCons3 (tVar3 0) (tCons3 (tC3 (.int 5)) tNil3)))) tNil3))))) tNext3)
    (tRet3 (tTup3 (tCons3 (tC3 (.str "var")) (tCons3 (tOp3 rIx3 (tOp3 rDGet3 (tVar3 1) (tC3 (.str "pool"))) (tCall3 spDraw (tCons3 (tVar3 0) (tCons3 (tCB3 rLen3 (tCons3 (tOp3 rDGet3 (tVar3 1) (tC3 (.str "pool"))) tNil3)) tNil3)))) tNil3)))))))))
theorem st__law_leaf (d0 d1 : D) : start3 N__law_leaf [d0, d1] = [some d0, some d1, none, none, none] := rfl
abbrev N__law_expression : List Str := ["_law_pen_here", "_law_env", "_law_room", "_law_deep", "_law_way", "_law_own", "_law_a", "_law_name", "_law_params", "_law_left", "_law_args", "_law_k"]
def t__law_expression (q__law_expression : Sp3) : TS3 :=
    (tSeq3 (tSet3 4 (tCall3 spDraw (tCons3 (tVar3 0) (tCons3 (tC3 (.int 5)) tNil3))))
    (tSeq3 (tIfS3 (tOr3 (tTest3 (tOp3 rLt3 (tVar3 2) (tC3 (.int 3)))) (tOr3 (tTest3 (tOp3 rLt3 (tVar3 3) (tC3 (.int 2)))) (tTest3 (tOp3 rLt3 (tVar3 4) (tC3 (.int 2)))))) (tRet3 (tCall3 spLeaf (tCons3 (tVar3 0) (tCons3 (tVar3 1) tNil3)))) tNext3)
    (tSeq3 (tIfS3 (tTest3 (tOp3 rLt3 (tVar3 4) (tC3 (.int 4)))) (tSeq3 (tSet3 5 (tOp3 rAdd3 (tC3 (.int 1)) (tCall3 spDraw (tCons3 (tVar3 0) (tCons3 (tOp3 rSub3 (tVar3 2) (tC3 (.int 2))) tNil3)))))
    (tSeq3 (tSet3 6 (tCall3 q__law_expression (tCons3 (tVar3 0) (tCons3 (tVar3 1) (tCons3 (tVar3 5) (tCons3 (tOp3 rSub3 (tVar3 3) (tC3 (.int 1))) tNil3))))))
    (tRet3 (tTup3 (tCons3 (tC3 (.str "op")) (tCons3 (tOp3 rIx3 (tC3 (.str "+-*<=")) (tCall3 spDraw (tCons3 (tVar3 0) (tCons3 (tC3 (.int 5)) tNil3)))) (tCons3 (tVar3 6) (tCons3 (tCall3 q__law_expression (tCons3 (tVar3 0) (tCons3 (tVar3 1) (tCons3 (tOp3 rSub3 (tOp3 rSub3 (tVar3 2) (tC3 (.int 1))) (tVar3 5)) (tCons3 (tOp3 rSub3 (tVar3 3) (tC3 (.int 1))) tNil3))))) tNil3)))))))) tNext3)
    (tSeq3 (tAsg3 (gTup3 [7, 8]) (tOp3 rIx3 (tOp3 rDGet3 (tVar3 1) (tC3 (.str "heads"))) (tCall3 spDraw (tCons3 (tVar3 0) (tCons3 (tCB3 rLen3 (tCons3 (tOp3 rDGet3 (tVar3 1) (tC3 (.str "heads"))) tNil3)) tNil3)))))
    (tSeq3 (tSet3 9 (tOp3 rSub3 (tVar3 2) (tC3 (.int 1))))
    (tSeq3 (tIfS3 (tTest3 (tOp3 rGt3 (tCB3 rLen3 (tCons3 (tVar3 8) tNil3)) (tVar3 9))) (tRet3 (tCall3 spLeaf (tCons3 (tVar3 0) (tCons3 (tVar3 1) tNil3)))) tNext3)
    (tSeq3 (tSet3 10 (tLstM3 tNil3))
    (tSeq3 (tFor3 (iRng3 (tCons3 (tCB3 rLen3 (tCons3 (tVar3 8) tNil3)) tNil3)) 11 (tSeq3 (tSet3 5 (tOp3 rAdd3 (tC3 (.int 1)) (tCall3 spDraw (tCons3 (tVar3 0) (tCons3 (tOp3 rAdd3 (tOp3 rSub3 (tVar3 9) (tOp3 rSub3 (tCB3 rLen3 (tCons3 (tVar3 8) tNil3)) (tVar3 11))) (tC3 (.int 1))) tNil3)))))
    (tSeq3 (tDrop3 (tBM3 "list" rAppend3 (tVar3 10) (tCons3 (tCall3 q__law_expression (tCons3 (tVar3 0) (tCons3 (tVar3 1) (tCons3 (tVar3 5) (tCons3 (tOp3 rSub3 (tVar3 3) (tC3 (.int 1))) tNil3))))) tNil3)))
    (tSet3 9 (tOp3 rSub3 (tVar3 9) (tVar3 5))))))
    (tRet3 (tTup3 (tCons3 (tC3 (.str "make")) (tCons3 (tVar3 7) (tCons3 (tCB3 rTuple3 (tCons3 (tVar3 10) tNil3)) tNil3)))))))))))))
theorem st__law_expression (d0 d1 d2 d3 : D) : start3 N__law_expression [d0, d1, d2, d3] = [some d0, some d1, some d2, some d3, none, none, none, none, none, none, none, none] := rfl
abbrev N__law_simple : List Str := ["_law_pen_here", "_law_env", "_law_in_while", "_law_way", "_law_x", "_law_y", "_law_e"]
def t__law_simple : TS3 :=
    (tSeq3 (tSet3 3 (tCall3 spDraw (tCons3 (tVar3 0) (tCons3 (tOp3 rAdd3 (tC3 (.int 10)) (tCB3 rInt3 (tCons3 (tVar3 2) tNil3))) tNil3))))
    (tSeq3 (tAsg3 (gLst3 [4, 5]) (tComp3 (iRng3 (tCons3 (tC3 (.int 2)) tNil3)) 1 [1, 0] (gName3 0) tTrue3 (tOp3 rIx3 (tOp3 rDGet3 (tVar3 1) (tC3 (.str "pool"))) (tCall3 spDraw (tCons3 (tVar3 2) (tCons3 (tCB3 rLen3 (tCons3 (tOp3 rDGet3 (tVar3 1) (tC3 (.str "pool"))) tNil3)) tNil3))))))
    (tSeq3 (tSet3 6 (tCall3 (spExpr 5) (tCons3 (tVar3 0) (tCons3 (tVar3 1) (tCons3 (tC3 (.int 9)) (tCons3 (tC3 (.int 4)) tNil3))))))
    (tSeq3 (tIfS3 (tTest3 (tOp3 rLt3 (tVar3 3) (tC3 (.int 3)))) (tRet3 (tTup3 (tCons3 (tOp3 rIx3 (tLst3 (tCons3 (tC3 (.str "let")) (tCons3 (tC3 (.str "give")) (tCons3 (tC3 (.str "on")) tNil3)))) (tVar3 3)) (tCons3 (tVar3 4) (tCons3 (tVar3 6) tNil3))))) tNext3)
    (tSeq3 (tIfS3 (tTest3 (tOp3 rLt3 (tVar3 3) (tC3 (.int 6)))) (tRet3 (tTup3 (tCons3 (tOp3 rIx3 (tLst3 (tCons3 (tC3 (.str "note")) (tCons3 (tC3 (.str "close")) (tCons3 (tC3 (.str "end")) tNil3)))) (tOp3 rSub3 (tVar3 3) (tC3 (.int 3)))) (tCons3 (tVar3 6) tNil3)))) tNext3)
    (tSeq3 (tIfS3 (tTest3 (tOp3 rEq3 (tVar3 3) (tC3 (.int 6)))) (tRet3 (tTup3 (tCons3 (tC3 (.str "ask")) (tCons3 (tVar3 4) (tCons3 (tVar3 5) (tCons3 (tCall3 (spExpr 5) (tCons3 (tVar3 0) (tCons3 (tVar3 1) (tCons3 (tC3 (.int 3)) (tCons3 (tC3 (.int 2)) tNil3))))) (tCons3 (tVar3 6) tNil3))))))) tNext3)
    (tSeq3 (tIfS3 (tTest3 (tOp3 rEq3 (tVar3 3) (tC3 (.int 7)))) (tRet3 (tTup3 (tCons3 (tC3 (.str "cast")) (tCons3 (tVar3 4) (tCons3 (tVar3 5) (tCons3 (tCall3 (spExpr 5) (tCons3 (tVar3 0) (tCons3 (tVar3 1) (tCons3 (tC3 (.int 3)) (tCons3 (tC3 (.int 2)) tNil3))))) (tCons3 (tCall3 spWord (tCons3 (tVar3 0) tNil3)) (tCons3 (tVar3 6) tNil3)))))))) tNext3)
    (tSeq3 (tIfS3 (tTest3 (tOp3 rEq3 (tVar3 3) (tC3 (.int 10)))) (tRet3 (tTup3 (tCons3 (tC3 (.str "leave")) tNil3))) tNext3)
    (tRet3 (tOp3 rIx3 (tLst3 (tCons3 (tTup3 (tCons3 (tC3 (.str "fault")) (tCons3 (tCall3 spWord (tCons3 (tVar3 0) tNil3)) (tCons3 (tVar3 6) tNil3)))) (tCons3 (tTup3 (tCons3 (tC3 (.str "give")) (tCons3 (tVar3 4) (tCons3 (tVar3 6) tNil3)))) tNil3))) (tOp3 rSub3 (tVar3 3) (tC3 (.int 8)))))))))))))
theorem st__law_simple (d0 d1 d2 : D) : start3 N__law_simple [d0, d1, d2] = [some d0, some d1, some d2, none, none, none, none] := rfl
abbrev N__law_inner : List Str := ["_law_deed_here"]
def t__law_inner : TS3 :=
    (tSeq3 (tIfS3 (tTest3 (tOp3 rEq3 (tOp3 rIx3 (tVar3 0) (tC3 (.int 0))) (tC3 (.str "if")))) (tRet3 (tLst3 (tCons3 (tOp3 rIx3 (tVar3 0) (tC3 (.int 2))) (tCons3 (tOp3 rIx3 (tVar3 0) (tC3 (.int 3))) tNil3)))) tNext3)
    (tSeq3 (tIfS3 (tTest3 (tOp3 rEq3 (tOp3 rIx3 (tVar3 0) (tC3 (.int 0))) (tC3 (.str "while")))) (tRet3 (tLst3 (tCons3 (tOp3 rIx3 (tVar3 0) (tC3 (.int 2))) tNil3))) tNext3)
    (tSeq3 (tIfS3 (tTest3 (tOp3 rEq3 (tOp3 rIx3 (tVar3 0) (tC3 (.int 0))) (tC3 (.str "try")))) (tRet3 (tOp3 rAdd3 (tOp3 rAdd3 (tLst3 (tCons3 (tOp3 rIx3 (tVar3 0) (tC3 (.int 1))) tNil3)) (tComp3 (iTup3 (tOp3 rIx3 (tVar3 0) (tC3 (.int 2)))) 1 [] (gName3 0) tTrue3 (tOp3 rIx3 (tVar3 0) (tC3 (.int 2))))) (tLst3 (tCons3 (tOp3 rIx3 (tVar3 0) (tC3 (.int 3))) tNil3)))) tNext3)
    (tRet3 (tLst3 tNil3)))))
theorem st__law_inner (d0 : D) : start3 N__law_inner [d0] = [some d0] := rfl
abbrev N__law_count : List Str := ["_law_block_here"]
def t__law_count (q__law_count : Sp3) : TS3 :=
    (tRet3 (tCB3 rSum3 (tCons3 (tComp3 (iTup3 (tVar3 0)) 1 [] (gName3 0) tTrue3 (tOp3 rAdd3 (tC3 (.int 1)) (tCB3 rSum3 (tCons3 (tComp3 (iList3 (tCall3 spInner (tCons3 (tVar3 0) tNil3))) 1 [] (gName3 0) tTrue3 (tCall3 q__law_count (tCons3 (tVar3 0) tNil3))) tNil3)))) tNil3)))
theorem st__law_count (d0 : D) : start3 N__law_count [d0] = [some d0] := rfl
abbrev N__law_try : List Str := ["_law_pen_here", "_law_env", "_law_deep", "_law_in_while", "_law_left", "_law_one", "_law_body", "_law_rest", "_law_many", "_law_catches", "_law_k", "_law_own", "_law_word_here", "_law_x", "_law_lasts"]
def t__law_try (q__law_try q__law_deed q__law_block : Sp3) : TS3 :=
    (tSeq3 (tSet3 5 (tOp3 rAdd3 (tC3 (.int 1)) (tCall3 spDraw (tCons3 (tVar3 0) (tCons3 (tOp3 rSub3 (tVar3 4) (tC3 (.int 2))) tNil3)))))
    (tSeq3 (tSet3 6 (tCall3 q__law_block (tCons3 (tVar3 0) (tCons3 (tVar3 1) (tCons3 (tOp3 rAdd3 (tVar3 2) (tC3 (.int 1))) (tCons3 (tVar3 3) (tCons3 (tVar3 5) tNil3)))))))
    (tSeq3 (tSet3 7 (tOp3 rSub3 (tOp3 rSub3 (tVar3 4) (tC3 (.int 1))) (tVar3 5)))
    (tSeq3 (tSet3 8 (tCB3 rMin3 (tCons3 (tCall3 spDraw (tCons3 (tVar3 0) (tCons3 (tC3 (.int 4)) tNil3))) (tCons3 (tOp3 rSub3 (tVar3 7) (tC3 (.int 1))) tNil3))))
    (tSeq3 (tSet3 9 (tLstM3 tNil3))
    (tSeq3 (tFor3 (iRng3 (tCons3 (tVar3 8) tNil3)) 10 (tSeq3 (tSet3 11 (tOp3 rAdd3 (tC3 (.int 1)) (tCall3 spDraw (tCons3 (tVar3 0) (tCons3 (tOp3 rSub3 (tVar3 7) (tOp3 rSub3 (tVar3 8) (tVar3 10))) tNil3)))))
    (tSeq3 (tSet3 12 (tOp3 rIx3 (tLst3 (tCons3 (tCall3 spWord (tCons3 (tVar3 0) tNil3)) (tCons3 (tC3 (.str "any")) tNil3))) (tCall3 spDraw (tCons3 (tVar3 0) (tCons3 (tC3 (.int 2)) tNil3)))))
    (tSeq3 (tSet3 13 (tOp3 rIx3 (tOp3 rDGet3 (tVar3 1) (tC3 (.str "pool"))) (tCall3 spDraw (tCons3 (tVar3 0) (tCons3 (tCB3 rLen3 (tCons3 (tOp3 rDGet3 (tVar3 1) (tC3 (.str "pool"))) tNil3)) tNil3)))))
    (tSeq3 (tDrop3 (tBM3 "list" rAppend3 (tVar3 9) (tCons3 (tTup3 (tCons3 (tVar3 12) (tCons3 (tVar3 13) (tCons3 (tCall3 q__law_block (tCons3 (tVar3 0) (tCons3 (tVar3 1) (tCons3 (tOp3 rAdd3 (tVar3 2) (tC3 (.int 1))) (tCons3 (tVar3 3) (tCons3 (tVar3 11) tNil3)))))) tNil3)))) tNil3)))
    (tSet3 7 (tOp3 rSub3 (tVar3 7) (tVar3 11))))))))
    (tSeq3 (tSet3 14 (tTup3 tNil3))
    (tSeq3 (tIfS3 (tOr3 (tTest3 (tOp3 rEq3 (tVar3 8) (tC3 (.int 0)))) (tTest3 (tOp3 rEq3 (tCall3 spDraw (tCons3 (tVar3 0) (tCons3 (tC3 (.int 2)) tNil3))) (tC3 (.int 0))))) (tSet3 14 (tCall3 q__law_block (tCons3 (tVar3 0) (tCons3 (tVar3 1) (tCons3 (tOp3 rAdd3 (tVar3 2) (tC3 (.int 1))) (tCons3 (tVar3 3) (tCons3 (tOp3 rAdd3 (tC3 (.int 1)) (tCall3 spDraw (tCons3 (tVar3 0) (tCons3 (tVar3 7) tNil3)))) tNil3))))))) tNext3)
    (tRet3 (tTup3 (tCons3 (tC3 (.str "try")) (tCons3 (tVar3 6) (tCons3 (tCB3 rTuple3 (tCons3 (tVar3 9) tNil3)) (tCons3 (tVar3 14) tNil3))))))))))))))
theorem st__law_try (d0 d1 d2 d3 d4 : D) : start3 N__law_try [d0, d1, d2, d3, d4] = [some d0, some d1, some d2, some d3, some d4, none, none, none, none, none, none, none, none, none, none] := rfl
abbrev N__law_deed : List Str := ["_law_pen_here", "_law_env", "_law_deep", "_law_in_while", "_law_left", "_law_way", "_law_e", "_law_one", "_law_block_here", "_law_elses"]
def t__law_deed (q__law_try q__law_deed q__law_block : Sp3) : TS3 :=
    (tSeq3 (tSet3 5 (tCall3 spDraw (tCons3 (tVar3 0) (tCons3 (tC3 (.int 6)) tNil3))))
    (tSeq3 (tIfS3 (tOr3 (tTest3 (tOp3 rGe3 (tVar3 2) (tC3 (.int 5)))) (tOr3 (tTest3 (tOp3 rLt3 (tVar3 4) (tC3 (.int 4)))) (tTest3 (tOp3 rLt3 (tVar3 5) (tC3 (.int 3)))))) (tRet3 (tCall3 spSimple (tCons3 (tVar3 0) (tCons3 (tVar3 1) (tCons3 (tVar3 3) tNil3))))) tNext3)
    (tSeq3 (tIfS3 (tTest3 (tOp3 rEq3 (tVar3 5) (tC3 (.int 5)))) (tRet3 (tCall3 q__law_try (tCons3 (tVar3 0) (tCons3 (tVar3 1) (tCons3 (tVar3 2) (tCons3 (tVar3 3) (tCons3 (tVar3 4) tNil3))))))) tNext3)
    (tSeq3 (tSet3 6 (tCall3 (spExpr 5) (tCons3 (tVar3 0) (tCons3 (tVar3 1) (tCons3 (tC3 (.int 5)) (tCons3 (tC3 (.int 3)) tNil3))))))
    (tSeq3 (tSet3 7 (tOp3 rAdd3 (tC3 (.int 1)) (tCall3 spDraw (tCons3 (tVar3 0) (tCons3 (tOp3 rSub3 (tVar3 4) (tC3 (.int 2))) tNil3)))))
    (tSeq3 (tSet3 8 (tCall3 q__law_block (tCons3 (tVar3 0) (tCons3 (tVar3 1) (tCons3 (tOp3 rAdd3 (tVar3 2) (tC3 (.int 1))) (tCons3 (tOrV3 (tVar3 3) (tOp3 rEq3 (tVar3 5) (tC3 (.int 4)))) (tCons3 (tVar3 7) tNil3)))))))
    (tSeq3 (tIfS3 (tTest3 (tOp3 rEq3 (tVar3 5) (tC3 (.int 4)))) (tRet3 (tTup3 (tCons3 (tC3 (.str "while")) (tCons3 (tVar3 6) (tCons3 (tVar3 8) tNil3))))) tNext3)
    (tSeq3 (tSet3 9 (tTup3 tNil3))
    (tSeq3 (tIfS3 (tTest3 (tOp3 rEq3 (tCall3 spDraw (tCons3 (tVar3 0) (tCons3 (tC3 (.int 2)) tNil3))) (tC3 (.int 0)))) (tSet3 9 (tCall3 q__law_block (tCons3 (tVar3 0) (tCons3 (tVar3 1) (tCons3 (tOp3 rAdd3 (tVar3 2) (tC3 (.int 1))) (tCons3 (tVar3 3) (tCons3 (tOp3 rSub3 (tOp3 rSub3 (tVar3 4) (tC3 (.int 1))) (tVar3 7)) tNil3))))))) tNext3)
    (tRet3 (tTup3 (tCons3 (tC3 (.str "if")) (tCons3 (tVar3 6) (tCons3 (tVar3 8) (tCons3 (tVar3 9) tNil3)))))))))))))))
theorem st__law_deed (d0 d1 d2 d3 d4 : D) : start3 N__law_deed [d0, d1, d2, d3, d4] = [some d0, some d1, some d2, some d3, some d4, none, none, none, none, none] := rfl
abbrev N__law_block : List Str := ["_law_pen_here", "_law_env", "_law_deep", "_law_in_while", "_law_left", "_law_found", "_law_most", "_law_deed_here"]
def t__law_block (q__law_try q__law_deed q__law_block : Sp3) : TS3 :=
    (tSeq3 (tSet3 5 (tLstM3 tNil3))
    (tSeq3 (tSet3 6 (tOp3 rAdd3 (tC3 (.int 1)) (tCall3 spDraw (tCons3 (tVar3 0) (tCons3 (tC3 (.int 4)) tNil3)))))
    (tSeq3 (tWhile3 (tAnd3 (tTest3 (tOp3 rGt3 (tVar3 4) (tC3 (.int 0)))) (tTest3 (tOp3 rLt3 (tCB3 rLen3 (tCons3 (tVar3 5) tNil3)) (tVar3 6)))) (tSeq3 (tSet3 7 (tCall3 q__law_deed (tCons3 (tVar3 0) (tCons3 (tVar3 1) (tCons3 (tVar3 2) (tCons3 (tVar3 3) (tCons3 (tVar3 4) tNil3)))))))
    (tSeq3 (tDrop3 (tBM3 "list" rAppend3 (tVar3 5) (tCons3 (tVar3 7) tNil3)))
    (tSet3 4 (tOp3 rSub3 (tVar3 4) (tCall3 (spCount 8) (tCons3 (tTup3 (tCons3 (tVar3 7) tNil3)) tNil3)))))))
    (tRet3 (tCB3 rTuple3 (tCons3 (tVar3 5) tNil3))))))
theorem st__law_block (d0 d1 d2 d3 d4 : D) : start3 N__law_block [d0, d1, d2, d3, d4] = [some d0, some d1, some d2, some d3, some d4, none, none, none] := rfl
abbrev N__law_book : List Str := ["_law_pen_here", "_law_rules", "_law_deeds", "_law_names_here", "_law_heads", "_law_book_here", "_law_name", "_law_params", "_law_pool", "_law_k", "_law_env"]
def t__law_book : TS3 :=
    (tSeq3 (tSet3 3 (tCall3 spNames (tCons3 (tVar3 0) (tCons3 (tOp3 rAdd3 (tC3 (.int 1)) (tCall3 spDraw (tCons3 (tVar3 0) (tCons3 (tVar3 1) tNil3)))) tNil3))))
    (tSeq3 (tSet3 4 (tComp3 (iList3 (tVar3 3)) 1 [0] (gName3 0) tTrue3 (tTup3 (tCons3 (tVar3 0) (tCons3 (tCB3 rTuple3 (tCons3 (tCall3 spNames (tCons3 (tVar3 1) (tCons3 (tCall3 spDraw (tCons3 (tVar3 1) (tCons3 (tC3 (.int 4)) tNil3))) tNil3))) tNil3)) tNil3)))))
    (tSeq3 (tSet3 5 (tLstM3 tNil3))
    (tSeq3 (tForG3 (iList3 (tVar3 4)) (gTup3 [6, 7]) (tSeq3 (tSet3 8 (tListM3 (tCons3 (tVar3 7) tNil3)))
    (tSeq3 (tFor3 (iRng3 (tCons3 (tOp3 rAdd3 (tC3 (.int 1)) (tCall3 spDraw (tCons3 (tVar3 0) (tCons3 (tOp3 rSub3 (tC3 (.int 12)) (tCB3 rLen3 (tCons3 (tVar3 7) tNil3))) tNil3)))) tNil3)) 9 (tDrop3 (tBM3 "list" rAppend3 (tVar3 8) (tCons3 (tCall3 spFresh (tCons3 (tVar3 0) (tCons3 (tVar3 8) tNil3))) tNil3))))
    (tFrz3 8 (tSeq3 (tSet3 10 (tDispM3 [((tC3 (.str "heads")), (tVar3 4)), ((tC3 (.str "pool")), (tVar3 8))]))
    (tDrop3 (tBM3 "list" rAppend3 (tVar3 5) (tCons3 (tTup3 (tCons3 (tVar3 6) (tCons3 (tVar3 7) (tCons3 (tCall3 (spBlock 20) (tCons3 (tVar3 0) (tCons3 (tVar3 10) (tCons3 (tC3 (.int 1)) (tCons3 (tC3 (.bl false)) (tCons3 (tOp3 rAdd3 (tC3 (.int 1)) (tCall3 spDraw (tCons3 (tVar3 0) (tCons3 (tVar3 2) tNil3)))) tNil3)))))) tNil3)))) tNil3))))))))
    (tRet3 (tCB3 rTuple3 (tCons3 (tVar3 5) tNil3)))))))
theorem st__law_book (d0 d1 d2 : D) : start3 N__law_book [d0, d1, d2] = [some d0, some d1, some d2, none, none, none, none, none, none, none, none] := rfl
end MK
namespace L3
open PySem PySem.Spec PyProof.Rows L2
section
variable {T : Ends3} {σ : Lo} {M : Mem} {Q : DK} {QB : Bool → Mem → Prop} {d x y : D}
theorem rd_minI {i j : Int} (h : Q (.int (if j < i then j else i)) M) : rMin3 [.int i, .int j] M Q := h
theorem rd_tupL {ds : List D} (h : Q (.tup ds) M) : rTuple3 [.lst ds] M Q := h
theorem rd_tupR {a : Addr} {ds : List D} (hm : M a = some (.lst ds)) (h : Q (.tup ds) M) : rTuple3 [.ref a] M Q := ⟨ds, hm, h⟩
theorem rd_lenR {a : Addr} {ds : List D} (hm : M a = some (.lst ds)) (h : Q (.int ds.length) M) : rLen3 [.ref a] M Q := ⟨ds, hm, h⟩
theorem rd_while {c : TT3} {tb : TS3} (h : ∃ W : Nat → Lo → Mem → Prop, (∃ m, W m σ M) ∧ ∀ m σ M, W m σ M →
  c σ M fun b M1 => if b = true then tb { T with nx := fun σ' M' => ∃ m', m' < m ∧ W m' σ' M', ct := fun σ' M' => ∃ m', m' < m ∧ W m' σ' M', bk := T.nx } σ M1 else T.nx σ M1) : tWhile3 c tb T σ M := h
theorem rd_inL {z : Str} {y : D} {ys : List Str} {neg : Bool} (e : seqD M y = some (ys.map D.str)) (h : Q (.bl (neg ^^ ys.any (· == z))) M) : rIn3 neg (.str z) y M Q := .inr ⟨z, ys, rfl, e, h⟩
theorem rd_dgetR {a : Addr} {kds : List (Key × D)} {k : Str} (hm : M a = some (.dct kds)) (hv : valD kds (.inr k) = some d) (h : Q d M) : rDGet3 (.ref a) (.str k) M Q := ⟨.inr k, d, rfl, ⟨kds, hm, hv⟩, h⟩
theorem rd_sumI {ns : List Int} (h1 : ∀ n ∈ ns, 0 ≤ n ∧ n ≤ 1000000) (h2 : ns.length ≤ 1000000) (h : Q (.int ns.sum) M) : rSum3 [.lst (ns.map D.int)] M Q := ⟨ns, rfl, h1, h2, h⟩
def onListM (Q : DK) : List D → Mem → Prop := fun ds M1 => match ds with
  | [.lst xs] => ∀ p, M1 p = none → Q (.ref p) (mput M1 p (.lst xs))
  | [.tup xs] => ∀ p, M1 p = none → Q (.ref p) (mput M1 p (.lst xs))
  | _ => False
theorem rd_listM {tas : TA3} (h : tas σ M (onListM Q)) : tListM3 tas σ M Q := h
theorem rd_onListT {xs : List D} (h : ∀ p, M p = none → Q (.ref p) (mput M p (.lst xs))) : onListM Q [.tup xs] M := h
theorem rd_disp {trs : List (TE3 × TE3)} (h : ∀ p, M p = none → tPairs3 trs σ (mput M p (.dct [])) fun ps M1 => M1 p = some (.dct []) ∧ ∃ kds : List (Key × D), ps = kds.map (fun kd => (kD kd.1, kd.2)) ∧ kds.length ≤ 15 ∧ Q (.ref p) (mput M1 p (.dct (mergeD [] kds)))) : tDispM3 trs σ M Q := h
theorem rd_pcons {tk tv : TE3} {r : List (TE3 × TE3)} {QP : List (D × D) → Mem → Prop} (h : tk σ M fun x M1 => tv σ M1 fun y M2 => tPairs3 r σ M2 fun ps M3 => QP ((x, y) :: ps) M3) : tPairs3 ((tk, tv) :: r) σ M QP := h
theorem rd_pnil {QP : List (D × D) → Mem → Prop} (h : QP [] M) : tPairs3 [] σ M QP := h
end
theorem same_put {M M' : Mem} {p a : Addr} {o : MO} (h : Same3 p (mput M a o) M') (hn : a ≠ p) : M' a = some o := by rw [h a hn, mput_same]
theorem View.frz {Q : DK} {a : Addr} {ds : List D} {M : Mem} (hm : M a = some (.lst ds)) (q : Q (.lst ds) (mdel M a)) : View Q (.ref a) M := ⟨.lst ds, mdel M a, Vs.frzL hm, q⟩
theorem View.drop {Q : DK} {d : D} {a : Addr} {M : Mem} (q : Q d (mdel M a)) : View Q d M := View.sub (fun b o e => by
  by_cases h : b = a
  · subst h; rw [mdel_same] at e; cases e
  · rw [mdel_ne h] at e; exact e) q
theorem same_del {M M' : Mem} {p a : Addr} (hp : M a = none) (h : ∀ b, b ≠ p → b ≠ a → M' b = M b) : Same3 p M (mdel M' a) := fun b hb => by
  by_cases e : b = a
  · subst e; rw [mdel_same, hp]
  · rw [mdel_ne e]; exact h b hb e
theorem pen_del {M : Mem} {p a : Addr} {b : Nat} (h : Pen M p b) (hn : p ≠ a) : Pen (mdel M a) p b := pen_same h (p := a) (fun _ hb => mdel_ne hb) hn
theorem comp_all {ds acc : List D} {P : Nat → D → D → Prop} (hl : acc.length = ds.length) (h : ∀ (k : Nat) d e, ds[k]? = some d → acc[k]? = some e → P k d e) : ∀ e ∈ acc, ∃ (k : Nat) (d : D), ds[k]? = some d ∧ P k d e := fun e he => by
  obtain ⟨k, hk, rfl⟩ := List.getElem_of_mem he
  have hk' : k < ds.length := by rw [← hl]; exact hk
  exact ⟨k, ds[k], by simp, h k ds[k] _ (by simp) (by simp)⟩
theorem exists_map {α : Type} {f : α → D} {P : α → Prop} : ∀ {l : List D}, (∀ e ∈ l, ∃ c, e = f c ∧ P c) → ∃ cs : List α, l = cs.map f ∧ ∀ c ∈ cs, P c
  | [], _ => ⟨[], rfl, fun _ h => by cases h⟩
  | e :: l, h => by
    obtain ⟨c, rfl, hc⟩ := h e List.mem_cons_self
    obtain ⟨cs, rfl, hcs⟩ := exists_map fun x hx => h x (List.mem_cons_of_mem _ hx)
    exact ⟨c :: cs, rfl, fun x hx => by
      rcases List.mem_cons.mp hx with rfl | hx
      · exact hc
      · exact hcs x hx⟩
theorem rd_joinL {z : Str} {ys : List Str} {M : Mem} {Q : DK} (hj : joinOk z ys) (h : Q (.str (Txt.join z ys)) M) : rJoin3 (.str z) [.lst (ys.map D.str)] M Q := ⟨z, ys, rfl, rfl, hj, h⟩
theorem seqD_ref {M : Mem} {a : Addr} {ds : List D} (h : M a = some (.lst ds)) : seqD M (.ref a) = some ds := by
  unfold seqD
  dsimp only
  rw [h]
theorem rd_ite2 {b : Bool} {P R : Prop} (h1 : P) (h2 : R) : if b = true then P else R := by cases b <;> assumption
theorem comp_filt {g : TG3} {tt : TT3} {te : TE3} {σ0 : Lo} {M1 : Mem} {Q : DK} {ds : List D} (P : D → Prop) (hl : ds.length < sizeLine)
    (turn : ∀ (k : Nat) d M2 (R : D → Mem → Prop) (F : Mem → Prop), ds[k]? = some d → (∀ a, M1 a ≠ none → M2 a = M1 a) → (∀ e, P e → R e M2) → F M2 → g d σ0 M2 fun σ' M3 => tt σ' M3 fun bb M4 => if bb = true then te σ' M4 R else F M4)
    (done : ∀ acc : List D, acc.length ≤ ds.length → (∀ e ∈ acc, P e) → Q (.lst acc) M1) : CompB g tt te σ0 ds M1 Q := by
  intro p hp
  refine ⟨fun k acc M2 => acc.length ≤ k ∧ (∀ e ∈ acc, P e) ∧ M2 p = some (.lst acc) ∧ ∀ a, a ≠ p → M2 a = M1 a, ⟨Nat.le_refl _, (fun e h => by cases h), mput_same, fun a ha => mput_ne ha⟩, ?_, ?_⟩
  · rintro k d acc M2 hd ⟨hk, hall, hacc, hsame⟩
    have hkl : k < ds.length := (List.getElem?_eq_some_iff.mp hd).1
    refine turn k d M2 _ _ hd (fun a ha => hsame a (by rintro rfl; exact ha hp)) (fun e he => ⟨hacc, by lia, by simp; lia, fun x hx => ?_, mput_same, fun a ha => by rw [mput_ne ha]; exact hsame a ha⟩) ⟨by lia, hall, hacc, hsame⟩
    rcases List.mem_append.mp hx with z | z
    · exact hall x z
    · cases List.mem_singleton.mp z; exact he
  · rintro acc M2 ⟨hk, hall, hacc, hsame⟩
    have : mdel M2 p = M1 := funext fun a => by
      by_cases ha : a = p
      · subst ha; rw [mdel_same, hp]
      · rw [mdel_ne ha]; exact hsame a ha
    rw [this]
    exact ⟨hacc, done acc hk hall⟩
theorem strs_ok : ∀ {ys : List Str}, (∀ y ∈ ys, PyData.strOk y = true) → plains (ys.map D.str) = true ∧ PyData.canLayAll0 (pyDs (ys.map D.str)) = true ∧ PyData.depthAll (pyDs (ys.map D.str)) = 0
  | [], _ => ⟨rfl, rfl, rfl⟩
  | y :: ys, h => by
    obtain ⟨h1, h2, h3⟩ := strs_ok fun x hx => h x (List.mem_cons_of_mem _ hx)
    refine ⟨by simpa [plains, plain] using h1, ?_, ?_⟩
    · simp only [List.map_cons, pyDs, pyD, PyData.canLayAll0, PyData.canLay0, Bool.and_eq_true]
      exact ⟨h y List.mem_cons_self, h2⟩
    · simp only [List.map_cons, pyDs, pyD, PyData.depthAll, PyData.depth, h3]; rfl
theorem dOk_strsL {ys : List Str} (h : ∀ y ∈ ys, PyData.strOk y = true) : dOk (.lst (ys.map D.str)) := by
  obtain ⟨h1, h2, h3⟩ := strs_ok h
  refine ⟨by simpa [plain] using h1, by simpa [pyD, PyData.canLay0] using h2, ?_⟩
  simp [pyD, PyData.depth, h3]
theorem dOk_strsT {ys : List Str} (h : ∀ y ∈ ys, PyData.strOk y = true) : dOk (.tup (ys.map D.str)) := by
  obtain ⟨h1, h2, h3⟩ := strs_ok h
  refine ⟨by simpa [plain] using h1, by simpa [pyD, PyData.canLay0] using h2, ?_⟩
  simp [pyD, PyData.depth, h3]
theorem eqv_nilL {ds : List D} : PyData.eqv (pyD (.lst ds)) (pyD (.lst [])) = ds.isEmpty := by
  cases ds <;> simp [pyD, pyDs, PyData.eqv, PyData.eqvAll]
theorem eqv_nilT {ds : List D} : PyData.eqv (pyD (.tup ds)) (pyD (.tup [])) = ds.isEmpty := by
  cases ds <;> simp [pyD, pyDs, PyData.eqv, PyData.eqvAll]
theorem nilL_ok : dOk (.lst []) := ⟨rfl, rfl, by decide⟩
theorem nilT_ok : dOk (.tup []) := ⟨rfl, rfl, by decide⟩
theorem comp_penN {g : TG3} {tt : TT3} {te : TE3} {σ0 : Lo} {M1 : Mem} {Q : DK} {ds : List D} {q : Addr} {b : Nat} (c : Nat) (P : Nat → D → D → Prop) (hP : Pen M1 q b) (hl : ds.length < sizeLine)
    (turn : ∀ (k : Nat) d M2 (R : D → Mem → Prop) (F : Mem → Prop), ds[k]? = some d → Pen M2 q (b + c * k) → (∀ a, M1 a ≠ none → a ≠ q → M2 a = M1 a) → (∀ e M5, P k d e → Pen M5 q (b + c * (k + 1)) → Same3 q M2 M5 → R e M5) →
      g d σ0 M2 fun σ' M3 => tt σ' M3 fun bb M4 => if bb = true then te σ' M4 R else F M4)
    (done : ∀ (acc : List D) M2, acc.length = ds.length → (∀ (k : Nat) d e, ds[k]? = some d → acc[k]? = some e → P k d e) → Pen M2 q (b + c * ds.length) → Same3 q M1 M2 → Q (.lst acc) M2) : CompB g tt te σ0 ds M1 Q := by
  intro p hp
  have hqp := pen_ne hP hp
  refine ⟨fun k acc M2 => acc.length = k ∧ (∀ (j : Nat) d e, ds[j]? = some d → acc[j]? = some e → P j d e) ∧ Pen M2 q (b + c * k) ∧ M2 p = some (.lst acc) ∧ ∀ a, a ≠ q → a ≠ p → M2 a = M1 a, ⟨rfl, fun j d e _ h => by simp at h, by rw [Nat.mul_zero, Nat.add_zero]; exact pen_put hP hqp, mput_same, fun a _ ha => mput_ne ha⟩, ?_, ?_⟩
  · rintro k d acc M2 hd ⟨hk, hall, hpen, hacc, hsame⟩
    have hkl : k < ds.length := (List.getElem?_eq_some_iff.mp hd).1
    refine turn k d M2 _ _ hd hpen (fun a ha hq => hsame a hq (by rintro rfl; exact ha hp)) fun e M5 he hp5 hs5 => ?_
    refine ⟨by rw [hs5 p (Ne.symm hqp)]; exact hacc, by lia, by simp [hk], fun j d' e' hd' he' => ?_, pen_put hp5 hqp, mput_same, fun a ha1 ha2 => ?_⟩
    · rcases Nat.lt_or_ge j acc.length with hj | hj
      · rw [List.getElem?_append_left hj] at he'
        exact hall j d' e' hd' he'
      · rw [List.getElem?_append_right hj] at he'
        have hj0 : j - acc.length = 0 := by
          rcases Nat.eq_zero_or_pos (j - acc.length) with z | z
          · exact z
          · rw [List.getElem?_eq_none (by simp; lia)] at he'; cases he'
        rw [hj0] at he'
        cases he'
        have : j = k := by lia
        subst this
        rw [hd] at hd'; cases hd'
        exact he
    · rw [mput_ne ha2, hs5 a ha1]; exact hsame a ha1 ha2
  · rintro acc M2 ⟨hk, hall, hpen, hacc, hsame⟩
    refine ⟨hacc, done acc (mdel M2 p) hk hall ?_ fun a ha => ?_⟩
    · exact pen_same hpen (p := p) (fun a ha => mdel_ne ha) hqp
    · by_cases hap : a = p
      · subst hap; rw [mdel_same, hp]
      · rw [mdel_ne hap]; exact hsame a ha hap
theorem comp_map {α : Type} {gt : TG3} {tt : TT3} {te : TE3} {σ0 : Lo} {M1 : Mem} {Q : DK} (l : List α) (f g : α → D) (hl : l.length < sizeLine)
    (turn : ∀ a ∈ l, ∀ M2 (R : D → Mem → Prop) (F : Mem → Prop), (∀ x, M1 x ≠ none → M2 x = M1 x) → R (g a) M2 → gt (f a) σ0 M2 fun σ' M3 => tt σ' M3 fun bb M4 => if bb = true then te σ' M4 R else F M4)
    (done : Q (.lst (l.map g)) M1) : CompB gt tt te σ0 (l.map f) M1 Q := by
  intro p hp
  refine ⟨fun k acc M2 => acc = (l.take k).map g ∧ M2 p = some (.lst acc) ∧ ∀ a, a ≠ p → M2 a = M1 a, ⟨rfl, mput_same, fun a ha => mput_ne ha⟩, ?_, ?_⟩
  · rintro k d acc M2 hd ⟨rfl, hacc, hsame⟩
    have hk : k < l.length := by simpa using (List.getElem?_eq_some_iff.mp hd).1
    have hdk : d = f l[k] := by
      rw [List.getElem?_map, List.getElem?_eq_getElem hk] at hd
      exact (Option.some.inj hd).symm
    subst hdk
    refine turn l[k] (List.getElem_mem hk) M2 _ _ (fun a ha => hsame a (by rintro rfl; exact ha hp)) ⟨hacc, by simp; lia, ?_, mput_same, fun a ha => by rw [mput_ne ha]; exact hsame a ha⟩
    rw [List.take_succ, List.getElem?_eq_getElem hk, List.map_append]
    rfl
  · rintro acc M2 ⟨rfl, hacc, hsame⟩
    have hlen : (l.map f).length = l.length := by simp
    rw [hlen, List.take_length] at hacc ⊢
    have : mdel M2 p = M1 := funext fun a => by
      by_cases ha : a = p
      · subst ha; rw [mdel_same, hp]
      · rw [mdel_ne ha]; exact hsame a ha
    rw [this]
    exact ⟨hacc, done⟩
end L3
open L3
local macro_rules | `(tactic| walk_at "r2") => `(tactic| first | (with_reducible first | refine rd_seq ?_ | refine rd_ifs ?_ | refine rd_test ?_ | refine rd_op ?_ | refine rd_un ?_ | refine rd_c ?_ | refine rd_ret ?_ | refine rd_set ?_ | refine rd_drop ?_ | refine rd_next ?_ | refine rd_call ?_ | refine rd_cb ?_ | refine rd_nil ?_ | refine rd_cons ?_ | refine rd_tupE ?_ | refine rd_lstE ?_ | refine rd_and ?_ | refine rd_or ?_ | refine rd_not ?_ | refine rd_andV ?_ | refine rd_orV ?_ | refine rd_notV ?_ | refine rd_if3 ?_ | refine rd_chain ?_ | refine rd_sl ?_ | refine rd_np ?_ | refine rd_part ?_ | refine rd_bl ?_ | refine rd_iteT ?_ | refine rd_iteF ?_ | refine rd_iteNT ?_ | refine rd_iteNF ?_ | refine rd_I0 ?_ | refine rd_U ?_ | refine rd_addI ?_ | refine rd_lenL ?_ | refine rd_lenT ?_ | refine rd_abs ?_ | refine rd_intI ?_ | refine rd_intB ?_ | refine rd_listL ?_ | refine rd_listT ?_ | refine rd_slL ?_ | refine rd_isN ?_ | refine rd_isntN ?_ | refine rd_asg ?_ | refine rd_gName ?_ | refine rd_true ?_ | refine rd_bm ?_ | refine rd_slA ?_ | refine rd_slAL ?_ | refine rd_intTI ?_ | refine rd_intTB ?_ | refine rd_join3 ?_ | refine rd_parts ?_ | refine rd_fmt ?_ | refine rd_lstM ?_ | refine rd_minI ?_ | refine rd_tupL ?_ | refine rd_tupT ?_ | refine rd_comp ?_ | refine rd_forG ?_ | refine rd_iStr ?_ | refine rd_iTup ?_ | refine rd_iList ?_ | refine rd_onStr ?_ | refine rd_onTup ?_ | refine rd_onLst ?_ | refine rd_eqI ?_ | refine rd_neI ?_ | refine rd_eqB ?_ | refine rd_neB ?_ | refine rd_eqS ?_ | refine rd_neS ?_ | refine rd_for ?_ | refine rd_rng ?_) | ((with_reducible show tVar3 _ _ _ _); refine rd_var rfl ?_) | ((with_reducible show _ ∧ _); refine ⟨(by first | decide | (simp only [List.length_cons, List.length_nil]; decide)), ?_⟩))
local macro_rules | `(tactic| walk_at "rd") => `(tactic| repeat walk_at "r2")
namespace MK
open PySem L2 L3
theorem len__law_pen : ∀ ds M Q, spPen ds M Q → ds.length = 1 := by rintro _ _ _ ⟨_, rfl, _⟩; rfl
theorem rd__law_pen : ∀ ds M Q, spPen ds M Q → t__law_pen { nx := fun _ M' => View Q .non M', rt := View Q } (start3 N__law_pen ds) M := by
  intro ds M Q h
  obtain ⟨d, rfl⟩ : ∃ d, ds = [d] := by obtain ⟨ns, rfl, _⟩ := h; exact ⟨_, rfl⟩
  exact rd_pen h d rfl _
theorem len__law_draw : ∀ ds M Q, spDraw ds M Q → ds.length = 2 := by rintro _ _ _ ⟨_, _, _, rfl, _⟩; rfl
theorem rd__law_draw : ∀ ds M Q, spDraw ds M Q → t__law_draw { nx := fun _ M' => View Q .non M', rt := View Q } (start3 N__law_draw ds) M := by
  intro ds M Q h
  obtain ⟨d0, d1, rfl⟩ : ∃ d0 d1, ds = [d0, d1] := by obtain ⟨_, _, _, rfl, _⟩ := h; exact ⟨_, _, rfl⟩
  exact rd_draw h d0 d1 rfl _
def abc : Str := "abcdefghijklmnopqrstuvwxyz"
theorem abc_at {n : Int} (h0 : 0 ≤ n) (h1 : n < 26) : ∃ c, atI abc.cps.toList n = some c ∧ 97 ≤ c ∧ c ≤ 122 := by
  have e : abc.cps.toList = (List.range 26).map (· + 97) := by decide +kernel
  obtain ⟨c, hc, hm⟩ := atI_mem (ds := abc.cps.toList) h0 (by rw [e]; simpa using h1)
  refine ⟨c, hc, ?_⟩
  rw [e] at hm
  obtain ⟨k, hk, rfl⟩ := List.mem_map.mp hm
  have := List.mem_range.mp hk
  lia
def one (c : Nat) : Str := ⟨#[c]⟩
theorem glue_fold : ∀ (cs : List Nat) (a : Array Nat), (List.foldl (fun acc (p : Str) => acc ++ (("" : Str)).cps ++ p.cps) a (cs.map one)).toList = a.toList ++ cs
  | [], a => by simp
  | c :: cs, a => by
    rw [List.map_cons, List.foldl_cons, glue_fold cs]
    have : (("" : Str)).cps = #[] := by decide +kernel
    rw [this]
    simp [one]
theorem glue_ones (cs : List Nat) : (Txt.join "" (cs.map one)).cps.toList = cs := by
  show (List.foldl _ (((cs.map one).headD Str.empty).cps) (List.drop 1 (cs.map one))).toList = cs
  cases cs with
  | nil => rfl
  | cons c cs =>
    rw [List.map_cons, List.drop_one, List.tail_cons]
    refine (glue_fold cs _).trans ?_
    simp [one]
theorem len__law_letters : ∀ ds M Q, spLetters ds M Q → ds.length = 2 := by rintro _ _ _ ⟨_, _, _, rfl, _⟩; rfl
theorem rd__law_letters : ∀ ds M Q, spLetters ds M Q → t__law_letters { nx := fun _ M' => View Q .non M', rt := View Q } (start3 N__law_letters ds) M := by
  rintro _ M Q ⟨p, b, n, rfl, hP, hb, h0, h1, q⟩
  rw [st__law_letters]
  unfold t__law_letters
  walk_at "rd"
  refine ⟨rfl, ?_⟩
  walk_at "rd"
  refine ⟨by lia, by lia, ?_⟩
  walk_at "rd"
  refine comp_pen 1 (fun _ _ e => ∃ c, e = .str ⟨#[c]⟩ ∧ 97 ≤ c ∧ c ≤ 122) hP ?_ ?_ ?_
  · rw [List.length_map, List.length_range, sizeLine_eq]; lia
  · intro k2 d2 p2 acc M2 R F hd2 hP2 hacc hne hsame hR
    have hk2 : k2 < n.toNat := by simpa using (List.getElem?_eq_some_iff.mp hd2).1
    walk_at "rd"
    refine draw hP2 (by lia) (by decide) (by decide) fun m M3 m0 m1 hP3 e3 => ?_
    obtain ⟨c, hc, hc1⟩ := abc_at m0 m1
    refine rd_ixS (by decide +kernel) hc ?_
    exact hR _ _ ⟨c, rfl, hc1⟩ (pen_mono hP3 (by lia)) e3
  intro acc M2 hlen hall hP2 hs2
  obtain ⟨cs, rfl, hcs⟩ := exists_map (f := fun c => D.str (one c)) (P := fun c => 97 ≤ c ∧ c ≤ 122) fun e he => by
    obtain ⟨_, _, _, c, hc, h2⟩ := comp_all hlen hall e he
    exact ⟨c, hc, h2⟩
  have hl2 : cs.length = n.toNat := by simpa using hlen
  have e2 : cs.map (fun c => D.str (one c)) = (cs.map one).map D.str := by rw [List.map_map]; rfl
  rw [e2]
  walk_at "rd"
  refine rd_joinL ?_ ?_
  · have : ((cs.map one).map fun y => y.length).sum = cs.length := by
      clear hall hlen hl2 e2 hcs
      induction cs with
      | nil => rfl
      | cons c cs ih =>
        rw [List.map_cons, List.map_cons, List.sum_cons, ih]
        show 1 + cs.length = cs.length + 1
        lia
    unfold joinOk
    rw [this, List.length_map, show (("" : Str)).length = 0 by decide +kernel]
    lia
  refine View.of (q _ M2 (fun c hc => hcs c (by rw [glue_ones] at hc; exact hc)) ?_ (pen_mono hP2 (by rw [List.length_map, List.length_range]; lia)) hs2)
  rw [len_cps, glue_ones, hl2]; lia
theorem nm_of (x : Str) (h : (x.cps.toList.all fun c => decide (97 ≤ c ∧ c ≤ 122)) = true) (h1 : (decide (1 ≤ x.length) && decide (x.length ≤ 8)) = true) : nm x := by
  rw [List.all_eq_true] at h
  simp only [Bool.and_eq_true, decide_eq_true_eq] at h1
  exact ⟨fun c hc => by simpa using h c hc, h1⟩
theorem ltr_app {x y : Str} (hx : ltr x) (hy : ltr y) : ltr (x ++ y) := fun c hc => by
  rw [cps_app] at hc
  rcases List.mem_append.mp hc with h | h
  · exact hx c h
  · exact hy c h
theorem len_app (x y : Str) : (x ++ y).length = x.length + y.length := by rw [len_cps, cps_app, List.length_append, ← len_cps, ← len_cps]
def pq : Str := "abcdefghijklmnop"
theorem pq_at {n : Int} (h0 : 0 ≤ n) (h1 : n < 16) : ∃ c, atI pq.cps.toList n = some c ∧ 97 ≤ c ∧ c ≤ 122 := by
  have e : pq.cps.toList = (List.range 16).map (· + 97) := by decide +kernel
  obtain ⟨c, hc, hm⟩ := atI_mem (ds := pq.cps.toList) h0 (by rw [e]; simpa using h1)
  refine ⟨c, hc, ?_⟩
  rw [e] at hm
  obtain ⟨k, hk, rfl⟩ := List.mem_map.mp hm
  have := List.mem_range.mp hk
  lia
theorem ix_nm {l : List Str} (hl : ∀ x ∈ l, nm x) {n : Int} (h0 : 0 ≤ n) (h1 : n < (l.length : Int)) : ∃ x, atI (l.map D.str) n = some (.str x) ∧ nm x := by
  obtain ⟨d, hd, hm⟩ := atI_mem (ds := l.map D.str) h0 (by rw [List.length_map]; exact h1)
  obtain ⟨x, hx, rfl⟩ := List.mem_map.mp hm
  exact ⟨x, hd, hl x hx⟩
theorem len__law_fresh : ∀ ds M Q, spFresh ds M Q → ds.length = 2 := by rintro _ _ _ ⟨_, _, _, _, rfl, _⟩; rfl
theorem some8 : ∀ x ∈ (["let", "x", "g", "i", "onn", "a", "rules", "tryy"] : List Str), nm x := by
  intro x hx
  simp only [List.mem_cons, List.not_mem_nil, or_false] at hx
  rcases hx with rfl | rfl | rfl | rfl | rfl | rfl | rfl | rfl <;> exact nm_of _ (by decide +kernel) (by decide +kernel)
theorem rd__law_fresh : ∀ ds M Q, spFresh ds M Q → t__law_fresh { nx := fun _ M' => View Q .non M', rt := View Q } (start3 N__law_fresh ds) M := by
  rintro _ M Q ⟨p, a, b, ys, rfl, hap, ha, hyl, hP, hb, q⟩
  rw [st__law_fresh]
  unfold t__law_fresh
  walk_at "rd"
  refine draw hP (by lia) (by decide) (by decide) fun n M1 n0 n1 hP1 e1 => ?_
  walk_at "rd"
  refine ⟨p, b + 1, 1 + n, rfl, hP1, by lia, by lia, by lia, fun x M2 hx hxl hP2 e2 => ?_⟩
  walk_at "rd"
  refine draw hP2 (by lia) (by decide) (by decide) fun m M3 m0 m1 hP3 e3 => ?_
  obtain ⟨y, hy, hny⟩ := ix_nm some8 m0 (by simpa using m1)
  refine rd_ixL hy ?_
  walk_at "rd"
  refine draw hP3 (by lia) (by decide) (by decide) fun k M4 k0 k1 hP4 e4 => ?_
  have hnx : nm x := ⟨hx, by lia, by lia⟩
  obtain ⟨w, hw, hnw⟩ := ix_nm (l := [x, y]) (n := k) (by
    intro z hz
    simp only [List.mem_cons, List.not_mem_nil, or_false] at hz
    rcases hz with rfl | rfl
    · exact hnx
    · exact hny) k0 (by simpa using k1)
  refine rd_ixL hw ?_
  have ee := e1.trans (e2.trans (e3.trans e4))
  have ha4 : M4 a = some (.lst (ys.map D.str)) := by rw [ee a hap]; exact ha
  walk_at "rd"
  refine rd_inL (ys := ys) (seqD_ref ha4) ?_
  have fin1 : ∀ M', Pen M' p (b + 15) → Same3 p M M' → tRet3 (tOp3 rAdd3 (tC3 (.str "qqqqqqq")) (tOp3 rIx3 (tC3 (.str "abcdefghijklmnop")) (tCB3 rLen3 (tCons3 (tVar3 1) tNil3)))) { nx := tRet3 (tVar3 4) { nx := fun _ M' => View Q .non M', rt := View Q }, rt := View Q }
      [some (.ref p), some (.ref a), some (.str "any ask cast catch close else end fault give if last leave make none note on rule try while"), some (.lst [.str "let", .str "x", .str "g", .str "i", .str "onn", .str "a", .str "rules", .str "tryy"]), some (.str w)] M' := by
    intro M' hP' hs'
    have ha' : M' a = some (.lst (ys.map D.str)) := by rw [hs' a hap]; exact ha
    walk_at "rd"
    refine rd_lenR ha' ?_
    obtain ⟨c, hc, hc1⟩ := pq_at (n := ((ys.map D.str).length : Int)) (by lia) (by rw [List.length_map]; lia)
    refine rd_ixS (by decide +kernel) hc ?_
    have e7 : (("qqqqqqq" : Str)).length = 7 := by decide +kernel
    refine rd_addS (by rw [e7, sizeLine_eq]; show 7 + 1 ≤ _; decide) ?_
    refine View.of (q _ M' ⟨ltr_app (nm_of _ (by decide +kernel) (by decide +kernel)).1 (fun d hd => ?_), ?_, ?_⟩ (pen_mono hP' (by lia)) hs')
    · have : d = c := by simpa using hd
      subst this; exact hc1
    · rw [len_app, e7]; lia
    · rw [len_app, e7]; show 7 + 1 ≤ 8; decide
  have fin2 : ∀ M', Pen M' p (b + 15) → Same3 p M M' → tRet3 (tVar3 4) { nx := fun _ M' => View Q .non M', rt := View Q }
      [some (.ref p), some (.ref a), some (.str "any ask cast catch close else end fault give if last leave make none note on rule try while"), some (.lst [.str "let", .str "x", .str "g", .str "i", .str "onn", .str "a", .str "rules", .str "tryy"]), some (.str w)] M' := by
    intro M' hP' hs'
    walk_at "rd"
    exact View.of (q w M' hnw (pen_mono hP' (by lia)) hs')
  walk_at "rd"
  refine rd_ite2 (rd_iteT (fin1 M4 (pen_mono hP4 (by lia)) ee)) ?_
  walk_at "rd"
  refine ⟨rfl, ?_⟩
  walk_at "rd"
  refine ⟨"any ask cast catch close else end fault give if last leave make none note on rule try while", 32, rfl, rfl, by decide, ⟨by decide +kernel, by decide +kernel⟩, by decide +kernel, by decide +kernel, by decide +kernel, ?_⟩
  refine rd_inL (ys := Builtin.Str.partsBetween _ _ _) rfl ?_
  walk_at "rd"
  refine rd_ite2 (rd_iteT (fin1 M4 (pen_mono hP4 (by lia)) ee)) ?_
  walk_at "rd"
  refine draw hP4 (by lia) (by decide) (by decide) fun j M5 j0 j1 hP5 e5 => ?_
  walk_at "rd"
  exact rd_ite2 (fin1 M5 (pen_mono hP5 (by lia)) (ee.trans e5)) (fin2 M5 (pen_mono hP5 (by lia)) (ee.trans e5))
theorem len__law_names : ∀ ds M Q, spNames ds M Q → ds.length = 2 := by rintro _ _ _ ⟨_, _, _, rfl, _⟩; rfl
theorem rd__law_names : ∀ ds M Q, spNames ds M Q → t__law_names { nx := fun _ M' => View Q .non M', rt := View Q } (start3 N__law_names ds) M := by
  rintro _ M Q ⟨p, b, n, rfl, hP, hb, h0, h1, q⟩
  rw [st__law_names]
  unfold t__law_names
  walk_at "rd"
  intro f hf
  have hpf := pen_ne hP hf
  walk_at "rd"
  refine ⟨by lia, by lia, fun k σ M1 => ∃ ys : List Str, ∃ s3, ys.length = k ∧ (∀ y ∈ ys, nm y) ∧ σ = [some (.ref p), some (.int n), some (.ref f), s3] ∧ Pen M1 p (b + 20 * k) ∧ M1 f = some (.lst (ys.map D.str)) ∧ ∀ a, a ≠ p → a ≠ f → M1 a = M a, ⟨[], _, rfl, (fun _ h => by cases h), rfl, pen_put hP hpf, mput_same, fun a _ ha => mput_ne ha⟩, ?_, ?_⟩
  · rintro k d σ M1 hd ⟨ys, s3, hlen, hys, rfl, hP1, hf1, hs1⟩
    have hk : k < n.toNat := by simpa using (List.getElem?_eq_some_iff.mp hd).1
    walk_at "rd"
    refine ⟨.inl ⟨rfl, _, hf1⟩, ?_⟩
    walk_at "rd"
    refine ⟨p, f, _, ys, rfl, Ne.symm hpf, hf1, by lia, hP1, by lia, fun x M2 hx hP2 hs2 => ?_⟩
    walk_at "rd"
    have hf2 : M2 f = some (.lst (ys.map D.str)) := by rw [hs2 f (Ne.symm hpf)]; exact hf1
    refine rd_append hf2 (by rw [List.length_map, sizeLine_eq]; lia) ?_
    refine ⟨ys ++ [x], _, by simp [hlen], fun y hy => ?_, rfl, pen_put (pen_mono hP2 (by lia)) hpf, by rw [mput_same, List.map_append]; rfl, fun a ha1 ha2 => by rw [mput_ne ha2, hs2 a ha1]; exact hs1 a ha1 ha2⟩
    rcases List.mem_append.mp hy with z | z
    · exact hys y z
    · cases List.mem_singleton.mp z; exact hx
  · rintro σ M1 ⟨ys, s3, hlen, hys, rfl, hP1, hf1, hs1⟩
    have hl2 : ys.length = n.toNat := by simpa using hlen
    walk_at "rd"
    exact View.frz hf1 (q ys _ (by lia) hys (pen_del (pen_mono hP1 (by rw [List.length_map, List.length_range]; lia)) hpf) (same_del hf hs1))
theorem some8w : ∀ x ∈ (["close", "ring", "kind", "none", "anyy", "e", "gives", "if"] : List Str), nm x := by
  intro x hx
  simp only [List.mem_cons, List.not_mem_nil, or_false] at hx
  rcases hx with rfl | rfl | rfl | rfl | rfl | rfl | rfl | rfl <;> exact nm_of _ (by decide +kernel) (by decide +kernel)
theorem len__law_word : ∀ ds M Q, spWord ds M Q → ds.length = 1 := by rintro _ _ _ ⟨_, _, rfl, _⟩; rfl
theorem rd__law_word : ∀ ds M Q, spWord ds M Q → t__law_word { nx := fun _ M' => View Q .non M', rt := View Q } (start3 N__law_word ds) M := by
  rintro _ M Q ⟨p, b, rfl, hP, hb, q⟩
  rw [st__law_word]
  unfold t__law_word
  walk_at "rd"
  refine draw hP (by lia) (by decide) (by decide) fun m M1 m0 m1 hP1 e1 => ?_
  obtain ⟨y, hy, hny⟩ := ix_nm some8w m0 (by simpa using m1)
  refine rd_ixL hy ?_
  walk_at "rd"
  refine draw hP1 (by lia) (by decide) (by decide) fun n M2 n0 n1 hP2 e2 => ?_
  walk_at "rd"
  refine ⟨p, b + 2, 1 + n, rfl, hP2, by lia, by lia, by lia, fun x M3 hx hxl hP3 e3 => ?_⟩
  walk_at "rd"
  refine draw hP3 (by lia) (by decide) (by decide) fun k M4 k0 k1 hP4 e4 => ?_
  have hnx : nm x := ⟨hx, by lia, by lia⟩
  obtain ⟨w, hw, hnw⟩ := ix_nm (l := [y, x]) (n := k) (by
    intro z hz
    simp only [List.mem_cons, List.not_mem_nil, or_false] at hz
    rcases hz with rfl | rfl
    · exact hny
    · exact hnx) k0 (by simpa using k1)
  refine rd_ixL hw ?_
  have ee := e1.trans (e2.trans (e3.trans e4))
  walk_at "rd"
  have han : nm "an" := nm_of _ (by decide +kernel) (by decide +kernel)
  cases hb2 : (w == Str.ofString "any") with
  | false =>
    refine rd_ixL (d := .str w) rfl ?_
    exact View.of (q w M4 hnw (pen_mono hP4 (by lia)) ee)
  | true =>
    refine rd_ixL (d := .str "an") rfl ?_
    exact View.of (q _ M4 han (pen_mono hP4 (by lia)) ee)
end MK
open L3
namespace MK
open PySem L2 L3
theorem nm_ok {x : Str} (h : nm x) : PyData.strOk x = true := by
  unfold PyData.strOk
  rw [Array.all_eq_true']
  intro c hc
  have := h.1 c (Array.mem_toList_iff.mpr hc)
  simp; lia
theorem k_hp : ¬ (("heads" : Str) = "pool") := by decide +kernel
theorem env_same {M M' : Mem} {e p : Addr} (h : EnvOk M e p) (s : Same3 p M M') : EnvOk M' e p := by
  obtain ⟨hs, ps, h1, h2, h3, h4⟩ := h
  exact ⟨hs, ps, by rw [s e h4]; exact h1, h2, h3, h4⟩
theorem get_heads {M : Mem} {e : Addr} {x y : D} {Q : DK} (h : M e = some (.dct [(.inr "heads", x), (.inr "pool", y)])) (q : Q x M) : rDGet3 (.ref e) (.str "heads") M Q :=
  rd_dgetR h (by simp [valD]) q
theorem get_pool {M : Mem} {e : Addr} {x y : D} {Q : DK} (h : M e = some (.dct [(.inr "heads", x), (.inr "pool", y)])) (q : Q y M) : rDGet3 (.ref e) (.str "pool") M Q :=
  rd_dgetR h (by simp [valD, inr_ne k_hp]) q
theorem len__law_leaf : ∀ ds M Q, spLeaf ds M Q → ds.length = 2 := by rintro _ _ _ ⟨_, _, _, rfl, _⟩; rfl
theorem rd__law_leaf : ∀ ds M Q, spLeaf ds M Q → t__law_leaf { nx := fun _ M' => View Q .non M', rt := View Q } (start3 N__law_leaf ds) M := by
  rintro _ M Q ⟨p, e, b, rfl, hE, hP, hb, q⟩
  rw [st__law_leaf]
  unfold t__law_leaf
  walk_at "rd"
  refine draw hP (by lia) (by decide) (by decide) fun way M1 w0 w1 hP1 e1 => ?_
  obtain ⟨hs, ps, hM1, ⟨hs0, hs1, hs2⟩, ⟨ps0, ps1, ps2⟩, hep⟩ := env_same hE e1
  walk_at "rd"
  refine get_heads hM1 ?_
  walk_at "rd"
  refine comp_filt (fun d => ∃ x, d = .str x ∧ nm x) (by rw [List.length_map, sizeLine_eq]; lia) ?_ ?_
  · intro k d M2 R F hd hsame hR hF
    obtain ⟨h, hh, rfl⟩ := List.mem_map.mp (List.mem_of_getElem? hd)
    obtain ⟨hn1, hn2, hn3⟩ := hs2 h hh
    refine rd_gTup rfl ?_
    walk_at "rd"
    refine rd_eqv (dOk_strsT fun y hy => nm_ok (hn3 y hy)) nilT_ok eqv_nilT ?_
    walk_at "rd"
    refine rd_ite2 ?_ hF
    walk_at "rd"
    exact hR _ ⟨_, rfl, hn1⟩
  intro acc hacc hall
  obtain ⟨bs, rfl, hbs⟩ := exists_map (f := D.str) (P := nm) hall
  simp only [List.length_map] at hacc
  walk_at "rd"
  by_cases hw0 : way = 0
  · refine rd_iteTe (by simp [hw0]) ?_
    walk_at "rd"
    exact View.of (q .none M1 trivial rfl rfl (pen_mono hP1 (by lia)) e1)
  refine rd_iteFe (by simp [hw0]) ?_
  walk_at "rd"
  have rest : tSeq3 (tIfS3 (tTest3 (tOp3 rLt3 (tVar3 2) (tC3 (.int 3)))) (tSeq3 (tSet3 4 (tLst3 (tCons3 (tCall3 spDraw (tCons3 (tVar3 0) (tCons3 (tC3 (.int 4)) tNil3))) (tCons3 (tOp3 rSub3 (tCall3 spDraw (tCons3 (tVar3 0) (tCons3 (tC3 (.int 100)) tNil3))) (tC3 (.int 50))) (tCons3 (tOp3 rSub3 (tOp3 rPow3 (tC3 (.int 10)) (tC3 (.int 30))) (tC3 (.int 1))) (tCons3 (tOp3 rAdd3 (tUn3 rNeg3 (tOp3 rPow3 (tC3 (.int 10)) (tC3 (.int 30)))) (tC3 (.int 1))) (tCons3 (tCall3 spDraw (tCons3 (tVar3 0) (tCons3 (tOp3 rPow3 (tC3 (.int 10)) (tC3 (.int 30))) tNil3))) tNil3)))))))
    (tRet3 (tTup3 (tCons3 (tC3 (.str "number")) (tCons3 (tOp3 rIx3 (tVar3 4) (tCall3 spDraw (tCons3 (tVar3 0) (tCons3 (tC3 (.int 5)) tNil3)))) tNil3))))) tNext3)
    (tRet3 (tTup3 (tCons3 (tC3 (.str "var")) (tCons3 (tOp3 rIx3 (tOp3 rDGet3 (tVar3 1) (tC3 (.str "pool"))) (tCall3 spDraw (tCons3 (tVar3 0) (tCons3 (tCB3 rLen3 (tCons3 (tOp3 rDGet3 (tVar3 1) (tC3 (.str "pool"))) tNil3)) tNil3)))) tNil3))))
      { nx := fun _ M' => View Q .non M', rt := View Q } [some (.ref p), some (.ref e), some (.int way), some (.lst (bs.map D.str)), none] M1 := by
    walk_at "rd"
    refine rd_dec (fun h3 => ?_) (fun h3 => ?_)
    · walk_at "rd"
      refine draw hP1 (by lia) (by decide) (by decide) fun n1 M2 a1 b1 hP2 e2 => ?_
      walk_at "rd"
      refine draw hP2 (by lia) (by decide) (by decide) fun n2 M3 a2 b2 hP3 e3 => ?_
      walk_at "rd"
      refine rd_I ⟨by decide, by decide, by decide⟩ ?_
      walk_at "rd"
      refine rd_I ⟨by decide, by decide, by decide⟩ ?_
      walk_at "rd"
      refine rd_I ⟨by decide, by decide, by decide⟩ ?_
      walk_at "rd"
      refine draw hP3 (by lia) (by decide) (by decide) fun n3 M4 a3 b3 hP4 e4 => ?_
      walk_at "rd"
      refine draw hP4 (by lia) (by decide) (by decide) fun n4 M5 a4 b4 hP5 e5 => ?_
      have e30 : (10 : Int) ^ Int.toNat 30 = ten30 := by decide
      simp only [e30] at *
      have et : ten30 = 1000000000000000000000000000000 := rfl
      obtain ⟨d, hd, hm⟩ := atI_mem (ds := [D.int n1, .int (n2 - 50), .int (ten30 - 1), .int (-ten30 + 1), .int n3]) a4 (by simp only [List.length_cons, List.length_nil]; lia)
      refine rd_ixL hd ?_
      obtain ⟨m, rfl, hbm⟩ : ∃ m, d = .int m ∧ bnd m := by
        simp only [List.mem_cons, List.not_mem_nil, or_false] at hm
        rcases hm with rfl | rfl | rfl | rfl | rfl
        all_goals exact ⟨_, rfl, by constructor <;> lia⟩
      walk_at "rd"
      exact View.of (q (.num m) M5 hbm rfl rfl (pen_mono hP5 (by lia)) (e1.trans (e2.trans (e3.trans (e4.trans e5)))))
    · walk_at "rd"
      refine get_pool hM1 ?_
      walk_at "rd"
      refine get_pool hM1 ?_
      walk_at "rd"
      have hpl : 0 < ps.length := by cases ps with | nil => exact absurd rfl ps0 | cons _ _ => simp
      refine draw hP1 (by lia) (by rw [List.length_map]; lia) (by rw [List.length_map]; lia) fun n1 M2 a1 b1 hP2 e2 => ?_
      obtain ⟨x, hx, hnx⟩ := ix_nm ps2 a1 (by simpa using b1)
      refine rd_ixL hx ?_
      walk_at "rd"
      exact View.of (q (.var x) M2 hnx rfl rfl (pen_mono hP2 (by lia)) (e1.trans e2))
  by_cases hw5 : way = 5
  · refine rd_iteTe (by simp [hw5]) ?_
    walk_at "rd"
    refine rd_nev (dOk_strsL fun y hy => nm_ok (hbs y hy)) nilL_ok eqv_nilL ?_
    walk_at "rd"
    cases bs with
    | nil =>
      exact rd_iteFe rfl (rd_next rest)
    | cons z zs =>
      refine rd_iteTe rfl ?_
      walk_at "rd"
      refine draw hP1 (by lia) (by rw [List.length_map, List.length_cons]; lia) (by rw [List.length_map]; lia) fun n1 M2 a1 b1 hP2 e2 => ?_
      obtain ⟨x, hx, hnx⟩ := ix_nm hbs a1 (by simpa using b1)
      refine rd_ixL hx ?_
      walk_at "rd"
      exact View.of (q (.make x .nil) M2 ⟨hnx, Nat.zero_le _, trivial⟩ rfl rfl (pen_mono hP2 (by lia)) (e1.trans e2))
  · exact rd_iteFe (by simp [hw5]) (rd_iteF (rd_next rest))
def exApp : Exs → Ex → Exs
  | .nil, x => .cons x .nil
  | .cons a r, x => .cons a (exApp r x)
theorem eDs_app : ∀ (l : Exs) (x : Ex), eDs (exApp l x) = eDs l ++ [eD x]
  | .nil, x => rfl
  | .cons a r, x => by
    show eD a :: eDs (exApp r x) = _
    rw [eDs_app r x]; rfl
theorem nds_app : ∀ (l : Exs) (x : Ex), nds (exApp l x) = nds l + nd x
  | .nil, x => by simp [exApp, nds]
  | .cons a r, x => by
    show nd a + nds (exApp r x) = nd a + nds r + nd x
    rw [nds_app r x]; lia
theorem dps_app : ∀ (l : Exs) (x : Ex), dps (exApp l x) = max (dps l) (dp x)
  | .nil, x => by simp [exApp, dps]
  | .cons a r, x => by
    show max (dp a) (dps (exApp r x)) = max (max (dp a) (dps r)) (dp x)
    rw [dps_app r x]; lia
theorem exl_app : ∀ (l : Exs) (x : Ex), exl (exApp l x) = exl l + 1
  | .nil, x => rfl
  | .cons a r, x => by
    show exl (exApp r x) + 1 = exl r + 1 + 1
    rw [exl_app r x]
theorem wfs_app : ∀ (l : Exs) (x : Ex), wfs l → wf x → wfs (exApp l x)
  | .nil, x, _, hx => ⟨hx, trivial⟩
  | .cons a r, x, h, hx => ⟨h.1, wfs_app r x h.2 hx⟩
theorem eDs_len : ∀ l : Exs, (eDs l).length = exl l
  | .nil => rfl
  | .cons a r => by
    show (eD a :: eDs r).length = exl r + 1
    rw [List.length_cons, eDs_len r]
theorem signs5 {n : Int} (h0 : 0 ≤ n) (h1 : n < 5) : ∃ c, atI (("+-*<=" : Str)).cps.toList n = some c ∧ sgn ⟨#[c]⟩ := by
  have e : (("+-*<=" : Str)).cps.toList = [43, 45, 42, 60, 61] := by decide +kernel
  obtain ⟨c, hc, hm⟩ := atI_mem (ds := (("+-*<=" : Str)).cps.toList) h0 (by rw [e]; simpa using h1)
  refine ⟨c, hc, ?_⟩
  rw [e] at hm
  simp only [List.mem_cons, List.not_mem_nil, or_false] at hm
  rcases hm with rfl | rfl | rfl | rfl | rfl
  · exact .inl (by decide +kernel)
  · exact .inr (.inl (by decide +kernel))
  · exact .inr (.inr (.inl (by decide +kernel)))
  · exact .inr (.inr (.inr (.inl (by decide +kernel))))
  · exact .inr (.inr (.inr (.inr (by decide +kernel))))
theorem len__law_expression : ∀ n ds M Q, spExpr n ds M Q → ds.length = 4 := by rintro _ _ _ _ ⟨_, _, _, _, _, rfl, _⟩; rfl
theorem zero__law_expression : ∀ ds M Q, ¬ spExpr 0 ds M Q := by
  rintro _ _ _ ⟨_, _, _, _, _, rfl, _, _, _, _, ⟨h1, h2, _⟩, _⟩
  lia
theorem rd__law_expression : ∀ n ds M Q, spExpr (n + 1) ds M Q → t__law_expression (spExpr n) { nx := fun _ M' => View Q .non M', rt := View Q } (start3 N__law_expression ds) M := by
  rintro lv _ M Q ⟨p, e, b, room, deep, rfl, hE, hP, hb, ⟨hr1, hr2⟩, ⟨hd1, hd2, hd3⟩, q⟩
  have hc : cst (lv + 1) = 3 * cst lv + 40 := rfl
  rw [hc] at hb q
  rw [st__law_expression]
  unfold t__law_expression
  walk_at "rd"
  refine draw hP (by lia) (by decide) (by decide) fun way M1 w0 w1 hP1 e1 => ?_
  have hE1 := env_same hE e1
  obtain ⟨hs, ps, hM1, ⟨hs0, hs1, hs2⟩, ⟨ps0, ps1, ps2⟩, hep⟩ := id hE1
  have leaf : ∀ (σ : Lo) (T : Ends3), T.rt = View Q → σ[0]? = some (some (.ref p)) → σ[1]? = some (some (.ref e)) → ∀ M2, Pen M2 p (b + 2) → Same3 p M M2 → tRet3 (tCall3 spLeaf (tCons3 (tVar3 0) (tCons3 (tVar3 1) tNil3))) T σ M2 := by
    intro σ T hT h0 h1 M2 hP2 hs2'
    refine rd_ret (rd_call (rd_cons (rd_var h0 (rd_cons (rd_var h1 (rd_nil ?_))))))
    rw [hT]
    exact ⟨p, e, b + 2, rfl, env_same hE hs2', hP2, by lia, fun x M3 hx hn hdd hP3 hs3 => View.of (q x M3 hx (by lia) (by lia) (pen_mono hP3 (by lia)) (hs2'.trans hs3))⟩
  walk_at "rd"
  refine rd_dec (fun _ => ?_) (fun hroom => ?_)
  · exact rd_iteT (leaf _ _ rfl rfl rfl M1 (pen_mono hP1 (by lia)) e1)
  walk_at "rd"
  refine rd_dec (fun _ => ?_) (fun hdeep => ?_)
  · exact rd_iteT (leaf _ _ rfl rfl rfl M1 (pen_mono hP1 (by lia)) e1)
  walk_at "rd"
  refine rd_dec (fun _ => leaf _ _ rfl rfl rfl M1 (pen_mono hP1 (by lia)) e1) (fun hway => ?_)
  walk_at "rd"
  refine rd_dec (fun h4 => ?_) (fun h4 => ?_)
  · walk_at "rd"
    refine draw hP1 (by lia) (by lia) (by lia) fun own M2 o0 o1 hP2 e2 => ?_
    walk_at "rd"
    obtain ⟨ow, rfl⟩ : ∃ ow : Nat, own = (ow : Int) := ⟨own.toNat, by lia⟩
    refine ⟨p, e, b + 1 + 1, 1 + ow, deep - 1, by rw [show ((1 + ow : Nat) : Int) = 1 + (ow : Int) by lia, show ((deep - 1 : Nat) : Int) = (deep : Int) - 1 by lia], env_same hE1 e2, hP2, by lia, ⟨by lia, by lia⟩, ⟨by lia, by lia, by lia⟩, fun x M3 hx hxn hxd hP3 e3 => ?_⟩
    walk_at "rd"
    refine draw hP3 (by lia) (by decide) (by decide) fun sg M4 s0 s1 hP4 e4 => ?_
    obtain ⟨c, hcs, hsg⟩ := signs5 s0 s1
    refine rd_ixS (by decide +kernel) hcs ?_
    walk_at "rd"
    refine ⟨p, e, _, room - 1 - (1 + ow), deep - 1, by rw [show ((room - 1 - (1 + ow) : Nat) : Int) = (room : Int) - 1 - (1 + (ow : Int)) by lia, show ((deep - 1 : Nat) : Int) = (deep : Int) - 1 by lia], env_same hE1 (e2.trans (e3.trans e4)), hP4, by lia, ⟨by lia, by lia⟩, ⟨by lia, by lia, by lia⟩, fun y M5 hy hyn hyd hP5 e5 => ?_⟩
    walk_at "rd"
    refine View.of (q (.op _ x y) M5 ⟨hsg, hx, hy⟩ ?_ ?_ (pen_mono hP5 (by lia)) (e1.trans (e2.trans (e3.trans (e4.trans e5)))))
    · show 1 + nd x + nd y ≤ room; lia
    · show 1 + max (dp x) (dp y) ≤ deep; lia
  · walk_at "rd"
    refine get_heads hM1 ?_
    walk_at "rd"
    refine get_heads hM1 ?_
    walk_at "rd"
    have hpl : 0 < hs.length := by cases hs with | nil => exact absurd rfl hs0 | cons _ _ => simp
    refine draw hP1 (by lia) (by rw [List.length_map]; lia) (by rw [List.length_map]; lia) fun i M2 i0 i1 hP2 e2 => ?_
    obtain ⟨d, hd, hm⟩ := atI_mem (ds := hs.map hdD) i0 i1
    obtain ⟨h, hh, rfl⟩ := List.mem_map.mp hm
    obtain ⟨hn1, hn2, hn3⟩ := hs2 h hh
    refine rd_ixL hd ?_
    refine rd_gTup rfl ?_
    walk_at "rd"
    refine rd_dec (fun _ => leaf _ _ rfl rfl rfl M2 (pen_mono hP2 (by lia)) (e1.trans e2)) (fun hpar => ?_)
    rw [List.length_map] at hpar
    walk_at "rd"
    intro f hf
    have hpf := pen_ne hP2 hf
    walk_at "rd"
    rw [List.length_map]
    have hE2 := env_same hE1 e2
    refine ⟨by lia, by lia, fun k σ M3 => ∃ (as : Exs) (left : Nat) (s5 s11 : Option D), σ = [some (.ref p), some (.ref e), some (.int room), some (.int deep), some (.int way), s5, none, some (.str h.1), some (.tup (h.2.map D.str)), some (.int left), some (.ref f), s11] ∧
      exl as = k ∧ wfs as ∧ dps as + 1 ≤ deep ∧ nds as + left + 1 ≤ room ∧ h.2.length ≤ left + k ∧ Pen M3 p (b + 2 + (1 + cst lv) * k) ∧ M3 f = some (.lst (eDs as)) ∧ ∀ a, a ≠ p → a ≠ f → M3 a = M2 a,
      ⟨.nil, room - 1, _, _, by rw [show ((room - 1 : Nat) : Int) = (room : Int) - 1 by lia]; rfl, rfl, trivial, by show 0 + 1 ≤ deep; lia, by show 0 + (room - 1) + 1 ≤ room; lia, by lia, pen_put (by simpa using hP2) hpf, mput_same, fun a _ ha => mput_ne ha⟩, ?_, ?_⟩
    · rintro k d σ M3 hd' ⟨as, left, s5, s11, rfl, hk, hwf, hdp, hnd, hlf, hP3, hf3, hs3⟩
      have hk' : k < h.2.length := by simpa using (List.getElem?_eq_some_iff.mp hd').1
      have hdk : d = .int (k : Nat) := by
        rw [List.getElem?_map, List.getElem?_range (by simpa using hk')] at hd'
        exact (Option.some.inj hd').symm
      subst hdk
      have hmul : (1 + cst lv) * (k + 1) = (1 + cst lv) * k + 1 + cst lv := by rw [Nat.mul_add]; lia
      have hle : (1 + cst lv) * k ≤ (1 + cst lv) * 2 := Nat.mul_le_mul_left _ (by lia)
      walk_at "rd"
      rw [List.length_map]
      refine draw hP3 (by lia) (by lia) (by lia) fun own M4 o0 o1 hP4 e4 => ?_
      walk_at "rd"
      have hf4 : M4 f = some (.lst (eDs as)) := by rw [e4 f (Ne.symm hpf)]; exact hf3
      refine ⟨.inl ⟨rfl, _, hf4⟩, ?_⟩
      walk_at "rd"
      obtain ⟨ow, rfl⟩ : ∃ ow : Nat, own = (ow : Int) := ⟨own.toNat, by lia⟩
      have hE4 : EnvOk M4 e p := by
        obtain ⟨hs', ps', hm', r1, r2, r3⟩ := hE2
        have hef : e ≠ f := by rintro rfl; rw [hf] at hm'; cases hm'
        exact ⟨hs', ps', by rw [e4 e r3, hs3 e r3 hef]; exact hm', r1, r2, r3⟩
      refine ⟨p, e, _, 1 + ow, deep - 1, by rw [show ((1 + ow : Nat) : Int) = 1 + (ow : Int) by lia, show ((deep - 1 : Nat) : Int) = (deep : Int) - 1 by lia], hE4, hP4, by lia, ⟨by lia, by lia⟩, ⟨by lia, by lia, by lia⟩, fun x M5 hx hxn hxd hP5 e5 => ?_⟩
      walk_at "rd"
      have hf5 : M5 f = some (.lst (eDs as)) := by rw [e5 f (Ne.symm hpf)]; exact hf4
      refine rd_append hf5 (by rw [eDs_len, sizeLine_eq]; lia) ?_
      walk_at "rd"
      refine ⟨exApp as x, left - (1 + ow), _, _, by rw [show ((left - (1 + ow) : Nat) : Int) = (left : Int) - (1 + (ow : Int)) by lia]; rfl, by rw [exl_app, hk], wfs_app as x hwf hx, by rw [dps_app]; lia, by rw [nds_app]; lia, by lia, pen_put (pen_mono hP5 (by lia)) hpf, by rw [mput_same, eDs_app], fun a ha1 ha2 => by rw [mput_ne ha2, e5 a ha1, e4 a ha1]; exact hs3 a ha1 ha2⟩
    · rintro σ M3 ⟨as, left, s5, s11, rfl, hk, hwf, hdp, hnd, hlf, hP3, hf3, hs3⟩
      have hk2 : exl as = h.2.length := by simpa using hk
      walk_at "rd"
      refine rd_tupR hf3 ?_
      walk_at "rd"
      have hle : (1 + cst lv) * (List.map (fun k : Nat => D.int ↑k) (List.range (Int.toNat ↑h.2.length))).length ≤ (1 + cst lv) * 3 := Nat.mul_le_mul_left _ (by simp; lia)
      refine View.drop (a := f) (q (.make h.1 as) _ ⟨hn1, by lia, hwf⟩ ?_ ?_ (pen_del (pen_mono hP3 (by lia)) hpf) ?_)
      · show 1 + nds as ≤ room; lia
      · show 1 + dps as ≤ deep; lia
      · have h1 := same_del hf hs3
        exact (e1.trans e2).trans h1
end MK
open L3
namespace MK
open PySem L2 L3
theorem len__law_simple : ∀ ds M Q, spSimple ds M Q → ds.length = 3 := by rintro _ _ _ ⟨_, _, _, _, rfl, _⟩; rfl
theorem exOk_of {x : Ex} (h : wf x) (h1 : nd x ≤ 9) (h2 : dp x ≤ 4) : exOk (eD x) := ⟨x, rfl, h, h1, h2⟩
theorem three {l : List Str} {n : Int} (h0 : 0 ≤ n) (h1 : n < (l.length : Int)) : ∃ x, atI (l.map D.str) n = some (.str x) ∧ x ∈ l := by
  obtain ⟨d, hd, hm⟩ := atI_mem (ds := l.map D.str) h0 (by rw [List.length_map]; exact h1)
  obtain ⟨x, hx, rfl⟩ := List.mem_map.mp hm
  exact ⟨x, hd, hx⟩
theorem rd__law_simple : ∀ ds M Q, spSimple ds M Q → t__law_simple { nx := fun _ M' => View Q .non M', rt := View Q } (start3 N__law_simple ds) M := by
  rintro _ M Q ⟨p, e, b, w, rfl, hE, hP, hb, q⟩
  have c5 : cst 5 = 4840 := by decide
  rw [st__law_simple]
  unfold t__law_simple
  walk_at "rd"
  have hw : (0 : Int) ≤ (if w = true then 1 else 0) ∧ (if w = true then 1 else 0 : Int) ≤ 1 := by cases w <;> decide
  refine draw hP (by lia) (by lia) (by lia) fun way M1 w0 w1 hP1 e1 => ?_
  obtain ⟨hs, ps, hM1, ⟨hs0, hs1, hs2⟩, ⟨ps0, ps1, ps2⟩, hep⟩ := env_same hE e1
  have hpl : 0 < ps.length := by cases ps with | nil => exact absurd rfl ps0 | cons _ _ => simp
  walk_at "rd"
  refine comp_penN 1 (fun _ _ d => ∃ x, d = .str x ∧ nm x) hP1 ?_ ?_ ?_
  · decide
  · intro k d M2 R F hd hP2 hsame hR
    have hk : k < 2 := by simpa using (List.getElem?_eq_some_iff.mp hd).1
    have hM2 : M2 e = some (.dct [(.inr "heads", .lst (hs.map hdD)), (.inr "pool", .lst (ps.map D.str))]) := by rw [hsame e (by rw [hM1]; simp) hep]; exact hM1
    walk_at "rd"
    refine get_pool hM2 ?_
    walk_at "rd"
    refine get_pool hM2 ?_
    walk_at "rd"
    refine draw hP2 (by lia) (by rw [List.length_map]; lia) (by rw [List.length_map]; lia) fun n1 M3 a1 b1 hP3 e3 => ?_
    obtain ⟨x, hx, hnx⟩ := ix_nm ps2 a1 (by simpa using b1)
    refine rd_ixL hx ?_
    exact hR _ _ ⟨x, rfl, hnx⟩ (pen_mono hP3 (by lia)) e3
  intro acc M2 hlen hall hP2 e2
  obtain ⟨ns, rfl, hns⟩ := exists_map (f := D.str) (P := nm) fun d hd => by
    obtain ⟨_, _, _, h⟩ := comp_all hlen hall d hd
    exact h
  obtain ⟨x, y, rfl⟩ : ∃ x y, ns = [x, y] := by
    have : ns.length = 2 := by simpa using hlen
    match ns, this with
    | [x, y], _ => exact ⟨x, y, rfl⟩
  have hx := hns x (by simp)
  have hy := hns y (by simp)
  refine rd_gLst rfl ?_
  have hE2 := env_same hE (e1.trans e2)
  walk_at "rd"
  refine ⟨p, e, b + 10, 9, 4, rfl, hE2, pen_mono hP2 (by simp), by lia, ⟨by lia, by lia⟩, ⟨by lia, by lia, by lia⟩, fun ex M3 h1 h2 h3 hP3 e3 => ?_⟩
  have hex := exOk_of h1 h2 h3
  have ee := e1.trans (e2.trans e3)
  have hE3 := env_same hE ee
  walk_at "rd"
  refine rd_dec (fun h3' => ?_) (fun h3' => ?_)
  · walk_at "rd"
    obtain ⟨h, hh, hm⟩ := three (l := ["let", "give", "on"]) w0 (by simpa using h3')
    refine rd_ixL hh ?_
    walk_at "rd"
    refine View.of (q h [.str x, eD ex] M3 (.inl ⟨by simpa using hm, x, _, rfl, hx, hex⟩) (pen_mono hP3 (by lia)) ee)
  walk_at "rd"
  refine rd_dec (fun h6 => ?_) (fun h6 => ?_)
  · walk_at "rd"
    obtain ⟨h, hh, hm⟩ := three (l := ["note", "close", "end"]) (n := way - 3) (by lia) (by show way - 3 < 3; lia)
    refine rd_ixL hh ?_
    walk_at "rd"
    refine View.of (q h [eD ex] M3 (.inr (.inl ⟨by simpa using hm, _, rfl, hex⟩)) (pen_mono hP3 (by lia)) ee)
  walk_at "rd"
  by_cases hw6 : way = 6
  · refine rd_iteTe (by simp [hw6]) ?_
    walk_at "rd"
    refine ⟨p, e, _, 3, 2, rfl, hE3, hP3, by lia, ⟨by lia, by lia⟩, ⟨by lia, by lia, by lia⟩, fun g M4 g1 g2 g3 hP4 e4 => ?_⟩
    walk_at "rd"
    exact View.of (q "ask" [.str x, .str y, eD g, eD ex] M4 (.inr (.inr (.inl ⟨rfl, x, y, _, _, rfl, hx, hy, exOk_of g1 (by lia) (by lia), hex⟩))) (pen_mono hP4 (by lia)) (ee.trans e4))
  refine rd_iteFe (by simp [hw6]) ?_
  walk_at "rd"
  by_cases hw7 : way = 7
  · refine rd_iteTe (by simp [hw7]) ?_
    walk_at "rd"
    refine ⟨p, e, _, 3, 2, rfl, hE3, hP3, by lia, ⟨by lia, by lia⟩, ⟨by lia, by lia, by lia⟩, fun g M4 g1 g2 g3 hP4 e4 => ?_⟩
    walk_at "rd"
    refine ⟨p, _, rfl, hP4, by lia, fun wd M5 hwd hP5 e5 => ?_⟩
    walk_at "rd"
    exact View.of (q "cast" [.str x, .str y, eD g, .str wd, eD ex] M5 (.inr (.inr (.inr (.inl ⟨rfl, x, y, _, wd, _, rfl, hx, hy, hwd, exOk_of g1 (by lia) (by lia), hex⟩)))) (pen_mono hP5 (by lia)) (ee.trans (e4.trans e5)))
  refine rd_iteFe (by simp [hw7]) ?_
  walk_at "rd"
  by_cases hw10 : way = 10
  · refine rd_iteTe (by simp [hw10]) ?_
    walk_at "rd"
    exact View.of (q "leave" [] M3 (.inr (.inr (.inr (.inr (.inl ⟨rfl, rfl⟩))))) (pen_mono hP3 (by lia)) ee)
  refine rd_iteFe (by simp [hw10]) ?_
  walk_at "rd"
  refine ⟨p, _, rfl, hP3, by lia, fun wd M4 hwd hP4 e4 => ?_⟩
  walk_at "rd"
  have hway : way = 8 ∨ way = 9 := by lia
  rcases hway with rfl | rfl
  · refine rd_ixL (d := dD (.mk (.leaf "fault" [.str wd, eD ex]) .nil)) rfl ?_
    exact View.of (q "fault" [.str wd, eD ex] M4 (.inr (.inr (.inr (.inr (.inr ⟨rfl, wd, _, rfl, hwd, hex⟩))))) (pen_mono hP4 (by lia)) (ee.trans e4))
  · refine rd_ixL (d := dD (.mk (.leaf "give" [.str x, eD ex]) .nil)) rfl ?_
    exact View.of (q "give" [.str x, eD ex] M4 (.inl ⟨.inr (.inl rfl), x, _, rfl, hx, hex⟩) (pen_mono hP4 (by lia)) (ee.trans e4))
end MK
open L3
namespace MK
open PySem L2 L3
def toL : Blk → List Deed
  | .nil => []
  | .cons d r => d :: toL r
def toLs : Bls → List Blk
  | .nil => []
  | .cons b r => b :: toLs r
def tB (b : Blk) : D := .tup (dB b)
theorem dB_eq : ∀ b : Blk, dB b = (toL b).map dD
  | .nil => rfl
  | .cons d r => by show dD d :: dB r = _; rw [dB_eq r]; rfl
theorem dTs_eq : ∀ bs : Bls, dTs bs = (toLs bs).map tB
  | .nil => rfl
  | .cons b r => by show D.tup (dB b) :: dTs r = _; rw [dTs_eq r]; rfl
theorem toLs_len : ∀ bs : Bls, (toLs bs).length = bsl bs
  | .nil => rfl
  | .cons b r => by show (toLs r).length + 1 = bsl r + 1; rw [toLs_len r]
theorem dTs_len (bs : Bls) : (dTs bs).length = bsl bs := by rw [dTs_eq, List.length_map, toLs_len]
theorem leaf_ne {h : Str} {r : List D} (hl : LeafOk h r) : (h == ("if" : Str)) = false ∧ (h == ("while" : Str)) = false ∧ (h == ("try" : Str)) = false := by
  rcases hl with ⟨h1 | h1 | h1, _⟩ | ⟨h1 | h1 | h1, _⟩ | ⟨h1, _⟩ | ⟨h1, _⟩ | ⟨h1, _⟩ | ⟨h1, _⟩ <;> subst h1 <;> exact ⟨by decide +kernel, by decide +kernel, by decide +kernel⟩
def third : D → D
  | .tup [_, _, t] => t
  | _ => .non
theorem cat_third : ∀ (cs : List (Str × Str)) (ts : List D), cs.length ≤ ts.length → (catD cs ts).map third = ts.take cs.length
  | [], ts, _ => by cases ts <;> rfl
  | (w, x) :: cs, [], h => by simp at h
  | (w, x) :: cs, t :: ts, h => by
    show third (.tup [.str w, .str x, t]) :: (catD cs ts).map third = _
    rw [cat_third cs ts (by simpa using h)]
    rfl
theorem cat_len : ∀ (cs : List (Str × Str)) (ts : List D), (catD cs ts).length ≤ cs.length
  | [], ts => by cases ts <;> simp [catD]
  | (w, x) :: cs, [] => by simp [catD]
  | (w, x) :: cs, t :: ts => by
    show (catD cs ts).length + 1 ≤ cs.length + 1
    have := cat_len cs ts
    lia
theorem cat_mem : ∀ (cs : List (Str × Str)) (ts : List D) (d : D), d ∈ catD cs ts → ∃ w x t, d = .tup [.str w, .str x, t]
  | [], ts, d, h => by cases ts <;> simp [catD] at h
  | (w, x) :: cs, [], d, h => by simp [catD] at h
  | (w, x) :: cs, t :: ts, d, h => by
    rcases List.mem_cons.mp h with rfl | h
    · exact ⟨w, x, t, rfl⟩
    · exact cat_mem cs ts d h
theorem len__law_inner : ∀ ds M Q, spInner ds M Q → ds.length = 1 := by rintro _ _ _ ⟨_, _, rfl, _⟩; rfl
theorem rd__law_inner : ∀ ds M Q, spInner ds M Q → t__law_inner { nx := fun _ M' => View Q .non M', rt := View Q } (start3 N__law_inner ds) M := by
  rintro _ M Q ⟨h, bs, rfl, hh, q⟩
  have hl := dTs_len bs
  rw [st__law_inner]
  unfold t__law_inner
  show _
  change (tSeq3 _ _) _ [some (headD h (dTs bs))] M
  generalize dTs bs = ts at q hl
  cases h with
  | leaf h r =>
    obtain ⟨h0, hlf⟩ := hh
    obtain ⟨n1, n2, n3⟩ := leaf_ne hlf
    have hts : ts = [] := List.length_eq_zero_iff.mp (hl.trans h0)
    subst hts
    walk_at "rd"
    refine rd_ixT (d := .str h) (atI_nat (j := 0) rfl) ?_
    walk_at "rd"
    refine rd_iteFe n1 ?_
    walk_at "rd"
    refine rd_ixT (d := .str h) (atI_nat (j := 0) rfl) ?_
    walk_at "rd"
    refine rd_iteFe n2 ?_
    walk_at "rd"
    refine rd_ixT (d := .str h) (atI_nat (j := 0) rfl) ?_
    walk_at "rd"
    refine rd_iteFe n3 ?_
    walk_at "rd"
    exact View.of q
  | ife e =>
    obtain ⟨h0, _⟩ := hh
    obtain ⟨t0, t1, rfl⟩ : ∃ t0 t1, ts = [t0, t1] := by
      match ts, hl.trans h0 with
      | [a, b], _ => exact ⟨a, b, rfl⟩
    walk_at "rd"
    refine rd_ixT (d := .str "if") rfl ?_
    walk_at "rd"
    refine rd_iteTe (by decide +kernel) ?_
    walk_at "rd"
    refine rd_ixT (d := t0) rfl ?_
    walk_at "rd"
    refine rd_ixT (d := t1) rfl ?_
    walk_at "rd"
    exact View.of q
  | whl e =>
    obtain ⟨h0, _⟩ := hh
    obtain ⟨t0, rfl⟩ : ∃ t0, ts = [t0] := by
      match ts, hl.trans h0 with
      | [a], _ => exact ⟨a, rfl⟩
    walk_at "rd"
    refine rd_ixT (d := .str "while") rfl ?_
    walk_at "rd"
    refine rd_iteFe (by decide +kernel) ?_
    walk_at "rd"
    refine rd_ixT (d := .str "while") rfl ?_
    walk_at "rd"
    refine rd_iteTe (by decide +kernel) ?_
    walk_at "rd"
    refine rd_ixT (d := t0) rfl ?_
    walk_at "rd"
    exact View.of q
  | tr cs =>
    obtain ⟨h0, hcs, _⟩ := hh
    obtain ⟨t0, rest, rfl⟩ : ∃ t0 rest, ts = t0 :: rest := by
      match ts, hl.trans h0 with
      | a :: r, _ => exact ⟨a, r, rfl⟩
    have hr : rest.length = cs.length + 1 := by simpa [h0] using hl
    walk_at "rd"
    refine rd_ixT (d := .str "try") rfl ?_
    walk_at "rd"
    refine rd_iteFe (by decide +kernel) ?_
    walk_at "rd"
    refine rd_ixT (d := .str "try") rfl ?_
    walk_at "rd"
    refine rd_iteFe (by decide +kernel) ?_
    walk_at "rd"
    refine rd_ixT (d := .str "try") rfl ?_
    walk_at "rd"
    refine rd_iteTe (by decide +kernel) ?_
    walk_at "rd"
    refine rd_ixT (d := t0) rfl ?_
    walk_at "rd"
    refine rd_ixT (d := .tup (catD cs rest)) rfl ?_
    walk_at "rd"
    have e1 : catD cs rest = (catD cs rest).map id := by simp
    rw [e1]
    have hcl := cat_len cs rest
    refine comp_map (catD cs rest) id third (by rw [sizeLine_eq]; lia) ?_ ?_
    · intro d hd M2 R F _ hR
      obtain ⟨w, x, t, rfl⟩ := cat_mem cs rest d hd
      walk_at "rd"
      exact rd_ixT (d := t) rfl hR
    rw [cat_third cs rest (by lia)]
    refine rd_addL (by simp; rw [sizeLine_eq]; lia) ?_
    walk_at "rd"
    have hlast : ∃ l, rest[cs.length]? = some l := ⟨rest[cs.length], by simp⟩
    obtain ⟨l, hl2⟩ := hlast
    have e2 : (t0 :: rest).getD (cs.length + 1) (.tup []) = l := by simp [List.getD, hl2]
    refine rd_ixT (d := l) (by rw [← e2]; rfl) ?_
    walk_at "rd"
    refine rd_addL (by simp; rw [sizeLine_eq]; lia) ?_
    have e3 : [t0] ++ rest.take cs.length ++ [l] = t0 :: rest := by
      have : rest.take cs.length ++ [l] = rest := by
        have h5 := List.take_succ (l := rest) (i := cs.length)
        rw [hl2] at h5
        rw [show rest.take cs.length ++ [l] = rest.take cs.length ++ (some l).toList from rfl, ← h5, List.take_of_length_le (by lia)]
      rw [List.append_assoc, this]; rfl
    rw [e3]
    exact View.of q
theorem cntB_sum : ∀ b : Blk, ((toL b).map fun d => ((cntD d : Nat) : Int)).sum = (cntB b : Nat)
  | .nil => rfl
  | .cons d r => by
    show (cntD d : Int) + ((toL r).map fun d => ((cntD d : Nat) : Int)).sum = ((cntD d + cntB r : Nat) : Int)
    rw [cntB_sum r]; lia
theorem cntBs_sum : ∀ bs : Bls, ((toLs bs).map fun b => ((cntB b : Nat) : Int)).sum = (cntBs bs : Nat)
  | .nil => rfl
  | .cons b r => by
    show (cntB b : Int) + ((toLs r).map fun b => ((cntB b : Nat) : Int)).sum = ((cntB b + cntBs r : Nat) : Int)
    rw [cntBs_sum r]; lia
theorem cntD_pos : ∀ d : Deed, 1 ≤ cntD d
  | .mk h bs => by show 1 ≤ 1 + cntBs bs; lia
theorem toL_len : ∀ b : Blk, (toL b).length ≤ cntB b
  | .nil => Nat.le_refl _
  | .cons d r => by
    show (toL r).length + 1 ≤ cntD d + cntB r
    have := toL_len r
    have := cntD_pos d
    lia
theorem mem_toL : ∀ (b : Blk) (d : Deed), d ∈ toL b → cntD d ≤ cntB b ∧ dpD d ≤ dpB b ∧ (okB b → okD d)
  | .cons x r, d, h => by
    rcases List.mem_cons.mp h with rfl | h
    · exact ⟨Nat.le_add_right _ _, Nat.le_max_left _ _, fun z => z.1⟩
    · obtain ⟨a, b, c⟩ := mem_toL r d h
      exact ⟨Nat.le_trans a (Nat.le_add_left _ _), Nat.le_trans b (Nat.le_max_right _ _), fun z => c z.2⟩
theorem mem_toLs : ∀ (bs : Bls) (b : Blk), b ∈ toLs bs → cntB b ≤ cntBs bs ∧ dpB b + 1 ≤ dpBs bs ∧ (okBs bs → okB b)
  | .cons x r, b, h => by
    rcases List.mem_cons.mp h with rfl | h
    · exact ⟨Nat.le_add_right _ _, by show dpB b + 1 ≤ max (1 + dpB b) (dpBs r); lia, fun z => z.1⟩
    · obtain ⟨a, c, d⟩ := mem_toLs r b h
      exact ⟨Nat.le_trans a (Nat.le_add_left _ _), by show dpB b + 1 ≤ max (1 + dpB x) (dpBs r); lia, fun z => d z.2⟩
theorem hOk_few {h : Head} {n : Nat} (hh : hOk h n) : n ≤ 5 := by
  cases h with
  | leaf _ _ => have := hh.1; lia
  | ife _ => have := hh.1; lia
  | whl _ => have := hh.1; lia
  | tr cs => have := hh.1; have := hh.2.1; lia
theorem len__law_count : ∀ n ds M Q, spCount n ds M Q → ds.length = 1 := by rintro _ _ _ _ ⟨_, rfl, _⟩; rfl
theorem zero__law_count : ∀ ds M Q, ¬ spCount 0 ds M Q := by
  rintro _ _ _ ⟨_, rfl, _, h, _⟩
  lia
theorem rd__law_count : ∀ n ds M Q, spCount (n + 1) ds M Q → t__law_count (spCount n) { nx := fun _ M' => View Q .non M', rt := View Q } (start3 N__law_count ds) M := by
  rintro lv _ M Q ⟨b, rfl, hok, hdp, hcnt, q⟩
  rw [st__law_count]
  unfold t__law_count
  walk_at "rd"
  rw [dB_eq]
  have hlen := toL_len b
  refine comp_map (toL b) dD (fun d => .int ((cntD d : Nat) : Int)) (by rw [sizeLine_eq]; lia) ?_ ?_
  · intro d hd M2 R F _ hR
    obtain ⟨h1, h2, h3⟩ := mem_toL b d hd
    cases d with
    | mk h bs =>
      have hokd := h3 hok
      walk_at "rd"
      refine ⟨h, bs, rfl, hokd.1, ?_⟩
      walk_at "rd"
      rw [dTs_eq]
      have hfew := hOk_few hokd.1
      have hbl := toLs_len bs
      refine comp_map (toLs bs) tB (fun b => .int ((cntB b : Nat) : Int)) (by rw [sizeLine_eq]; lia) ?_ ?_
      · intro c hc M3 R3 F3 _ hR3
        obtain ⟨c1, c2, c3⟩ := mem_toLs bs c hc
        have hc4 : cntBs bs ≤ cntD (.mk h bs) := by show cntBs bs ≤ 1 + cntBs bs; lia
        have hc5 : dpBs bs = dpD (.mk h bs) := rfl
        walk_at "rd"
        exact ⟨c, rfl, c3 hokd.2, by lia, by lia, hR3⟩
      walk_at "rd"
      have e1 : (toLs bs).map (fun b => D.int ((cntB b : Nat) : Int)) = ((toLs bs).map fun b => ((cntB b : Nat) : Int)).map D.int := by rw [List.map_map]; rfl
      rw [e1]
      refine rd_sumI (fun n hn => ?_) (by rw [List.length_map]; lia) ?_
      · obtain ⟨c, hc, rfl⟩ := List.mem_map.mp hn
        obtain ⟨c1, _, _⟩ := mem_toLs bs c hc
        have hc4 : cntBs bs ≤ cntD (.mk h bs) := by show cntBs bs ≤ 1 + cntBs bs; lia
        lia
      rw [cntBs_sum]
      walk_at "rd"
      have e2 : (1 : Int) + (cntBs bs : Nat) = ((cntD (.mk h bs) : Nat) : Int) := by show _ = ((1 + cntBs bs : Nat) : Int); lia
      rw [e2]
      exact hR
  walk_at "rd"
  have e1 : (toL b).map (fun d => D.int ((cntD d : Nat) : Int)) = ((toL b).map fun d => ((cntD d : Nat) : Int)).map D.int := by rw [List.map_map]; rfl
  rw [e1]
  refine rd_sumI (fun n hn => ?_) (by rw [List.length_map]; lia) ?_
  · obtain ⟨d, hd, rfl⟩ := List.mem_map.mp hn
    have := (mem_toL b d hd).1
    lia
  rw [cntB_sum]
  exact View.of q
end MK
open L3
namespace MK
open PySem L2 L3
def blkApp : Blk → Deed → Blk
  | .nil, x => .cons x .nil
  | .cons a r, x => .cons a (blkApp r x)
theorem dB_app : ∀ (k : Blk) (d : Deed), dB (blkApp k d) = dB k ++ [dD d]
  | .nil, d => rfl
  | .cons a r, d => by show dD a :: dB (blkApp r d) = _; rw [dB_app r d]; rfl
theorem cntB_app : ∀ (k : Blk) (d : Deed), cntB (blkApp k d) = cntB k + cntD d
  | .nil, d => by show cntD d + 0 = 0 + cntD d; lia
  | .cons a r, d => by show cntD a + cntB (blkApp r d) = cntD a + cntB r + cntD d; rw [cntB_app r d]; lia
theorem blen_app : ∀ (k : Blk) (d : Deed), blen (blkApp k d) = blen k + 1
  | .nil, d => rfl
  | .cons a r, d => by show blen (blkApp r d) + 1 = blen r + 1 + 1; rw [blen_app r d]
theorem dpB_app : ∀ (k : Blk) (d : Deed), dpB (blkApp k d) = max (dpB k) (dpD d)
  | .nil, d => by show max (dpD d) 0 = max 0 (dpD d); lia
  | .cons a r, d => by show max (dpD a) (dpB (blkApp r d)) = max (max (dpD a) (dpB r)) (dpD d); rw [dpB_app r d]; lia
theorem okB_app : ∀ (k : Blk) (d : Deed), okB k → okD d → okB (blkApp k d)
  | .nil, d, _, h => ⟨h, trivial⟩
  | .cons a r, d, h, hd => ⟨h.1, okB_app r d h.2 hd⟩
theorem dB_len : ∀ k : Blk, (dB k).length = blen k
  | .nil => rfl
  | .cons a r => by show (dB r).length + 1 = blen r + 1; rw [dB_len r]
def fromLs : List Blk → Bls
  | [] => .nil
  | b :: r => .cons b (fromLs r)
theorem dTs_from : ∀ l : List Blk, dTs (fromLs l) = l.map tB
  | [] => rfl
  | b :: r => by show D.tup (dB b) :: dTs (fromLs r) = _; rw [dTs_from r]; rfl
theorem bsl_from : ∀ l : List Blk, bsl (fromLs l) = l.length
  | [] => rfl
  | b :: r => by show bsl (fromLs r) + 1 = r.length + 1; rw [bsl_from r]
theorem cntBs_from : ∀ l : List Blk, cntBs (fromLs l) = (l.map cntB).sum
  | [] => rfl
  | b :: r => by show cntB b + cntBs (fromLs r) = _; rw [cntBs_from r]; rfl
theorem dpBs_from : ∀ (l : List Blk) (m : Nat), (∀ b ∈ l, dpB b + 1 ≤ m) → dpBs (fromLs l) ≤ m
  | [], m, _ => Nat.zero_le _
  | b :: r, m, h => by
    show max (1 + dpB b) (dpBs (fromLs r)) ≤ m
    have := h b List.mem_cons_self
    have := dpBs_from r m fun x hx => h x (List.mem_cons_of_mem _ hx)
    lia
theorem okBs_from : ∀ l : List Blk, (∀ b ∈ l, okB b) → okBs (fromLs l)
  | [], _ => trivial
  | b :: r, h => ⟨h b List.mem_cons_self, okBs_from r fun x hx => h x (List.mem_cons_of_mem _ hx)⟩
theorem cat_app : ∀ (cs : List (Str × Str)) (ts : List D) (w x : Str) (t : D), cs.length = ts.length → catD (cs ++ [(w, x)]) (ts ++ [t]) = catD cs ts ++ [.tup [.str w, .str x, t]]
  | [], [], w, x, t, _ => rfl
  | (a, b) :: cs, u :: ts, w, x, t, h => by
    show D.tup [.str a, .str b, u] :: catD (cs ++ [(w, x)]) (ts ++ [t]) = _
    rw [cat_app cs ts w x t (by simpa using h)]; rfl
theorem cat_more : ∀ (cs : List (Str × Str)) (ts us : List D), cs.length = ts.length → catD cs (ts ++ us) = catD cs ts
  | [], [], us, _ => by cases us <;> rfl
  | (a, b) :: cs, u :: ts, us, h => by
    show D.tup [.str a, .str b, u] :: catD cs (ts ++ us) = _
    rw [cat_more cs ts us (by simpa using h)]; rfl
theorem cat_len' : ∀ (cs : List (Str × Str)) (ts : List D), cs.length = ts.length → (catD cs ts).length = cs.length
  | [], [], _ => rfl
  | (a, b) :: cs, u :: ts, h => by
    show (catD cs ts).length + 1 = cs.length + 1
    rw [cat_len' cs ts (by simpa using h)]
theorem len__law_deed : ∀ n ds M Q, spDeed n ds M Q → ds.length = 5 := by rintro _ _ _ _ ⟨_, _, _, _, _, _, rfl, _⟩; rfl
theorem zero__law_deed : ∀ ds M Q, ¬ spDeed 0 ds M Q := by
  rintro _ _ _ ⟨_, _, _, _, _, _, rfl, _, _, _, ⟨_, _, h⟩, _⟩
  lia
theorem rd__law_deed : ∀ n ds M Q, spDeed (n + 1) ds M Q → t__law_deed (spTry n) (spDeed n) (spBlock n) { nx := fun _ M' => View Q .non M', rt := View Q } (start3 N__law_deed ds) M := by
  rintro lv _ M Q ⟨p, e, b, w, deep, left, rfl, hE, hP, hb, ⟨hd1, hd2, hd3⟩, ⟨hl1, hl2⟩, q⟩
  have c5 : cst 5 = 4840 := by decide
  have hKK : KK = 20000 := rfl
  rw [hKK] at hb q
  rw [st__law_deed]
  unfold t__law_deed
  walk_at "rd"
  refine draw hP (by lia) (by decide) (by decide) fun way M1 w0 w1 hP1 e1 => ?_
  have simple : ∀ (T : Ends3), T.rt = View Q → tRet3 (tCall3 spSimple (tCons3 (tVar3 0) (tCons3 (tVar3 1) (tCons3 (tVar3 3) tNil3)))) T [some (.ref p), some (.ref e), some (.int deep), some (.bl w), some (.int left), some (.int way), none, none, none, none] M1 := by
    intro T hT
    walk_at "rd"
    rw [hT]
    refine ⟨p, e, _, w, rfl, env_same hE e1, hP1, by lia, fun h r M2 hlf hP2 e2 => View.of (q _ M2 ⟨⟨rfl, hlf⟩, trivial⟩ ?_ (Nat.zero_le _) (pen_mono hP2 ?_) (e1.trans e2))⟩
    · show 1 + 0 ≤ left; lia
    · show b + 1 + 11000 ≤ b + 5 + 20000 * (1 + 0); lia
  walk_at "rd"
  refine rd_dec (fun _ => rd_iteT (simple _ rfl)) (fun hdeep => ?_)
  walk_at "rd"
  refine rd_dec (fun _ => rd_iteT (simple _ rfl)) (fun hleft => ?_)
  walk_at "rd"
  refine rd_dec (fun _ => simple _ rfl) (fun hway => ?_)
  walk_at "rd"
  by_cases h5 : way = 5
  · refine rd_iteTe (by simp [h5]) ?_
    walk_at "rd"
    refine ⟨p, e, _, w, deep, left, rfl, env_same hE e1, hP1, by rw [hKK]; lia, ⟨by lia, by lia, by lia⟩, ⟨by lia, by lia⟩, fun d M2 h1 h2 h3 hP2 e2 => View.of (q d M2 h1 h2 h3 (pen_mono hP2 ?_) (e1.trans e2))⟩
    rw [hKK]; lia
  refine rd_iteFe (by simp [h5]) ?_
  walk_at "rd"
  refine ⟨p, e, _, 5, 3, rfl, env_same hE e1, hP1, by lia, ⟨by lia, by lia⟩, ⟨by lia, by lia, by lia⟩, fun ex M2 x1 x2 x3 hP2 e2 => ?_⟩
  have hex : exOk (eD ex) := exOk_of x1 (by lia) (by lia)
  walk_at "rd"
  refine draw hP2 (by lia) (by lia) (by lia) fun one M3 o0 o1 hP3 e3 => ?_
  obtain ⟨on, rfl⟩ : ∃ on : Nat, one = (on : Int) := ⟨one.toNat, by lia⟩
  have e13 := e1.trans (e2.trans e3)
  have nxt : ∀ w' : Bool, spBlock lv [.ref p, .ref e, .int (deep + 1), .bl w', .int (1 + on)] M3 fun d1 M1' => tSeq3 (tIfS3 (tTest3 (tOp3 rEq3 (tVar3 5) (tC3 (.int 4)))) (tRet3 (tTup3 (tCons3 (tC3 (.str "while")) (tCons3 (tVar3 6) (tCons3 (tVar3 8) tNil3))))) tNext3)
    (tSeq3 (tSet3 9 (tTup3 tNil3))
    (tSeq3 (tIfS3 (tTest3 (tOp3 rEq3 (tCall3 spDraw (tCons3 (tVar3 0) (tCons3 (tC3 (.int 2)) tNil3))) (tC3 (.int 0)))) (tSet3 9 (tCall3 (spBlock lv) (tCons3 (tVar3 0) (tCons3 (tVar3 1) (tCons3 (tOp3 rAdd3 (tVar3 2) (tC3 (.int 1))) (tCons3 (tVar3 3) (tCons3 (tOp3 rSub3 (tOp3 rSub3 (tVar3 4) (tC3 (.int 1))) (tVar3 7)) tNil3))))))) tNext3)
    (tRet3 (tTup3 (tCons3 (tC3 (.str "if")) (tCons3 (tVar3 6) (tCons3 (tVar3 8) (tCons3 (tVar3 9) tNil3)))))))) { nx := fun _ M' => View Q .non M', rt := View Q }
      [some (.ref p), some (.ref e), some (.int deep), some (.bl w), some (.int left), some (.int way), some (eD ex), some (.int (1 + on)), some d1, none] M1' := by
    intro w'
    refine ⟨p, e, _, w', deep + 1, 1 + on, by rw [show ((deep + 1 : Nat) : Int) = (deep : Int) + 1 by lia, show ((1 + on : Nat) : Int) = 1 + (on : Int) by lia], env_same hE e13, hP3, by rw [hKK]; lia, ⟨by lia, by lia, by lia⟩, ⟨by lia, by lia⟩, fun k M4 k1 k2 k3 k4 hP4 e4 => ?_⟩
    rw [hKK] at hP4
    walk_at "rd"
    by_cases h4 : way = 4
    · refine rd_iteTe (by simp [h4]) ?_
      walk_at "rd"
      refine View.of (q (.mk (.whl (eD ex)) (.cons k .nil)) M4 ⟨⟨rfl, hex⟩, k1, trivial⟩ ?_ ?_ (pen_mono hP4 ?_) (e13.trans e4))
      · show 1 + (cntB k + 0) ≤ left; lia
      · show max (1 + dpB k) 0 ≤ 5 - deep; lia
      · show _ ≤ b + 5 + 20000 * (1 + (cntB k + 0)); lia
    refine rd_iteFe (by simp [h4]) ?_
    walk_at "rd"
    refine draw hP4 (by lia) (by decide) (by decide) fun el M5 el0 el1 hP5 e5 => ?_
    walk_at "rd"
    refine rd_ite2 ?_ ?_
    · walk_at "rd"
      refine ⟨p, e, _, w, deep + 1, left - 1 - (1 + on), by rw [show ((deep + 1 : Nat) : Int) = (deep : Int) + 1 by lia, show ((left - 1 - (1 + on) : Nat) : Int) = (left : Int) - 1 - (1 + (on : Int)) by lia], env_same hE (e13.trans (e4.trans e5)), hP5, by rw [hKK]; lia, ⟨by lia, by lia, by lia⟩, ⟨by lia, by lia⟩, fun k' M6 j1 j2 j3 j4 hP6 e6 => ?_⟩
      rw [hKK] at hP6
      walk_at "rd"
      refine View.of (q (.mk (.ife (eD ex)) (.cons k (.cons k' .nil))) M6 ⟨⟨rfl, hex⟩, k1, j1, trivial⟩ ?_ ?_ (pen_mono hP6 ?_) (e13.trans (e4.trans (e5.trans e6))))
      · show 1 + (cntB k + (cntB k' + 0)) ≤ left; lia
      · show max (1 + dpB k) (max (1 + dpB k') 0) ≤ 5 - deep; lia
      · show _ ≤ b + 5 + 20000 * (1 + (cntB k + (cntB k' + 0))); lia
    · walk_at "rd"
      refine View.of (q (.mk (.ife (eD ex)) (.cons k (.cons .nil .nil))) M5 ⟨⟨rfl, hex⟩, k1, trivial, trivial⟩ ?_ ?_ (pen_mono hP5 ?_) (e13.trans (e4.trans e5)))
      · show 1 + (cntB k + (0 + 0)) ≤ left; lia
      · show max (1 + dpB k) (max (1 + 0) 0) ≤ 5 - deep; lia
      · show _ ≤ b + 5 + 20000 * (1 + (cntB k + (0 + 0))); lia
  walk_at "rd"
  cases w with
  | true =>
    refine rd_iteT ?_
    walk_at "rd"
    exact nxt true
  | false =>
    refine rd_iteF ?_
    walk_at "rd"
    exact nxt _
end MK
open L3
namespace MK
open PySem L2 L3
theorem len__law_block : ∀ n ds M Q, spBlock n ds M Q → ds.length = 5 := by rintro _ _ _ _ ⟨_, _, _, _, _, _, rfl, _⟩; rfl
theorem zero__law_block : ∀ ds M Q, ¬ spBlock 0 ds M Q := by
  rintro _ _ _ ⟨_, _, _, _, _, _, rfl, _, _, _, ⟨_, _, h⟩, _⟩
  lia
theorem rd__law_block : ∀ n ds M Q, spBlock (n + 1) ds M Q → t__law_block (spTry n) (spDeed n) (spBlock n) { nx := fun _ M' => View Q .non M', rt := View Q } (start3 N__law_block ds) M := by
  rintro lv _ M Q ⟨p, e, b, w, deep, left, rfl, hE, hP, hb, ⟨hd1, hd2, hd3⟩, ⟨hl1, hl2⟩, q⟩
  have hKK : KK = 20000 := rfl
  rw [hKK] at hb q
  rw [st__law_block]
  unfold t__law_block
  walk_at "rd"
  intro f hf
  have hpf := pen_ne hP hf
  walk_at "rd"
  refine draw (pen_put hP hpf) (by lia) (by decide) (by decide) fun ms M1 m0 m1 hP1 e1 => ?_
  have hf1 : M1 f = some (.lst []) := same_put e1 (Ne.symm hpf)
  have hs1 : ∀ a, a ≠ p → a ≠ f → M1 a = M a := fun a h1 h2 => by rw [e1 a h1, mput_ne h2]
  walk_at "rd"
  refine rd_while ⟨fun mm σ M2 => ∃ (k : Blk) (lf : Nat) (s7 : Option D), mm + blen k = 4 ∧ ((blen k : Nat) : Int) ≤ 1 + ms ∧ σ = [some (.ref p), some (.ref e), some (.int deep), some (.bl w), some (.int lf), some (.ref f), some (.int (1 + ms)), s7] ∧
    okB k ∧ lf + cntB k = left ∧ dpB k ≤ 5 - deep ∧ Pen M2 p (b + 2 + 5 * blen k + 20000 * cntB k) ∧ M2 f = some (.lst (dB k)) ∧ ∀ a, a ≠ p → a ≠ f → M2 a = M a,
    ⟨4, .nil, left, _, rfl, by show ((0 : Nat) : Int) ≤ _; lia, rfl, trivial, by show left + 0 = left; lia, Nat.zero_le _, pen_mono hP1 (by lia), hf1, hs1⟩, ?_⟩
  rintro mm σ M2 ⟨k, lf, s7, hmm, hms, rfl, hok, hlf, hdp, hP2, hf2, hs2⟩
  have fin : k ≠ .nil → tRet3 (tCB3 rTuple3 (tCons3 (tVar3 5) tNil3)) { nx := fun _ M' => View Q .non M', rt := View Q } [some (.ref p), some (.ref e), some (.int deep), some (.bl w), some (.int lf), some (.ref f), some (.int (1 + ms)), s7] M2 := by
    intro hk
    walk_at "rd"
    refine rd_tupR hf2 ?_
    exact View.drop (a := f) (q k _ hok hk (by lia) hdp (pen_del (pen_mono hP2 (by lia)) hpf) (same_del hf hs2))
  walk_at "rd"
  refine rd_dec (fun hpos => ?_) (fun hneg => ?_)
  · walk_at "rd"
    refine rd_lenR hf2 ?_
    rw [dB_len]
    walk_at "rd"
    refine rd_dec (fun hlt => ?_) (fun hge => ?_)
    · walk_at "rd"
      have hE2 : EnvOk M2 e p := by
        obtain ⟨hs', ps', hm', r1, r2, r3⟩ := hE
        have hef : e ≠ f := by rintro rfl; rw [hf] at hm'; cases hm'
        exact ⟨hs', ps', by rw [hs2 e r3 hef]; exact hm', r1, r2, r3⟩
      refine ⟨p, e, _, w, deep, lf, rfl, hE2, hP2, by rw [hKK]; lia, ⟨by lia, by lia, by lia⟩, ⟨by lia, by lia⟩, fun d M3 d1 d2 d3 hP3 e3 => ?_⟩
      rw [hKK] at hP3
      have hf3 : M3 f = some (.lst (dB k)) := by rw [e3 f (Ne.symm hpf)]; exact hf2
      walk_at "rd"
      refine ⟨.inl ⟨rfl, _, hf3⟩, ?_⟩
      walk_at "rd"
      refine rd_append hf3 (by rw [dB_len, sizeLine_eq]; lia) ?_
      walk_at "rd"
      refine ⟨.cons d .nil, rfl, ⟨d1, trivial⟩, ?_, ?_, ?_⟩
      · show max (dpD d) 0 + 1 ≤ 8; lia
      · show cntD d + 0 ≤ 1000; lia
      walk_at "rd"
      refine ⟨mm - 1, by lia, blkApp k d, lf - cntD d, _, by rw [blen_app]; lia, by rw [blen_app]; lia, by rw [show ((lf - cntD d : Nat) : Int) = (lf : Int) - ((cntB (.cons d .nil) : Nat) : Int) by show _ = (lf : Int) - ((cntD d + 0 : Nat) : Int); lia]; rfl, okB_app k d hok d1, by rw [cntB_app]; lia, by rw [dpB_app]; lia, pen_put (pen_mono hP3 (by rw [blen_app, cntB_app]; lia)) hpf, by rw [mput_same, dB_app], fun a h1 h2 => by rw [mput_ne h2, e3 a h1]; exact hs2 a h1 h2⟩
    · exact fin fun hk => by
        subst hk
        have : blen Blk.nil = 0 := rfl
        lia
  · refine rd_iteF (fin fun hk => ?_)
    subst hk
    have : cntB Blk.nil = 0 := rfl
    lia
theorem len__law_try : ∀ n ds M Q, spTry n ds M Q → ds.length = 5 := by rintro _ _ _ _ ⟨_, _, _, _, _, _, rfl, _⟩; rfl
theorem zero__law_try : ∀ ds M Q, ¬ spTry 0 ds M Q := by
  rintro _ _ _ ⟨_, _, _, _, _, _, rfl, _, _, _, ⟨_, _, h⟩, _⟩
  lia
theorem any_nm : nm "any" := nm_of _ (by decide +kernel) (by decide +kernel)
theorem rd__law_try : ∀ n ds M Q, spTry (n + 1) ds M Q → t__law_try (spTry n) (spDeed n) (spBlock n) { nx := fun _ M' => View Q .non M', rt := View Q } (start3 N__law_try ds) M := by
  rintro lv _ M Q ⟨p, e, b, w, deep, left, rfl, hE, hP, hb, ⟨hd1, hd2, hd3⟩, ⟨hl1, hl2⟩, q⟩
  have hKK : KK = 20000 := rfl
  rw [hKK] at hb q
  rw [st__law_try]
  unfold t__law_try
  walk_at "rd"
  refine draw hP (by lia) (by lia) (by lia) fun one M1 o0 o1 hP1 e1 => ?_
  obtain ⟨on, rfl⟩ : ∃ on : Nat, one = (on : Int) := ⟨one.toNat, by lia⟩
  walk_at "rd"
  refine ⟨p, e, _, w, deep + 1, 1 + on, by rw [show ((deep + 1 : Nat) : Int) = (deep : Int) + 1 by lia, show ((1 + on : Nat) : Int) = 1 + (on : Int) by lia], env_same hE e1, hP1, by rw [hKK]; lia, ⟨by lia, by lia, by lia⟩, ⟨by lia, by lia⟩, fun k M2 k1 k2 k3 k4 hP2 e2 => ?_⟩
  rw [hKK] at hP2
  walk_at "rd"
  refine draw hP2 (by lia) (by decide) (by decide) fun mn M3 mn0 mn1 hP3 e3 => ?_
  have e13 := e1.trans (e2.trans e3)
  walk_at "rd"
  obtain ⟨many, hmany, hm1, hm2⟩ : ∃ many : Nat, (if (left : Int) - 1 - (1 + (on : Int)) - 1 < mn then (left : Int) - 1 - (1 + (on : Int)) - 1 else mn) = (many : Int) ∧ many ≤ 3 ∧ many + 1 ≤ left - 1 - (1 + on) := by
    by_cases h : (left : Int) - 1 - (1 + (on : Int)) - 1 < mn
    · rw [if_pos h]
      exact ⟨left - 1 - (1 + on) - 1, by lia, by lia, by lia⟩
    · rw [if_neg h]
      exact ⟨mn.toNat, by lia, by lia, by lia⟩
  rw [hmany]
  intro f hf
  have hpf := pen_ne hP3 hf
  walk_at "rd"
  have hE3 := env_same hE e13
  refine ⟨by lia, by lia, fun j σ M4 => ∃ (cs : List (Str × Str)) (ks : List Blk) (rest : Nat) (s10 s11 s12 s13 : Option D), σ = [some (.ref p), some (.ref e), some (.int deep), some (.bl w), some (.int left), some (.int (1 + on)), some (.tup (dB k)), some (.int rest), some (.int many), some (.ref f), s10, s11, s12, s13, none] ∧
      cs.length = j ∧ ks.length = j ∧ (∀ c ∈ cs, nm c.1 ∧ nm c.2) ∧ (∀ x ∈ ks, okB x ∧ dpB x + 1 ≤ 5 - deep) ∧ cntB k + (ks.map cntB).sum + rest + 1 ≤ left ∧ many + 1 ≤ rest + j ∧ Pen M4 p (b + 100 + 20000 * cntB k + 100 * j + 20000 * (ks.map cntB).sum) ∧ M4 f = some (.lst (catD cs (ks.map tB))) ∧ ∀ a, a ≠ p → a ≠ f → M4 a = M3 a,
      ⟨[], [], left - 1 - (1 + on), _, _, _, _, by rw [show ((left - 1 - (1 + on) : Nat) : Int) = (left : Int) - 1 - (1 + (on : Int)) by lia]; rfl, rfl, rfl, (fun _ h => by cases h), (fun _ h => by cases h), by show cntB k + 0 + _ + 1 ≤ left; lia, by lia, pen_put (pen_mono hP3 (by show _ ≤ b + 100 + 20000 * cntB k + 100 * 0 + 20000 * 0; lia)) hpf, mput_same, fun a _ ha => mput_ne ha⟩, ?_, ?_⟩
  · rintro j d σ M4 hd' ⟨cs, ks, rest, s10, s11, s12, s13, rfl, hcl, hkl, hcs, hks, hcnt, hrest, hP4, hf4, hs4⟩
    have hj : j < many := by simpa using (List.getElem?_eq_some_iff.mp hd').1
    have hdk : d = .int (j : Nat) := by
      rw [List.getElem?_map, List.getElem?_range (by simpa using hj)] at hd'
      exact (Option.some.inj hd').symm
    subst hdk
    have hE4 : ∀ M5, Same3 p M4 M5 → EnvOk M5 e p := fun M5 h5 => by
      obtain ⟨hs', ps', hm', r1, r2, r3⟩ := hE3
      have hef : e ≠ f := by rintro rfl; rw [hf] at hm'; cases hm'
      exact ⟨hs', ps', by rw [h5 e r3, hs4 e r3 hef]; exact hm', r1, r2, r3⟩
    walk_at "rd"
    refine draw hP4 (by lia) (by lia) (by lia) fun own M5 ow0 ow1 hP5 e5 => ?_
    obtain ⟨ow, rfl⟩ : ∃ ow : Nat, own = (ow : Int) := ⟨own.toNat, by lia⟩
    walk_at "rd"
    refine ⟨p, _, rfl, hP5, by lia, fun wd M6 hwd hP6 e6 => ?_⟩
    walk_at "rd"
    refine draw hP6 (by lia) (by decide) (by decide) fun an M7 an0 an1 hP7 e7 => ?_
    obtain ⟨cw, hcw, hncw⟩ := ix_nm (l := [wd, "any"]) (n := an) (by
      intro z hz
      simp only [List.mem_cons, List.not_mem_nil, or_false] at hz
      rcases hz with rfl | rfl
      · exact hwd
      · exact any_nm) an0 (by simpa using an1)
    refine rd_ixL hcw ?_
    walk_at "rd"
    have e47 := e5.trans (e6.trans e7)
    obtain ⟨hs', ps', hM7, r1, ⟨ps0, ps1, ps2⟩, hep⟩ := hE4 M7 e47
    have hpl : 0 < ps'.length := by cases ps' with | nil => exact absurd rfl ps0 | cons _ _ => simp
    refine get_pool hM7 ?_
    walk_at "rd"
    refine get_pool hM7 ?_
    walk_at "rd"
    refine draw hP7 (by lia) (by rw [List.length_map]; lia) (by rw [List.length_map]; lia) fun xi M8 x0 x1 hP8 e8 => ?_
    obtain ⟨x, hx, hnx⟩ := ix_nm ps2 x0 (by simpa using x1)
    refine rd_ixL hx ?_
    walk_at "rd"
    have e48 := e47.trans e8
    have hf8 : M8 f = some (.lst (catD cs (ks.map tB))) := by rw [e48 f (Ne.symm hpf)]; exact hf4
    refine ⟨.inl ⟨rfl, _, hf8⟩, ?_⟩
    walk_at "rd"
    refine ⟨p, e, _, w, deep + 1, 1 + ow, by rw [show ((deep + 1 : Nat) : Int) = (deep : Int) + 1 by lia, show ((1 + ow : Nat) : Int) = 1 + (ow : Int) by lia], hE4 M8 e48, hP8, by rw [hKK]; lia, ⟨by lia, by lia, by lia⟩, ⟨by lia, by lia⟩, fun k' M9 j1 j2 j3 j4 hP9 e9 => ?_⟩
    rw [hKK] at hP9
    walk_at "rd"
    have hf9 : M9 f = some (.lst (catD cs (ks.map tB))) := by rw [e9 f (Ne.symm hpf)]; exact hf8
    have hcat := cat_len' cs (ks.map tB) (by rw [List.length_map]; lia)
    refine rd_append hf9 (by rw [hcat, sizeLine_eq]; lia) ?_
    walk_at "rd"
    have hsum : ((ks ++ [k']).map cntB).sum = (ks.map cntB).sum + cntB k' := by simp
    refine ⟨cs ++ [(cw, x)], ks ++ [k'], rest - (1 + ow), _, _, _, _, by rw [show ((rest - (1 + ow) : Nat) : Int) = (rest : Int) - (1 + (ow : Int)) by lia]; rfl, by simp [hcl], by simp [hkl], fun c hc => ?_, fun c hc => ?_, by rw [hsum]; lia, by lia, pen_put (pen_mono hP9 (by rw [hsum]; lia)) hpf, ?_, fun a h1 h2 => by rw [mput_ne h2, e9 a h1, e48 a h1]; exact hs4 a h1 h2⟩
    · rcases List.mem_append.mp hc with z | z
      · exact hcs c z
      · cases List.mem_singleton.mp z; exact ⟨hncw, hnx⟩
    · rcases List.mem_append.mp hc with z | z
      · exact hks c z
      · cases List.mem_singleton.mp z; exact ⟨j1, by lia⟩
    · rw [mput_same, List.map_append, List.map_singleton, cat_app cs (ks.map tB) cw x (tB k') (by rw [List.length_map]; lia)]; rfl
  · rintro σ M4 ⟨cs, ks, rest, s10, s11, s12, s13, rfl, hcl, hkl, hcs, hks, hcnt, hrest, hP4, hf4, hs4⟩
    have hcl2 : cs.length = many := by simpa using hcl
    have hkl2 : ks.length = many := by simpa using hkl
    have hP4' : Pen M4 p (b + 400 + 20000 * cntB k + 20000 * (ks.map cntB).sum) := pen_mono hP4 (by rw [List.length_map, List.length_range]; lia)
    have hrest2 : 1 ≤ rest := by
      have : (List.map (fun k : Nat => D.int ↑k) (List.range (Int.toNat ↑many))).length = many := by simp
      lia
    have hE4 : ∀ M5, Same3 p M4 M5 → EnvOk M5 e p := fun M5 h5 => by
      obtain ⟨hs', ps', hm', r1, r2, r3⟩ := hE3
      have hef : e ≠ f := by rintro rfl; rw [hf] at hm'; cases hm'
      exact ⟨hs', ps', by rw [h5 e r3, hs4 e r3 hef]; exact hm', r1, r2, r3⟩
    have fin : ∀ (l : Blk) (M5 : Mem), okB l → dpB l + 1 ≤ 5 - deep → cntB l ≤ rest → Pen M5 p (b + 500 + 20000 * cntB k + 20000 * (ks.map cntB).sum + 20000 * cntB l) → Same3 p M4 M5 →
        tRet3 (tTup3 (tCons3 (tC3 (.str "try")) (tCons3 (tVar3 6) (tCons3 (tCB3 rTuple3 (tCons3 (tVar3 9) tNil3)) (tCons3 (tVar3 14) tNil3))))) { nx := fun _ M' => View Q .non M', rt := View Q }
          [some (.ref p), some (.ref e), some (.int deep), some (.bl w), some (.int left), some (.int (1 + on)), some (.tup (dB k)), some (.int rest), some (.int many), some (.ref f), s10, s11, s12, s13, some (.tup (dB l))] M5 := by
      intro l M5 hl1 hl2 hl3 hP5 e5
      have hf5 : M5 f = some (.lst (catD cs (ks.map tB))) := by rw [e5 f (Ne.symm hpf)]; exact hf4
      walk_at "rd"
      refine rd_tupR hf5 ?_
      walk_at "rd"
      have hD : dD (.mk (.tr cs) (fromLs (k :: (ks ++ [l])))) = .tup [.str "try", .tup (dB k), .tup (catD cs (ks.map tB)), .tup (dB l)] := by
        show headD (.tr cs) (dTs (fromLs (k :: (ks ++ [l])))) = _
        rw [dTs_from]
        show D.tup [.str "try", tB k, .tup (catD cs ((ks ++ [l]).map tB)), ((k :: (ks ++ [l])).map tB).getD (cs.length + 1) (.tup [])] = _
        rw [List.map_append, cat_more cs (ks.map tB) _ (by rw [List.length_map]; lia)]
        have hg : ((k :: (ks ++ [l])).map tB).getD (cs.length + 1) (.tup []) = tB l := by
          rw [hcl2, ← hkl2]
          simp [List.getD]
        rw [hg]; rfl
      rw [← hD]
      have hc : cntD (.mk (.tr cs) (fromLs (k :: (ks ++ [l])))) = 1 + (cntB k + ((ks.map cntB).sum + cntB l)) := by
        show 1 + cntBs (fromLs (k :: (ks ++ [l]))) = _
        rw [cntBs_from]; simp
      refine View.drop (a := f) (q _ _ ⟨⟨?_, by lia, hcs⟩, okBs_from _ fun x hx => ?_⟩ (by rw [hc]; lia) ?_ (pen_del (pen_mono hP5 (by rw [hc]; lia)) hpf) ?_)
      · rw [bsl_from]; simp; lia
      · rcases List.mem_cons.mp hx with rfl | hx
        · exact k1
        · rcases List.mem_append.mp hx with z | z
          · exact (hks x z).1
          · cases List.mem_singleton.mp z; exact hl1
      · refine dpBs_from _ _ fun x hx => ?_
        rcases List.mem_cons.mp hx with rfl | hx
        · lia
        · rcases List.mem_append.mp hx with z | z
          · exact (hks x z).2
          · cases List.mem_singleton.mp z; exact hl2
      · exact e13.trans (same_del hf fun a h1 h2 => by rw [e5 a h1]; exact hs4 a h1 h2)
    have lasts : ∀ M5, Pen M5 p (b + 420 + 20000 * cntB k + 20000 * (ks.map cntB).sum) → Same3 p M4 M5 →
        tSet3 14 (tCall3 (spBlock lv) (tCons3 (tVar3 0) (tCons3 (tVar3 1) (tCons3 (tOp3 rAdd3 (tVar3 2) (tC3 (.int 1))) (tCons3 (tVar3 3) (tCons3 (tOp3 rAdd3 (tC3 (.int 1)) (tCall3 spDraw (tCons3 (tVar3 0) (tCons3 (tVar3 7) tNil3)))) tNil3))))))
          { nx := tRet3 (tTup3 (tCons3 (tC3 (.str "try")) (tCons3 (tVar3 6) (tCons3 (tCB3 rTuple3 (tCons3 (tVar3 9) tNil3)) (tCons3 (tVar3 14) tNil3))))) { nx := fun _ M' => View Q .non M', rt := View Q }, rt := View Q }
          [some (.ref p), some (.ref e), some (.int deep), some (.bl w), some (.int left), some (.int (1 + on)), some (.tup (dB k)), some (.int rest), some (.int many), some (.ref f), s10, s11, s12, s13, some (.tup [])] M5 := by
      intro M5 hP5 e5
      walk_at "rd"
      refine draw hP5 (by lia) (by lia) (by lia) fun la M6 la0 la1 hP6 e6 => ?_
      obtain ⟨ln, rfl⟩ : ∃ ln : Nat, la = (ln : Int) := ⟨la.toNat, by lia⟩
      walk_at "rd"
      refine ⟨p, e, _, w, deep + 1, 1 + ln, by rw [show ((deep + 1 : Nat) : Int) = (deep : Int) + 1 by lia, show ((1 + ln : Nat) : Int) = 1 + (ln : Int) by lia], hE4 M6 (e5.trans e6), hP6, by rw [hKK]; lia, ⟨by lia, by lia, by lia⟩, ⟨by lia, by lia⟩, fun l M7 j1 j2 j3 j4 hP7 e7 => ?_⟩
      rw [hKK] at hP7
      exact fin l M7 j1 (by lia) (by lia) (pen_mono hP7 (by lia)) (e5.trans (e6.trans e7))
    walk_at "rd"
    by_cases hm0 : many = 0
    · refine rd_iteTe (by simp [hm0]) (rd_iteT ?_)
      exact lasts M4 (pen_mono hP4' (by lia)) .refl
    refine rd_iteFe (by simp; lia) ?_
    walk_at "rd"
    refine draw hP4' (by lia) (by decide) (by decide) fun ch M5 ch0 ch1 hP5 e5 => ?_
    walk_at "rd"
    refine rd_ite2 (lasts M5 (pen_mono hP5 (by lia)) e5) ?_
    exact fin .nil M5 trivial (by show 0 + 1 ≤ 5 - deep; lia) (Nat.zero_le _) (pen_mono hP5 (by show _ ≤ _ + 20000 * 0; lia)) e5
end MK
open L3
namespace MK
open PySem L2 L3
theorem View.only {Q : DK} {d : D} {p : Addr} {M M1 : Mem} (h : ∀ a, a ≠ p → M a ≠ none → M1 a = M a) (q : Q d (fun a => if a = p then M1 p else M a)) : View Q d M1 := View.sub (fun a o e => by
  by_cases ha : a = p
  · subst ha; rw [if_pos rfl] at e; exact e
  · rw [if_neg ha] at e; rw [h a ha (by rw [e]; simp)]; exact e) q
theorem merge_env (x y : D) : mergeD [] [(.inr "heads", x), (.inr "pool", y)] = ([(.inr "heads", x), (.inr "pool", y)] : List (Key × D)) := by
  simp [mergeD, putD, inr_ne k_hp]
theorem len__law_book : ∀ ds M Q, spBook ds M Q → ds.length = 3 := by rintro _ _ _ ⟨_, _, _, _, rfl, _⟩; rfl
theorem rd__law_book : ∀ ds M Q, spBook ds M Q → t__law_book { nx := fun _ M' => View Q .non M', rt := View Q } (start3 N__law_book ds) M := by
  rintro _ M Q ⟨p, b, rules, deeds, rfl, hP, hb, ⟨hr1, hr2⟩, ⟨hd1, hd2⟩, q⟩
  have hKK : KK = 20000 := rfl
  rw [st__law_book]
  unfold t__law_book
  walk_at "rd"
  refine draw hP (by lia) (by lia) (by lia) fun rn M1 n0 n1 hP1 e1 => ?_
  walk_at "rd"
  refine ⟨p, _, 1 + rn, rfl, hP1, by lia, by lia, by lia, fun xs M2 hxl hxs hP2 e2 => ?_⟩
  walk_at "rd"
  refine comp_penN 201 (fun _ d h => ∃ x ps, d = D.str x ∧ h = hdD (x, ps) ∧ ps.length ≤ 3 ∧ ∀ y ∈ ps, nm y) hP2 ?_ ?_ ?_
  · rw [List.length_map, sizeLine_eq]; lia
  · intro k d M3 R F hd hP3 hsame hR
    have hk : k < xs.length := by simpa using (List.getElem?_eq_some_iff.mp hd).1
    obtain ⟨x, hx, rfl⟩ := List.mem_map.mp (List.mem_of_getElem? hd)
    walk_at "rd"
    refine draw hP3 (by lia) (by decide) (by decide) fun pn M4 p0 p1 hP4 e4 => ?_
    walk_at "rd"
    refine ⟨p, _, pn, rfl, hP4, by lia, by lia, by lia, fun ps M5 hpl hps hP5 e5 => ?_⟩
    walk_at "rd"
    exact hR _ _ ⟨x, ps, rfl, rfl, by lia, hps⟩ (pen_mono hP5 (by lia)) (e4.trans e5)
  intro acc M3 hlen hall hP3 e3
  obtain ⟨hs, rfl, hhs⟩ := exists_map (f := hdD) (P := fun h => nm h.1 ∧ h.2.length ≤ 3 ∧ ∀ y ∈ h.2, nm y) fun e he => by
    obtain ⟨k, d, hkd, x, ps, rfl, rfl, h1, h2⟩ := comp_all hlen hall e he
    obtain ⟨x', hx', ex⟩ := List.mem_map.mp (List.mem_of_getElem? hkd)
    cases ex
    exact ⟨(x, ps), rfl, hxs x hx', h1, h2⟩
  simp only [List.length_map] at hlen hP3
  have hsl : hs ≠ [] ∧ hs.length ≤ 8 := by
    constructor
    · intro h; rw [h] at hlen; simp at hlen; lia
    · lia
  have hP3' : Pen M3 p (b + 3000) := pen_mono hP3 (by lia)
  have e03 := e1.trans (e2.trans e3)
  walk_at "rd"
  intro f hf
  have hpf := pen_ne hP3 hf
  walk_at "rd"
  refine ⟨fun k σ M4 => ∃ (rs : List Rl) (s6 s7 s8 s9 s10 : Option D), rs.length = k ∧ (∀ r ∈ rs, rOk deeds r) ∧ σ = [some (.ref p), some (.int rules), some (.int deeds), some (.lst (xs.map D.str)), some (.lst (hs.map hdD)), some (.ref f), s6, s7, s8, s9, s10] ∧
      Pen M4 p (b + 3000 + 700000 * k) ∧ M4 f = some (.lst (rs.map rD)) ∧ ∀ a, a ≠ p → a ≠ f → M3 a ≠ none → M4 a = M3 a,
    ⟨[], _, _, _, _, _, rfl, (fun _ h => by cases h), rfl, pen_put hP3' hpf, mput_same, fun a _ ha _ => mput_ne ha⟩, ?_, ?_⟩
  · rintro k d σ M4 hd ⟨rs, s6, s7, s8, s9, s10, hrl, hrs, rfl, hP4, hf4, hs4⟩
    have hk : k < hs.length := by simpa using (List.getElem?_eq_some_iff.mp hd).1
    obtain ⟨h, hh, rfl⟩ := List.mem_map.mp (List.mem_of_getElem? hd)
    obtain ⟨hn1, hn2, hn3⟩ := hhs h hh
    refine rd_gTup rfl ?_
    walk_at "rd"
    refine rd_listM ?_
    walk_at "rd"
    refine rd_onListT fun pl hpl => ?_
    have hppl := pen_ne hP4 hpl
    have hfpl : f ≠ pl := by rintro rfl; rw [hpl] at hf4; cases hf4
    walk_at "rd"
    rw [List.length_map]
    refine draw (pen_put hP4 hppl) (by lia) (by lia) (by lia) fun cn M5 c0 c1 hP5 e5 => ?_
    walk_at "rd"
    refine ⟨by lia, by lia, fun j σ M6 => ∃ (ys : List Str) (s9 : Option D), ys.length = h.2.length + j ∧ (∀ y ∈ ys, nm y) ∧ σ = [some (.ref p), some (.int rules), some (.int deeds), some (.lst (xs.map D.str)), some (.lst (hs.map hdD)), some (.ref f), some (.str h.1), some (.tup (h.2.map D.str)), some (.ref pl), s9, s10] ∧
        Pen M6 p (b + 3000 + 700000 * k + 1 + 20 * j) ∧ M6 pl = some (.lst (ys.map D.str)) ∧ ∀ a, a ≠ p → a ≠ pl → M6 a = M4 a,
      ⟨h.2, _, rfl, hn3, rfl, pen_mono hP5 (by lia), same_put e5 (Ne.symm hppl), fun a h1 h2 => by rw [e5 a h1, mput_ne h2]⟩, ?_, ?_⟩
    · rintro j d σ M6 hd6 ⟨ys, s9, hyl, hys, rfl, hP6, hpl6, hs6⟩
      have hj : j < (1 + cn).toNat := by simpa using (List.getElem?_eq_some_iff.mp hd6).1
      walk_at "rd"
      refine ⟨.inl ⟨rfl, _, hpl6⟩, ?_⟩
      walk_at "rd"
      refine ⟨p, pl, _, ys, rfl, Ne.symm hppl, hpl6, by lia, hP6, by lia, fun x M7 hx hP7 e7 => ?_⟩
      walk_at "rd"
      have hpl7 : M7 pl = some (.lst (ys.map D.str)) := by rw [e7 pl (Ne.symm hppl)]; exact hpl6
      refine rd_append hpl7 (by rw [List.length_map, sizeLine_eq]; lia) ?_
      refine ⟨ys ++ [x], _, by simp [hyl]; lia, fun y hy => ?_, rfl, pen_put (pen_mono hP7 (by lia)) hppl, by rw [mput_same, List.map_append]; rfl, fun a h1 h2 => by rw [mput_ne h2, e7 a h1]; exact hs6 a h1 h2⟩
      rcases List.mem_append.mp hy with z | z
      · exact hys y z
      · cases List.mem_singleton.mp z; exact hx
    rintro σ M6 ⟨ys, s9, hyl, hys, rfl, hP6, hpl6, hs6⟩
    rw [List.length_map, List.length_range] at hyl hP6
    refine rd_frz rfl hpl6 ?_
    have hP7 : Pen (mdel M6 pl) p (b + 3000 + 700000 * k + 300) := pen_del (pen_mono hP6 (by lia)) hppl
    have hs7 : ∀ a, a ≠ p → mdel M6 pl a = M4 a := fun a h1 => by
      by_cases h2 : a = pl
      · subst h2; rw [mdel_same, hpl]
      · rw [mdel_ne h2]; exact hs6 a h1 h2
    generalize mdel M6 pl = M7 at hP7 hs7 ⊢
    walk_at "rd"
    refine rd_disp fun e he => ?_
    have hpe := pen_ne hP7 he
    refine rd_pcons ?_
    walk_at "rd"
    refine rd_pcons ?_
    walk_at "rd"
    refine rd_pnil ?_
    refine ⟨mput_same, [(.inr "heads", .lst (hs.map hdD)), (.inr "pool", .lst (ys.map D.str))], rfl, by simp, ?_⟩
    rw [merge_env, mput_mput]
    have hf7 : M7 f = some (.lst (rs.map rD)) := by rw [hs7 f (Ne.symm hpf)]; exact hf4
    have hfe : f ≠ e := by rintro rfl; rw [he] at hf7; cases hf7
    have hE : EnvOk (mput M7 e (.dct [(.inr "heads", .lst (hs.map hdD)), (.inr "pool", .lst (ys.map D.str))])) e p := by
      refine ⟨hs, ys, mput_same, ⟨hsl.1, hsl.2, hhs⟩, ⟨?_, by lia, hys⟩, Ne.symm hpe⟩
      intro h0; rw [h0] at hyl; simp at hyl; lia
    have hP8 := pen_put (o := .dct [(.inr "heads", .lst (hs.map hdD)), (.inr "pool", .lst (ys.map D.str))]) hP7 hpe
    have hf8 : mput M7 e (.dct [(.inr "heads", .lst (hs.map hdD)), (.inr "pool", .lst (ys.map D.str))]) f = some (.lst (rs.map rD)) := by rw [mput_ne hfe]; exact hf7
    have hs8 : ∀ a, a ≠ p → M4 a ≠ none → mput M7 e (.dct [(.inr "heads", .lst (hs.map hdD)), (.inr "pool", .lst (ys.map D.str))]) a = M4 a := fun a h1 h2 => by
      rw [mput_ne]
      · exact hs7 a h1
      · rintro rfl; rw [hs7 _ h1] at he; exact h2 he
    generalize mput M7 e (.dct [(.inr "heads", .lst (hs.map hdD)), (.inr "pool", .lst (ys.map D.str))]) = M8 at hE hP8 hf8 hs8 ⊢
    walk_at "rd"
    refine ⟨.inl ⟨rfl, _, hf8⟩, ?_⟩
    walk_at "rd"
    refine draw hP8 (by lia) (by lia) (by lia) fun dn M9 d0 d1 hP9 e9 => ?_
    obtain ⟨dnn, rfl⟩ : ∃ dnn : Nat, dn = (dnn : Int) := ⟨dn.toNat, by lia⟩
    walk_at "rd"
    refine ⟨p, e, _, false, 1, 1 + dnn, by rw [show ((1 + dnn : Nat) : Int) = 1 + (dnn : Int) by lia]; rfl, env_same hE e9, hP9, by rw [hKK]; lia, ⟨by lia, by lia, by lia⟩, ⟨by lia, by lia⟩, fun kb M10 k1 k2 k3 k4 hP10 e10 => ?_⟩
    rw [hKK] at hP10
    walk_at "rd"
    have hf10 : M10 f = some (.lst (rs.map rD)) := by rw [e10 f (Ne.symm hpf), e9 f (Ne.symm hpf)]; exact hf8
    refine rd_append hf10 (by rw [List.length_map, sizeLine_eq]; lia) ?_
    refine ⟨rs ++ [⟨h.1, h.2, kb⟩], _, _, _, _, _, by simp [hrl], fun r hr => ?_, rfl, pen_put (pen_mono hP10 (by lia)) hpf, by rw [mput_same, List.map_append]; rfl, fun a h1 h2 h3 => ?_⟩
    · rcases List.mem_append.mp hr with z | z
      · exact hrs r z
      · cases List.mem_singleton.mp z
        exact ⟨hn1, hn2, hn3, k1, k2, by show cntB kb ≤ deeds; lia, by show dpB kb ≤ 4; lia⟩
    · rw [mput_ne h2, e10 a h1, e9 a h1]
      have h4 := hs4 a h1 h2 h3
      rw [hs8 a h1 (by rw [h4]; exact h3), h4]
  · rintro σ M4 ⟨rs, s6, s7, s8, s9, s10, hrl, hrs, rfl, hP4, hf4, hs4⟩
    rw [List.length_map] at hrl hP4
    walk_at "rd"
    refine rd_tupR hf4 ?_
    refine View.only (p := p) (M := M) (fun a h1 h2 => ?_) (q rs _ ⟨?_, by lia⟩ hrs ?_ ?_)
    · have h3 : M3 a = M a := e03 a h1
      have h4 : a ≠ f := by rintro rfl; rw [hf] at h3; exact h2 h3.symm
      rw [hs4 a h1 h4 (by rw [h3]; exact h2), h3]
    · rcases Nat.eq_zero_or_pos rs.length with z | z
      · exfalso; apply hsl.1; exact List.length_eq_zero_iff.mp (by lia)
      · exact z
    · obtain ⟨ns, a, l, h1, h2, h3, h4, h5⟩ := hP4
      exact ⟨ns, a, l, (show (if p = p then M4 p else M p) = _ by rw [if_pos rfl]; exact h1), h2, h3, by lia, h5⟩
    · intro a ha
      show (if a = p then M4 p else M a) = M a
      rw [if_neg ha]
end MK
namespace L3
open PySem PySem.Spec PyProof.Rows L2
theorem meets_tupNext (it t : Addr) (i : Nat) (items : Array Value) (x : Value) : Meets (Builtin.«tuple_iterator.__next__» { pos := [.ref it] }) fun A R s =>
    s.heap.IsTupleIter it t i ∧ s.heap.IsTuple t items ∧ items[i]? = some x ∧ ∀ h', h'.IsTupleIter it t (i + 1) → Heap.SameBut it s.heap h' → R (.ok (.ret x)) { s with heap := h' } := by
  rintro prog w A R s ⟨⟨⟨cls, dct, data, sl⟩, ho, hc, hd⟩, ⟨ot, hto, htc, n, htd⟩, hx, k⟩
  simp only at hc hd
  subst hc hd
  refine wpAny_bind (wpAny_pure ?_)
  refine wpAny_bind (wpAny_field ho rfl rfl ?_)
  rw [if_neg (by simp)]
  refine wpAny_bind (wpAny_field ho rfl rfl ?_)
  refine wpAny_bind (wpAny_seqItems hto htd ?_)
  have e : (↑i : Int).toNat = i := by simp
  simp only [e, hx]
  refine wpAny_bind (wpAny_setField ho rfl (by simp) ?_)
  refine wpAny_pure (k _ ?_ ?_)
  · exact ⟨_, Heap.get?_update_self _ ho rfl, rfl, rfl⟩
  · exact ⟨by simp [Heap.update], fun b hb => Heap.get?_update_other _ _ (Ne.symm hb)⟩
theorem meets_tupEnd (it t : Addr) (i : Nat) (items : Array Value) : Meets (Builtin.«tuple_iterator.__next__» { pos := [.ref it] }) fun A R s =>
    A.handled = none ∧ s.heap.IsTupleIter it t i ∧ s.heap.IsTuple t items ∧ items[i]? = none ∧ ∀ h' e, Heap.ExtBut it s.heap h' → (∃ o, h'.get? e = some o ∧ o.cls = .type "StopIteration") → R (.error (.ref e)) { s with heap := h' } := by
  rintro prog w A R s ⟨hA, ⟨⟨cls, dct, data, sl⟩, ho, hc, hd⟩, ⟨ot, hto, htc, n, htd⟩, hx, k⟩
  simp only at hc hd
  subst hc hd
  refine wpAny_bind (wpAny_pure ?_)
  refine wpAny_bind (wpAny_field ho rfl rfl ?_)
  rw [if_neg (by simp)]
  refine wpAny_bind (wpAny_field ho rfl rfl ?_)
  refine wpAny_bind (wpAny_seqItems hto htd ?_)
  have e : (↑i : Int).toNat = i := by simp
  simp only [e, hx]
  refine wpAny_bind (wpAny_rule ?_)
  refine wpAny_bind (wpAny_setField ho rfl (by simp) ?_)
  unfold Builtin.SmallTypes.stopIteration
  refine wpAny_bind (wpAny_bind (wpAny_newObj_type ?_))
  refine wpAny_bind (wpAny_bind (wpAny_pure (wpAny_pure ?_)))
  refine wpAny_newObj_type ?_ (by first | decide | (unfold sizeOk; simp [ownMembersOf, sizeLine_eq]))
  refine wpAny_raiseNew_none hA (k _ _ (fun b ob hb hob => ?_) ⟨_, Heap.get?_push_size _ rfl, rfl⟩)
  exact Heap.get?_push_of_some _ (Heap.get?_push_of_some _ ((Heap.get?_update_other _ _ (Ne.symm hb)).trans hob))
theorem nextOf_tupItem {prog : Program} {w : World} {A : Around} {E : Value → Shared → Prop} {s : Shared} {it t : Addr} {i : Nat} {items : Array Value} {x : Value} {Q : Value → Shared → Prop} (hi : s.heap.IsTupleIter it t i) (ht : s.heap.IsTuple t items) (hx : items[i]? = some x)
    (k : ∀ h', h'.IsTupleIter it t (i + 1) → Heap.SameBut it s.heap h' → Q x { s with heap := h' }) : wpAny (model prog w) A (Builtin.SmallTypes.nextOf (.ref it)) Q E s := by
  obtain ⟨o, ho, hc, hd⟩ := id hi
  refine wpAny_bind (wpAny_callSpecial?_slot ⟨o, ho, hc⟩ slot_tupleiter_next ?_)
  refine call_meets slot_tupleiter_next ⟨o, ho, hc⟩ entry_tupleiter_next (F.args_tuple_iterator_next_1 _) (meets_tupNext it t i items x) ⟨hi, ht, hx, fun h' a b => ?_⟩
  exact wpAny_pure (k h' a b)
theorem nextOf_tupEnd {prog : Program} {w : World} {A : Around} {E : Value → Shared → Prop} {s : Shared} {it t : Addr} {i : Nat} {items : Array Value} {Q : Value → Shared → Prop} (hA : A.handled = none) (hi : s.heap.IsTupleIter it t i) (ht : s.heap.IsTuple t items) (hx : items[i]? = none)
    (k : ∀ h' e, Heap.ExtBut it s.heap h' → (∃ o, h'.get? e = some o ∧ o.cls = .type "StopIteration") → E (.ref e) { s with heap := h' }) : wpAny (model prog w) A (Builtin.SmallTypes.nextOf (.ref it)) Q E s := by
  obtain ⟨o, ho, hc, hd⟩ := id hi
  refine wpAny_bind (wpAny_callSpecial?_slot ⟨o, ho, hc⟩ slot_tupleiter_next ?_)
  exact call_meets slot_tupleiter_next ⟨o, ho, hc⟩ entry_tupleiter_next (F.args_tuple_iterator_next_1 _) (meets_tupEnd it t i items) ⟨hA, hi, ht, hx, fun h' e a b => k h' e a b⟩
theorem draws_tuple {prog : Program} {w : World} {A : Around} (hA : A.handled = none) (it t : Addr) (hne : t ≠ it) (items : Array Value) : Draws prog w A it [it, t] items.size (fun i v => items[i]? = some v) fun i h => h.IsTupleIter it t i ∧ h.IsTuple t items where
  live := fun i h ⟨⟨o, ho, _⟩, _⟩ => ⟨o, ho⟩
  frame := fun i h h' ⟨⟨o, ho, r⟩, ⟨o2, ho2, r2⟩⟩ k => ⟨⟨o, k it (by simp) o ho, r⟩, ⟨o2, k t (by simp) o2 ho2, r2⟩⟩
  item := fun i s Q E hi ⟨h1, h2⟩ k => nextOf_tupItem h1 h2 (x := items[i]) (by simp [hi]) fun h' a b => k _ h' s.toks (by simp [hi]) ⟨a, by
    obtain ⟨o, ho, r⟩ := h2
    exact ⟨o, (b.2 t hne).trans ho, r⟩⟩ b
  done := fun s Q E ⟨h1, h2⟩ k => nextOf_tupEnd hA h1 h2 (by simp) k
theorem wpAny_pureB {M : Model} {A : Around} {E : Value → Shared → Prop} {s : Shared} {b : Bool} {Q : Bool → Shared → Prop} (h : ∀ b, Q b s) : wpAny M A (pure b) Q E s := wpAny_pure (h b)
theorem meets_enumT (t : Addr) (items : Array Value) : Meets (Builtin.«enumerate.__new__» { pos := [.type "enumerate", .ref t] }) fun A R s =>
    s.heap.IsTuple t items ∧ R (.ok (.ret (.ref (s.heap.push { cls := .type "tuple_iterator", data := .fields #[.ref t, .int 0 0] }).objs.size)))
      { s with heap := (s.heap.push { cls := .type "tuple_iterator", data := .fields #[.ref t, .int 0 0] }).push { cls := .type "enumerate", data := .fields #[.none, .bool false, .ref s.heap.objs.size, rawInt 0, .none, .none] } } := by
  rintro prog w A R s ⟨ht, k⟩
  refine wpAny_bind ?_
  refine wpAny_bind (wpAny_pure ?_)
  refine wpAny_bind ?_
  rw [sub_enumerate]
  refine wpAny_pure (wpAny_pure ?_)
  refine wpAny_bind ?_
  refine wpAny_bind (wpAny_stack fun st _ _ _ => wpAny_pureB fun short => ?_)
  cases short with
  | true =>
    refine wpAny_bind (wpAny_pure ?_)
    refine wpAny_bind (wpAny_pyIter_tuple ht ?_)
    refine wpAny_bind (wpAny_newObj_type (data := .fields #[.none, .bool false, .ref s.heap.objs.size, rawInt 0, .none, .none]) ?_)
    exact wpAny_pure k
  | false =>
    refine wpAny_bind (wpAny_pure ?_)
    refine wpAny_bind (wpAny_pyIter_tuple ht ?_)
    refine wpAny_bind (wpAny_newObj_type (data := .fields #[.none, .bool false, .ref s.heap.objs.size, rawInt 0, .none, .none]) ?_)
    exact wpAny_pure k
theorem call_enumT {prog : Program} {w : World} {A : Around} {E : Value → Shared → Prop} {s : Shared} {t : Addr} {items : Array Value} {Q : Value → Shared → Prop} (ht : s.heap.IsTuple t items)
    (k : Q (.ref (s.heap.objs.size + 1)) { s with heap := (s.heap.push { cls := .type "tuple_iterator", data := .fields #[.ref t, .int 0 0] }).push { cls := .type "enumerate", data := .fields #[.none, .bool false, .ref s.heap.objs.size, rawInt 0, .none, .none] } }) :
    wpAny (model prog w) A (call (.type "enumerate") [.ref t]) Q E s := by
  refine callType_new F.called_enumerate (by decide) (F.typeCall_enumerate_1 _) (F.newCall_enumerate_1 _) (fun obj => F.args_object_init_2 _ _) F.entry_enumerate_new (meets_enumT t items) ⟨ht, ?_⟩
  have e : (s.heap.push { cls := .type "tuple_iterator", data := .fields #[.ref t, .int 0 0] }).objs.size = s.heap.objs.size + 1 := by simp [Heap.push]
  rw [e]
  refine ⟨⟨{ cls := .type "enumerate", data := .fields #[.none, .bool false, .ref s.heap.objs.size, rawInt 0, .none, .none] }, ?_, rfl⟩, k⟩
  rw [← e]
  exact Heap.get?_push_size _ rfl
end L3
namespace L3
open PySem PySem.Spec PyProof.Rows L2
def IteT (K : PySem.W.Frag) (a : Addr) : It :=
  ⟨fun i H => ∃ xs x, SqT K H a xs ∧ xs[i]? = some x, fun i H x H' => ∃ T v, H T = none ∧ (∀ xs, SqT K H a xs → xs[i]? = some v) ∧ x = .ref T ∧ H' = upd H T (.tup [.int (i : Nat), v]), fun i H => ∃ xs, SqT K H a xs ∧ xs.length = i⟩
def IteL (K : PySem.W.Frag) (a : Addr) : It :=
  ⟨fun i H => ∃ xs x, SqL K H a xs ∧ xs[i]? = some x, fun i H x H' => ∃ T v, H T = none ∧ (∀ xs, SqL K H a xs → xs[i]? = some v) ∧ x = .ref T ∧ H' = upd H T (.tup [.int (i : Nat), v]), fun i H => ∃ xs, SqL K H a xs ∧ xs.length = i⟩
theorem Inv.pair {X : Cx} {pins : List (Addr × Obj)} {σ : L2.St} {H : Hp} {s : Shared} {e it : Addr} {h' : Heap} {tk : Nat} {i : Nat} {v : V} {u : Value} {t0 : Tok} (I : Inv X pins σ H s) (fe : FpOk X pins H e) (fi : FpOk X pins H it)
    (le : e < s.heap.objs.size) (li : it < s.heap.objs.size) (ru : RelV v u) (hnew : h'.get? s.heap.objs.size = some { cls := .type "tuple", data := .seq #[.int (i : Nat) t0, u] })
    (hk : ∀ b o, b ≠ e → b ≠ it → s.heap.get? b = some o → h'.get? b = some o) : Inv X pins σ (upd H s.heap.objs.size (.tup [.int (i : Nat), v])) { s with heap := h', toks := tk } := by
  have hf := I.fresh
  have nT : ∀ b u, H b = some u → b ≠ s.heap.objs.size := fun b u q => by rintro rfl; rw [hf] at q; cases q
  have ne : ∀ b u, H b = some u → b ≠ e ∧ b ≠ it := fun b u q => ⟨(by rintro rfl; rw [fe.1] at q; cases q), (by rintro rfl; rw [fi.1] at q; cases q)⟩
  refine I.call' (s' := { s with heap := h', toks := tk }) (ch := [e, it]) rfl ⟨fun b o q n _ hx => ?_, fun b o q n _ hx => ?_, fun b o q n hx => ?_, fun b o q hx => ?_, fun b xs q => ?_, fun b o u q => ?_, fun b ps q => ?_⟩ (fun b o q => ?_) I.bare (fun b hb => ?_)
  · simp only [List.mem_cons, List.not_mem_nil, or_false, not_or] at hx
    exact hk b o hx.1 hx.2 q
  · simp only [List.mem_cons, List.not_mem_nil, or_false, not_or] at hx
    exact ⟨o.slots, hk b o hx.1 hx.2 q⟩
  · rw [upd_ne (Nat.ne_of_lt (Heap.lt_size q))]; exact n
  · simp only [List.mem_cons, List.not_mem_nil, or_false, not_or] at hx
    exact ⟨o, hk b o hx.1 hx.2 q⟩
  · rw [upd_ne (nT b _ q)]; exact q
  · rw [upd_ne (nT b _ q)]; exact q
  · exact ⟨#[], by rw [upd_ne (nT b _ q), q]; simp⟩
  · by_cases hb : b = s.heap.objs.size
    · subst hb
      rw [upd_same] at q
      cases q
      exact ⟨by rw [sizeLine_eq]; show 2 ≤ _; lia, [.int (i : Nat) t0, u], .cons ⟨t0, rfl⟩ (.cons ru .nil), ⟨_, hnew, rfl, _, rfl⟩⟩
    · rw [upd_ne hb] at q
      refine (I.hok b o q).stay (fun c w hc r => ?_) (fun c r => by rw [upd_ne (nT c _ r)]; exact r) fun c xs r => by rw [upd_ne (nT c _ r)]; exact r
      rcases hc with rfl | hc
      · exact hk c w (ne c o q).1 (ne c o q).2 r
      · exact hk c w (ne c _ hc).1 (ne c _ hc).2 r
  · simp only [List.mem_cons, List.not_mem_nil, or_false] at hb
    rcases hb with rfl | rfl
    · exact ⟨fe.2.2.2.1, fe.2.1, fe.2.2.2.2.1, fe.2.2.2.2.2⟩
    · exact ⟨fi.2.2.2.1, fi.2.1, fi.2.2.2.2.1, fi.2.2.2.2.2⟩
theorem turn_enumT {P : Program} {w : World} {K : PySem.W.Frag} {elts : List Expr} {k : Nat} {pos : Pos} (a it e : Addr) (h1 : e ≠ it) (h2 : a ≠ it) (h3 : a ≠ e) :
    Turn P w K (.Tuple elts k pos) (IteT K a) [e, it] e (fun i h => (∃ old, IsEnum h e it (i : Nat) old) ∧ h.IsTupleIter it a i) where
  mem := by simp
  obj := fun i h st b hb => by
    obtain ⟨⟨old, he⟩, ⟨o, ho, c, d⟩⟩ := st
    simp only [List.mem_cons, List.not_mem_nil, or_false] at hb
    rcases hb with rfl | rfl
    · exact ⟨_, he, fun v z => by cases z⟩
    · exact ⟨o, ho, fun v z => by rw [d] at z; cases z⟩
  keep := fun i h h' st kk => by
    obtain ⟨⟨old, he⟩, ⟨o, ho, r⟩⟩ := st
    exact ⟨⟨old, kk e (by simp) _ he⟩, ⟨o, kk it (by simp) o ho, r⟩⟩
  item := by
    intro X hP hw hK hc i pins s σ H E I hf st hg
    subst hP hw hK
    obtain ⟨xs, x, hq, hx⟩ := hg
    obtain ⟨its, rv, p, hz⟩ := I.tuple hq
    obtain ⟨u, hu, ru⟩ := rv.get hx
    have hi : i < its.length := (List.getElem?_eq_some_iff.mp hu).1
    obtain ⟨⟨old, he⟩, hit⟩ := st
    have le := Heap.lt_size he
    have li : it < s.heap.objs.size := by obtain ⟨o, ho, _⟩ := hit; exact Heap.lt_size ho
    refine wpAny_pyNext_enum_itemD (draws_tuple (A := X.A.in1) (by exact I.ok.hd hc) it a h2 its.toArray) he ⟨hit, p⟩ (by simpa using hi) h1 (by simp; exact ⟨h1, Ne.symm h3⟩) fun y h' tk hy hout hst hnew hsz hkeep => ?_
    have ey : y = u := by
      have : its[i]? = some y := by simpa using hy
      rw [hu] at this; exact (Option.some.inj this).symm
    subst ey
    refine ⟨_, rfl, wpAny_letOwnedTupleGo_enum hout fun h'' hen hsb => ?_⟩
    have hk2 : ∀ b o, b ≠ e → b ≠ it → s.heap.get? b = some o → h''.get? b = some o := fun b o hb1 hb2 q => (hsb.2 b hb1).trans (hkeep b o hb1 hb2 q)
    refine ⟨.ref s.heap.objs.size, _, Inv.pair (s := s) (tk := tk + 1) (i := i) (t0 := tk) I (hf e (by simp)) (hf it (by simp)) le li ru ((hsb.2 _ (Nat.ne_of_gt le)).trans hnew) hk2, rfl, ⟨s.heap.objs.size, x, I.fresh, fun ys hys => by rw [I.tuple_inj hys hq]; exact hx, rfl, rfl⟩, ⟨⟨_, hen⟩, ?_⟩, fun b hb => ?_⟩
    · obtain ⟨o, ho, r⟩ := hst.1
      exact ⟨o, (hsb.2 it (Ne.symm h1)).trans ho, r⟩
    · simp only [List.mem_cons, List.not_mem_nil, or_false] at hb
      rcases hb with rfl | rfl
      · rw [upd_ne (Nat.ne_of_lt le)]; exact (hf b (by simp)).1
      · rw [upd_ne (Nat.ne_of_lt li)]; exact (hf b (by simp)).1
  done := by
    intro X hP hw hK hc i pins s σ H E I hf st hg
    subst hP hw hK
    obtain ⟨xs, hq, hx⟩ := hg
    obtain ⟨its, rv, p, hz⟩ := I.tuple hq
    obtain ⟨⟨old, he⟩, hit⟩ := st
    have hl := rv.length
    obtain ⟨f0, f1, f2, f3, f4, f5⟩ := hf it (by simp)
    have en : its.toArray.size = i := by simp; lia
    exact wpAny_pyNext_enum_endD (draws_tuple (A := X.A.in1) (by exact I.ok.hd hc) it a h2 its.toArray) he ⟨by rw [en]; exact hit, p⟩ fun h' eb => ⟨rfl, I.turned (t' := s.toks) (fun b o hb e => eb b o hb e) f0 f1 f3 f4 f5⟩
  self := fun _ _ _ _ _ st h => by
    obtain ⟨⟨old, he⟩, _⟩ := st
    exact wpAny_pyIter_enum he h
theorem turn_enumL {P : Program} {w : World} {K : PySem.W.Frag} {elts : List Expr} {k : Nat} {pos : Pos} (a it e : Addr) (h1 : e ≠ it) (h2 : a ≠ it) (h3 : a ≠ e) :
    Turn P w K (.Tuple elts k pos) (IteL K a) [e, it] e (fun i h => (∃ old, IsEnum h e it (i : Nat) old) ∧ h.IsListIter it a i) where
  mem := by simp
  obj := fun i h st b hb => by
    obtain ⟨⟨old, he⟩, ⟨o, ho, c, d⟩⟩ := st
    simp only [List.mem_cons, List.not_mem_nil, or_false] at hb
    rcases hb with rfl | rfl
    · exact ⟨_, he, fun v z => by cases z⟩
    · exact ⟨o, ho, fun v z => by rw [d] at z; cases z⟩
  keep := fun i h h' st kk => by
    obtain ⟨⟨old, he⟩, ⟨o, ho, r⟩⟩ := st
    exact ⟨⟨old, kk e (by simp) _ he⟩, ⟨o, kk it (by simp) o ho, r⟩⟩
  item := by
    intro X hP hw hK hc i pins s σ H E I hf st hg
    subst hP hw hK
    obtain ⟨xs, x, hq, hx⟩ := hg
    obtain ⟨its, rv, p, hz⟩ := I.list hq
    obtain ⟨u, hu, ru⟩ := rv.get hx
    have hi : i < its.length := (List.getElem?_eq_some_iff.mp hu).1
    obtain ⟨⟨old, he⟩, hit⟩ := st
    have le := Heap.lt_size he
    have li : it < s.heap.objs.size := by obtain ⟨o, ho, _⟩ := hit; exact Heap.lt_size ho
    refine wpAny_pyNext_enum_itemD (Draws.list (prog := X.prog) (w := X.w) (A := X.A.in1) (by exact I.ok.hd hc) it a h2 its.toArray) he ⟨hit, p.isList⟩ (by simpa using hi) h1 (by simp; exact ⟨h1, Ne.symm h3⟩) fun y h' tk hy hout hst hnew hsz hkeep => ?_
    have ey : y = u := by
      have : its[i]? = some y := by simpa using hy
      rw [hu] at this; exact (Option.some.inj this).symm
    subst ey
    refine ⟨_, rfl, wpAny_letOwnedTupleGo_enum hout fun h'' hen hsb => ?_⟩
    have hk2 : ∀ b o, b ≠ e → b ≠ it → s.heap.get? b = some o → h''.get? b = some o := fun b o hb1 hb2 q => (hsb.2 b hb1).trans (hkeep b o hb1 hb2 q)
    refine ⟨.ref s.heap.objs.size, _, Inv.pair (s := s) (tk := tk + 1) (i := i) (t0 := tk) I (hf e (by simp)) (hf it (by simp)) le li ru ((hsb.2 _ (Nat.ne_of_gt le)).trans hnew) hk2, rfl, ⟨s.heap.objs.size, x, I.fresh, fun ys hys => by rw [I.list_inj hys hq]; exact hx, rfl, rfl⟩, ⟨⟨_, hen⟩, ?_⟩, fun b hb => ?_⟩
    · obtain ⟨o, ho, r⟩ := hst.1
      exact ⟨o, (hsb.2 it (Ne.symm h1)).trans ho, r⟩
    · simp only [List.mem_cons, List.not_mem_nil, or_false] at hb
      rcases hb with rfl | rfl
      · rw [upd_ne (Nat.ne_of_lt le)]; exact (hf b (by simp)).1
      · rw [upd_ne (Nat.ne_of_lt li)]; exact (hf b (by simp)).1
  done := by
    intro X hP hw hK hc i pins s σ H E I hf st hg
    subst hP hw hK
    obtain ⟨xs, hq, hx⟩ := hg
    obtain ⟨its, rv, p, hz⟩ := I.list hq
    obtain ⟨⟨old, he⟩, hit⟩ := st
    have hl := rv.length
    obtain ⟨f0, f1, f2, f3, f4, f5⟩ := hf it (by simp)
    have en : its.toArray.size = i := by simp; lia
    exact wpAny_pyNext_enum_endD (Draws.list (prog := X.prog) (w := X.w) (A := X.A.in1) (by exact I.ok.hd hc) it a h2 its.toArray) he ⟨by rw [en]; exact hit, p.isList⟩ fun h' eb => ⟨rfl, I.turned (t' := s.toks) (fun b o hb e => eb b o hb e) f0 f1 f3 f4 f5⟩
  self := fun _ _ _ _ _ st h => by
    obtain ⟨⟨old, he⟩, _⟩ := st
    exact wpAny_pyIter_enum he h
theorem call_enumL {prog : Program} {w : World} {A : Around} {E : Value → Shared → Prop} {s : Shared} {t : Addr} {items : Array Value} {Q : Value → Shared → Prop} (ht : s.heap.IsList t items)
    (k : Q (.ref (s.heap.objs.size + 1)) { s with heap := (s.heap.push { cls := .type "list_iterator", data := .fields #[.ref t, .int 0 0] }).push { cls := .type "enumerate", data := .fields #[.none, .bool false, .ref s.heap.objs.size, rawInt 0, .none, .none] } }) :
    wpAny (model prog w) A (call (.type "enumerate") [.ref t]) Q E s := by
  obtain ⟨⟨cls, dct, data, sl⟩, ho, hc, n, hd⟩ := ht
  simp only at hc hd
  subst hc hd
  refine callType_new F.called_enumerate (by decide) (F.typeCall_enumerate_1 _) (F.newCall_enumerate_1 _) (fun obj => F.args_object_init_2 _ _) F.entry_enumerate_new (meets_enumerate_newL t items n dct sl) ⟨ho, ?_⟩
  have e : (s.heap.push { cls := .type "list_iterator", data := .fields #[.ref t, .int 0 0] }).objs.size = s.heap.objs.size + 1 := by simp [Heap.push]
  rw [e]
  refine ⟨⟨{ cls := .type "enumerate", data := .fields #[.none, .bool false, .ref s.heap.objs.size, rawInt 0, .none, .none] }, ?_, rfl⟩, k⟩
  rw [← e]
  exact Heap.get?_push_size _ rfl
theorem ps3_forE {X : Cx} {tg iter : Expr} {body : List Stmt} {ti : TI3} {g : TG3} {tb : TS3} {pos : Pos} (hp : PassesOwn (model X.prog X.w) X.A X.env X.xe) (hc : X.calm = true) (hi : PI3E X tg iter ti)
    (hg : PG3 X tg g) (hb : PSs3 X body tb) (hs : ∀ y, foldedSetIterable iter X.env y = pure y := by intro _; rfl) :
    PS3 X (.For tg iter body [] pos) (tForG3 ti g tb) := PS3.of (ps_for hp hc hi hg hb.dn hs) fun pins s σv H σ M T I hS hM h => by
  refine ⟨σ, M, _, hS, hM, h, fun ds J M1 H1 st1 m1 wk ⟨Pv, p0, turn, done⟩ => ?_⟩
  refine ⟨fun k m σv' H' => m = ds.length - k ∧ k ≤ ds.length ∧ ∃ σ' M', Step M1 H1 M' H' ∧ MRel X.K M' H' ∧ SRel X.K M' H' σ' σv' ∧ Pv k σ' M', ⟨_, rfl, Nat.zero_le _, σ, M1, .refl, m1, hS.mono st1, p0⟩, ?_⟩
  rintro k m σv' H' ⟨rfl, hk, σ', M', st', m', hS', pk⟩
  obtain ⟨go, yld, stop⟩ := wk M' H' st' m'
  by_cases hlt : k < ds.length
  · refine .inr ⟨go k hlt, fun σ2 H2 => ∃ σ'' M'', Step M1 H1 M'' H2 ∧ MRel X.K M'' H2 ∧ SRel X.K M'' H2 σ'' σ2 ∧ Pv (k + 1) σ'' M'', ?_, ?_⟩
    · rintro σ2 H2 ⟨σ'', M'', q⟩
      exact ⟨ds.length - (k + 1), by lia, rfl, hlt, σ'', M'', q⟩
    · intro y H'' hy
      obtain ⟨sy, my, ry⟩ := yld k ds[k] y H'' (by simp [hlt]) hy
      refine ⟨ds[k], σ', M', _, ry, hS'.mono sy, my, turn k ds[k] σ' M' (by simp [hlt]) pk, fun σ9 v9 M9 H9 s9 m9 r9 q9 => ?_⟩
      refine ⟨σ9, M9, _, r9, m9, q9, ?_⟩
      have s8 := (st'.trans sy).trans s9
      exact ⟨fun σ2 v2 M2 H2 s2 m2 r2 q2 => ⟨σ2, M2, s8.trans s2, m2, r2, q2⟩, fun σ2 v2 M2 H2 s2 m2 r2 q2 => ⟨σ2, M2, (st1.trans s8).trans s2, m2, r2, q2⟩,
        fun σ2 v2 M2 H2 s2 m2 r2 q2 => ⟨σ2, M2, s8.trans s2, m2, r2, q2⟩, fun d v2 M2 H2 s2 m2 r2 q2 => ⟨d, M2, (st1.trans s8).trans s2, m2, r2, q2⟩⟩
  · have e : k = ds.length := by lia
    subst e
    exact .inl ⟨stop, σ', M', st1.trans st', m', hS', done σ' M' pk⟩
def prs : Nat → List D → List D
  | _, [] => []
  | n, d :: r => .tup [.int (n : Nat), d] :: prs (n + 1) r
theorem prs_get : ∀ (ds : List D) (n i : Nat) (d : D), (prs n ds)[i]? = some d → ∃ x, ds[i]? = some x ∧ d = .tup [.int ((n + i : Nat) : Int), x]
  | [], n, i, d, h => by simp [prs] at h
  | x :: r, n, 0, d, h => by simp [prs] at h; exact ⟨x, rfl, by rw [← h]; rfl⟩
  | x :: r, n, i + 1, d, h => by
    have h' : (prs (n + 1) r)[i]? = some d := by simpa [prs] using h
    obtain ⟨y, h1, h2⟩ := prs_get r (n + 1) i d h'
    exact ⟨y, by simpa using h1, by rw [h2]; congr 3; lia⟩
theorem prs_len : ∀ (ds : List D) (n : Nat), (prs n ds).length = ds.length
  | [], n => rfl
  | x :: r, n => by show (prs (n + 1) r).length + 1 = r.length + 1; rw [prs_len r]
def onEnum (R : List D → Mem → Prop) : DK := fun d M1 => match d with
  | .tup ds => R (prs 0 ds) M1
  | .lst ds => R (prs 0 ds) M1
  | _ => False
def iEnum3 (te : TE3) : TI3 := fun σ M R => te σ M (onEnum R)
theorem rd_iEnum {te : TE3} {σ : Lo} {M : Mem} {R : List D → Mem → Prop} (h : te σ M (onEnum R)) : iEnum3 te σ M R := h
theorem rd_onEnumT {ds : List D} {M : Mem} {R : List D → Mem → Prop} (h : R (prs 0 ds) M) : onEnum R (.tup ds) M := h
theorem rd_onEnumL {ds : List D} {M : Mem} {R : List D → Mem → Prop} (h : R (prs 0 ds) M) : onEnum R (.lst ds) M := h
theorem wkE_of {K : PySem.W.Frag} {M1 : Mem} {H1 : Hp} {J : It} {ds : List D} (Sq : Hp → List V → Prop) (hgo : ∀ i H xs x, Sq H xs → xs[i]? = some x → J.go i H) (hy : ∀ i H x H', J.yld i H x H' → ∃ T v, H T = none ∧ (∀ xs, Sq H xs → xs[i]? = some v) ∧ x = .ref T ∧ H' = upd H T (.tup [.int (i : Nat), v]))
    (hst : ∀ i H xs, Sq H xs → xs.length = i → J.stop i H) (hs : ∀ M' H', Step M1 H1 M' H' → ∃ vs, Sq H' vs ∧ Reps K M' H' ds vs) : WkE K J (prs 0 ds) M1 H1 := by
  intro M' H' st m'
  obtain ⟨vs, sq, r⟩ := hs M' H' st
  refine ⟨fun i hi => ?_, fun i d x H'' hd hyy => ?_, ?_⟩
  · rw [prs_len] at hi
    obtain ⟨v, hv, _⟩ := r.get (i := i) (d := ds[i]) (by simp [hi])
    exact hgo i H' vs v sq hv
  · obtain ⟨T, v, hT, hv, rfl, rfl⟩ := hy i H' x H'' hyy
    obtain ⟨y, h1, rfl⟩ := prs_get ds 0 i d hd
    obtain ⟨v', hv', rv⟩ := r.get h1
    rw [hv vs sq] at hv'
    cases hv'
    refine ⟨Step.lay hT, m'.lay hT, .tup (.inl ⟨.inl upd_same, m'.free hT⟩) (.cons ?_ (.cons (rv.mono (Step.lay hT)) .nil))⟩
    rw [Nat.zero_add]; exact .int
  · rw [prs_len]
    exact hst _ H' vs sq r.length.symm
theorem pi3_enum {X : Cx} {a : Expr} {te : TE3} {elts : List Expr} {k : Nat} {tpos p pos : Pos} (hg : Gl X "enumerate") (hm : X.mg "enumerate" = none) (ha : PE3 X a te) (he : starEach [a] X.env = (false, eval a X.env) :: starEach [] X.env := by rfl) (hpl : (backTo pos (starEach [] X.env)).any (·.1) = false := by rfl) :
    PI3E X (.Tuple elts k tpos) (.Call (.Name "enumerate" p) [a] [] pos) (iEnum3 te) := by
  rintro pins s σv H R2 I ⟨σ, M, R, hS, hM, h, kk⟩
  refine wpAny_Call_Name_kw (ld_blt I hg hm b3_enumerate ?_ (by decide) (by decide))
  have hx : PA3 X [a] (tCons3 te tNil3) := pa3_cons ha pa3_nil he
  refine PyProof.Rows.callWith_type1 (thn (hx pos pins s σv H σ M (fun ds M1 => match ds with | [d] => onEnum R d M1 | _ => False) I hS hM h) fun us s1 ⟨ds, vs, M1, H1, I1, st1, m1, rv1, p1, q1⟩ => ?_) he hpl
  match ds, p1, q1 with
  | [d], p1, q1 =>
    obtain ⟨xv, rfl, pd⟩ := reps1 p1
    obtain ⟨u, rfl, ru⟩ := vals1 rv1
    cases pd with
    | @tup aT xs vs h1 r1 =>
      cases ru
      obtain ⟨its, ri, pl, hz⟩ := I1.tuple (SqT.of3 h1)
      have hlt : aT < s1.heap.objs.size := by obtain ⟨o, ho, _⟩ := id pl; exact Heap.lt_size ho
      refine call_enumT (show s1.heap.IsTuple aT its.toArray from pl) ?_
      have kp : ∀ b o, s1.heap.get? b = some o → ((s1.heap.push { cls := .type "tuple_iterator", data := .fields #[.ref aT, .int 0 0] }).push { cls := .type "enumerate", data := .fields #[.none, .bool false, .ref s1.heap.objs.size, rawInt 0, .none, .none] }).get? b = some o := fun b o e => Heap.get?_push_of_some _ (Heap.get?_push_of_some _ e)
      have es : (s1.heap.push { cls := .type "tuple_iterator", data := .fields #[.ref aT, .int 0 0] }).objs.size = s1.heap.objs.size + 1 := by simp [Heap.push]
      have hen : ((s1.heap.push { cls := .type "tuple_iterator", data := .fields #[.ref aT, .int 0 0] }).push { cls := .type "enumerate", data := .fields #[.none, .bool false, .ref s1.heap.objs.size, rawInt 0, .none, .none] }).get? (s1.heap.objs.size + 1) = some { cls := .type "enumerate", data := .fields #[.none, .bool false, .ref s1.heap.objs.size, rawInt 0, .none, .none] } := by rw [← es]; exact Heap.get?_push_size _ rfl
      refine wpAny_pyIter_enum (it := s1.heap.objs.size) (i := 0) (old := .none) hen ?_
      refine ⟨s1.heap.objs.size + 1, [s1.heap.objs.size + 1, s1.heap.objs.size], _, IteT X.K aT, H1, rfl, I1.kept (t' := s1.toks) kp, turn_enumT aT s1.heap.objs.size (s1.heap.objs.size + 1) (Nat.succ_ne_self _) (Nat.ne_of_lt hlt) (Nat.ne_of_lt (Nat.lt_succ_of_lt hlt)), ⟨⟨.none, hen⟩, ⟨_, Heap.get?_push_of_some _ (Heap.get?_push_size _ rfl), rfl, rfl⟩⟩, fun b hb => ?_, ?_⟩
      · have hb' : s1.heap.objs.size ≤ b := by
          simp only [List.mem_cons, List.not_mem_nil, or_false] at hb
          rcases hb with rfl | rfl
          · exact Nat.le_succ _
          · exact Nat.le_refl _
        exact I1.fpOk hb' (I1.hok.fresh hb')
      · refine kk (prs 0 xs) _ M1 H1 st1 m1 (wkE_of (fun H xs => SqT X.K H aT xs) (fun i H xs x hq hx => ⟨xs, x, hq, hx⟩) (fun i H x H' hy => hy) (fun i H xs hq hl => ⟨xs, hq, hl⟩) fun M' H' st => ⟨vs, SqT.of3 (h1.imp (Fix.mono st) id), r1.mono st⟩) q1
    | @lst aT xs vs h1 r1 =>
      cases ru
      obtain ⟨its, ri, pl, hz⟩ := I1.list (SqL.of3 h1)
      have hlt : aT < s1.heap.objs.size := by obtain ⟨o, ho, _⟩ := id pl.isList; exact Heap.lt_size ho
      refine call_enumL pl.isList ?_
      have kp : ∀ b o, s1.heap.get? b = some o → ((s1.heap.push { cls := .type "list_iterator", data := .fields #[.ref aT, .int 0 0] }).push { cls := .type "enumerate", data := .fields #[.none, .bool false, .ref s1.heap.objs.size, rawInt 0, .none, .none] }).get? b = some o := fun b o e => Heap.get?_push_of_some _ (Heap.get?_push_of_some _ e)
      have es : (s1.heap.push { cls := .type "list_iterator", data := .fields #[.ref aT, .int 0 0] }).objs.size = s1.heap.objs.size + 1 := by simp [Heap.push]
      have hen : ((s1.heap.push { cls := .type "list_iterator", data := .fields #[.ref aT, .int 0 0] }).push { cls := .type "enumerate", data := .fields #[.none, .bool false, .ref s1.heap.objs.size, rawInt 0, .none, .none] }).get? (s1.heap.objs.size + 1) = some { cls := .type "enumerate", data := .fields #[.none, .bool false, .ref s1.heap.objs.size, rawInt 0, .none, .none] } := by rw [← es]; exact Heap.get?_push_size _ rfl
      refine wpAny_pyIter_enum (it := s1.heap.objs.size) (i := 0) (old := .none) hen ?_
      refine ⟨s1.heap.objs.size + 1, [s1.heap.objs.size + 1, s1.heap.objs.size], _, IteL X.K aT, H1, rfl, I1.kept (t' := s1.toks) kp, turn_enumL aT s1.heap.objs.size (s1.heap.objs.size + 1) (Nat.succ_ne_self _) (Nat.ne_of_lt hlt) (Nat.ne_of_lt (Nat.lt_succ_of_lt hlt)), ⟨⟨.none, hen⟩, ⟨_, Heap.get?_push_of_some _ (Heap.get?_push_size _ rfl), rfl, rfl⟩⟩, fun b hb => ?_, ?_⟩
      · have hb' : s1.heap.objs.size ≤ b := by
          simp only [List.mem_cons, List.not_mem_nil, or_false] at hb
          rcases hb with rfl | rfl
          · exact Nat.le_succ _
          · exact Nat.le_refl _
        exact I1.fpOk hb' (I1.hok.fresh hb')
      · refine kk (prs 0 xs) _ M1 H1 st1 m1 (wkE_of (fun H xs => SqL X.K H aT xs) (fun i H xs x hq hx => ⟨xs, x, hq, hx⟩) (fun i H x H' hy => hy) (fun i H xs hq hl => ⟨xs, hq, hl⟩) fun M' H' st => ⟨vs, SqL.of3 (h1.imp (Fix.mono st) id), r1.mono st⟩) q1
    | _ => exact (q1 : False).elim
end L3
namespace L3
open PySem PySem.Spec PyProof.Rows L2
section
variable {X : Cx} {o i e : Expr} {to ti te : TE3} {pos p : Pos}
def rReprM3 : C3 := fun ds M Q => match ds with
  | [.ref a] => ∃ xs, M a = some (.lst xs) ∧ shOk (.lst xs) ∧ Q (.str (pyD (.lst xs)).shown) M
  | [d] => shOk d ∧ Q (.str (pyD d).shown) M
  | _ => False
theorem c3_reprM {k : Nat} (hr : Room k X.A) : CallR3 X (.builtin "repr") rReprM3 := by
  intro pins s σv H M xs xvs us Q I m rv px q
  match xs, px, q with
  | [.ref a], px, ⟨ys, hm, hsh, q⟩ =>
    obtain ⟨xv, rfl, p1⟩ := reps1 px
    cases p1
    obtain ⟨m2, r2, sub⟩ := Vs.frzL hm X.K H (.ref a) m .ref
    obtain ⟨u, rfl, ru⟩ := vals1 rv
    cases ru
    obtain ⟨h1, h2, h3, h4, h5⟩ := hsh
    obtain ⟨as, rd⟩ := rep_reads I h1 r2 rfl
    refine PySem.repr_of_reads' rd h2 (PyData.noDict_hsm h3) hr.gd (by have := hr.units; lia) (fun b o e => e) (fun h' u tk kp => ?_) h5
    exact ⟨_, .str _, M, H, I.kept (t' := tk) kp, .refl, m, ⟨_, rfl⟩, .str, q⟩
  | [.non], px, q => exact c3_repr hr pins s σv H M _ xvs us Q I m rv px q
  | [.bl _], px, q => exact c3_repr hr pins s σv H M _ xvs us Q I m rv px q
  | [.int _], px, q => exact c3_repr hr pins s σv H M _ xvs us Q I m rv px q
  | [.str _], px, q => exact c3_repr hr pins s σv H M _ xvs us Q I m rv px q
  | [.tup _], px, q => exact c3_repr hr pins s σv H M _ xvs us Q I m rv px q
  | [.lst _], px, q => exact c3_repr hr pins s σv H M _ xvs us Q I m rv px q
  | [.dct _], px, q => exact c3_repr hr pins s σv H M _ xvs us Q I m rv px q
  | [.ty _], px, q => exact c3_repr hr pins s σv H M _ xvs us Q I m rv px q
end
end L3
namespace L3
open PySem PySem.Spec PyProof.Rows L2
theorem ps3_setC {y : Str} {py spos : Pos} {iy : Nat} {X : Cx} {elt tg iter : Expr} {pos : Pos} {ifs : List Expr} {scope : Scope} {tns caps : List Str} {slots : List Nat} {ti : TI3} {g : TG3} {tt : TT3} {te : TE3}
    (hc : X.calm = true) (hi : PI3E X tg iter ti) (hkind : scope.kind = .function) (hcell : ∀ y ∈ scope.names, y.2 ≠ .cell)
    (hnames : ∀ y ∈ scope.names, y.2 = .local → scope.names.lookup y.1 = some .local)
    (hfree : ∀ y ∈ scope.names, y.2 = .free → X.env.kindOf y.1 = some .cell ∨ X.env.kindOf y.1 = some .free)
    (hcf : ∀ y ∈ caps, scope.names.lookup y = some .free) (hcaps : slots.map (fun j => X.N[j]?) = caps.map some)
    (hgk : ∀ d M Q (cs : Lo), g d (List.replicate tns.length none ++ cs) M Q → g d (List.replicate tns.length none ++ cs) M (fun σ' M' => σ'.drop tns.length = cs ∧ Q σ' M'))
    (hg : ∀ cl s₀ H₀ ex, PG3 (compCx X scope cl s₀ H₀ ex (tns ++ caps)) tg g)
    (ht : ∀ cl s₀ H₀ ex, PIfs (compCx X scope cl s₀ H₀ ex (tns ++ caps)) ifs tt) (he : ∀ cl s₀ H₀ ex, PE3 (compCx X scope cl s₀ H₀ ex (tns ++ caps)) elt te)
    (hN : X.N.Nodup) (hiy : X.N[iy]? = some y) (hy : Loc X.env.scope y) (hsw : swapsWith (.ListComp elt [⟨tg, iter, ifs, 0⟩] scope pos) (some (.Name y py)) spos.line X.env = pure true) (hf : X.fn y = true ∨ X.env.scope.names.lookup y = some .local)
    (hs : ∀ y, foldedSetIterable iter X.env y = pure y := by intro _; rfl) :
    PS3 X (.Assign [.Name y py] (.ListComp elt [⟨tg, iter, ifs, 0⟩] scope pos) spos) (tSet3 iy (tComp3 ti tns.length slots g tt te)) := by
  intro pins s σv H σ M T0 I hS hM h
  rw [exec_Assign_Name_used _ _ _ _ hsw]
  refine wpAny_bind (wpAny_standAt (wpAny_bind ?_))
  rw [arm_evalThenUse_ListComp]
  refine wpAny_bind ?_
  refine comp_core hc hi hkind hcell hnames hfree hcf hcaps hgk hg ht he hs (use := some (assign (.Name y py) X.env)) (F := fun p acc M => T0.nx (σ.set iy (some (.lst acc))) (mdel M p)) I hS hM h fun D C acc H5 M5 s6 m hn I7 c1 c2 c3 c4 c5 c6 st m5 hp hq => ?_
  obtain ⟨mF, rF, sF⟩ := Vs.frzL hp X.K H5 (.ref D) m5 .ref
  obtain ⟨oC, es, ep, hoC, hdC, rC⟩ := hn
  have pinC : Inv X (pins ++ [(C, oC)]) σv H5 s6 := I7.pins_of fun p hp => by
    rcases List.mem_append.mp hp with z | z
    · exact I7.pin p (List.mem_append_right _ z)
    · cases List.mem_singleton.mp z
      exact ⟨hoC, c1, c2, c3, fun v z => by rw [hdC] at z; cases z⟩
  show wpAny (model X.prog X.w) X.A (assign (.Name y py) X.env (.ref D)) _ X.xe s6
  refine wpAny_assign_Name (store_ok pinC hN hiy hy (v := .ref D) rfl (fun s7 I8 => ?_) hf)
  have hp8 := (I8.pin (C, oC) (List.mem_append_right _ (List.mem_append_right _ List.mem_cons_self))).1
  refine ⟨m, ⟨oC, es, ep, hp8, hdC, rC⟩, fun h' sb => wpAny_pure (wpAny_pure ?_)⟩
  have I9 : Inv X pins (σv.set iy (some (.ref D))) H5 { s7 with heap := h', toks := s7.toks } := I8.unpinned.turned (it := C) (fun b o hb e => (sb.2 b hb).trans e) c1 c2 (.inr c4) c5 c6
  exact ⟨_, _, mdel M5 D, H5, I9, st.less sF, mF, ((hS.mono st).mono ⟨fun _ _ h _ => h, fun b h => .inl (sF b h)⟩).set rF iy, hq⟩
theorem ps3_setCBE {X : Cx} {elt tg iter : Expr} {pos py spos : Pos} {y : Str} {ifs : List Expr} {scope : Scope} (iy : Nat) (tns caps : List Str) (slots : List Nat) {ti : TI3} {g : TG3} {tt : TT3} {te : TE3}
    (hc : X.calm = true) (hi : PI3E X tg iter ti) (hkind : scope.kind = .function) (hok : compOk X.env scope caps = true) (hcaps : slots.map (fun j => X.N[j]?) = caps.map some)
    (hgk : ∀ d M Q (cs : Lo), g d (List.replicate tns.length none ++ cs) M Q → g d (List.replicate tns.length none ++ cs) M (fun σ' M' => σ'.drop tns.length = cs ∧ Q σ' M'))
    (hg : ∀ cl s₀ H₀ ex, PG3 (compCx X scope cl s₀ H₀ ex (tns ++ caps)) tg g)
    (ht : ∀ cl s₀ H₀ ex, PIfs (compCx X scope cl s₀ H₀ ex (tns ++ caps)) ifs tt) (he : ∀ cl s₀ H₀ ex, PE3 (compCx X scope cl s₀ H₀ ex (tns ++ caps)) elt te)
    (hN : X.N.Nodup) (hiy : X.N[iy]? = some y) (hy : Loc X.env.scope y) (hf : X.fn y = true ∨ X.env.scope.names.lookup y = some .local)
    (hsw : swapsWith (.ListComp elt [⟨tg, iter, ifs, 0⟩] scope pos) (some (.Name y py)) spos.line X.env = pure true := by rfl)
    (hs : ∀ y, foldedSetIterable iter X.env y = pure y := by intro _; rfl) :
    PS3 X (.Assign [.Name y py] (.ListComp elt [⟨tg, iter, ifs, 0⟩] scope pos) spos) (tSet3 iy (tComp3 ti tns.length slots g tt te)) := by
  unfold compOk at hok
  rw [Bool.and_eq_true, List.all_eq_true, List.all_eq_true] at hok
  obtain ⟨h1, h2⟩ := hok
  refine ps3_setC hc hi hkind (fun y hy e => ?_) (fun y hy e => ?_) (fun y hy e => ?_) (fun y hy => ?_) hcaps hgk hg ht he hN hiy hy hsw hf hs
  · have := h1 y hy; rw [e] at this; cases this
  · have := h1 y hy
    rw [e] at this
    dsimp only at this
    split at this
    · assumption
    · cases this
  · have := h1 y hy
    rw [e] at this
    dsimp only at this
    split at this
    · exact .inl (by assumption)
    · exact .inr (by assumption)
    · cases this
  · have := h2 y hy
    split at this
    · assumption
    · cases this
theorem ps3_setCB {X : Cx} {elt tg iter : Expr} {pos py spos : Pos} {y : Str} {ifs : List Expr} {scope : Scope} (iy : Nat) (tns caps : List Str) (slots : List Nat) {ti : TI3} {g : TG3} {tt : TT3} {te : TE3}
    (hc : X.calm = true) (hi : PI3 X tg iter ti) (hkind : scope.kind = .function) (hok : compOk X.env scope caps = true) (hcaps : slots.map (fun j => X.N[j]?) = caps.map some)
    (hgk : ∀ d M Q (cs : Lo), g d (List.replicate tns.length none ++ cs) M Q → g d (List.replicate tns.length none ++ cs) M (fun σ' M' => σ'.drop tns.length = cs ∧ Q σ' M'))
    (hg : ∀ cl s₀ H₀ ex, PG3 (compCx X scope cl s₀ H₀ ex (tns ++ caps)) tg g)
    (ht : ∀ cl s₀ H₀ ex, PIfs (compCx X scope cl s₀ H₀ ex (tns ++ caps)) ifs tt) (he : ∀ cl s₀ H₀ ex, PE3 (compCx X scope cl s₀ H₀ ex (tns ++ caps)) elt te)
    (hN : X.N.Nodup) (hiy : X.N[iy]? = some y) (hy : Loc X.env.scope y) (hf : X.fn y = true ∨ X.env.scope.names.lookup y = some .local)
    (hsw : swapsWith (.ListComp elt [⟨tg, iter, ifs, 0⟩] scope pos) (some (.Name y py)) spos.line X.env = pure true := by rfl)
    (hs : ∀ y, foldedSetIterable iter X.env y = pure y := by intro _; rfl) :
    PS3 X (.Assign [.Name y py] (.ListComp elt [⟨tg, iter, ifs, 0⟩] scope pos) spos) (tSet3 iy (tComp3 ti tns.length slots g tt te)) :=
  ps3_setCBE iy tns caps slots hc hi.toE hkind hok hcaps hgk hg ht he hN hiy hy hf hsw hs
end L3
namespace K11
open PySem L2 L3 MK
mutual
def plB : Blk → List Int → Nat → List (List Int)
  | .nil, _, _ => []
  | .cons d r, ah, i => (ah ++ [(i : Int)]) :: (plD d (ah ++ [(i : Int)]) ++ plB r ah (i + 1))
def plD : Deed → List Int → List (List Int)
  | .mk _ bs, pl => plBs bs pl 0
def plBs : Bls → List Int → Nat → List (List Int)
  | .nil, _, _ => []
  | .cons b r, pl, j => plB b (pl ++ [(j : Int)]) 0 ++ plBs r pl (j + 1)
end
def plT (p : List Int) : D := .tup (p.map D.int)
end K11
namespace K11
open PySem L2 L3
abbrev N_blocks_of : List Str := ["deed"]
def t_blocks_of : TS3 :=
    (tSeq3 (tIfS3 (tTest3 (tOp3 rEq3 (tOp3 rIx3 (tVar3 0) (tC3 (.int 0))) (tC3 (.str "if")))) (tRet3 (tLst3 (tCons3 (tOp3 rIx3 (tVar3 0) (tC3 (.int 2))) (tCons3 (tOp3 rIx3 (tVar3 0) (tC3 (.int 3))) tNil3)))) tNext3)
    (tSeq3 (tIfS3 (tTest3 (tOp3 rEq3 (tOp3 rIx3 (tVar3 0) (tC3 (.int 0))) (tC3 (.str "while")))) (tRet3 (tLst3 (tCons3 (tOp3 rIx3 (tVar3 0) (tC3 (.int 2))) tNil3))) tNext3)
    (tSeq3 (tIfS3 (tTest3 (tOp3 rEq3 (tOp3 rIx3 (tVar3 0) (tC3 (.int 0))) (tC3 (.str "try")))) (tRet3 (tOp3 rAdd3 (tOp3 rAdd3 (tLst3 (tCons3 (tOp3 rIx3 (tVar3 0) (tC3 (.int 1))) tNil3)) (tComp3 (iTup3 (tOp3 rIx3 (tVar3 0) (tC3 (.int 2)))) 3 [] (gTup3 [0, 1, 2]) tTrue3 (tVar3 2))) (tLst3 (tCons3 (tOp3 rIx3 (tVar3 0) (tC3 (.int 3))) tNil3)))) tNext3)
    (tRet3 (tLst3 tNil3)))))
theorem st_blocks_of (d0 : D) : start3 N_blocks_of [d0] = [some d0] := rfl
end K11
namespace MK
open PySem L2 L3
structure Sm (w n : Nat) (d : D) : Prop where
  pl : plain d = true
  sh : (pyD d).showable = true
  nd : (pyD d).hasDict = false
  lf : (pyD d).leavesShort 40 = true
  wt : (pyD d).weight ≤ w
  dp : (pyD d).depth ≤ n
  cl : (pyD d).canLay0 = true
structure SmL (w n : Nat) (ds : List D) : Prop where
  pl : plains ds = true
  sh : PyData.showableAll (pyDs ds) = true
  nd : PyData.hasDictAll (pyDs ds) = false
  lf : PyData.leavesShortAll 40 (pyDs ds) = true
  wt : PyData.weightAll (pyDs ds) ≤ w
  dp : PyData.depthAll (pyDs ds) ≤ n
  cl : PyData.canLayAll0 (pyDs ds) = true
theorem SmL.nil {w n : Nat} : SmL w n [] := ⟨rfl, rfl, rfl, rfl, Nat.zero_le _, Nat.zero_le _, rfl⟩
theorem SmL.cons {w v n : Nat} {d : D} {ds : List D} (a : Sm w n d) (b : SmL v n ds) {u : Nat} (h : w + 1 + v ≤ u := by lia) : SmL u n (d :: ds) := by
  refine ⟨?_, ?_, ?_, ?_, ?_, ?_, ?_⟩
  · simp only [plains, a.pl, b.pl]; rfl
  · simp only [pyDs, PyData.showableAll, a.sh, b.sh]; rfl
  · simp only [pyDs, PyData.hasDictAll, a.nd, b.nd]; rfl
  · simp only [pyDs, PyData.leavesShortAll, a.lf, b.lf]; rfl
  · have := a.wt; have := b.wt; simp only [pyDs, PyData.weightAll]; lia
  · have := a.dp; have := b.dp; simp only [pyDs, PyData.depthAll]; lia
  · simp only [pyDs, PyData.canLayAll0, a.cl, b.cl]; rfl
theorem Sm.tup {w n m : Nat} {ds : List D} (a : SmL w n ds) (h : n + 1 ≤ m := by lia) : Sm w m (.tup ds) := by
  refine ⟨by simpa [L3.plain] using a.pl, by simpa [pyD, PyData.showable] using a.sh, by simpa [pyD, PyData.hasDict] using a.nd, by simpa [pyD, PyData.leavesShort] using a.lf, by simpa [pyD, PyData.weight] using a.wt, ?_, by simpa [pyD, PyData.canLay0] using a.cl⟩
  have := a.dp
  simp only [pyD, PyData.depth]; lia
theorem Sm.mono {w v n m : Nat} {d : D} (a : Sm w n d) (h1 : w ≤ v := by lia) (h2 : n ≤ m := by lia) : Sm v m d := ⟨a.pl, a.sh, a.nd, a.lf, Nat.le_trans a.wt h1, Nat.le_trans a.dp h2, a.cl⟩
theorem SmL.mono {w v n m : Nat} {d : List D} (a : SmL w n d) (h1 : w ≤ v := by lia) (h2 : n ≤ m := by lia) : SmL v m d := ⟨a.pl, a.sh, a.nd, a.lf, Nat.le_trans a.wt h1, Nat.le_trans a.dp h2, a.cl⟩
theorem SmL.app {w v n : Nat} : ∀ {ds es : List D}, SmL w n ds → SmL v n es → SmL (w + v) n (ds ++ es)
  | [], es, a, b => b.mono
  | d :: ds, es, a, b => by
    have h1 : Sm (pyD d).weight n d := by
      have := a.pl; have h2 := a.sh; have h3 := a.nd; have h4 := a.lf; have h5 := a.dp; have h6 := a.cl
      simp only [plains, pyDs, PyData.showableAll, PyData.hasDictAll, PyData.leavesShortAll, PyData.depthAll, PyData.canLayAll0, Bool.and_eq_true, Bool.or_eq_false_iff] at *
      exact ⟨this.1, h2.1, h3.1, h4.1, Nat.le_refl _, by lia, h6.1⟩
    have h2 : SmL (w - (pyD d).weight - 1) n ds := by
      have := a.pl; have h2 := a.sh; have h3 := a.nd; have h4 := a.lf; have h5 := a.dp; have h6 := a.cl; have h7 := a.wt
      simp only [plains, pyDs, PyData.showableAll, PyData.hasDictAll, PyData.leavesShortAll, PyData.depthAll, PyData.canLayAll0, PyData.weightAll, Bool.and_eq_true, Bool.or_eq_false_iff] at *
      exact ⟨this.2, h2.2, h3.2, h4.2, by lia, by lia, h6.2⟩
    have h7 := a.wt
    simp only [pyDs, PyData.weightAll] at h7
    exact SmL.cons h1 (SmL.app h2 b)
theorem Sm.show {w n : Nat} {d : D} (a : Sm w n d) (hw : w ≤ 399000 := by lia) (hn : n ≤ 60 := by lia) : shOk d := by
  refine ⟨a.pl, a.sh, a.nd, Nat.le_trans a.dp hn, ?_⟩
  have h1 := PyData.shown_le 40 (by decide) _ a.lf
  have h2 : (40 + 2) * (pyD d).weight ≤ 42 * 399000 := Nat.mul_le_mul (by decide) (Nat.le_trans a.wt hw)
  rw [sizeLine_eq]; lia
theorem Sm.str {x : Str} (h : (x.cps.toList.all fun c => decide (c < 1114112)) = true) (w : Nat) (hw : x.length ≤ w) : Sm w 0 (.str x) := by
  have hs : PyData.strOk x = true := by
    unfold PyData.strOk
    rw [List.all_eq_true] at h
    rw [Array.all_eq_true']
    intro c hc
    exact h c (Array.mem_toList_iff.mpr hc)
  refine ⟨rfl, by simpa [pyD, PyData.showable] using hs, rfl, ?_, ?_, by simp [pyD, PyData.depth], by simpa [pyD, PyData.canLay0] using hs⟩
  · simp only [pyD, PyData.leavesShort]
    rw [List.all_eq_true] at h ⊢
    intro c hc
    have := h c hc
    simp at this ⊢
    lia
  · simp only [pyD, PyData.weight]; exact hw
theorem Sm.nm {x : Str} (h : nm x) : Sm 8 0 (.str x) := Sm.str (by
  rw [List.all_eq_true]
  intro c hc
  have := h.1 c hc
  simp; lia) 8 h.2.2
theorem int_short40 {n : Int} (h : bnd n) : (PyData.shown (.int n)).length ≤ 40 := by
  have hn : n.natAbs < 10 ^ 30 := by unfold bnd ten30 at h; lia
  have e := int_text_length_le10 (k := 30) (by decide) hn
  show (Str.ofString (toString n)).length ≤ 40
  rw [ofString_length]; lia
theorem Sm.int {n : Int} (h : bnd n) : Sm 101 0 (.int n) := by
  have hn : n.natAbs < 2 ^ 100 := by unfold bnd ten30 at h; lia
  have h2 : n.natAbs.log2 < 100 := by
    by_cases h0 : n.natAbs = 0
    · rw [h0]; decide +kernel
    · exact (Nat.log2_lt h0).mpr hn
  refine ⟨rfl, by simp [pyD, PyData.showable]; lia, rfl, ?_, ?_, by simp [pyD, PyData.depth], by simp [pyD, PyData.canLay0]⟩
  · simp only [pyD, PyData.leavesShort, decide_eq_true_eq]; exact int_short40 h
  · simp only [pyD, PyData.weight]; split <;> lia
theorem sgn_Sm {s : Str} (h : sgn s) : Sm 1 0 (.str s) := by
  rcases h with rfl | rfl | rfl | rfl | rfl <;> exact Sm.str (by decide +kernel) 1 (by decide +kernel)
mutual
theorem eD_Sm : ∀ (e : Ex), wf e → Sm (130 * nd e) (2 * dp e) (eD e)
  | .none, _ => Sm.tup (w := 130) (n := 0) (SmL.cons (Sm.str (by decide +kernel) 4 (by decide +kernel)) SmL.nil (v := 0)) (by simp [dp])
  | .num n, h => Sm.tup (w := 130) (n := 0) (SmL.cons (Sm.str (by decide +kernel) 6 (by decide +kernel)) (SmL.cons (Sm.int h) SmL.nil (v := 0) (u := 102))) (by simp [dp])
  | .var x, h => Sm.tup (w := 130) (n := 0) (SmL.cons (Sm.str (by decide +kernel) 3 (by decide +kernel)) (SmL.cons (Sm.nm h) SmL.nil (v := 0) (u := 102))) (by simp [dp])
  | .op s a b, h => by
    have ha := eD_Sm a h.2.1
    have hb := eD_Sm b h.2.2
    have e1 : nd (.op s a b) = 1 + nd a + nd b := rfl
    have e2 : dp (.op s a b) = 1 + max (dp a) (dp b) := rfl
    rw [e1, e2]
    exact Sm.tup (n := 2 * max (dp a) (dp b)) (SmL.cons ((Sm.str (by decide +kernel) 2 (by decide +kernel)).mono (v := 2)) (SmL.cons ((sgn_Sm h.1).mono (v := 1)) (SmL.cons (ha.mono (v := 130 * nd a)) (SmL.cons (hb.mono (v := 130 * nd b)) SmL.nil (v := 0) (u := 130 * nd b + 1)) (u := 130 * nd a + 130 * nd b + 2)) (u := 130 * nd a + 130 * nd b + 4)))
  | .make r as, h => by
    have ha := eDs_Sm as h.2.2
    have hl := h.2.1
    have e1 : nd (.make r as) = 1 + nds as := rfl
    have e2 : dp (.make r as) = 1 + dps as := rfl
    rw [e1, e2]
    exact Sm.tup (n := 2 * dps as + 1) (SmL.cons ((Sm.str (by decide +kernel) 4 (by decide +kernel)).mono (v := 4)) (SmL.cons ((Sm.nm h.1).mono (v := 8)) (SmL.cons (Sm.tup (m := 2 * dps as + 1) ha) SmL.nil (v := 0) (u := 130 * nds as + exl as + 1)) (u := 130 * nds as + exl as + 10)))
theorem eDs_Sm : ∀ (as : Exs), wfs as → SmL (130 * nds as + exl as) (2 * dps as) (eDs as)
  | .nil, _ => SmL.nil
  | .cons a r, h => by
    have ha := eD_Sm a h.1
    have hr := eDs_Sm r h.2
    have e1 : nds (.cons a r) = nd a + nds r := rfl
    have e2 : dps (.cons a r) = max (dp a) (dps r) := rfl
    have e3 : exl (.cons a r) = exl r + 1 := rfl
    rw [e1, e2, e3]
    exact SmL.cons (ha.mono (v := 130 * nd a)) (hr.mono (v := 130 * nds r + exl r))
end
theorem ex_Sm {d : D} (h : exOk d) : Sm 1170 8 d := by
  obtain ⟨e, rfl, h1, h2, h3⟩ := h
  exact (eD_Sm e h1).mono
theorem leaf_Sm {h : Str} {r : List D} (hl : LeafOk h r) : Sm 2500 9 (.tup (.str h :: r)) := by
  rcases hl with ⟨h1 | h1 | h1, x, e, rfl, hx, he⟩ | ⟨h1 | h1 | h1, e, rfl, he⟩ | ⟨h1, x, y, g, e, rfl, hx, hy, hg, he⟩ | ⟨h1, x, y, g, w, e, rfl, hx, hy, hw, hg, he⟩ | ⟨h1, rfl⟩ | ⟨h1, w, e, rfl, hw, he⟩
  · subst h1
    exact Sm.tup (n := 8) (SmL.cons ((Sm.str (by decide +kernel) 5 (by decide +kernel)).mono (v := 5)) (SmL.cons ((Sm.nm hx).mono (v := 8)) (SmL.cons (ex_Sm he) SmL.nil (v := 0) (u := 1171)) (u := 1180)))
  · subst h1
    exact Sm.tup (n := 8) (SmL.cons ((Sm.str (by decide +kernel) 5 (by decide +kernel)).mono (v := 5)) (SmL.cons ((Sm.nm hx).mono (v := 8)) (SmL.cons (ex_Sm he) SmL.nil (v := 0) (u := 1171)) (u := 1180)))
  · subst h1
    exact Sm.tup (n := 8) (SmL.cons ((Sm.str (by decide +kernel) 5 (by decide +kernel)).mono (v := 5)) (SmL.cons ((Sm.nm hx).mono (v := 8)) (SmL.cons (ex_Sm he) SmL.nil (v := 0) (u := 1171)) (u := 1180)))
  · subst h1
    exact Sm.tup (n := 8) (SmL.cons ((Sm.str (by decide +kernel) 5 (by decide +kernel)).mono (v := 5)) (SmL.cons (ex_Sm he) SmL.nil (v := 0) (u := 1171)))
  · subst h1
    exact Sm.tup (n := 8) (SmL.cons ((Sm.str (by decide +kernel) 5 (by decide +kernel)).mono (v := 5)) (SmL.cons (ex_Sm he) SmL.nil (v := 0) (u := 1171)))
  · subst h1
    exact Sm.tup (n := 8) (SmL.cons ((Sm.str (by decide +kernel) 5 (by decide +kernel)).mono (v := 5)) (SmL.cons (ex_Sm he) SmL.nil (v := 0) (u := 1171)))
  · subst h1
    exact Sm.tup (n := 8) (SmL.cons ((Sm.str (by decide +kernel) 5 (by decide +kernel)).mono (v := 5)) (SmL.cons ((Sm.nm hx).mono (v := 8)) (SmL.cons ((Sm.nm hy).mono (v := 8)) (SmL.cons (ex_Sm hg) (SmL.cons (ex_Sm he) SmL.nil (v := 0) (u := 1171)) (u := 2342)) (u := 2351)) (u := 2360)))
  · subst h1
    exact Sm.tup (n := 8) (SmL.cons ((Sm.str (by decide +kernel) 5 (by decide +kernel)).mono (v := 5)) (SmL.cons ((Sm.nm hx).mono (v := 8)) (SmL.cons ((Sm.nm hy).mono (v := 8)) (SmL.cons (ex_Sm hg) (SmL.cons ((Sm.nm hw).mono (v := 8)) (SmL.cons (ex_Sm he) SmL.nil (v := 0) (u := 1171)) (u := 1180)) (u := 2351)) (u := 2360)) (u := 2369)))
  · subst h1
    exact Sm.tup (n := 8) (SmL.cons ((Sm.str (by decide +kernel) 5 (by decide +kernel)).mono (v := 5)) SmL.nil (v := 0))
  · subst h1
    exact Sm.tup (n := 8) (SmL.cons ((Sm.str (by decide +kernel) 5 (by decide +kernel)).mono (v := 5)) (SmL.cons ((Sm.nm hw).mono (v := 8)) (SmL.cons (ex_Sm he) SmL.nil (v := 0) (u := 1171)) (u := 1180)))
theorem cat_Sm : ∀ (cs : List (Str × Str)) (ts : List D) (w n : Nat), (∀ c ∈ cs, nm c.1 ∧ nm c.2) → SmL w n ts → SmL (w + 30 * cs.length) (n + 1) (catD cs ts)
  | [], ts, w, n, _, _ => by cases ts <;> exact SmL.nil
  | (a, b) :: cs, [], w, n, _, _ => SmL.nil
  | (a, b) :: cs, t :: ts, w, n, hc, h => by
    have h1 : Sm (pyD t).weight n t := by
      have := h.pl; have h2 := h.sh; have h3 := h.nd; have h4 := h.lf; have h5 := h.dp; have h6 := h.cl
      simp only [plains, pyDs, PyData.showableAll, PyData.hasDictAll, PyData.leavesShortAll, PyData.depthAll, PyData.canLayAll0, Bool.and_eq_true, Bool.or_eq_false_iff] at *
      exact ⟨this.1, h2.1, h3.1, h4.1, Nat.le_refl _, by lia, h6.1⟩
    have h2 : SmL (w - (pyD t).weight - 1) n ts := by
      have := h.pl; have h2 := h.sh; have h3 := h.nd; have h4 := h.lf; have h5 := h.dp; have h6 := h.cl; have h7 := h.wt
      simp only [plains, pyDs, PyData.showableAll, PyData.hasDictAll, PyData.leavesShortAll, PyData.depthAll, PyData.canLayAll0, PyData.weightAll, Bool.and_eq_true, Bool.or_eq_false_iff] at *
      exact ⟨this.2, h2.2, h3.2, h4.2, by lia, by lia, h6.2⟩
    have h7 := h.wt
    simp only [pyDs, PyData.weightAll] at h7
    have h8 := cat_Sm cs ts _ n (fun c hc' => hc c (List.mem_cons_of_mem _ hc')) h2
    obtain ⟨ha, hb⟩ := hc (a, b) List.mem_cons_self
    show SmL _ _ (.tup [.str a, .str b, t] :: catD cs ts)
    exact SmL.cons (Sm.tup (w := (pyD t).weight + 19) (n := n) (SmL.cons ((Sm.nm ha).mono (v := 8)) (SmL.cons ((Sm.nm hb).mono (v := 8)) (SmL.cons h1 SmL.nil (v := 0) (u := (pyD t).weight + 1)) (u := (pyD t).weight + 10)))) h8 (by simp only [List.length_cons]; lia)
def sumB : List Blk → Nat
  | [] => 0
  | b :: l => 2600 * cntB b + 1 + sumB l
theorem sumB_app : ∀ (l k : List Blk), sumB (l ++ k) = sumB l + sumB k
  | [], k => by simp [sumB]
  | b :: l, k => by
    show 2600 * cntB b + 1 + sumB (l ++ k) = 2600 * cntB b + 1 + sumB l + sumB k
    rw [sumB_app l k]; lia
theorem sumB_toLs : ∀ bs : Bls, sumB (toLs bs) = 2600 * cntBs bs + bsl bs
  | .nil => rfl
  | .cons b r => by
    show 2600 * cntB b + 1 + sumB (toLs r) = 2600 * (cntB b + cntBs r) + (bsl r + 1)
    rw [sumB_toLs r]; lia
theorem mapB_Sm {n : Nat} : ∀ (l : List Blk), (∀ b ∈ l, SmL (2600 * cntB b) n (dB b)) → SmL (sumB l) (n + 1) (l.map tB)
  | [], _ => SmL.nil
  | b :: l, h => by
    show SmL (2600 * cntB b + 1 + sumB l) _ (tB b :: l.map tB)
    exact SmL.cons (Sm.tup (m := n + 1) (h b List.mem_cons_self)) (mapB_Sm l fun x hx => h x (List.mem_cons_of_mem _ hx))
mutual
theorem dD_Sm : ∀ (d : Deed), okD d → Sm (2600 * cntD d - 50) (10 + 4 * dpD d) (dD d)
  | .mk h bs, hk => by
    have hall := dTs_all bs hk.2
    have hs := sumB_toLs bs
    have hc : cntD (.mk h bs) = 1 + cntBs bs := rfl
    have hd : dpD (.mk h bs) = dpBs bs := rfl
    have hall2 : ∀ b ∈ toLs bs, SmL (2600 * cntB b) (6 + 4 * dpBs bs) (dB b) := fun b hb => (hall b hb).mono (h2 := by have := (mem_toLs bs b hb).2.1; lia)
    have hk1 := hk.1
    rw [hc, hd]
    show Sm _ _ (headD h (dTs bs))
    rw [dTs_eq]
    have hlen := toLs_len bs
    cases h with
    | leaf h r => exact (leaf_Sm hk1.2).mono
    | ife e =>
      have h0 := hk1.1
      exact Sm.tup (n := 8 + 4 * dpBs bs) (SmL.cons ((Sm.str (by decide +kernel) 2 (by decide +kernel)).mono (v := 2)) (SmL.cons ((ex_Sm hk1.2).mono (v := 1170)) ((mapB_Sm _ hall2).mono (v := sumB (toLs bs))) (u := 1171 + sumB (toLs bs))))
    | whl e =>
      have h0 := hk1.1
      exact Sm.tup (n := 8 + 4 * dpBs bs) (SmL.cons ((Sm.str (by decide +kernel) 5 (by decide +kernel)).mono (v := 5)) (SmL.cons ((ex_Sm hk1.2).mono (v := 1170)) ((mapB_Sm _ hall2).mono (v := sumB (toLs bs))) (u := 1171 + sumB (toLs bs))))
    | tr cs =>
      obtain ⟨h0, h1, h2⟩ := hk1
      obtain ⟨b0, ms, l, he, hml⟩ : ∃ b0 ms l, toLs bs = b0 :: (ms ++ [l]) ∧ ms.length = cs.length := by
        match e : toLs bs with
        | [] => rw [e] at hlen; simp at hlen; lia
        | b0 :: r =>
          rw [e] at hlen
          simp only [List.length_cons] at hlen
          have hne : r ≠ [] := by intro z; rw [z] at hlen; simp at hlen; lia
          exact ⟨b0, r.dropLast, r.getLast hne, by rw [List.dropLast_concat_getLast], by rw [List.length_dropLast]; lia⟩
      rw [he] at hall2 hs ⊢
      have ex : headD (.tr cs) ((b0 :: (ms ++ [l])).map tB) = .tup [.str "try", tB b0, .tup (catD cs (ms.map tB)), tB l] := by
        show D.tup [.str "try", tB b0, .tup (catD cs ((ms ++ [l]).map tB)), ((b0 :: (ms ++ [l])).map tB).getD (cs.length + 1) (.tup [])] = _
        rw [List.map_append, cat_more cs (ms.map tB) _ (by rw [List.length_map]; lia)]
        have hg : ((b0 :: (ms ++ [l])).map tB).getD (cs.length + 1) (.tup []) = tB l := by
          rw [← hml]
          simp [List.getD]
        rw [hg]
      rw [ex]
      have hb0 := hall2 b0 List.mem_cons_self
      have hl := hall2 l (by simp)
      have hms := mapB_Sm ms fun b hb => hall2 b (by simp [hb])
      have hcat := cat_Sm cs (ms.map tB) _ _ h2 hms
      have hsum : sumB (b0 :: (ms ++ [l])) = 2600 * cntB b0 + 1 + (sumB ms + (2600 * cntB l + 1 + 0)) := by
        show 2600 * cntB b0 + 1 + sumB (ms ++ [l]) = _
        rw [sumB_app]; rfl
      exact Sm.tup (n := 9 + 4 * dpBs bs) (SmL.cons ((Sm.str (by decide +kernel) 3 (by decide +kernel)).mono (v := 3)) (SmL.cons (Sm.tup (w := 2600 * cntB b0) (m := 9 + 4 * dpBs bs) hb0) (SmL.cons (Sm.tup (w := sumB ms + 30 * cs.length) (m := 9 + 4 * dpBs bs) hcat) (SmL.cons (Sm.tup (w := 2600 * cntB l) (m := 9 + 4 * dpBs bs) hl) SmL.nil (v := 0) (u := 2600 * cntB l + 1)) (u := sumB ms + 30 * cs.length + 2600 * cntB l + 2)) (u := 2600 * cntB b0 + sumB ms + 30 * cs.length + 2600 * cntB l + 3)))
theorem dB_Sm : ∀ (b : Blk), okB b → SmL (2600 * cntB b) (10 + 4 * dpB b) (dB b)
  | .nil, _ => SmL.nil
  | .cons d r, h => by
    have h1 := dD_Sm d h.1
    have h2 := dB_Sm r h.2
    have hc : cntB (.cons d r) = cntD d + cntB r := rfl
    have hd : dpB (.cons d r) = max (dpD d) (dpB r) := rfl
    have hp := cntD_pos d
    rw [hc, hd]
    show SmL _ _ (dD d :: dB r)
    exact SmL.cons (h1.mono (v := 2600 * cntD d - 50)) (h2.mono (v := 2600 * cntB r))
theorem dTs_all : ∀ (bs : Bls), okBs bs → ∀ b ∈ toLs bs, SmL (2600 * cntB b) (10 + 4 * dpB b) (dB b)
  | .nil, _, b, hb => by cases hb
  | .cons c r, h, b, hb => by
    rcases List.mem_cons.mp hb with e | hb
    · rw [e]; exact dB_Sm c h.1
    · exact dTs_all r h.2 b hb
end
theorem nms_Sm : ∀ (ys : List Str), (∀ y ∈ ys, nm y) → SmL (9 * ys.length) 0 (ys.map D.str)
  | [], _ => SmL.nil
  | y :: ys, h => by
    show SmL _ _ (.str y :: ys.map D.str)
    exact SmL.cons (Sm.nm (h y List.mem_cons_self)) (nms_Sm ys fun x hx => h x (List.mem_cons_of_mem _ hx)) (by simp only [List.length_cons]; lia)
theorem rule_Sm {deeds : Nat} {r : Rl} (h : rOk deeds r) : Sm (2600 * deeds + 100) 28 (rD r) := by
  obtain ⟨h1, h2, h3, h4, h5, h6, h7⟩ := h
  have hp := nms_Sm r.pars h3
  have hb := dB_Sm r.blk h4
  exact Sm.tup (n := 27) (SmL.cons ((Sm.nm h1).mono (v := 8)) (SmL.cons (Sm.tup (w := 27) (m := 27) (hp.mono (m := 26) (h1 := by lia))) (SmL.cons (Sm.tup (w := 2600 * deeds) (m := 27) (hb.mono (m := 26))) SmL.nil (v := 0) (u := 2600 * deeds + 1)) (u := 2600 * deeds + 30)))
theorem book_Sm {deeds : Nat} : ∀ (bk : List Rl), (∀ r ∈ bk, rOk deeds r) → SmL ((2600 * deeds + 101) * bk.length) 28 (bk.map rD)
  | [], _ => SmL.nil
  | r :: bk, h => by
    have h1 := rule_Sm (h r List.mem_cons_self)
    have h2 := book_Sm bk fun x hx => h x (List.mem_cons_of_mem _ hx)
    show SmL _ _ (rD r :: bk.map rD)
    refine SmL.cons h1 h2 ?_
    rw [List.length_cons, Nat.mul_add]; lia
end MK
open L3
local macro_rules | `(tactic| walk_at "r3") => `(tactic| first | (with_reducible first | refine rd_iEnum ?_ | refine rd_onEnumT ?_ | refine rd_onEnumL ?_) | walk_at "r2")
local macro_rules | `(tactic| walk_at "rd") => `(tactic| repeat walk_at "r3")
namespace K11
open PySem L2 L3 MK
theorem len_blocks_of : ∀ ds M Q, spInner ds M Q → ds.length = 1 := by rintro _ _ _ ⟨_, _, rfl, _⟩; rfl
theorem rd_blocks_of : ∀ ds M Q, spInner ds M Q → t_blocks_of { nx := fun _ M' => View Q .non M', rt := View Q } (start3 N_blocks_of ds) M := by
  rintro _ M Q ⟨h, bs, rfl, hh, q⟩
  have hl := dTs_len bs
  rw [st_blocks_of]
  unfold t_blocks_of
  show _
  change (tSeq3 _ _) _ [some (headD h (dTs bs))] M
  generalize dTs bs = ts at q hl
  cases h with
  | leaf h r =>
    obtain ⟨h0, hlf⟩ := hh
    obtain ⟨n1, n2, n3⟩ := leaf_ne hlf
    have hts : ts = [] := List.length_eq_zero_iff.mp (hl.trans h0)
    subst hts
    walk_at "rd"
    refine rd_ixT (d := .str h) (atI_nat (j := 0) rfl) ?_
    walk_at "rd"
    refine rd_iteFe n1 ?_
    walk_at "rd"
    refine rd_ixT (d := .str h) (atI_nat (j := 0) rfl) ?_
    walk_at "rd"
    refine rd_iteFe n2 ?_
    walk_at "rd"
    refine rd_ixT (d := .str h) (atI_nat (j := 0) rfl) ?_
    walk_at "rd"
    refine rd_iteFe n3 ?_
    walk_at "rd"
    exact View.of q
  | ife e =>
    obtain ⟨h0, _⟩ := hh
    obtain ⟨t0, t1, rfl⟩ : ∃ t0 t1, ts = [t0, t1] := by
      match ts, hl.trans h0 with
      | [a, b], _ => exact ⟨a, b, rfl⟩
    walk_at "rd"
    refine rd_ixT (d := .str "if") rfl ?_
    walk_at "rd"
    refine rd_iteTe (by decide +kernel) ?_
    walk_at "rd"
    refine rd_ixT (d := t0) rfl ?_
    walk_at "rd"
    refine rd_ixT (d := t1) rfl ?_
    walk_at "rd"
    exact View.of q
  | whl e =>
    obtain ⟨h0, _⟩ := hh
    obtain ⟨t0, rfl⟩ : ∃ t0, ts = [t0] := by
      match ts, hl.trans h0 with
      | [a], _ => exact ⟨a, rfl⟩
    walk_at "rd"
    refine rd_ixT (d := .str "while") rfl ?_
    walk_at "rd"
    refine rd_iteFe (by decide +kernel) ?_
    walk_at "rd"
    refine rd_ixT (d := .str "while") rfl ?_
    walk_at "rd"
    refine rd_iteTe (by decide +kernel) ?_
    walk_at "rd"
    refine rd_ixT (d := t0) rfl ?_
    walk_at "rd"
    exact View.of q
  | tr cs =>
    obtain ⟨h0, hcs, _⟩ := hh
    obtain ⟨t0, rest, rfl⟩ : ∃ t0 rest, ts = t0 :: rest := by
      match ts, hl.trans h0 with
      | a :: r, _ => exact ⟨a, r, rfl⟩
    have hr : rest.length = cs.length + 1 := by simpa [h0] using hl
    walk_at "rd"
    refine rd_ixT (d := .str "try") rfl ?_
    walk_at "rd"
    refine rd_iteFe (by decide +kernel) ?_
    walk_at "rd"
    refine rd_ixT (d := .str "try") rfl ?_
    walk_at "rd"
    refine rd_iteFe (by decide +kernel) ?_
    walk_at "rd"
    refine rd_ixT (d := .str "try") rfl ?_
    walk_at "rd"
    refine rd_iteTe (by decide +kernel) ?_
    walk_at "rd"
    refine rd_ixT (d := t0) rfl ?_
    walk_at "rd"
    refine rd_ixT (d := .tup (catD cs rest)) rfl ?_
    walk_at "rd"
    have e1 : catD cs rest = (catD cs rest).map id := by simp
    rw [e1]
    have hcl := cat_len cs rest
    refine comp_map (catD cs rest) id third (by rw [sizeLine_eq]; lia) ?_ ?_
    · intro d hd M2 R F _ hR
      obtain ⟨w, x, t, rfl⟩ := cat_mem cs rest d hd
      refine rd_gTup rfl ?_
      walk_at "rd"
      exact hR
    rw [cat_third cs rest (by lia)]
    refine rd_addL (by simp; rw [sizeLine_eq]; lia) ?_
    walk_at "rd"
    have hlast : ∃ l, rest[cs.length]? = some l := ⟨rest[cs.length], by simp⟩
    obtain ⟨l, hl2⟩ := hlast
    have e2 : (t0 :: rest).getD (cs.length + 1) (.tup []) = l := by simp [List.getD, hl2]
    refine rd_ixT (d := l) (by rw [← e2]; rfl) ?_
    walk_at "rd"
    refine rd_addL (by simp; rw [sizeLine_eq]; lia) ?_
    have e3 : [t0] ++ rest.take cs.length ++ [l] = t0 :: rest := by
      have : rest.take cs.length ++ [l] = rest := by
        have h5 := List.take_succ (l := rest) (i := cs.length)
        rw [hl2] at h5
        rw [show rest.take cs.length ++ [l] = rest.take cs.length ++ (some l).toList from rfl, ← h5, List.take_of_length_le (by lia)]
      rw [List.append_assoc, this]; rfl
    rw [e3]
    exact View.of q
def bdrop : Blk → Nat → Blk
  | b, 0 => b
  | .nil, _ + 1 => .nil
  | .cons _ r, k + 1 => bdrop r k
def bsdrop : Bls → Nat → Bls
  | b, 0 => b
  | .nil, _ + 1 => .nil
  | .cons _ r, k + 1 => bsdrop r k
theorem bdrop_zero (b : Blk) : bdrop b 0 = b := by cases b <;> rfl
theorem bsdrop_zero (b : Bls) : bsdrop b 0 = b := by cases b <;> rfl
theorem bdrop_get : ∀ (b : Blk) (k : Nat) (x : D), (dB b)[k]? = some x → ∃ d, d ∈ toL b ∧ x = dD d ∧ bdrop b k = .cons d (bdrop b (k + 1))
  | .nil, k, x, h => by simp [dB] at h
  | .cons d r, 0, x, h => by
    have h' : some (dD d) = some x := by simpa [dB] using h
    cases h'
    exact ⟨d, List.mem_cons_self, rfl, by rw [bdrop_zero]; show _ = Blk.cons d (bdrop r 0); rw [bdrop_zero]⟩
  | .cons d r, k + 1, x, h => by
    have h' : (dB r)[k]? = some x := by simpa [dB] using h
    obtain ⟨e, h1, h2, h3⟩ := bdrop_get r k x h'
    exact ⟨e, List.mem_cons_of_mem _ h1, h2, h3⟩
theorem bsdrop_get : ∀ (b : Bls) (k : Nat) (x : D), (dTs b)[k]? = some x → ∃ d, d ∈ toLs b ∧ x = .tup (dB d) ∧ bsdrop b k = .cons d (bsdrop b (k + 1))
  | .nil, k, x, h => by simp [dTs] at h
  | .cons d r, 0, x, h => by
    have h' : some (D.tup (dB d)) = some x := by simpa [dTs] using h
    cases h'
    exact ⟨d, List.mem_cons_self, rfl, by rw [bsdrop_zero]; show _ = Bls.cons d (bsdrop r 0); rw [bsdrop_zero]⟩
  | .cons d r, k + 1, x, h => by
    have h' : (dTs r)[k]? = some x := by simpa [dTs] using h
    obtain ⟨e, h1, h2, h3⟩ := bsdrop_get r k x h'
    exact ⟨e, List.mem_cons_of_mem _ h1, h2, h3⟩
theorem bdrop_all : ∀ b : Blk, bdrop b (dB b).length = .nil
  | .nil => rfl
  | .cons d r => bdrop_all r
theorem bsdrop_all : ∀ b : Bls, bsdrop b (dTs b).length = .nil
  | .nil => rfl
  | .cons d r => bsdrop_all r
mutual
theorem plB_len : ∀ (b : Blk) (ah : List Int) (i : Nat), (plB b ah i).length = cntB b
  | .nil, ah, i => by simp [plB, cntB]
  | .cons d r, ah, i => by
    have h1 := plD_len d (ah ++ [(i : Int)])
    have h2 := plB_len r ah (i + 1)
    simp only [plB, cntB, List.length_cons, List.length_append, h2]
    lia
theorem plD_len : ∀ (d : Deed) (ah : List Int), (plD d ah).length + 1 = cntD d
  | .mk h bs, ah => by
    have h1 := plBs_len bs ah 0
    simp only [plD, cntD, h1]
    lia
theorem plBs_len : ∀ (bs : Bls) (ah : List Int) (j : Nat), (plBs bs ah j).length = cntBs bs
  | .nil, ah, j => by simp [plBs, cntBs]
  | .cons b r, ah, j => by
    have h1 := plB_len b (ah ++ [(j : Int)]) 0
    have h2 := plBs_len r ah (j + 1)
    simp only [plBs, cntBs, List.length_append, h1, h2]
end
theorem plT_app (p : List Int) (k : Nat) : plT (p ++ [(k : Int)]) = .tup (p.map D.int ++ [D.int (k : Nat)]) := by unfold plT; rw [List.map_append]; rfl
theorem View.onlyR {Q : DK} {f : Addr} {M M1 : Mem} (h : ∀ a, a ≠ f → M a ≠ none → M1 a = M a) (q : Q (.ref f) (fun a => if a = f then M1 f else M a)) : View Q (.ref f) M1 := View.only h q
theorem lex_cons (a : Int) (r s : List Int) : HT.lexLt (a :: r) (a :: s) = HT.lexLt r s := by
  rw [HT.lexLt]; simp
theorem lex_pre : ∀ (p : List Int) (x : Int) (r : List Int), HT.lexLt p (p ++ x :: r) = true
  | [], x, r => HT.lexLt.eq_2 x r
  | a :: p, x, r => by
    show HT.lexLt (a :: p) (a :: (p ++ x :: r)) = true
    rw [lex_cons]; exact lex_pre p x r
theorem lex_lt : ∀ (p : List Int) (i j : Int) (r s : List Int), i < j → HT.lexLt (p ++ i :: r) (p ++ j :: s) = true
  | [], i, j, r, s, h => by
    show HT.lexLt (i :: r) (j :: s) = true
    rw [HT.lexLt]
    rw [if_neg (by lia)]; simpa using h
  | a :: p, i, j, r, s, h => by
    show HT.lexLt (a :: (p ++ i :: r)) (a :: (p ++ j :: s)) = true
    rw [lex_cons]; exact lex_lt p i j r s h
def Pw (l : List (List Int)) : Prop := l.Pairwise fun p q => HT.lexLt p q = true
def Fr (ah : List Int) (i : Nat) (l : List (List Int)) : Prop := ∀ p ∈ l, ∃ (j : Nat) (r : List Int), i ≤ j ∧ p = ah ++ (j : Int) :: r
mutual
theorem plB_pw : ∀ (b : Blk) (ah : List Int) (i : Nat), Fr ah i (plB b ah i) ∧ Pw (plB b ah i)
  | .nil, ah, i => by simp only [plB]; exact ⟨(fun p h => by cases h), .nil⟩
  | .cons d r, ah, i => by
    obtain ⟨d1, d2⟩ := plD_pw d (ah ++ [(i : Int)])
    obtain ⟨r1, r2⟩ := plB_pw r ah (i + 1)
    have d1' : ∀ p ∈ plD d (ah ++ [(i : Int)]), ∃ (x : Int) (s : List Int), p = ah ++ (i : Int) :: (x :: s) := fun p hp => by
      obtain ⟨j, s, _, e⟩ := d1 p hp
      exact ⟨j, s, by rw [e]; simp⟩
    simp only [plB]
    refine ⟨fun p hp => ?_, ?_⟩
    · rcases List.mem_cons.mp hp with rfl | hp
      · exact ⟨i, [], Nat.le_refl _, rfl⟩
      · rcases List.mem_append.mp hp with hp | hp
        · obtain ⟨x, s, e⟩ := d1' p hp
          exact ⟨i, x :: s, Nat.le_refl _, e⟩
        · obtain ⟨j, s, hj, e⟩ := r1 p hp
          exact ⟨j, s, by lia, e⟩
    · refine List.Pairwise.cons (fun p hp => ?_) (List.pairwise_append.mpr ⟨d2, r2, fun p hp p' hp' => ?_⟩)
      · rcases List.mem_append.mp hp with hp | hp
        · obtain ⟨j, s, _, e⟩ := d1 p hp
          rw [e]; exact lex_pre _ _ _
        · obtain ⟨j, s, hj, e⟩ := r1 p hp
          rw [e]; exact lex_lt ah i j [] s (by lia)
      · obtain ⟨x, s, e⟩ := d1' p hp
        obtain ⟨j, s', hj, e'⟩ := r1 p' hp'
        rw [e, e']
        exact lex_lt ah i j _ _ (by lia)
theorem plD_pw : ∀ (d : Deed) (pl : List Int), Fr pl 0 (plD d pl) ∧ Pw (plD d pl)
  | .mk h bs, pl => by simp only [plD]; exact plBs_pw bs pl 0
theorem plBs_pw : ∀ (bs : Bls) (pl : List Int) (j : Nat), Fr pl j (plBs bs pl j) ∧ Pw (plBs bs pl j)
  | .nil, pl, j => by simp only [plBs]; exact ⟨(fun p h => by cases h), .nil⟩
  | .cons b r, pl, j => by
    obtain ⟨b1, b2⟩ := plB_pw b (pl ++ [(j : Int)]) 0
    obtain ⟨r1, r2⟩ := plBs_pw r pl (j + 1)
    have b1' : ∀ p ∈ plB b (pl ++ [(j : Int)]) 0, ∃ (x : Int) (s : List Int), p = pl ++ (j : Int) :: (x :: s) := fun p hp => by
      obtain ⟨k, s, _, e⟩ := b1 p hp
      exact ⟨k, s, by rw [e]; simp⟩
    simp only [plBs]
    refine ⟨fun p hp => ?_, List.pairwise_append.mpr ⟨b2, r2, fun p hp p' hp' => ?_⟩⟩
    · rcases List.mem_append.mp hp with hp | hp
      · obtain ⟨x, s, e⟩ := b1' p hp
        exact ⟨j, x :: s, Nat.le_refl _, e⟩
      · obtain ⟨k, s, hk, e⟩ := r1 p hp
        exact ⟨k, s, by lia, e⟩
    · obtain ⟨x, s, e⟩ := b1' p hp
      obtain ⟨k, s', hk, e'⟩ := r1 p' hp'
      rw [e, e']
      exact lex_lt pl j k _ _ (by lia)
end
def Bn (n : Nat) (p : List Int) : Prop := p.length ≤ n ∧ ∀ x ∈ p, 0 ≤ x ∧ x ≤ 1000
theorem Bn.app {n : Nat} {p : List Int} (h : Bn n p) {k : Nat} (hk : k ≤ 1000) : Bn (n + 1) (p ++ [(k : Int)]) := by
  refine ⟨by have := h.1; simp; exact this, fun x hx => ?_⟩
  rcases List.mem_append.mp hx with z | z
  · exact h.2 x z
  · have := List.mem_singleton.mp z
    lia
theorem Bn.mono {n m : Nat} {p : List Int} (h : Bn n p) (hn : n ≤ m) : Bn m p := ⟨Nat.le_trans h.1 hn, h.2⟩
mutual
theorem plB_bn : ∀ (b : Blk) (ah : List Int) (i n : Nat), okB b → i + cntB b ≤ 1000 → Bn n ah → ∀ p ∈ plB b ah i, Bn (n + 1 + 2 * dpB b) p
  | .nil, ah, i, n, _, _, _, p, hp => by simp only [plB] at hp; cases hp
  | .cons d r, ah, i, n, hk, hc, ha, p, hp => by
    have e1 : cntB (.cons d r) = cntD d + cntB r := rfl
    have e2 : dpB (.cons d r) = max (dpD d) (dpB r) := rfl
    have h1 := cntD_pos d
    simp only [plB] at hp
    rcases List.mem_cons.mp hp with rfl | hp
    · exact (ha.app (by lia)).mono (by lia)
    · rcases List.mem_append.mp hp with hp | hp
      · exact (plD_bn d (ah ++ [(i : Int)]) (n + 1) hk.1 (by lia) (ha.app (by lia)) p hp).mono (by lia)
      · exact (plB_bn r ah (i + 1) n hk.2 (by lia) ha p hp).mono (by lia)
theorem plD_bn : ∀ (d : Deed) (pl : List Int) (n : Nat), okD d → cntD d ≤ 1000 → Bn n pl → ∀ p ∈ plD d pl, Bn (n + 2 * dpD d) p
  | .mk h bs, pl, n, hk, hc, ha, p, hp => by
    have e1 : cntD (.mk h bs) = 1 + cntBs bs := rfl
    have e2 : dpD (.mk h bs) = dpBs bs := rfl
    have h5 := hOk_few hk.1
    simp only [plD] at hp
    exact plBs_bn bs pl 0 n hk.2 (by lia) (by lia) ha p hp
theorem plBs_bn : ∀ (bs : Bls) (pl : List Int) (j n : Nat), okBs bs → j + bsl bs ≤ 1000 → cntBs bs ≤ 1000 → Bn n pl → ∀ p ∈ plBs bs pl j, Bn (n + 2 * dpBs bs) p
  | .nil, pl, j, n, _, _, _, _, p, hp => by simp only [plBs] at hp; cases hp
  | .cons b r, pl, j, n, hk, hj, hc, ha, p, hp => by
    have e1 : cntBs (.cons b r) = cntB b + cntBs r := rfl
    have e2 : dpBs (.cons b r) = max (1 + dpB b) (dpBs r) := rfl
    have e3 : bsl (.cons b r) = bsl r + 1 := rfl
    simp only [plBs] at hp
    rcases List.mem_append.mp hp with hp | hp
    · exact (plB_bn b (pl ++ [(j : Int)]) 0 (n + 1) hk.1 (by lia) (ha.app (by lia)) p hp).mono (by lia)
    · exact (plBs_bn r pl (j + 1) n hk.2 (by lia) (by lia) ha p hp).mono (by lia)
end
theorem ints_Sm : ∀ (p : List Int), (∀ x ∈ p, 0 ≤ x ∧ x ≤ 1000) → SmL (102 * p.length) 0 (p.map D.int)
  | [], _ => SmL.nil
  | x :: p, h => by
    have hx := h x List.mem_cons_self
    show SmL _ _ (.int x :: p.map D.int)
    exact SmL.cons (Sm.int ⟨by unfold ten30; lia, by unfold ten30; lia⟩) (ints_Sm p fun y hy => h y (List.mem_cons_of_mem _ hy)) (by simp only [List.length_cons]; lia)
theorem rd_reprD {ds : List D} {M : Mem} {Q : DK} (h : shOk (.tup ds)) (q : Q (.str (pyD (.tup ds)).shown) M) : rReprM3 [.tup ds] M Q := ⟨h, q⟩
end K11
namespace L2
open PySem PySem.Spec PyProof.Rows
def Itr3 (lo c : Int) (n : Nat) : It := { go := fun i _ => i < n, yld := fun i H x H' => H' = H ∧ x = V.int (lo + (i : Nat) * c), stop := fun i _ => n ≤ i }
theorem turn_range3 {P : Program} {w : World} {K : PySem.W.Frag} {tg : Expr} (it : Addr) (lo c : Int) (n : Nat) : Turn P w K tg (Itr3 lo c n) [it] it (fun i h => IsRangeIter h it (lo + (i : Nat) * c) ((n : Int) - (i : Nat)) c) where
  mem := by simp
  obj := fun i h st b hb => by
    have e : b = it := by simpa using hb
    subst e
    exact ⟨_, st, fun v z => by
      have z' : Data.fields _ = Data.cell v := z
      cases z'⟩
  keep := fun i h h' st k => k it (by simp) _ st
  item := by
    intro X hP hw hK hc i pins s σ H E I hf st hg
    subst hP hw hK
    obtain ⟨f0, f1, f2, f3, f4, f5⟩ := hf it (by simp)
    have W := Walks.range (prog := X.prog) (w := X.w) (I.ok.hd hc) it lo c n
    refine W.item i s _ _ hg st fun v h' tk hv st' kk => ?_
    obtain ⟨t, rfl⟩ := hv
    have I1 : Inv X pins σ H { s with heap := h', toks := tk } := I.turned (fun b o hb e => kk b o (by simpa using hb) e) f0 f1 f3 f4 f5
    exact ⟨_, rfl, go_of (s := { s with heap := h', toks := tk }) (n := "range_iterator") st' rfl rfl (by decide) ⟨.int (lo + (i : Nat) * c), H, I1, ⟨t, rfl⟩, ⟨rfl, rfl⟩, st', fun b hb => (hf b hb).1⟩⟩
  done := by
    intro X hP hw hK hc i pins s σ H E I hf st hg
    subst hP hw hK
    obtain ⟨f0, f1, f2, f3, f4, f5⟩ := hf it (by simp)
    exact wpAny_pyNext_range_end (I.ok.hd hc) st (by have : n ≤ i := hg; lia) fun h' eb => ⟨rfl, I.turned (t' := s.toks) (fun b o hb e => eb b o hb e) f0 f1 f3 f4 f5⟩
  self := fun _ _ _ _ _ st h => wpAny_pyIter_rangeiter st h
section
variable {X : Cx} {tg : Expr}
theorem range_it3 {pins : List (Addr × Obj)} {σ : St} {H : Hp} {s : Shared} {R : It → Hp → Prop} {E : Value → Shared → Prop} {lo hi c : Int} {t u v : Tok} {tk : Nat} (I : Inv X pins σ H s) (hs : Builtin.Range.small lo hi c = true) (h0 : 0 ≤ Builtin.Range.rangeSize lo hi c)
    (q : R (Itr3 lo c (Builtin.Range.rangeSize lo hi c).toNat) H) : wpAny (model X.prog X.w) X.A (pyIter (.ref s.heap.objs.size)) (PIE X pins σ tg R) E { s with heap := s.heap.push { cls := .type "range", data := .fields #[.int lo t, .int hi u, .int c v] }, toks := tk } := by
  refine wpAny_pyIter_range (IsRange.new ..) hs ?_
  have I1 : Inv X pins σ H { s with heap := s.heap.push { cls := .type "range", data := .fields #[.int lo t, .int hi u, .int c v] }, toks := tk } := I.kept fun b o e => Heap.get?_push_of_some _ e
  refine ⟨(s.heap.push { cls := .type "range", data := .fields #[.int lo t, .int hi u, .int c v] }).objs.size, [(s.heap.push { cls := .type "range", data := .fields #[.int lo t, .int hi u, .int c v] }).objs.size], _, _, H, rfl,
    I1.kept (t' := tk) fun b o e => Heap.get?_push_of_some _ e, turn_range3 _ lo c (Builtin.Range.rangeSize lo hi c).toNat, ?_, fun b hb => ?_, q⟩
  · have e1 : lo + ((0 : Nat) : Int) * c = lo := by simp
    have e2 : (((Builtin.Range.rangeSize lo hi c).toNat : Nat) : Int) - ((0 : Nat) : Int) = Builtin.Range.rangeSize lo hi c := by lia
    show IsRangeIter _ _ (lo + ((0 : Nat) : Int) * c) ((((Builtin.Range.rangeSize lo hi c).toNat : Nat) : Int) - ((0 : Nat) : Int)) c
    rw [e1, e2]
    exact Heap.get?_push_size _ rfl
  · have e : b = (s.heap.push { cls := .type "range", data := .fields #[.int lo t, .int hi u, .int c v] }).objs.size := by simpa using hb
    subst e
    exact I1.fpOk (Nat.le_refl _) (I1.hok.fresh (Nat.le_refl _))
def iRng3V (ta : TA) : TI := fun σ H R => ta σ H fun vs H1 => ∃ i j c : Int, vs = [.int i, .int j, .int c] ∧ (c ≠ 0 ∧ Builtin.divisionGoesByPylong (j - i) c = false ∧ Builtin.Range.small i j c = true ∧ 0 ≤ Builtin.Range.rangeSize i j c) ∧ R (Itr3 i c (Builtin.Range.rangeSize i j c).toNat) H1
theorem pi_range3 {a b c : Expr} {ta : TA} {p pos : Pos} (hg : Gl X "range") (hm : X.mg "range" = none) (ha : PA X [a, b, c] ta) (hs : starEach [a, b, c] X.env = (false, eval a X.env) :: starEach [b, c] X.env := by rfl) (hs2 : ((backTo pos (starEach [b, c] X.env)).any (·.1)) = false := by rfl) :
    PI X tg (.Call (.Name "range" p) [a, b, c] [] pos) (iRng3V ta) := by
  intro pins s σ H R I h
  refine Call_ (ld_blt I hg hm boot_range (PyProof.Rows.callWith_type1 (thn (ha pos pins s σ H _ I h) fun us s1 ⟨vs, H1, I1, r1, q1⟩ => ?_) hs hs2))
  obtain ⟨i, j, c, e, ⟨q1, q2, q3, q4⟩, q⟩ := q1
  subst e
  cases r1 with
  | cons r rr =>
    cases rr with
    | cons r' rr =>
      cases rr with
      | cons r'' rr =>
        cases rr
        obtain ⟨t, rfl⟩ := r
        obtain ⟨t', rfl⟩ := r'
        obtain ⟨t'', rfl⟩ := r''
        exact call_range_3 q1 (range_it3 I1 q3 q4 q) (.inl q2)
end
end L2
namespace L3
open PySem PySem.Spec PyProof.Rows L2
section
variable {X : Cx} {a b c e : Expr} {t : TA3} {te : TE3} {p pos : Pos}
def iRng33 (ta : TA3) : TI3 := fun σ M R => ta σ M fun ds M1 => ∃ i j c : Int, ds = [.int i, .int j, .int c] ∧ (c ≠ 0 ∧ Builtin.divisionGoesByPylong (j - i) c = false ∧ Builtin.Range.small i j c = true ∧ 0 ≤ Builtin.Range.rangeSize i j c) ∧ R ((List.range (Builtin.Range.rangeSize i j c).toNat).map fun k => D.int (i + (k : Nat) * c)) M1
theorem pi3_range3 {tg : Expr} (hg : Gl X "range") (hm : X.mg "range" = none) (ha : PA3 X [a, b, c] t) (hs : starEach [a, b, c] X.env = (false, eval a X.env) :: starEach [b, c] X.env := by rfl) (hs2 : ((backTo pos (starEach [b, c] X.env)).any (·.1)) = false := by rfl) :
    PI3 X tg (.Call (.Name "range" p) [a, b, c] [] pos) (iRng33 t) :=
  PI.weak (pi_range3 hg hm ha.dn hs hs2) fun σv H R2 hx0 => by
    obtain ⟨σ, M, R, hS, hM, h, k⟩ := hx0
    refine ⟨σ, M, _, hS, hM, h, fun ds vs M' H' st m r q => ?_⟩
    obtain ⟨i, j, c, rfl, ⟨h1, h2, h3, h4⟩, q⟩ := q
    cases r with
    | cons p1 r2 =>
      cases p1
      cases r2 with
      | cons p2 r3 =>
        cases p2
        cases r3 with
        | cons p3 r4 =>
        cases p3
        cases r4
        refine ⟨i, j, c, rfl, ⟨h1, h2, h3, h4⟩, k _ _ M' H' st m (fun M2 H2 s2 => ⟨fun n hn => ?_, fun n d x H3 hd hy => ?_, fun n hn => ?_⟩) q⟩
        · show n < (Builtin.Range.rangeSize i j c).toNat
          simpa using hn
        · obtain ⟨rfl, rfl⟩ := hy
          refine ⟨rfl, ?_⟩
          rw [List.getElem?_map] at hd
          cases e : (List.range (Builtin.Range.rangeSize i j c).toNat)[n]? with
          | none => rw [e] at hd; cases hd
          | some n' =>
            rw [e] at hd
            have en : n' = n := by
              rw [List.getElem?_range] at e
              · exact (Option.some.inj e).symm
              · have := (List.getElem?_eq_some_iff.mp e).1; simpa using this
            subst en
            cases hd
            exact .int
        · show (Builtin.Range.rangeSize i j c).toNat ≤ n
          simpa using hn
end
end L3
namespace HT
open PySem PySem.Spec PyProof.Rows
theorem fm_some {α β : Type} {f : α → Option β} {g : α → β} : ∀ l : List α, (∀ x ∈ l, f x = some (g x)) → l.filterMap f = l.map g
  | [], _ => rfl
  | x :: l, h => by rw [List.filterMap_cons, h x List.mem_cons_self, List.map_cons, fm_some l fun y hy => h y (List.mem_cons_of_mem _ hy)]
theorem pick_rev (its : Array Value) (f : Nat → Nat) (hf : ∀ k, k < its.size → f k = its.size - 1 - k) : ((List.range its.size).filterMap fun k => its[f k]?) = its.toList.reverse := by
  have h1 : ∀ x ∈ List.range its.size, its[f x]? = some (its.toList.reverse.getD x .none) := fun x hx => by
    have hx' : x < its.size := by simpa using hx
    have e2 : its.toList.reverse[x]? = its.toList[its.toList.length - 1 - x]? := List.getElem?_reverse (by simpa using hx')
    rw [hf x hx', List.getD, e2]
    have hlt : its.size - 1 - x < its.size := by lia
    simp [hlt]
  rw [fm_some _ h1]
  refine List.ext_getElem (by simp) fun i h2 h3 => ?_
  have h4 : its.toList.reverse[i]? = some its.toList.reverse[i] := List.getElem?_eq_getElem h3
  rw [List.getElem_map, List.getElem_range, List.getD, h4]
  rfl
section
variable {prog : Program} {w : World} {A : Around} {E : Value → Shared → Prop} {s : Shared}
theorem slicePick_rev (its : Array Value) : slicePick its none none (some (-1)) = its.toList.reverse.toArray := by
  have h1 : (sliceBounds none none (some (-1)) its.size) = ((its.size : Int) - 1, -1, -1) := rfl
  unfold slicePick
  rw [h1]
  show (List.filterMap (fun x => its[x]?) (sliceRange ((its.size : Int) - 1) (-1) (-1))).toArray = _
  have h2 : sliceRange ((its.size : Int) - 1) (-1) (-1) = (List.range its.size).map fun k => its.size - 1 - k := by
    unfold sliceRange
    have hc : ((if (-1 : Int) > 0 then if (its.size : Int) - 1 < -1 then (-1 - ((its.size : Int) - 1) + -1 - 1) / -1 else 0 else if (its.size : Int) - 1 > -1 then ((its.size : Int) - 1 - -1 - -1 - 1) / - -1 else 0)).toNat = its.size := by
      rw [if_neg (by decide)]
      split
      · have : ((its.size : Int) - 1 - -1 - -1 - 1) / - -1 = its.size := by
          have e : ((- -1 : Int)) = 1 := rfl
          rw [e, Int.ediv_one]; lia
        rw [this]; lia
      · lia
    simp only [hc]
    refine List.map_congr_left fun k hk => ?_
    have : k < its.size := by simpa using hk
    lia
  rw [h2, List.filterMap_map]
  congr 1
  exact pick_rev its _ fun k _ => rfl
theorem sliceApplied_rev {sl : Addr} {t : Tok} {n : Nat} {Q : Int × Int × Nat → Shared → Prop} (hs : s.heap.IsSliceOf sl .none .none (.int (-1) t))
    (h : Q ((n : Int) - 1, -1, n) s) : wpAny (model prog w) A (Builtin.Slice.sliceApplied (.ref sl) (pure (n : Int))) Q E s := by
  obtain ⟨os, hos, hcs, hds⟩ := id hs
  unfold Builtin.Slice.sliceApplied Builtin.Slice.sliceFields
  refine wpAny_bind (wpAny_bind (wpAny_field hos hds (x := .none) rfl (wpAny_bind (wpAny_field hos hds (x := .none) rfl (wpAny_bind (wpAny_field hos hds (x := .int (-1) t) rfl (wpAny_pure ?_)))))))
  refine wpAny_bind (slicePart_int ?_)
  show wpAny _ _ (if ((-1 : Int) == 0) = true then _ else _) _ _ s
  rw [if_neg (by decide)]
  refine wpAny_bind (slicePart_none (wpAny_bind (slicePart_none (wpAny_bind (wpAny_pure ?_)))))
  have e1 : Builtin.Slice.sliceAdjust none none (-1) (n : Int) = ((n : Int) - 1, -1) := rfl
  show wpAny _ _ (match Builtin.Slice.sliceAdjust none none (-1) (n : Int) with | (lo, hi) => pure (lo, (-1 : Int), Builtin.Slice.slicePlaces lo hi (-1))) _ _ s
  rw [e1]
  show wpAny _ _ (pure ((n : Int) - 1, (-1 : Int), Builtin.Slice.slicePlaces ((n : Int) - 1) (-1) (-1))) _ _ s
  have e2 : Builtin.Slice.slicePlaces ((n : Int) - 1) (-1) (-1) = n := by
    unfold Builtin.Slice.slicePlaces
    rw [if_neg (by decide)]
    split
    · have e : ((- -1 : Int)) = 1 := rfl
      rw [e, Int.ediv_one]; lia
    · lia
  rw [e2]
  exact wpAny_pure h
theorem getItem_tuple_rev {t sl : Addr} {items : Array Value} {tk : Tok} {Q : Value → Shared → Prop} (ht : IsTup s.heap t items) (hs : s.heap.IsSliceOf sl .none .none (.int (-1) tk))
    (h : Q (.ref s.heap.objs.size) { s with heap := s.heap.push { cls := .type "tuple", data := .seq items.toList.reverse.toArray } })
    (hsz : items.size ≤ sizeLine) : wpAny (model prog w) A (getItem (.ref t) (.ref sl)) Q E s := by
  have htake : sizeOk (.seq items.toList.reverse.toArray) := by
    show items.toList.reverse.toArray.size ≤ sizeLine
    rw [List.size_toArray, List.length_reverse, Array.length_toList]
    exact hsz
  obtain ⟨os, hos, hcs, hds⟩ := id hs
  have hTs : s.TypeIs (.ref sl) "slice" := ⟨os, hos, hcs⟩
  unfold getItem
  try with_reducible refine wpAny_holding ?_
  first | refine wpAny_bind (wpAny_pure ?_) | skip
  refine wpAny_bind (wpAny_sequenceKey ht.typeIs (by decide) ?_)
  refine wpAny_bind (wpAny_callSpecial?_slot (name := Str.ofString "__getitem__") ht.typeIs PyProof.Rows.slot_tuple_getitem
    (wpAny_call_entry PyProof.Rows.slot_tuple_getitem ht.typeIs entry_tuple_getitem ?_ (args_tuple_getitem _ _)))
  show wpAny _ _ (Builtin.Tuple.tupleItemsOf (.ref t) >>= _) _ _ s
  refine wpAny_bind (tupleItemsOf_ ht ?_)
  refine wpAny_bind (wpAny_typeOf hTs ?_)
  rw [if_pos (by decide)]
  refine wpAny_bind (sliceApplied_rev hs ?_)
  have hno : ¬ ((((items.size : Int) - 1 == 0 && (-1 : Int) == 1 && items.size == items.size)) = true) := by simp
  show wpAny _ _ (if ((items.size : Int) - 1 == 0 && (-1 : Int) == 1 && items.size == items.size) = true then _ else _) _ _ s
  have hp : ((List.range items.size).filterMap fun (m : Nat) => items[((items.size : Int) - 1 + (m : Int) * -1).toNat]?).toArray = items.toList.reverse.toArray := by
    congr 1
    exact pick_rev items _ fun k hk => by lia
  rw [if_neg hno, hp]
  first
    | exact wpAny_bind (m := Builtin.Tuple.tupleExact _) (wpAny_newObj_type (wpAny_pure ⟨_, rfl, wpAny_pure h⟩) htake)
    | exact wpAny_bind (m := Builtin.Tuple.tupleExact _) (wpAny_newObj_type (wpAny_bind (wpAny_pure (wpAny_pure ⟨_, rfl, wpAny_pure h⟩))) htake)
    | exact wpAny_bind (wpAny_bind (m := Builtin.Tuple.tupleExact _) (wpAny_newObj_type (wpAny_pure (wpAny_pure ⟨_, rfl, wpAny_pure h⟩)) htake))
    | exact wpAny_bind (wpAny_bind (m := Builtin.Tuple.tupleExact _) (wpAny_newObj_type (wpAny_pure ⟨_, rfl, wpAny_pure h⟩) htake))
end
end HT
namespace L3
open PySem PySem.Spec PyProof.Rows L2
theorem vals_rev : ∀ {xs : List V} {us : List Value}, Vals xs us → Vals xs.reverse us.reverse
  | _, _, .nil => .nil
  | _, _, .cons h r => by
    rw [List.reverse_cons, List.reverse_cons]
    exact (vals_rev r).append (.cons h .nil)
theorem Reps.rev {K : PySem.W.Frag} {M : Mem} {H : Hp} : ∀ {ds : List D} {vs : List V}, Reps K M H ds vs → Reps K M H ds.reverse vs.reverse
  | _, _, .nil => .nil
  | _, _, .cons h r => by
    rw [List.reverse_cons, List.reverse_cons]
    exact Reps.append (Reps.rev r) (.cons h .nil)
section
variable {X : Cx} {e st : Expr} {te : TE3} {ts : TO3} {pos p2 : Pos}
def rRev3 : D → Mem → DK → Prop := fun x M Q => match x with
  | .lst ds => Q (.lst ds.reverse) M
  | .tup ds => Q (.tup ds.reverse) M
  | _ => False
def tRev3 (te : TE3) (ts : TO3) : TE3 := fun σ M Q => te σ M fun x M1 => ts σ M1 fun o M2 => o = some (-1) ∧ rRev3 x M2 Q
theorem pe3_rev (he : PE3 X e te) (hst : PO3 X (some st) ts) : PE3 X (.Subscript e (.Slice none none (some st) p2) pos) (tRev3 te ts) := by
  intro pins s σv H σ M Q I hS hM h
  refine Subscript_ (thn (he pins s σv H σ M _ I hS hM h) fun v s1 ⟨x, xv, M1, H1, I1, st1, m1, rv1, p1, q1⟩ => ?_)
  refine wpAny_Slice ?_
  rw [evalPart_none]
  refine wpAny_pure ?_
  refine wpAny_pure ?_
  refine thn (hst pins s1 σv H1 σ M1 _ I1 (hS.mono st1) m1 q1) fun vs s2 hx0 => ?_
  obtain ⟨o, M2, H2, I2, st2, m2, ps, eo, q2⟩ := hx0
  subst eo
  cases ps with
  | int _ tk =>
  have I4 : Inv X pins σv H2 { s2 with heap := s2.heap.push { cls := .type "slice", data := .fields #[.none, .none, .int (-1) tk] } } := I2.kept (t' := s2.toks) fun b ob q => Heap.get?_push_of_some _ q
  have hsl : ({ s2 with heap := s2.heap.push { cls := .type "slice", data := .fields #[.none, .none, .int (-1) tk] } } : Shared).heap.IsSliceOf s2.heap.objs.size .none .none (.int (-1) tk) := Heap.IsSliceOf.new ..
  show wpAny (model X.prog X.w) X.A (subscriptTail e (.Slice none none (some st) p2) v (.ref s2.heap.objs.size)) (EP3 X pins σv M H Q) X.xe { s2 with heap := s2.heap.push { cls := .type "slice", data := .fields #[.none, .none, .int (-1) tk] } }
  have p3 := p1.mono st2
  generalize ({ s2 with heap := s2.heap.push { cls := .type "slice", data := .fields #[.none, .none, .int (-1) tk] } } : Shared) = s3 at I4 hsl ⊢
  cases x <;> first | exact (q2 : False).elim | skip
  · cases p3 with
    | tup h1 r =>
    rename_i vs'
    cases rv1
    obtain ⟨its, ri, ht, hz⟩ := I4.tuple (SqT.of3 h1)
    refine tail_any (ops := [_, .ref s2.heap.objs.size]) ht.typeIs PyProof.Rows.slot_tuple_getitem.lookup ?_ (by with_unfolding_all rfl)
    refine HT.getItem_tuple_rev ht hsl ?_ (by rw [List.size_toArray, ← ri.length]; exact hz)
    have hp : H2 s3.heap.objs.size = none := I4.hok.fresh (Nat.le_refl _)
    refine ⟨_, .ref s3.heap.objs.size, M2, _, I4.laid (t' := s3.toks) (o := .tup vs'.reverse) (fun b ob q => Heap.get?_push_of_some _ q) (Nat.le_refl _) ⟨by rw [List.length_reverse]; exact hz, _, vals_rev ri, IsTup.new _ _⟩, (st1.trans st2).trans (Step.lay hp), m2.lay hp, rfl, .tup (.inl ⟨.inl upd_same, m2.free hp⟩) ((Reps.rev r).mono (Step.lay hp)), q2⟩
  · cases p3 with
    | lst h1 r =>
    rename_i vs'
    cases rv1
    obtain ⟨its, ri, ht, hz⟩ := I4.list (SqL.of3 h1)
    refine tail_any (ops := [_, .ref s2.heap.objs.size]) ht.isList.typeIs slot_list_getitem.lookup ?_ (by with_unfolding_all rfl)
    refine wpAny_getItem_list_slice ht.isList hsl .none .none (.int _ _) (by simp) ?_ (by rw [List.size_toArray, ← ri.length]; exact hz)
    rw [HT.slicePick_rev]
    have hp : H2 s3.heap.objs.size = none := I4.hok.fresh (Nat.le_refl _)
    refine ⟨_, .ref s3.heap.objs.size, M2, _, I4.laid (t' := s3.toks) (o := .lst vs'.reverse) (fun b ob q => Heap.get?_push_of_some _ q) (Nat.le_refl _) ⟨by rw [List.length_reverse]; exact hz, _, 0, vals_rev ri, Heap.get?_push_size _ rfl⟩, (st1.trans st2).trans (Step.lay hp), m2.lay hp, rfl, .lst (.inl ⟨.inl upd_same, m2.free hp⟩) ((Reps.rev r).mono (Step.lay hp)), q2⟩
end
theorem pe3_compMB {X : Cx} {elt tg iter : Expr} {pos : Pos} {ifs : List Expr} {scope : Scope} (tns caps : List Str) (slots : List Nat) {ti : TI3} {g : TG3} {tt : TT3} {te : TE3}
    (hc : X.calm = true) (hi : PI3 X tg iter ti) (hkind : scope.kind = .function) (hok : compOk X.env scope caps = true) (hcaps : slots.map (fun j => X.N[j]?) = caps.map some)
    (hgk : ∀ d M Q (cs : Lo), g d (List.replicate tns.length none ++ cs) M Q → g d (List.replicate tns.length none ++ cs) M (fun σ' M' => σ'.drop tns.length = cs ∧ Q σ' M'))
    (hg : ∀ cl s₀ H₀ ex, PG3 (compCx X scope cl s₀ H₀ ex (tns ++ caps)) tg g)
    (ht : ∀ cl s₀ H₀ ex, PIfs (compCx X scope cl s₀ H₀ ex (tns ++ caps)) ifs tt) (he : ∀ cl s₀ H₀ ex, PE3 (compCx X scope cl s₀ H₀ ex (tns ++ caps)) elt te)
    (hs : ∀ y, foldedSetIterable iter X.env y = pure y := by intro _; rfl) :
    PE3 X (.ListComp elt [⟨tg, iter, ifs, 0⟩] scope pos) (tCompM3 ti tns.length slots g tt te) := by
  unfold compOk at hok
  rw [Bool.and_eq_true, List.all_eq_true, List.all_eq_true] at hok
  obtain ⟨h1, h2⟩ := hok
  refine pe3_compM0 hc hi hkind (fun y hy e => ?_) (fun y hy e => ?_) (fun y hy e => ?_) (fun y hy => ?_) hcaps hgk hg ht he hs
  · have := h1 y hy; rw [e] at this; cases this
  · have := h1 y hy
    rw [e] at this
    dsimp only at this
    split at this
    · assumption
    · cases this
  · have := h1 y hy
    rw [e] at this
    dsimp only at this
    split at this
    · exact .inl (by assumption)
    · exact .inr (by assumption)
    · cases this
  · have := h2 y hy
    split at this
    · assumption
    · cases this
end L3
namespace K12
open PySem L2 L3 MK K11
mutual
def prB : Blk → List Int → Nat → List (List Int × Deed)
  | .nil, _, _ => []
  | .cons d r, ah, i => (ah ++ [(i : Int)], d) :: (prD d (ah ++ [(i : Int)]) ++ prB r ah (i + 1))
def prD : Deed → List Int → List (List Int × Deed)
  | .mk _ bs, pl => prBs bs pl 0
def prBs : Bls → List Int → Nat → List (List Int × Deed)
  | .nil, _, _ => []
  | .cons b r, pl, j => prB b (pl ++ [(j : Int)]) 0 ++ prBs r pl (j + 1)
end
def prT (x : List Int × Deed) : D := .tup [plT x.1, dD x.2]
def headS : Head → Str
  | .leaf h _ => h
  | .ife _ => "if"
  | .whl _ => "while"
  | .tr _ => "try"
def nl : D → Nat
  | .tup xs => xs.length
  | _ => 0
def hasL : Deed → Bool
  | .mk (.tr cs) bs => decide (0 < nl ((dTs bs).getD (cs.length + 1) (.tup [])))
  | _ => false
def rFit (r : Rl) : Prop := okB r.blk ∧ dpB r.blk ≤ 4 ∧ cntB r.blk ≤ 100
def spPairs (n : Nat) : Sp3 := fun ds M Q => ∃ b ah, ds = [.tup (dB b), plT ah] ∧ okB b ∧ dpB b + 1 ≤ n ∧ cntB b ≤ 100 ∧ ah.length + 2 * n ≤ 30 ∧ ∀ a M', M a = none → M' a = some (.lst ((prB b ah 0).map prT)) → (∀ x, x ≠ a → M' x = M x) → Q (.ref a) M'
def spDeedAt : Sp3 := fun ds M Q => ∃ r p d, ds = [rD r, plT p] ∧ rFit r ∧ (p, d) ∈ prB r.blk [] 0 ∧ Q (dD d) M
def spTold (f : Deed → Bool) : Sp3 := fun ds M Q => ∃ d, ds = [dD d] ∧ okD d ∧ Q (.bl (f d)) M
end K12
namespace K12
open PySem L2 L3
abbrev N_deed_at : List Str := ["rule", "place", "deed", "at"]
def t_deed_at : TS3 :=
    (tSeq3 (tSet3 2 (tOp3 rIx3 (tOp3 rIx3 (tVar3 0) (tC3 (.int 2))) (tOp3 rIx3 (tVar3 1) (tC3 (.int 0)))))
    (tSeq3 (tFor3 (iRng33 (tCons3 (tC3 (.int 1)) (tCons3 (tCB3 rLen3 (tCons3 (tVar3 1) tNil3)) (tCons3 (tC3 (.int 2)) tNil3)))) 3 (tSet3 2 (tOp3 rIx3 (tOp3 rIx3 (tCall3 MK.spInner (tCons3 (tVar3 2) tNil3)) (tOp3 rIx3 (tVar3 1) (tVar3 3))) (tOp3 rIx3 (tVar3 1) (tOp3 rAdd3 (tVar3 3) (tC3 (.int 1)))))))
    (tRet3 (tVar3 2))))
theorem st_deed_at (d0 d1 : D) : start3 N_deed_at [d0, d1] = [some d0, some d1, none, none] := rfl
abbrev N_has_lasts : List Str := ["deed"]
def t_has_lasts : TS3 :=
    (tRet3 (tAndV3 (tOp3 rEq3 (tOp3 rIx3 (tVar3 0) (tC3 (.int 0))) (tC3 (.str "try"))) (tOp3 rGt3 (tCB3 rLen3 (tCons3 (tOp3 rIx3 (tVar3 0) (tC3 (.int 3))) tNil3)) (tC3 (.int 0)))))
theorem st_has_lasts (d0 : D) : start3 N_has_lasts [d0] = [some d0] := rfl
end K12
namespace L3
open PySem L2
theorem rd_revE {te : TE3} {ts : TO3} {σ : Lo} {M : Mem} {Q : DK} (h : te σ M fun x M1 => ts σ M1 fun o M2 => o = some (-1) ∧ rRev3 x M2 Q) : tRev3 te ts σ M Q := h
theorem rd_revL {ds : List D} {M : Mem} {Q : DK} (h : Q (.lst ds.reverse) M) : rRev3 (.lst ds) M Q := h
def CompMB (g : TG3) (tt : TT3) (te : TE3) (σ0 : Lo) (ds : List D) (M1 : Mem) (Q : DK) : Prop := ∀ p, M1 p = none → ∃ Pv : Nat → List D → Mem → Prop, Pv 0 [] (mput M1 p (.lst [])) ∧
  (∀ k d acc M, ds[k]? = some d → Pv k acc M → g d σ0 M fun σ' M0 => tt σ' M0 fun b M' =>
    if b = true then te σ' M' fun e M'' => M'' p = some (.lst acc) ∧ acc.length < sizeLine ∧ Pv (k + 1) (acc ++ [e]) (mput M'' p (.lst (acc ++ [e]))) else Pv (k + 1) acc M') ∧
  ∀ acc M, Pv ds.length acc M → M p = some (.lst acc) ∧ Q (.ref p) M
theorem rd_compM {ti : TI3} {n : Nat} {slots : List Nat} {g : TG3} {tt : TT3} {te : TE3} {σ : Lo} {M : Mem} {Q : DK} (h : ti σ M fun ds M1 => CompMB g tt te (List.replicate n none ++ slots.map fun j => (σ[j]?).getD none) ds M1 Q) : tCompM3 ti n slots g tt te σ M Q := h
end L3
open L3
local macro_rules | `(tactic| walk_at "r4") => `(tactic| first | (with_reducible first | refine rd_revE ?_ | refine rd_revL ?_ | refine rd_revT ?_ | refine rd_compM ?_) | walk_at "r3")
local macro_rules | `(tactic| walk_at "rd") => `(tactic| repeat walk_at "r4")
namespace K12
open PySem L2 L3 MK K11
mutual
theorem prB_fst : ∀ (b : Blk) (ah : List Int) (i : Nat), (prB b ah i).map Prod.fst = plB b ah i
  | .nil, ah, i => by simp only [prB, plB, List.map_nil]
  | .cons d r, ah, i => by simp only [prB, plB, List.map_cons, List.map_append, prD_fst d, prB_fst r]
theorem prD_fst : ∀ (d : Deed) (pl : List Int), (prD d pl).map Prod.fst = plD d pl
  | .mk h bs, pl => by simp only [prD, plD, prBs_fst bs]
theorem prBs_fst : ∀ (bs : Bls) (pl : List Int) (j : Nat), (prBs bs pl j).map Prod.fst = plBs bs pl j
  | .nil, pl, j => by simp only [prBs, plBs, List.map_nil]
  | .cons b r, pl, j => by simp only [prBs, plBs, List.map_append, prB_fst b, prBs_fst r]
end
theorem prB_len (b : Blk) (ah : List Int) (i : Nat) : (prB b ah i).length = cntB b := by rw [← plB_len b ah i, ← prB_fst, List.length_map]
inductive Go : Deed → List Int → Deed → Prop
  | nil {d : Deed} : Go d [] d
  | cons {h : Head} {bs : Bls} {j i : Nat} {b : Blk} {d' d : Deed} {r : List Int} : (toLs bs)[j]? = some b → (toL b)[i]? = some d' → Go d' r d → Go (.mk h bs) ((j : Int) :: (i : Int) :: r) d
mutual
theorem prB_go : ∀ (b : Blk) (ah : List Int) (i : Nat) (p : List Int) (d : Deed), (p, d) ∈ prB b ah i → ∃ (k : Nat) (r : List Int) (d0 : Deed), p = ah ++ ((i + k : Nat) : Int) :: r ∧ (toL b)[k]? = some d0 ∧ Go d0 r d
  | .nil, ah, i, p, d, h => by simp only [prB] at h; cases h
  | .cons x y, ah, i, p, d, h => by
    simp only [prB] at h
    rcases List.mem_cons.mp h with h | h
    · cases h
      exact ⟨0, [], x, rfl, rfl, .nil⟩
    · rcases List.mem_append.mp h with h | h
      · obtain ⟨r, e, g⟩ := prD_go x _ p d h
        exact ⟨0, r, x, by rw [e]; simp, rfl, g⟩
      · obtain ⟨k, r, d0, e, g, z⟩ := prB_go y ah (i + 1) p d h
        exact ⟨k + 1, r, d0, by rw [e, show i + 1 + k = i + (k + 1) by lia], g, z⟩
theorem prD_go : ∀ (d0 : Deed) (pl : List Int) (p : List Int) (d : Deed), (p, d) ∈ prD d0 pl → ∃ r : List Int, p = pl ++ r ∧ Go d0 r d
  | .mk h bs, pl, p, d, hm => by
    simp only [prD] at hm
    obtain ⟨m, k, r, b, d0, e, g1, g2, g⟩ := prBs_go bs pl 0 p d hm
    exact ⟨_, e, .cons (j := 0 + m) (by rw [Nat.zero_add]; exact g1) g2 g⟩
theorem prBs_go : ∀ (bs : Bls) (pl : List Int) (j : Nat) (p : List Int) (d : Deed), (p, d) ∈ prBs bs pl j → ∃ (m k : Nat) (r : List Int) (b : Blk) (d0 : Deed), p = pl ++ ((j + m : Nat) : Int) :: (k : Int) :: r ∧ (toLs bs)[m]? = some b ∧ (toL b)[k]? = some d0 ∧ Go d0 r d
  | .nil, pl, j, p, d, h => by simp only [prBs] at h; cases h
  | .cons x y, pl, j, p, d, h => by
    simp only [prBs] at h
    rcases List.mem_append.mp h with h | h
    · obtain ⟨k, r, d0, e, g, z⟩ := prB_go x _ 0 p d h
      exact ⟨0, k, r, x, d0, by rw [e]; simp, rfl, g, z⟩
    · obtain ⟨m, k, r, b, d0, e, g1, g2, g⟩ := prBs_go y pl (j + 1) p d h
      exact ⟨m + 1, k, r, b, d0, by rw [e, show j + 1 + m = j + (m + 1) by lia], g1, g2, g⟩
end
theorem Go.ok {d d' : Deed} {r : List Int} (g : Go d r d') : okD d → okD d' := by
  induction g with
  | nil => exact id
  | cons h1 h2 _ ih => exact fun hk => ih ((mem_toL _ _ (List.mem_of_getElem? h2)).2.2 ((mem_toLs _ _ (List.mem_of_getElem? h1)).2.2 hk.2))
theorem pr_ok {b : Blk} (hk : okB b) {p : List Int} {d : Deed} (h : (p, d) ∈ prB b [] 0) : okD d := by
  obtain ⟨k, r, d0, _, h1, g⟩ := prB_go b [] 0 p d h
  exact g.ok ((mem_toL _ _ (List.mem_of_getElem? h1)).2.2 hk)
theorem pr_len {r : Rl} (hr : rFit r) {p : List Int} {d : Deed} (h : (p, d) ∈ prB r.blk [] 0) : p.length ≤ 9 := by
  obtain ⟨h1, h2, h3⟩ := hr
  have hm : p ∈ plB r.blk [] 0 := by rw [← prB_fst]; exact List.mem_map_of_mem (f := Prod.fst) h
  have := (plB_bn r.blk [] 0 0 h1 (by lia) ⟨Nat.le_refl _, fun x hx => by cases hx⟩ p hm).1
  lia
theorem head0 (h : Head) (ts : List D) : ∃ rest, headD h ts = .tup (.str (headS h) :: rest) := by
  cases h <;> exact ⟨_, rfl⟩
theorem dTs_tup (bs : Bls) (k : Nat) : ∃ xs, (dTs bs).getD k (.tup []) = .tup xs := by
  rw [dTs_eq, List.getD, List.getElem?_map]
  cases (toLs bs)[k]? with
  | none => exact ⟨_, rfl⟩
  | some b => exact ⟨_, rfl⟩
theorem gt_dec (n : Nat) : decide ((0 : Int) < (n : Nat)) = decide (0 < n) := by
  rcases Nat.eq_zero_or_pos n with h | h
  · subst h; rfl
  · rw [decide_eq_true (by lia), decide_eq_true h]
theorem len_has_lasts : ∀ ds M Q, spTold hasL ds M Q → ds.length = 1 := by rintro _ _ _ ⟨_, rfl, _⟩; rfl
theorem rd_has_lasts : ∀ ds M Q, spTold hasL ds M Q → t_has_lasts { nx := fun _ M' => View Q .non M', rt := View Q } (start3 N_has_lasts ds) M := by
  rintro _ M Q ⟨d, rfl, hok, q⟩
  rw [st_has_lasts]
  unfold t_has_lasts
  cases d with
  | mk h bs =>
    have no : (headS h == ("try" : Str)) = false → hasL (.mk h bs) = false → (tRet3 (tAndV3 (tOp3 rEq3 (tOp3 rIx3 (tVar3 0) (tC3 (.int 0))) (tC3 (.str "try"))) (tOp3 rGt3 (tCB3 rLen3 (tCons3 (tOp3 rIx3 (tVar3 0) (tC3 (.int 3))) tNil3)) (tC3 (.int 0))))) { nx := fun _ M' => View Q .non M', rt := View Q } [some (dD (.mk h bs))] M := by
      intro e1 e2
      obtain ⟨rest, e⟩ := head0 h (dTs bs)
      have e' : dD (.mk h bs) = .tup (.str (headS h) :: rest) := e
      rw [e2] at q
      rw [e']
      walk_at "rd"
      refine rd_ixT (d := .str (headS h)) (atI_nat (j := 0) rfl) ?_
      walk_at "rd"
      rw [e1, if_neg Bool.false_ne_true]
      exact View.of q
    cases h with
    | leaf h r => exact no (leaf_ne hok.1.2).2.2 rfl
    | ife e => exact no (show ((("if" : Str)) == ("try" : Str)) = false by decide +kernel) rfl
    | whl e => exact no (show ((("while" : Str)) == ("try" : Str)) = false by decide +kernel) rfl
    | tr cs =>
      obtain ⟨xs, ex⟩ := dTs_tup bs (cs.length + 1)
      have q' : Q (.bl (decide (0 < nl ((dTs bs).getD (cs.length + 1) (.tup []))))) M := q
      have e' : dD (.mk (.tr cs) bs) = .tup [.str "try", (dTs bs).getD 0 (.tup []), .tup (catD cs (dTs bs).tail), .tup xs] := by rw [← ex]; rfl
      rw [ex] at q'
      rw [e']
      walk_at "rd"
      refine rd_ixT (d := .str "try") rfl ?_
      walk_at "rd"
      rw [show ((("try" : Str)) == ("try" : Str)) = true by decide +kernel]
      walk_at "rd"
      refine rd_ixT (d := .tup xs) rfl ?_
      walk_at "rd"
      rw [gt_dec]
      exact View.of q'
theorem rd_rng3 {tas : TA3} {σ : Lo} {M : Mem} {R : List D → Mem → Prop} (h : tas σ M fun ds M1 => ∃ i j c : Int, ds = [.int i, .int j, .int c] ∧ (c ≠ 0 ∧ Builtin.divisionGoesByPylong (j - i) c = false ∧ Builtin.Range.small i j c = true ∧ 0 ≤ Builtin.Range.rangeSize i j c) ∧ R ((List.range (Builtin.Range.rangeSize i j c).toNat).map fun k => D.int (i + (k : Nat) * c)) M1) : iRng33 tas σ M R := h
theorem rng_fit (n : Nat) (h : n ≤ 9) : Builtin.divisionGoesByPylong ((n : Int) - 1) 2 = false ∧ Builtin.Range.small 1 (n : Int) 2 = true ∧ 0 ≤ Builtin.Range.rangeSize 1 (n : Int) 2 := by
  have : n = 0 ∨ n = 1 ∨ n = 2 ∨ n = 3 ∨ n = 4 ∨ n = 5 ∨ n = 6 ∨ n = 7 ∨ n = 8 ∨ n = 9 := by lia
  rcases this with h | h | h | h | h | h | h | h | h | h <;> subst h <;> exact ⟨by decide +kernel, by decide +kernel, by decide +kernel⟩
theorem rng_size (n : Nat) : (Builtin.Range.rangeSize 1 (n : Int) 2).toNat = n / 2 := by
  unfold Builtin.Range.rangeSize
  rw [if_pos (by decide)]
  split <;> lia
theorem len_deed_at : ∀ ds M Q, spDeedAt ds M Q → ds.length = 2 := by rintro _ _ _ ⟨_, _, _, rfl, _⟩; rfl
theorem rd_deed_at : ∀ ds M Q, spDeedAt ds M Q → t_deed_at { nx := fun _ M' => View Q .non M', rt := View Q } (start3 N_deed_at ds) M := by
  rintro _ M Q ⟨r, p, d, rfl, hr, hm, q⟩
  have hpl := pr_len hr hm
  obtain ⟨k0, s0, d0, ep, h0, g0⟩ := prB_go r.blk [] 0 p d hm
  rw [st_deed_at]
  unfold t_deed_at
  walk_at "rd"
  refine rd_ixT (d := .tup (dB r.blk)) rfl ?_
  walk_at "rd"
  refine rd_ixT (d := .int (k0 : Nat)) (by rw [ep]; rw [Nat.zero_add]; exact atI_nat (j := 0) rfl) ?_
  walk_at "rd"
  refine rd_ixT (d := dD d0) (atI_nat (by rw [dB_eq, List.getElem?_map, h0]; rfl)) ?_
  walk_at "rd"
  refine rd_rng3 ?_
  walk_at "rd"
  obtain ⟨f1, f2, f3⟩ := rng_fit p.length hpl
  refine ⟨1, (p.length : Nat), 2, by rw [List.length_map], ⟨by decide, f1, f2, f3⟩, ?_⟩
  rw [rng_size]
  refine ⟨fun k σ M1 => M1 = M ∧ ∃ (d' : Deed) (pre rs : List Int) (s3 : Option D), σ = [some (rD r), some (plT p), some (dD d'), s3] ∧ p = pre ++ rs ∧ pre.length = 1 + 2 * k ∧ Go d' rs d ∧ okD d', ⟨rfl, d0, [((0 + k0 : Nat) : Int)], s0, _, rfl, by rw [ep]; rfl, rfl, g0, (mem_toL _ _ (List.mem_of_getElem? h0)).2.2 hr.1⟩, ?_, ?_⟩
  · rintro k x σ M1 hx ⟨rfl, d', pre, rs, s3, rfl, e1, e2, g, hok⟩
    have hk : k < p.length / 2 := by simpa using (List.getElem?_eq_some_iff.mp hx).1
    have hxk : x = .int (1 + (k : Nat) * 2) := by
      rw [List.getElem?_map, List.getElem?_range hk] at hx
      exact (Option.some.inj hx).symm
    subst hxk
    cases g with
    | nil =>
      exfalso
      rw [e1, List.append_nil] at hk
      lia
    | @cons h bs j i b d'' _ r' hj hi g' =>
    have hb1 : p[1 + 2 * k]? = some (j : Int) := by rw [e1, ← e2, List.getElem?_append_right (Nat.le_refl _), Nat.sub_self]; rfl
    have hb2 : p[1 + 2 * k + 1]? = some (i : Int) := by rw [e1, ← e2, List.getElem?_append_right (by lia), show pre.length + 1 - pre.length = 1 by lia]; rfl
    walk_at "rd"
    refine ⟨h, bs, rfl, hok.1, ?_⟩
    walk_at "rd"
    refine rd_ixT (d := .int (j : Nat)) (by rw [show (1 : Int) + (k : Nat) * 2 = ((1 + 2 * k : Nat) : Int) by lia]; exact atI_nat (by rw [List.getElem?_map, hb1]; rfl)) ?_
    refine rd_ixL (d := .tup (dB b)) (atI_nat (by rw [dTs_eq, List.getElem?_map, hj]; rfl)) ?_
    walk_at "rd"
    refine rd_ixT (d := .int (i : Nat)) (by rw [show (1 : Int) + (k : Nat) * 2 + 1 = ((1 + 2 * k + 1 : Nat) : Int) by lia]; exact atI_nat (by rw [List.getElem?_map, hb2]; rfl)) ?_
    refine rd_ixT (d := dD d'') (atI_nat (by rw [dB_eq, List.getElem?_map, hi]; rfl)) ?_
    walk_at "rd"
    exact ⟨rfl, d'', pre ++ [(j : Int), (i : Int)], r', _, rfl, by rw [e1]; simp, by simp [e2]; lia, g', (mem_toL _ _ (List.mem_of_getElem? hi)).2.2 ((mem_toLs _ _ (List.mem_of_getElem? hj)).2.2 hok.2)⟩
  · rintro σ M1 ⟨rfl, d', pre, rs, s3, rfl, e1, e2, g, hok⟩
    rw [List.length_map, List.length_range] at e2
    have hlen := congrArg List.length e1
    rw [List.length_append] at hlen
    cases g with
    | nil =>
      walk_at "rd"
      exact View.of q
    | cons _ _ _ => exfalso; simp only [List.length_cons] at hlen; lia
end K12
open L3
namespace K12
open PySem L2 L3 MK K11
theorem len__law_pairs : ∀ n ds M Q, spPairs n ds M Q → ds.length = 2 := by rintro _ _ _ _ ⟨_, _, rfl, _⟩; rfl
theorem zero__law_pairs : ∀ ds M Q, ¬ spPairs 0 ds M Q := by rintro _ _ _ ⟨_, _, rfl, _, h, _⟩; lia
theorem mdel_new {M M' : Mem} {a : Addr} (h : M a = none) (hs : ∀ x, x ≠ a → M' x = M x) : mdel M' a = M := funext fun x => by
  unfold mdel
  split
  · rename_i e; rw [e, h]
  · rename_i e; exact hs x e
end K12
namespace PySem
open Sem (wp)
namespace F
theorem dl_entry : entryFor table "dict.update.loop" = some Builtin.«dict.update.loop» := entryFor_of_tree (by kernel_rfl)
theorem dl_plain : plainId "dict.update.loop" = true := by decide +kernel
theorem dl_keys : typeLookup (.type "list") "keys" = pure none := by rw [typeLookup_type, builtinLookup_eq_fast]; kernel_rfl
end F
section
variable {prog : Program} {w : World} {A : Around} {E : Value → Shared → Prop} {s : Shared}
theorem getAttrQ_miss_list {a : Addr} {o : Obj} {xs : Array Value} {k : Nat} {name : Str} {Q : Option Value → Shared → Prop}
    (hx : s.heap.get? a = some o) (hc : o.cls = .type "list") (hdat : o.data = .seq xs k) (hd : o.dict = none) (hmiss : typeLookup (.type "list") name = pure none) (hname : (["__module__", "__name__", "__qualname__", "__doc__", "__annotations__"] : List Str).contains name = false) (hA : A.handled = none)
    (h : ∀ h' tk e, Heap.NewExcOf s.heap h' e "AttributeError" → Q none { s with heap := h', toks := tk }) (hsz : name.length + 100 ≤ sizeLine := by size_fits) :
    wpAny (model prog w) A (getAttr? (.ref a) name) Q E s := by
  obtain ⟨c, dct, dat, sl⟩ := o
  simp only at hc hdat hd
  subst hc hdat hd
  obtain ⟨hp, g, d, tk, os⟩ := s
  have hT : ∀ tk', (⟨hp, g, d, tk', os⟩ : Shared).TypeIs (.ref a) "list" := fun _ => ⟨_, hx, rfl⟩
  have f1 := sub_AttributeError
  have f3 := F.slot_list_getattribute.lookup
  have f4 := F.slot_list_getattribute.bind (.ref a)
  have f5 := am_list_getattr_none
  unfold getAttr? getAttrBy? getAttrBy
  repeat (any_goals (first | assumption | exact hT _ | ((with_reducible show wpAny _ _ (call (Value.builtin "list.__getattribute__") _ _) _ _ _); refine call_meets F.slot_list_getattribute (hT _) am_entry_list_getattribute (F.args_list_getattribute_2 _ _) (meets_getattribute_miss_list a xs k sl name _ hmiss hname hsz) ⟨hx, hA, fun h' tk' e hx' => ?_⟩) | wp_step))
  obtain ⟨t', u', he⟩ := hx'.there
  show wpAny _ _ (getattributeRaised _ _ _ _ _ _ _) _ _ _
  unfold getattributeRaised
  repeat (any_goals (first | assumption | wp_step))
  exact h _ _ _ hx'.of
end
end PySem
namespace PySem
open Sem (wp)
section
variable {prog : Program} {w : World} {K : Type} [DecidableEq K] {kk : KeyKind prog w K}
theorem IsTupleKey.at' {h h' : Heap} {ks : List K} {a : Addr} (x : IsTupleKey kk h ks a) (e : ∀ o, h.get? a = some o → h'.get? a = some o) : IsTupleKey kk h' ks a := by
  obtain ⟨o, items, n, ho, r⟩ := x
  exact ⟨o, items, n, e o ho, r⟩
theorem Heap.DictOfH.at' {h h' : Heap} {d : Addr} {xs : List (List K × Addr × Value)} (x : h.DictOfH (tupleKind kk) d xs) (e : ∀ o, h.get? d = some o → h'.get? d = some o) (hk : ∀ y ∈ xs, IsTupleKey kk h' y.1 y.2.1) : h'.DictOfH (tupleKind kk) d xs := by
  obtain ⟨o, es, ep, ho, hc, hd, he, his, hn⟩ := x
  exact ⟨o, es, ep, e o ho, hc, hd, he, hk, hn⟩
def PairAt (kk : KeyKind prog w K) (h : Heap) (x : List K × Addr × Value) (v : Value) : Prop :=
  ∃ t o n, v = .ref t ∧ h.get? t = some o ∧ o.cls = .type "tuple" ∧ o.data = .seq #[.ref x.2.1, x.2.2] n ∧ IsTupleKey kk h x.1 x.2.1
variable {A : Around} {R : Result → Shared → Prop} {I : Addr} {fp wr : List Addr} {G : Array GenState → Array GenState → Prop} {n : Nat} {P : Nat → Value → Prop} {St : Nat → Shared → Prop}
theorem codeAny_dict_loop (W : WalksS prog w A.in1 I fp wr G n P St) (d : Addr) (hdf : d ∉ fp) (hu : A.in1.units < cLine) (h0 : Heap) (hfar : ∀ b o, h0.get? b = some o → b ≠ d ∧ b ∉ wr)
    (ps : List (List K × Addr × Value)) (hps : ps.length = n) (hsz : n ≤ sizeLine) (hnd : (ps.map (·.1)).Nodup) (hall : ∀ y ∈ ps, IsTupleKey kk h0 y.1 y.2.1) (hval : ∀ i v, P i v → ∃ x, ps[i]? = some x ∧ PairAt kk h0 x v) :
    ∀ (k i : Nat) (j : Int) (tk : Tok) (s : Shared), n - i = k → i ≤ n → St i s → (∀ b o, h0.get? b = some o → s.heap.get? b = some o) → s.heap.DictOfH (tupleKind kk) d (ps.take i) →
      (∀ s', Moved (d :: wr) G s s' → s'.heap.DictOfH (tupleKind kk) d ps → R (.ok (.ret .none)) s') →
      codeAny (model prog w) A (.builtin "dict.update.loop" ⟨[.ref d, .ref I, .int j tk, .none], []⟩) R s := by
  have hSw : d ∉ wr := fun h => hdf (W.sub _ h)
  have hsub : ∀ b ∈ wr, b ∈ d :: wr := fun b hb => List.mem_cons_of_mem _ hb
  intro k
  induction k with
  | zero =>
    intro i j tk s hk hi hst hkeep hS hR
    have hin : i = n := by lia
    subst hin
    refine codeAny_builtin F.dl_entry ?_
    rw [Around.under_plainId F.dl_plain _]
    show wpAny _ A.in1 (pyNext (.ref I) >>= _) _ _ s
    refine wpAny_bind (W.done s _ _ hst fun s' hm => ?_)
    show wpAny _ A.in1 (Builtin.Dict.addKeywords d [] >>= fun _ => ret Value.none) _ _ s'
    refine wpAny_bind (wpAny_pure (wpAny_pure (hR s' (hm.mono hsub) ?_)))
    rw [← hps, List.take_length] at hS
    exact hS.at' (fun o e => hm.heap d o hSw e) fun y hy => (hall y hy).at' fun o e => hm.heap _ o (hfar _ o e).2 (hkeep _ o e)
  | succ k ih =>
    intro i j tk s hk hi hst hkeep hS hR
    have hlt : i < n := by lia
    refine codeAny_builtin F.dl_entry ?_
    rw [Around.under_plainId F.dl_plain _]
    show wpAny _ A.in1 (pyNext (.ref I) >>= _) _ _ s
    refine wpAny_bind (W.item i s _ _ hlt hst fun v s' hP hst' hm => ?_)
    obtain ⟨x, hx, t, o, nn, rfl, ht, hc, hd, hkey⟩ := hval i v hP
    have hk' : ∀ b o, h0.get? b = some o → s'.heap.get? b = some o := fun b o e => hm.heap b o (hfar b o e).2 (hkeep b o e)
    have hT : s'.TypeIs (.ref t) "tuple" := ⟨o, hk' _ _ ht, hc⟩
    have hS' : s'.heap.DictOfH (tupleKind kk) d (ps.take i) := hS.at' (fun o e => hm.heap d o hSw e) fun y hy => (hall y (List.mem_of_mem_take hy)).at' fun o e => hk' _ o e
    show wpAny _ A.in1 (holding [Value.ref t] _ >>= _) _ _ s'
    refine wpAny_bind (wpAny_holding ?_)
    refine wpAny_bind (wpAny_tryCatch ?_)
    unfold Builtin.Dict.pairItems
    refine wpAny_bind (wpAny_typeOf hT ?_)
    rw [if_pos (by decide)]
    refine wpAny_bind (wpAny_seqItems (hk' _ _ ht) hd (wpAny_pure ?_))
    show wpAny _ A.in1 (holding [Value.ref x.2.1, x.2.2] (dictSet d (.ref x.2.1) x.2.2)) _ _ s'
    refine wpAny_holding ?_
    refine wpAny_dictSet_heap (knd := tupleKind kk) (hsz := by rw [List.length_take]; lia) hu (hkey.at' fun o q => hk' _ o q) hS' fun h' hD hsb => ?_
    have hnew : atKey (ps.take i) x.1 = none := atKey_none_of_get fun jj p hj => by
      have hjl : jj < (ps.take i).length := (List.getElem?_eq_some_iff.mp hj).1
      rw [List.length_take] at hjl
      have hj2 : ps[jj]? = some (x.1, p) := by rw [← hj, List.getElem?_take_of_lt (by lia)]
      have := idxH_unique hnd hj2 (show ps[i]? = some (x.1, x.2) from hx)
      lia
    have hnext : storedH (ps.take i) x.1 x.2.1 x.2.2 = ps.take (i + 1) := by
      rw [storedH_new hnew, List.take_succ, hx]; rfl
    rw [hnext] at hD
    have hmv : Moved (d :: wr) G s { s' with heap := h', toks := s'.toks + (tupleKind kk).draws x.1 } := (hm.mono hsub).then_heap (Nat.le_add_right _ _) fun b o hb e => by
      rw [hsb.2 b (fun h : b = d => hb (by rw [h]; exact List.mem_cons_self))]; exact e
    refine wpAny_pure ⟨plainId_quiet F.dl_plain _, ih (i + 1) _ _ _ (by lia) hlt (W.frame _ s' _ _ hst' (Nat.le_add_right _ _) fun b hb o e => ?_) (fun b o e => ?_) hD fun s'' hm'' hS'' => ?_⟩
    · rw [hsb.2 b (fun h : b = d => hdf (by rw [← h]; exact hb))]; exact e
    · show h'.get? b = some o
      rw [hsb.2 b (hfar b o e).1]; exact hk' b o e
    · exact hR s'' (Moved.trans W.gtrans hmv hm'') hS''
end
end PySem
namespace PySem
open Sem (wp)
section
variable {prog : Program} {w : World} {K : Type} [DecidableEq K] {kk : KeyKind prog w K} {A : Around} {E : Value → Shared → Prop} {s : Shared}
theorem call_dict_pairs {l : Addr} {ol : Obj} {items : Array Value} {nl : Nat} {ps : List (List K × Addr × Value)} {Q : Value → Shared → Prop} (hh : A.handled = none) (hu : A.units + 4 < cLine)
    (ho : s.heap.get? l = some ol) (hc : ol.cls = .type "list") (hdat : ol.data = .seq items nl) (hdn : ol.dict = none) (hsz : items.size ≤ sizeLine) (hps : ps.length = items.size) (hnd : (ps.map (·.1)).Nodup)
    (hall : ∀ y ∈ ps, IsTupleKey kk s.heap y.1 y.2.1) (hval : ∀ (i : Nat) (v : Value), items[i]? = some v → ∃ x, ps[i]? = some x ∧ PairAt kk s.heap x v)
    (h : ∀ (h' : Heap) (tk : Nat), h'.DictOfH (tupleKind kk) s.heap.objs.size ps → (∀ b o, s.heap.get? b = some o → h'.get? b = some o) → Q (.ref s.heap.objs.size) { s with heap := h', toks := tk }) :
    wpAny (model prog w) A (call (.type "dict") [.ref l]) Q E s := by
  refine callType_codes (Q₁ := fun obj s₁ => obj = .ref s.heap.objs.size ∧ s₁ = { s with heap := s.heap.push { cls := .type "dict", data := .dict #[] } }) F.kt_called_dict (F.kt_typeCall_dict_1 _) F.entry_dict_init (kt_code_dict_new _ ⟨rfl, rfl⟩) ?_
  rintro obj s₁ ⟨rfl, rfl⟩
  have hnew : (s.heap.push { cls := .type "dict", data := .dict #[] }).DictOfH (tupleKind kk) s.heap.objs.size [] := Heap.DictOfH.new s.heap
  have ho' : (s.heap.push { cls := .type "dict", data := .dict #[] }).get? l = some ol := Heap.get?_push_of_some _ ho
  have hT : Shared.TypeIs { s with heap := s.heap.push { cls := .type "dict", data := .dict #[] } } (.ref l) "list" := ⟨ol, ho', hc⟩
  refine ⟨hnew.typeIs, F.args_dict_init_2 _ _, ?_⟩
  unfold Builtin.«dict.__init__»
  refine wpAny_bind ?_
  unfold Builtin.Dict.selfAndRest
  refine wpAny_bind (wpAny_notOrdered_dict hnew.typeIs ?_)
  show wpAny _ _ (pure (s.heap.objs.size, [Value.ref l])) _ _ _
  refine wpAny_pure ?_
  show wpAny _ _ (Builtin.Dict.updateFrom "dict.__init__" s.heap.objs.size (.ref l) [] .none) _ _ _
  unfold Builtin.Dict.updateFrom
  refine wpAny_bind (wpAny_typeOf hT ?_)
  rw [if_pos (by decide)]
  refine wpAny_bind ?_
  refine getAttrQ_miss_list ho' hc hdat hdn F.dl_keys (by decide) (by simp [hh]) fun h' tk e ne => ?_
  rw [if_pos (show Option.isNone (none : Option Value) = true from rfl)]
  refine wpAny_bind (wpAny_rule ?_)
  have k1 : ∀ b o, s.heap.get? b = some o → h'.get? b = some o := fun b o q => ne.keeps b o (Heap.get?_push_of_some _ q)
  have hl' : h'.IsList l items := ⟨ol, k1 _ _ ho, hc, nl, hdat⟩
  refine wpAny_bind (wpAny_pyIter_list hl' ?_)
  have hD0 : h'.get? s.heap.objs.size = some { cls := .type "dict", data := .dict #[] } := ne.keeps _ _ (Heap.get?_push_size _ rfl)
  have hlt : s.heap.objs.size < h'.objs.size := Heap.lt_size hD0
  have hlS : l < s.heap.objs.size := Heap.lt_size ho
  have hneI : l ≠ h'.objs.size := Nat.ne_of_lt (Nat.lt_trans hlS hlt)
  refine wpAny_pure ⟨plainId_quiet F.dl_plain _, ?_⟩
  refine codeAny_dict_loop (kk := kk) ((Walks.list (by simp [hh]) h'.objs.size l hneI items).toS) s.heap.objs.size ?_ ?_ s.heap (fun b o q => ?_) ps hps hsz hnd hall hval (items.size - 0) 0 _ _ _ rfl (Nat.zero_le _) ?_ ?_ ?_ ?_
  · simp only [List.mem_cons, List.mem_singleton, List.not_mem_nil, or_false, not_or]
    exact ⟨Nat.ne_of_lt hlt, Nat.ne_of_gt hlS⟩
  · simp; lia
  · have hb := Heap.lt_size q
    simp only [List.mem_cons, List.mem_singleton, List.not_mem_nil, or_false, not_or]
    exact ⟨Nat.ne_of_lt hb, Nat.ne_of_lt (Nat.lt_trans hb hlt)⟩
  · exact ⟨⟨_, Heap.get?_push_size _ rfl, rfl, rfl⟩, hl'.push _⟩
  · exact fun b o q => Heap.get?_push_of_some _ (k1 b o q)
  · exact ⟨_, #[], 0, Heap.get?_push_of_some _ hD0, ⟨rfl, rfl, rfl⟩, rfl, rfl, fun _ hx => by simp at hx, List.nodup_nil⟩
  · intro s' hm hS'
    obtain ⟨h2, g', d', tk', os'⟩ := s'
    have eg : g' = s.gens := hm.gens
    have ed : d' = s.drawn := hm.drawn
    have eo : os' = s.os := hm.os
    subst eg; subst ed; subst eo
    refine ⟨rfl, h h2 tk' hS' fun b o q => ?_⟩
    have hb := Heap.lt_size q
    refine hm.heap b o ?_ (Heap.get?_push_of_some _ (k1 b o q))
    simp only [List.mem_cons, List.mem_singleton, List.not_mem_nil, or_false, not_or]
    exact ⟨Nat.ne_of_lt hb, Nat.ne_of_lt (Nat.lt_trans hb hlt)⟩
end
end PySem
namespace L3
open PySem PySem.Spec PyProof.Rows L2
section
variable {X : Cx} {pins : List (Addr × Obj)} {σv : L2.St} {H : Hp} {s : Shared} {M : Mem}
theorem ints_vs {K : PySem.W.Frag} {ks : List Int} : ∀ {vs : List V}, Reps K M H (ks.map D.int) vs → vs = ks.map V.int := by
  induction ks with
  | nil => intro vs h; cases h; rfl
  | cons k ks ih =>
    intro vs h
    cases h with
    | cons a r => cases a; rw [ih r]; rfl
theorem items_ints {P : Program} {w : World} : ∀ {ks : List Int} {us : List Value}, Vals (ks.map V.int) us → ItemsAre (intKind P w) ks us
  | [], _, .nil => .nil
  | k :: ks, _, .cons ⟨t, e⟩ r => by subst e; exact .cons (by simp [intKind, Value.isInt]) (items_ints r)
theorem key3 (I : Inv X pins σv H s) {ks : List Int} {b : Addr} (r : Rep X.K M H (.tup (ks.map D.int)) (.ref b)) : IsTupleKey (intKind X.prog X.w) s.heap ks b := by
  cases r with
  | tup h r =>
    have e := ints_vs r
    subst e
    obtain ⟨its, rv, ⟨o, h1, h2, n, h3⟩, hz⟩ := I.tuple (SqT.of3 h)
    exact ⟨o, its.toArray, n, h1, h2, h3, by simpa using items_ints rv⟩
theorem repT_keys (I : Inv X pins σv H s) {ds : List (List Int × D)} {xs : List (List Int × Addr × Value)} (r : RepT X.K M H ds xs) : ∀ y ∈ xs, IsTupleKey (intKind X.prog X.w) s.heap y.1 y.2.1 := by
  induction r with
  | nil => intro y hy; cases hy
  | cons a b c _ ih =>
    intro y hy
    rcases List.mem_cons.mp hy with rfl | hy
    · exact key3 I a
    · exact ih y hy
theorem repT_at {K : PySem.W.Frag} {ds : List (List Int × D)} {xs : List (List Int × Addr × Value)} (r : RepT K M H ds xs) (k : List Int) :
    match ds.lookup k with
    | none => atKey xs k = none
    | some d => ∃ b u v, atKey xs k = some (b, u) ∧ RelV v u ∧ Rep K M H d v := by
  induction r with
  | nil => rfl
  | @cons k' b d v u ds xs ha hb hc _ ih =>
    by_cases e : k = k'
    · subst e
      simp only [List.lookup, beq_self_eq_true]
      exact ⟨b, u, v, by simp [atKey], hc, hb⟩
    · have e1 : (k == k') = false := by simpa using e
      have e2 : atKey ((k', b, u) :: xs) k = atKey xs k := by simp [atKey, List.find?_cons, Ne.symm e]
      simp only [List.lookup, e1]
      rw [e2]
      exact ih
theorem dt3 (I : Inv X pins σv H s) (m : MRel X.K M H) {a : Addr} {ds : List (List Int × D)} (h : M a = some (.dt ds)) :
    ∃ xs, RepT X.K M H ds xs ∧ (a == sysModules) = false ∧ s.heap.DictOfH (tupleKind (intKind X.prog X.w)) a xs := by
  obtain ⟨ho, e1, r⟩ := m a _ h
  cases ho <;> first | exact (r : False).elim | skip
  rename_i φ
  obtain ⟨xs, e, r⟩ := r
  subst e
  obtain ⟨⟨hs, o, es, ep, h1, h2, h3, h4, h5⟩, _⟩ := (show ObjOk X.prog X.w H s.heap a (.ext (dtφ a xs)) from I.hok a _ e1)
  exact ⟨xs, r, hs, o, es, ep, h1, h2, h3, h4, repT_keys I r, h5⟩
end
section
variable {X : Cx} {a b e : Expr} {ta tb : TE3} {t : TA3} {pos p : Pos}
def rTGet3 : R3 := fun x y M Q => ∃ a kvs k d, x = .ref a ∧ M a = some (.dt kvs) ∧ y = .tup (k.map D.int) ∧ List.lookup k kvs = some d ∧ Q d M
theorem pe3_tget (hu : X.A.units + 1 < cLine) (ha : PE3 X a ta) (hb : PE3 X b tb) (hs : NoSl b) : PE3 X (.Subscript a b pos) (tOp3 rTGet3 ta tb) := by
  intro pins s σv H σ M Q I hS hM h
  refine subD_of PySem.F.slot_dict_getitem.lookup hs (thn (ha pins s σv H σ M _ I hS hM h) fun v s1 ⟨x, xv, M1, H1, I1, st1, m1, rv1, p1, q1⟩ =>
    thn (hb pins s1 σv H1 σ M1 _ I1 (hS.mono st1) m1 q1) fun u s2 ⟨y, yv, M2, H2, I2, st2, m2, rv2, p2, q2⟩ => ?_)
  obtain ⟨l, kvs, k, d, rfl, hm, rfl, hk, q⟩ := q2
  cases p1
  obtain rfl : v = Value.ref l := rv1
  obtain ⟨xs, r, hs', dd⟩ := dt3 I2 m2 hm
  have hat := repT_at r k
  rw [hk] at hat
  obtain ⟨b', u', v', hat, rv', rp'⟩ := hat
  obtain ⟨kb, rfl⟩ : ∃ kb, yv = .ref kb := by cases p2; exact ⟨_, rfl⟩
  obtain rfl : u = Value.ref kb := rv2
  refine ⟨dd.typeIs, wpAny_getItem_heap (knd := tupleKind (intKind X.prog X.w)) (tupleKind_room_in1 hu) (key3 I2 p2) dd hat ?_⟩
  exact ⟨d, v', M2, H2, I2.tok _, st1.trans st2, m2, rv', rp', q⟩
def prD3 (x : List Int × D) : D := .tup [.tup (x.1.map D.int), x.2]
def tDictP3 (t : TA3) : TE3 := fun σ M Q => t σ M fun ds M1 => match ds with
  | [.lst xs] => ∃ kvs : List (List Int × D), xs = kvs.map prD3 ∧ (kvs.map (·.1)).Nodup ∧ ∀ p, M1 p = none → Q (.ref p) (mput M1 p (.dt kvs))
  | _ => False
theorem pairs_of {pins : List (Addr × Obj)} {σv : L2.St} {H : Hp} {s : Shared} {M : Mem} (I : Inv X pins σv H s) : ∀ {kvs : List (List Int × D)} {vs : List V} {us : List Value}, Reps X.K M H (kvs.map prD3) vs → Vals vs us →
    ∃ xs : List (List Int × Addr × Value), RepT X.K M H kvs xs ∧ xs.length = us.length ∧ xs.map (·.1) = kvs.map (·.1) ∧ ∀ (i : Nat) (v : Value), us[i]? = some v → ∃ x, xs[i]? = some x ∧ PairAt (intKind X.prog X.w) s.heap x v := by
  intro kvs
  induction kvs with
  | nil =>
    intro vs us h1 h2
    cases h1
    cases h2
    exact ⟨[], .nil, rfl, rfl, fun i v h => by simp at h⟩
  | cons kd kvs ih =>
    obtain ⟨k, d⟩ := kd
    intro vs us hr hv
    cases hr with
    | cons r rs =>
    cases hv with
    | cons rv rvs =>
    obtain ⟨xs, h1, h2, h3, h4⟩ := ih rs rvs
    cases r with
    | @tup t _ vs h r =>
      cases r with
      | @cons _ v1 _ _ ra r =>
      cases r with
      | @cons _ v2 _ _ rb r =>
      cases r
      obtain ⟨kb, rfl⟩ : ∃ kb, v1 = V.ref kb := by cases ra; exact ⟨_, rfl⟩
      obtain ⟨its, rv', ⟨o, g1, g2, n, g3⟩, hz⟩ := I.tuple (SqT.of3 h)
      cases rv' with
      | cons e1 rv' =>
      cases rv' with
      | cons e2 rv' =>
      cases rv'
      obtain rfl : _ = Value.ref kb := e1
      refine ⟨(k, kb, _) :: xs, .cons ra rb e2 h1, by simp [h2], by simp [h3], fun i v hv => ?_⟩
      cases i with
      | zero =>
        simp at hv
        subst hv
        exact ⟨_, rfl, t, o, n, rv, g1, g2, by simpa using g3, key3 I ra⟩
      | succ i => simpa using h4 i v (by simpa using hv)
theorem dictP_inv {ds : List D} {P : List D → Prop} (h : match ds with | [.lst xs] => P xs | _ => False) : ∃ xs, ds = [.lst xs] ∧ P xs := by
  split at h
  · exact ⟨_, rfl, h⟩
  · exact h.elim
theorem pe3_dictP (hu : X.A.units + 4 < cLine) (hh : X.A.handled = none) (hg : Gl X "dict") (hm : X.mg "dict" = none) (ha : PA3 X [e] t) (he : starEach [e] X.env = (false, eval e X.env) :: starEach [] X.env := by rfl) (hpl : (backTo pos (starEach [] X.env)).any (·.1) = false := by rfl) : PE3 X (.Call (.Name "dict" p) [e] [] pos) (tDictP3 t) := by
  intro pins s σv H σ M Q I hS hM h
  refine wpAny_Call_Name_kw (ld_blt (u := .type "dict") I hg hm (by kernel_rfl) ?_ (by decide) (by decide))
  refine PyProof.Rows.callWith_type1 (thn (ha pos pins s σv H σ M _ I hS hM h) fun us s1 ⟨ds, vs, M1, H1, I1, st1, m1, rv1, p1, q1⟩ => ?_) he hpl
  obtain ⟨xs, rfl, kvs, e1, hn, q2⟩ := dictP_inv (P := fun xs => ∃ kvs : List (List Int × D), xs = kvs.map prD3 ∧ (kvs.map (·.1)).Nodup ∧ ∀ p, M1 p = none → Q (.ref p) (mput M1 p (.dt kvs))) q1
  cases p1 with
  | cons p1 p2 =>
  cases p2
  cases p1 with
  | lst h1 r1 =>
    subst e1
    obtain ⟨u, rfl, ru⟩ := vals1 rv1
    cases ru
    obtain ⟨its, rv, pl, hz⟩ := I1.list (SqL.of3 h1)
    obtain ⟨ps, g1, g2, g3, g4⟩ := pairs_of I1 r1 rv
    obtain ⟨ol, n, ho, hc, hd, hdat⟩ := pl
    have hle := rv.length
    refine call_dict_pairs (kk := intKind X.prog X.w) (ps := ps) hh hu ho hc hdat hd (by simp; lia) (by simpa using g2) (by rw [g3]; exact hn) (repT_keys I1 g1) (fun i v hv => g4 i v (by simpa using hv)) fun h' tk hD hk => ?_
    have hp : H1 s1.heap.objs.size = none := I1.hok.fresh (Nat.le_refl _)
    obtain ⟨o', es, ep, d1, d2, d3, d4, d5, d6⟩ := hD
    have hsm : (s1.heap.objs.size == sysModules) = false := beq_eq_false_iff_ne.mpr (Ne.symm (Nat.ne_of_lt I1.big))
    refine ⟨.ref s1.heap.objs.size, .ref s1.heap.objs.size, mput M1 s1.heap.objs.size (.dt kvs), upd H1 s1.heap.objs.size (.ext (dtφ s1.heap.objs.size ps)), I1.laid hk (Nat.le_refl _) ?_, st1.trans (Step.put (.inl hp)), m1.put (.inl hp) (o := .dt kvs) ⟨ps, rfl, g1⟩, rfl, .ref, q2 _ (m1.free hp)⟩
    exact ⟨⟨hsm, o', es, ep, d1, d2, d3, d4, d6⟩, ⟨o', d1⟩, fun h1 h2 ⟨z, o2, es2, ep2, e1, er⟩ hk2 => ⟨z, o2, es2, ep2, hk2 _ e1, er⟩⟩
end
end L3
namespace L3
open PySem PySem.Spec PyProof.Rows L2
abbrev TGs3 := List D → Lo → Mem → (Lo → Mem → Prop) → Prop
def dnGs (K : PySem.W.Frag) (g : TGs3) : TGs := fun vs σv H Q2 => ∃ ds σ M Q, Reps K M H ds vs ∧ SRel K M H σ σv ∧ MRel K M H ∧ g ds σ M Q ∧ ∀ σ' σv' M' H', Step M H M' H' → MRel K M' H' → SRel K M' H' σ' σv' → Q σ' M' → Q2 σv' H'
def PGs3 (X : Cx) (ts : List Expr) (g : TGs3) : Prop := PGs X ts (dnGs X.K g)
def gNilG3 : TGs3 := fun ds σ M Q => ds = [] ∧ Q σ M
def gConsG3 (g : TG3) (gs : TGs3) : TGs3 := fun ds σ M Q => ∃ d r, ds = d :: r ∧ g d σ M fun σ' M' => gs r σ' M' Q
theorem pgs3_nilG {X : Cx} : PGs3 X [] gNilG3 := PGs.weak pgs_nil fun vs σv H Q2 hx => by
  obtain ⟨ds, σ, M, Q, r, hS, hM, ⟨e, q⟩, kk⟩ := hx
  subst e
  cases r
  exact ⟨rfl, kk _ _ M H .refl hM hS q⟩
theorem pgs3_consG {X : Cx} {e : Expr} {es : List Expr} {g : TG3} {gs : TGs3} (h1 : PG3 X e g) (h2 : PGs3 X es gs)
    (hs : (assignEach (e :: es) X.env).map (·.2) = assign e X.env :: (assignEach es X.env).map (·.2) := by rfl) : PGs3 X (e :: es) (gConsG3 g gs) :=
  PGs.weak (pgs_cons h1 h2 hs) fun vs σv H Q2 hx => by
    obtain ⟨ds, σ, M, Q, r, hS, hM, ⟨d, rest, e, q⟩, kk⟩ := hx
    subst e
    cases r with
    | cons a b => exact ⟨_, _, rfl, d, σ, M, _, a, hS, hM, q, fun σ' σv' M' H' st m' s' q' => ⟨rest, σ', M', Q, b.mono st, s', m', q', fun σ2 v2 M2 H2 st2 m2 s2 q2 => kk σ2 v2 M2 H2 (st.trans st2) m2 s2 q2⟩⟩
def gTupG3 (n : Nat) (gs : TGs3) : TG3 := fun d σ M Q => ∃ ds, d = .tup ds ∧ ds.length = n ∧ gs ds σ M Q
theorem pg3_tupG {X : Cx} {es : List Expr} {k n : Nat} {pos : Pos} {gs : TGs3} (hc : X.calm = true) (h : PGs3 X es gs)
    (hn : (assignEach es X.env).length = n := by rfl) (hst : (assignEach es X.env).findIdx? (·.1) = none := by rfl) : PG3 X (.Tuple es k pos) (gTupG3 n gs) :=
  PG.weak (pg_tup hc h hn hst) fun v σv H Q2 hx => by
    obtain ⟨d, σ, M, Q, r, hS, hM, ⟨ds, e, hl, q⟩, kk⟩ := hx
    subst e
    cases r with
    | tup h1 rs => exact ⟨_, _, rfl, SqT.of3 h1, by rw [← rs.length]; exact hl, ds, σ, M, Q, rs, hS, hM, q, kk⟩
section
variable {T : Ends3} {σ : Lo} {M : Mem} {Q : DK} {QG : Lo → Mem → Prop}
theorem rd_gTupG {n : Nat} {gs : TGs3} {ds : List D} (hl : ds.length = n) (h : gs ds σ M QG) : gTupG3 n gs (.tup ds) σ M QG := ⟨ds, rfl, hl, h⟩
theorem rd_gConsG {g : TG3} {gs : TGs3} {d : D} {r : List D} (h : g d σ M fun σ' M' => gs r σ' M' QG) : gConsG3 g gs (d :: r) σ M QG := ⟨d, r, rfl, h⟩
theorem rd_gNilG (h : QG σ M) : gNilG3 [] σ M QG := ⟨rfl, h⟩
theorem rd_tget {a : Addr} {kvs : List (List Int × D)} {k : List Int} {d : D} (hm : M a = some (.dt kvs)) (hk : List.lookup k kvs = some d) (q : Q d M) : rTGet3 (.ref a) (.tup (k.map D.int)) M Q := ⟨a, kvs, k, d, rfl, hm, rfl, hk, q⟩
def onDictP (Q : DK) : List D → Mem → Prop := fun ds M1 => match ds with
  | [.lst xs] => ∃ kvs : List (List Int × D), xs = kvs.map prD3 ∧ (kvs.map (·.1)).Nodup ∧ ∀ p, M1 p = none → Q (.ref p) (mput M1 p (.dt kvs))
  | _ => False
theorem rd_dictP {tas : TA3} (h : tas σ M (onDictP Q)) : tDictP3 tas σ M Q := h
theorem rd_onDictP {xs : List D} (kvs : List (List Int × D)) (e : xs = kvs.map prD3) (hn : (kvs.map (·.1)).Nodup) (h : ∀ p, M p = none → Q (.ref p) (mput M p (.dt kvs))) : onDictP Q [.lst xs] M := ⟨kvs, e, hn, h⟩
theorem Room.u4 {k : Nat} {A : Around} (r : Room k A) : A.units + 4 < cLine := by have := r.un; lia
end
end L3
namespace GO
open PySem L2 L3 MK K11 K12
theorem lex_irr : ∀ p : List Int, HT.lexLt p p = false
  | [] => rfl
  | x :: p => by rw [lex_cons]; exact lex_irr p
theorem pr_nodup (b : Blk) : ((prB b [] 0).map Prod.fst).Nodup := by
  rw [prB_fst]
  exact (plB_pw b [] 0).2.imp fun {p q} h e => by subst e; rw [lex_irr] at h; cases h
theorem look_of {α : Type} : ∀ {l : List (List Int × α)} {p : List Int} {d : α}, (l.map Prod.fst).Nodup → (p, d) ∈ l → List.lookup p l = some d
  | [], _, _, _, h => by cases h
  | (q, e) :: l, p, d, hn, h => by
    rw [List.map_cons, List.nodup_cons] at hn
    rcases List.mem_cons.mp h with z | z
    · cases z; simp [List.lookup]
    · have hne : ¬ p = q := fun z' => hn.1 (by rw [← z']; exact List.mem_map.mpr ⟨(p, d), z, rfl⟩)
      have hb : (p == q) = false := by simpa using hne
      simp only [List.lookup, hb]
      exact look_of hn.2 z
theorem look_map {α β : Type} (f : α → β) (p : List Int) : ∀ l : List (List Int × α), List.lookup p (l.map fun x => (x.1, f x.2)) = (List.lookup p l).map f
  | [] => rfl
  | (q, e) :: l => by
    simp only [List.map_cons, List.lookup]
    cases (p == q)
    · exact look_map f p l
    · rfl
def dflt : Deed := .mk (.leaf "" []) .nil
def dA (b : Blk) (p : List Int) : Deed := (List.lookup p (prB b [] 0)).getD dflt
theorem dA_of {b : Blk} {p : List Int} {d : Deed} (h : (p, d) ∈ prB b [] 0) : dA b p = d := by unfold dA; rw [look_of (pr_nodup b) h]; rfl
theorem Go.out {d0 d : Deed} {r : List Int} (g : Go d0 r d) : (r = [] ∧ d = d0) ∨ ∃ (r' : List Int) (j i : Nat) (h : Head) (bs : Bls) (bk : Blk), r = r' ++ [(j : Int), (i : Int)] ∧ Go d0 r' (.mk h bs) ∧ (toLs bs)[j]? = some bk ∧ (toL bk)[i]? = some d := by
  induction g with
  | nil => exact .inl ⟨rfl, rfl⟩
  | @cons h bs j i b d' d r h1 h2 g ih =>
    right
    rcases ih with ⟨rfl, rfl⟩ | ⟨r', j', i', h', bs', bk', rfl, g', a1, a2⟩
    · exact ⟨[], j, i, h, bs, b, rfl, .nil, h1, h2⟩
    · exact ⟨(j : Int) :: (i : Int) :: r', j', i', h', bs', bk', rfl, .cons h1 h2 g', a1, a2⟩
theorem go_in {h : Head} {bs : Bls} {r : List Int} {d : Deed} (g : Go (.mk h bs) r d) : (r = [] ∧ d = .mk h bs) ∨ ∃ (j i : Nat) (b : Blk) (d' : Deed) (r' : List Int), r = (j : Int) :: (i : Int) :: r' ∧ (toLs bs)[j]? = some b ∧ (toL b)[i]? = some d' ∧ Go d' r' d := by
  cases g with
  | nil => exact .inl ⟨rfl, rfl⟩
  | cons h1 h2 g' => exact .inr ⟨_, _, _, _, _, rfl, h1, h2, g'⟩
mutual
theorem prB_of : ∀ (b : Blk) (ah : List Int) (i k : Nat) (r : List Int) (d0 d : Deed), (toL b)[k]? = some d0 → Go d0 r d → (ah ++ ((i + k : Nat) : Int) :: r, d) ∈ prB b ah i
  | .nil, ah, i, k, r, d0, d, h, g => by simp [toL] at h
  | .cons x y, ah, i, k, r, d0, d, h, g => by
    have hx := prD_of x
    have hy := prB_of y
    simp only [prB]
    cases k with
    | zero =>
      have e : x = d0 := by simpa [toL] using h
      subst e
      cases g with
      | nil => exact List.mem_cons_self
      | cons h1 h2 g' =>
        refine List.mem_cons_of_mem _ (List.mem_append_left _ ?_)
        have := hx (ah ++ [(i : Int)]) _ d (.cons h1 h2 g') (by simp)
        simpa using this
    | succ k =>
      refine List.mem_cons_of_mem _ (List.mem_append_right _ ?_)
      rw [show i + (k + 1) = i + 1 + k by lia]
      exact hy ah (i + 1) k r d0 d (by simpa [toL] using h) g
termination_by structural b => b
theorem prD_of : ∀ (d0 : Deed) (pl r : List Int) (d : Deed), Go d0 r d → r ≠ [] → (pl ++ r, d) ∈ prD d0 pl
  | .mk h bs, pl, r, d, g, hr => by
    rcases go_in g with ⟨rfl, _⟩ | ⟨j, i, b, d', r', rfl, h1, h2, g'⟩
    · exact absurd rfl hr
    · simp only [prD]
      have := prBs_of bs pl 0 j i _ b _ d h1 h2 g'
      rwa [Nat.zero_add] at this
termination_by structural d0 => d0
theorem prBs_of : ∀ (bs : Bls) (pl : List Int) (j m k : Nat) (r : List Int) (b : Blk) (d0 d : Deed), (toLs bs)[m]? = some b → (toL b)[k]? = some d0 → Go d0 r d → (pl ++ ((j + m : Nat) : Int) :: (k : Int) :: r, d) ∈ prBs bs pl j
  | .nil, pl, j, m, k, r, b, d0, d, h1, h2, g => by simp [toLs] at h1
  | .cons x y, pl, j, m, k, r, b, d0, d, h1, h2, g => by
    have hx := prB_of x
    have hy := prBs_of y
    simp only [prBs]
    cases m with
    | zero =>
      have e : x = b := by simpa [toLs] using h1
      subst e
      refine List.mem_append_left _ ?_
      simpa using hx (pl ++ [(j : Int)]) 0 k r d0 d h2 g
    | succ m =>
      refine List.mem_append_right _ ?_
      rw [show j + (m + 1) = j + 1 + m by lia]
      exact hy pl (j + 1) m k r b d0 d (by simpa [toLs] using h1) h2 g
termination_by structural bs => bs
end
inductive Inb (b : Blk) : List Int → Blk → Nat → Prop
  | top {i : Nat} : Inb b [(i : Int)] b i
  | inner {q : List Int} {h : Head} {bs : Bls} {bk : Blk} {j i : Nat} : (q, .mk h bs) ∈ prB b [] 0 → (toLs bs)[j]? = some bk → Inb b (q ++ [(j : Int), (i : Int)]) bk i
theorem pr_out {b : Blk} {p : List Int} {d : Deed} (hp : (p, d) ∈ prB b [] 0) : ∃ bk i, Inb b p bk i ∧ (toL bk)[i]? = some d := by
  obtain ⟨k, r, d0, e, a, g⟩ := prB_go b [] 0 p _ hp
  rw [Nat.zero_add] at e
  rcases Go.out g with ⟨rfl, rfl⟩ | ⟨r', j, i, h, bs, bk, rfl, g', a1, a2⟩
  · subst e; exact ⟨b, k, .top, a⟩
  · subst e
    refine ⟨bk, i, ?_, a2⟩
    have := Inb.inner (i := i) (prB_of b [] 0 k r' d0 _ a g') a1
    rw [Nat.zero_add] at this
    simpa using this
def cut2 (p : List Int) : List Int := p.take (p.length - 2)
def num2 (p : List Int) : Int := p.getD (p.length - 2) 0
theorem cut2_app (q : List Int) (j i : Int) : cut2 (q ++ [j, i]) = q ∧ num2 (q ++ [j, i]) = j := by
  unfold cut2 num2
  simp [List.getD]
theorem cut2_len {p : List Int} (h : 1 < p.length) : (cut2 p).length < p.length := by unfold cut2; rw [List.length_take]; lia
def ar (b : Blk) (p : List Int) : List (List Int × Deed × Int) := if h : 1 < p.length then (cut2 p, dA b (cut2 p), num2 p) :: ar b (cut2 p) else []
termination_by p.length
decreasing_by exact cut2_len h
theorem ar_step {b : Blk} {p : List Int} (h : 1 < p.length) : ar b p = (cut2 p, dA b (cut2 p), num2 p) :: ar b (cut2 p) := by rw [ar, dif_pos h]
theorem ar_end {b : Blk} {p : List Int} (h : ¬ 1 < p.length) : ar b p = [] := by rw [ar, dif_neg h]
def arT (x : List Int × Deed × Int) : D := .tup [plT x.1, dD x.2.1, .int x.2.2]
def nC : Deed → Nat
  | .mk (.tr cs) _ => cs.length
  | _ => 0
def leads (d : Deed) (j : Int) : Bool := hasL d && !decide (j = (nC d : Int) + 1)
structure Way (b : Blk) (x : List Int × Deed × Int) : Prop where
  at_ : (x.1, x.2.1) ∈ prB b [] 0
  num : ∃ j bk i d, x.2.2 = ((j : Nat) : Int) ∧ (match x.2.1 with | .mk _ bs => (toLs bs)[j]? = some bk) ∧ (toL bk)[(i : Nat)]? = some d
theorem pr_cut {b : Blk} {p : List Int} {d : Deed} (hp : (p, d) ∈ prB b [] 0) (h : 1 < p.length) : ∃ (q : List Int) (j i : Nat) (hh : Head) (bs : Bls) (bk : Blk), p = q ++ [(j : Int), (i : Int)] ∧ cut2 p = q ∧ num2 p = (j : Int) ∧ (q, .mk hh bs) ∈ prB b [] 0 ∧ dA b q = .mk hh bs ∧ (toLs bs)[j]? = some bk ∧ (toL bk)[i]? = some d := by
  obtain ⟨bk, i, x, e⟩ := pr_out hp
  cases x with
  | top => simp at h
  | @inner q hh bs _ j _ hq h1 => exact ⟨q, j, i, hh, bs, bk, rfl, (cut2_app _ _ _).1, (cut2_app _ _ _).2, hq, dA_of hq, h1, e⟩
theorem ar_way {b : Blk} : ∀ (n : Nat) {p : List Int} {d : Deed}, p.length ≤ n → (p, d) ∈ prB b [] 0 → ∀ x ∈ ar b p, Way b x
  | 0, p, d, hn, hp, x, hx => by
    rw [ar_end (by lia)] at hx; cases hx
  | n + 1, p, d, hn, hp, x, hx => by
    by_cases h : 1 < p.length
    · obtain ⟨q, j, i, hh, bs, bk, e1, e2, e3, hq, e4, h1, h2⟩ := pr_cut hp h
      rw [ar_step h] at hx
      have hl := cut2_len h
      rcases List.mem_cons.mp hx with rfl | hx
      · refine ⟨?_, j, bk, i, d, e3, ?_, h2⟩
        · show (cut2 p, dA b (cut2 p)) ∈ _
          rw [e2, e4]; exact hq
        · show (match dA b (cut2 p) with | .mk _ bs => (toLs bs)[j]? = some bk)
          rw [e2, e4]; exact h1
      · rw [e2] at hx hl
        exact ar_way n (by lia) hq x hx
    · rw [ar_end h] at hx; cases hx
def spAround : Sp3 := fun ds M Q => ∃ r p d, ds = [rD r, plT p] ∧ rFit r ∧ (p, d) ∈ prB r.blk [] 0 ∧ Q (.lst ((ar r.blk p).map arT)) M
def spLastsNo : Sp3 := fun ds M Q => ∃ cs bs, ds = [dD (.mk (.tr cs) bs)] ∧ okD (.mk (.tr cs) bs) ∧ Q (.int ((cs.length : Int) + 1)) M
def spInLasts : Sp3 := fun ds M Q => ∃ cs bs, ∃ j : Int, ds = [dD (.mk (.tr cs) bs), .int j] ∧ okD (.mk (.tr cs) bs) ∧ Q (.bl (decide (j = (cs.length : Int) + 1))) M
def spLeads : Sp3 := fun ds M Q => ∃ d, ∃ j : Int, ds = [dD d, .int j] ∧ okD d ∧ Q (.bl (leads d j)) M
def isW : Deed → Bool
  | .mk (.whl _) _ => true
  | _ => false
def takes (w : Str) (c : Str × Str) : Bool := c.1 == w || c.1 == ("any" : Str)
def catchF (w : Str) (d : Deed) (j : Int) : Option Nat := match d with
  | .mk (.tr cs) _ => if j = 0 then cs.findIdx? (takes w) else none
  | _ => none
def faultF (w : Str) (l : List (List Int × Deed × Int)) : D := match l with
  | [] => .tup [.str "out"]
  | (q, d, j) :: r => match catchF w d j with
    | some c => .tup [.str "catch", plT q, .int (c : Nat)]
    | none => if leads d j = true then .tup [.str "last", plT q] else faultF w r
def spCatch : Sp3 := fun ds M Q => ∃ d, ∃ j : Int, ∃ w : Str, ds = [dD d, .int j, .str w] ∧ okD d ∧ Q (match catchF w d j with | some c => .int (c : Nat) | none => .non) M
def spFault : Sp3 := fun ds M Q => ∃ r p d, ∃ w : Str, ds = [rD r, plT p, .str w] ∧ rFit r ∧ (p, d) ∈ prB r.blk [] 0 ∧ Q (faultF w (ar r.blk p)) M
end GO
namespace GP
open PySem L2 L3
abbrev N__law_pairs : List Str := ["_law_block_here", "_law_ahead", "_law_found", "_law_at", "_law_number", "_law_inner_here"]
def t__law_pairs (q__law_pairs : Sp3) : TS3 :=
    (tSeq3 (tSet3 2 (tLstM3 tNil3))
    (tSeq3 (tFor3 (iRng3 (tCons3 (tCB3 rLen3 (tCons3 (tVar3 0) tNil3)) tNil3)) 3 (tSeq3 (tDrop3 (tBM3 "list" rAppend3 (tVar3 2) (tCons3 (tTup3 (tCons3 (tOp3 rAdd3 (tVar3 1) (tTup3 (tCons3 (tVar3 3) tNil3))) (tCons3 (tOp3 rIx3 (tVar3 0) (tVar3 3)) tNil3))) tNil3)))
    (tForG3 (iEnum3 (tCall3 MK.spInner (tCons3 (tOp3 rIx3 (tVar3 0) (tVar3 3)) tNil3))) (gTup3 [4, 5]) (tDrop3 (tBM3 "list" rExt3 (tVar3 2) (tCons3 (tCall3 q__law_pairs (tCons3 (tVar3 5) (tCons3 (tOp3 rAdd3 (tVar3 1) (tTup3 (tCons3 (tVar3 3) (tCons3 (tVar3 4) tNil3)))) tNil3))) tNil3))))))
    (tRet3 (tVar3 2))))
theorem st__law_pairs (d0 d1 : D) : start3 N__law_pairs [d0, d1] = [some d0, some d1, none, none, none, none] := rfl
end GP
namespace GO
open PySem L2 L3
abbrev N_around : List Str := ["rule", "place", "found", "number"]
def t_around : TS3 :=
    (tSeq3 (tSet3 2 (tLstM3 tNil3))
    (tSeq3 (tWhile3 (tTest3 (tOp3 rGt3 (tCB3 rLen3 (tCons3 (tVar3 1) tNil3)) (tC3 (.int 1)))) (tSeq3 (tSet3 3 (tOp3 rIx3 (tVar3 1) (tUn3 rNeg3 (tC3 (.int 2)))))
    (tSeq3 (tSet3 1 (tSlA3 (tVar3 1) tNoPart3 (tPart3 (tUn3 rNeg3 (tC3 (.int 2))))))
    (tDrop3 (tBM3 "list" rAppend3 (tVar3 2) (tCons3 (tTup3 (tCons3 (tVar3 1) (tCons3 (tCall3 K12.spDeedAt (tCons3 (tVar3 0) (tCons3 (tVar3 1) tNil3))) (tCons3 (tVar3 3) tNil3)))) tNil3))))))
    (tRet3 (tVar3 2))))
theorem st_around (d0 d1 : D) : start3 N_around [d0, d1] = [some d0, some d1, none, none] := rfl
abbrev N_lasts_number : List Str := ["deed"]
def t_lasts_number : TS3 :=
    (tRet3 (tOp3 rAdd3 (tCB3 rLen3 (tCons3 (tOp3 rIx3 (tVar3 0) (tC3 (.int 2))) tNil3)) (tC3 (.int 1))))
theorem st_lasts_number (d0 : D) : start3 N_lasts_number [d0] = [some d0] := rfl
abbrev N_is_in_lasts : List Str := ["deed", "number"]
def t_is_in_lasts : TS3 :=
    (tRet3 (tOp3 rEq3 (tVar3 1) (tCall3 spLastsNo (tCons3 (tVar3 0) tNil3))))
theorem st_is_in_lasts (d0 d1 : D) : start3 N_is_in_lasts [d0, d1] = [some d0, some d1] := rfl
abbrev N_leads_to_lasts : List Str := ["deed", "number"]
def t_leads_to_lasts : TS3 :=
    (tRet3 (tAndV3 (tCall3 (K12.spTold K12.hasL) (tCons3 (tVar3 0) tNil3)) (tNotV3 (tCall3 spInLasts (tCons3 (tVar3 0) (tCons3 (tVar3 1) tNil3))))))
theorem st_leads_to_lasts (d0 d1 : D) : start3 N_leads_to_lasts [d0, d1] = [some d0, some d1] := rfl
abbrev N_catch_of : List Str := ["deed", "number", "word", "at", "caught", "name", "block"]
def t_catch_of : TS3 :=
    (tSeq3 (tIfS3 (tOr3 (tTest3 (tOp3 rNe3 (tOp3 rIx3 (tVar3 0) (tC3 (.int 0))) (tC3 (.str "try")))) (tTest3 (tOp3 rNe3 (tVar3 1) (tC3 (.int 0))))) (tRet3 (tC3 .non)) tNext3)
    (tSeq3 (tForG3 (iEnum3 (tOp3 rIx3 (tVar3 0) (tC3 (.int 2)))) (gTupG3 2 (gConsG3 (gName3 3) (gConsG3 (gTup3 [4, 5, 6]) gNilG3))) (tIfS3 (tOr3 (tTest3 (tOp3 rEq3 (tVar3 4) (tVar3 2))) (tTest3 (tOp3 rEq3 (tVar3 4) (tC3 (.str "any"))))) (tRet3 (tVar3 3)) tNext3))
    (tRet3 (tC3 .non))))
theorem st_catch_of (d0 d1 d2 : D) : start3 N_catch_of [d0, d1, d2] = [some d0, some d1, some d2, none, none, none, none] := rfl
abbrev N_fault_goes : List Str := ["rule", "place", "word", "outer", "deed", "number", "catch"]
def t_fault_goes : TS3 :=
    (tSeq3 (tForG3 (iList3 (tCall3 spAround (tCons3 (tVar3 0) (tCons3 (tVar3 1) tNil3)))) (gTup3 [3, 4, 5]) (tSeq3 (tSet3 6 (tCall3 spCatch (tCons3 (tVar3 4) (tCons3 (tVar3 5) (tCons3 (tVar3 2) tNil3)))))
    (tSeq3 (tIfS3 (tTest3 (tOp3 rIsN3 (tVar3 6) (tC3 .non))) (tRet3 (tTup3 (tCons3 (tC3 (.str "catch")) (tCons3 (tVar3 3) (tCons3 (tVar3 6) tNil3))))) tNext3)
    (tIfS3 (tTest3 (tCall3 spLeads (tCons3 (tVar3 4) (tCons3 (tVar3 5) tNil3)))) (tRet3 (tTup3 (tCons3 (tC3 (.str "last")) (tCons3 (tVar3 3) tNil3)))) tNext3))))
    (tRet3 (tTup3 (tCons3 (tC3 (.str "out")) tNil3))))
theorem st_fault_goes (d0 d1 d2 : D) : start3 N_fault_goes [d0, d1, d2] = [some d0, some d1, some d2, none, none, none, none] := rfl
end GO
open L3
local macro_rules | `(tactic| walk_at "r5") => `(tactic| first | (with_reducible first | refine rd_cont ?_ | refine rd_brk ?_ | refine rd_gConsG ?_ | refine rd_gNilG ?_ | refine rd_dictP ?_) | walk_at "r4")
local macro_rules | `(tactic| walk_at "rd") => `(tactic| repeat walk_at "r5")
namespace GO
open PySem L2 L3 MK K11 K12
theorem sub2 (n : Nat) : HT.sIx (n + 2) (n + 2) (some (-2)) = n := by
  show (if (-2 : Int) < 0 then ((-2 : Int) + ((n + 2 : Nat) : Int)).toNat else min (-2 : Int).toNat (n + 2)) = n
  rw [if_pos (by decide)]; lia
theorem cut_m2 (q : List Int) (j i : Int) : cutD ((q ++ [j, i]).map D.int) none (some (-2)) = q.map D.int := by
  unfold cutD
  rw [show ((q ++ [j, i]).map D.int).length = q.length + 2 by simp, sub2, HT.sIx_none]
  simp
theorem atI_m2 (q : List Int) (j i : Int) : atI ((q ++ [j, i]).map D.int) (-2) = some (.int j) := by
  unfold atI ixN
  rw [show ((q ++ [j, i]).map D.int).length = q.length + 2 by simp, if_neg (by decide), if_pos (by lia), show ((-2 : Int) + ((q.length + 2 : Nat) : Int)).toNat = q.length by lia]
  simp
theorem rd_cut2 {q : List Int} {j i : Int} {M : Mem} {Q : DK} (h : Q (plT q) M) : rSlA3 (plT (q ++ [j, i])) none (some (-2)) M Q := by
  refine ⟨?_, ?_⟩
  · rintro ⟨_, e⟩
    rw [show ((q ++ [j, i]).map D.int).length = q.length + 2 by simp, sub2] at e
    lia
  · rw [cut_m2]; exact h
theorem rd_num2 {q : List Int} {j i : Int} {M : Mem} {Q : DK} (h : Q (.int j) M) : rIx3 (plT (q ++ [j, i])) (.int (-2)) M Q := ⟨_, atI_m2 q j i, h⟩
theorem rd_lenP {p : List Int} {M : Mem} {Q : DK} (h : Q (.int (p.length : Nat)) M) : rLen3 [plT p] M Q := by
  show Q (.int ((p.map D.int).length : Nat)) M
  rw [List.length_map]; exact h
theorem len_around : ∀ ds M Q, spAround ds M Q → ds.length = 2 := by rintro _ _ _ ⟨_, _, _, rfl, _⟩; rfl
theorem rd_around : ∀ ds M Q, spAround ds M Q → t_around { nx := fun _ M' => View Q .non M', rt := View Q } (start3 N_around ds) M := by
  rintro _ M Q ⟨r, p, d, rfl, hr, hp, q⟩
  have hpl := pr_len hr hp
  rw [st_around]
  unfold t_around
  walk_at "rd"
  intro f hf
  walk_at "rd"
  refine rd_while ⟨fun m σ M1 => ∃ (p' : List Int) (d' : Deed) (s3 : Option D) (dn : List (List Int × Deed × Int)), σ = [some (rD r), some (plT p'), some (.ref f), s3] ∧ (p', d') ∈ prB r.blk [] 0 ∧ m = p'.length ∧ dn ++ ar r.blk p' = ar r.blk p ∧ dn.length + p'.length ≤ 9 ∧ M1 f = some (.lst (dn.map arT)) ∧ ∀ x, x ≠ f → M1 x = M x,
    ⟨p.length, p, d, _, [], rfl, hp, rfl, rfl, by simpa using hpl, mput_same, fun x hx => mput_ne hx⟩, ?_⟩
  rintro m σ M1 ⟨p', d', s3, dn, rfl, hp', rfl, hdn, hdl, hf1, hs1⟩
  walk_at "rd"
  refine rd_lenP ?_
  walk_at "rd"
  by_cases h : 1 < p'.length
  · rw [decide_eq_true (show (1 : Int) < (p'.length : Nat) by lia)]
    obtain ⟨q', j, i, hh, bs, bk, e1, e2, e3, hq, e4, h1, h2⟩ := pr_cut hp' h
    have hst := ar_step (b := r.blk) h
    rw [e2, e3, e4] at hst
    rw [hst] at hdn
    subst e1
    walk_at "rd"
    refine rd_num2 ?_
    walk_at "rd"
    refine rd_cut2 ?_
    walk_at "rd"
    refine ⟨.inl ⟨rfl, _, hf1⟩, ?_⟩
    walk_at "rd"
    refine ⟨r, q', .mk hh bs, rfl, hr, hq, ?_⟩
    walk_at "rd"
    have hl2 : (q' ++ [(j : Int), (i : Int)]).length = q'.length + 2 := by simp
    refine rd_append hf1 (by rw [List.length_map, sizeLine_eq]; lia) ?_
    refine ⟨q'.length, by lia, q', .mk hh bs, _, dn ++ [(q', .mk hh bs, (j : Int))], rfl, hq, rfl, by rw [List.append_assoc]; exact hdn, by simp; lia, ?_, fun x hx => by rw [mput_ne hx]; exact hs1 x hx⟩
    rw [mput_same, List.map_append]; rfl
  · rw [decide_eq_false (show ¬ (1 : Int) < (p'.length : Nat) by lia)]
    rw [ar_end h, List.append_nil] at hdn
    subst hdn
    walk_at "rd"
    refine View.frz hf1 ?_
    have : mdel M1 f = M := mdel_new hf hs1
    rw [this]; exact q
theorem tryD {cs : List (Str × Str)} {bs : Bls} (hok : okD (.mk (.tr cs) bs)) : ∃ xs ys b0, dD (.mk (.tr cs) bs) = .tup [.str "try", b0, .tup xs, .tup ys] ∧ xs = catD cs (dTs bs).tail ∧ xs.length = cs.length ∧ hasL (.mk (.tr cs) bs) = decide (0 < ys.length) := by
  obtain ⟨ys, ey⟩ := dTs_tup bs (cs.length + 1)
  refine ⟨catD cs (dTs bs).tail, ys, (dTs bs).getD 0 (.tup []), by rw [← ey]; rfl, rfl, ?_, ?_⟩
  · have hn : bsl bs = cs.length + 2 := hok.1.1
    have hl : (dTs bs).tail.length = cs.length + 1 := by rw [List.length_tail, dTs_len, hn]; lia
    have h3 := congrArg List.length (cat_third cs (dTs bs).tail (by lia))
    rw [List.length_map, List.length_take] at h3
    lia
  · show decide (0 < nl ((dTs bs).getD (cs.length + 1) (.tup []))) = _
    rw [ey]; rfl
theorem len_is_in_lasts : ∀ ds M Q, spInLasts ds M Q → ds.length = 2 := by rintro _ _ _ ⟨_, _, _, rfl, _⟩; rfl
theorem dec_beq (x y : Int) : (x == y) = decide (x = y) := by
  by_cases h : x = y
  · subst h; simp
  · rw [decide_eq_false h]; simpa using h
theorem len_lasts_number : ∀ ds M Q, spLastsNo ds M Q → ds.length = 1 := by rintro _ _ _ ⟨_, _, rfl, _⟩; rfl
theorem rd_lasts_number : ∀ ds M Q, spLastsNo ds M Q → t_lasts_number { nx := fun _ M' => View Q .non M', rt := View Q } (start3 N_lasts_number ds) M := by
  rintro _ M Q ⟨cs, bs, rfl, hok, q⟩
  obtain ⟨xs, ys, b0, e, _, hxl, _⟩ := tryD hok
  rw [st_lasts_number]
  unfold t_lasts_number
  rw [e]
  walk_at "rd"
  refine rd_ixT (d := .tup xs) rfl ?_
  walk_at "rd"
  rw [hxl]
  exact View.of q
theorem rd_is_in_lasts : ∀ ds M Q, spInLasts ds M Q → t_is_in_lasts { nx := fun _ M' => View Q .non M', rt := View Q } (start3 N_is_in_lasts ds) M := by
  rintro _ M Q ⟨cs, bs, j, rfl, hok, q⟩
  rw [st_is_in_lasts]
  unfold t_is_in_lasts
  walk_at "rd"
  refine ⟨cs, bs, rfl, hok, ?_⟩
  walk_at "rd"
  rw [dec_beq]
  exact View.of q
theorem len_leads_to_lasts : ∀ ds M Q, spLeads ds M Q → ds.length = 2 := by rintro _ _ _ ⟨_, _, rfl, _⟩; rfl
theorem rd_leads_to_lasts : ∀ ds M Q, spLeads ds M Q → t_leads_to_lasts { nx := fun _ M' => View Q .non M', rt := View Q } (start3 N_leads_to_lasts ds) M := by
  rintro _ M Q ⟨d, j, rfl, hok, q⟩
  rw [st_leads_to_lasts]
  unfold t_leads_to_lasts
  walk_at "rd"
  refine ⟨d, rfl, hok, ?_⟩
  unfold leads at q
  cases e : hasL d with
  | false =>
    rw [e] at q
    walk_at "rd"
    exact View.of q
  | true =>
    rw [e] at q
    match d, hok, e, q with
    | .mk (.tr cs) bs, hok, e, q =>
    walk_at "rd"
    refine ⟨cs, bs, j, rfl, hok, ?_⟩
    walk_at "rd"
    exact View.of q
    | .mk (.leaf _ _) _, hok, e, q => cases e
    | .mk (.ife _) _, hok, e, q => cases e
    | .mk (.whl _) _, hok, e, q => cases e
theorem way_ok {r : Rl} (hr : rFit r) {x : List Int × Deed × Int} (w : Way r.blk x) : okD x.2.1 := pr_ok hr.1 w.at_
theorem head_is (d : Deed) : ∃ h rest, dD d = .tup (.str h :: rest) ∧ (okD d → (h == ("while" : Str)) = isW d) ∧ (okD d → (h == ("try" : Str)) = (match d with | .mk (.tr _) _ => true | _ => false)) := by
  cases d with
  | mk h bs =>
    obtain ⟨rest, e⟩ := head0 h (dTs bs)
    refine ⟨headS h, rest, e, fun hok => ?_, fun hok => ?_⟩
    · cases h with
      | leaf h r => exact (leaf_ne hok.1.2).2.1
      | ife e => exact (by decide +kernel : ((("if" : Str)) == ("while" : Str)) = false)
      | whl e => exact (by decide +kernel : ((("while" : Str)) == ("while" : Str)) = true)
      | tr cs => exact (by decide +kernel : ((("try" : Str)) == ("while" : Str)) = false)
    · cases h with
      | leaf h r => exact (leaf_ne hok.1.2).2.2
      | ife e => exact (by decide +kernel : ((("if" : Str)) == ("try" : Str)) = false)
      | whl e => exact (by decide +kernel : ((("while" : Str)) == ("try" : Str)) = false)
      | tr cs => exact (by decide +kernel : ((("try" : Str)) == ("try" : Str)) = true)
theorem drop_get {α : Type} {l : List α} {k : Nat} {x : α} (h : l[k]? = some x) : l.drop k = x :: l.drop (k + 1) := by
  obtain ⟨hk, e⟩ := List.getElem?_eq_some_iff.mp h
  rw [List.drop_eq_getElem_cons hk, e]
theorem map_get {α : Type} {f : α → D} {l : List α} {k : Nat} {y : D} (h : (l.map f)[k]? = some y) : ∃ x, l[k]? = some x ∧ y = f x := by
  rw [List.getElem?_map] at h
  cases e : l[k]? with
  | none => rw [e] at h; cases h
  | some x => rw [e] at h; exact ⟨x, rfl, (Option.some.inj h).symm⟩
theorem cat_get : ∀ (cs : List (Str × Str)) (ts : List D) (k : Nat) (y : D), (catD cs ts)[k]? = some y → ∃ c t, cs[k]? = some c ∧ y = .tup [.str c.1, .str c.2, t]
  | [], ts, k, y, h => by simp [catD] at h
  | (w, x) :: cs, [], k, y, h => by simp [catD] at h
  | (w, x) :: cs, t :: ts, 0, y, h => by
    simp only [catD, List.getElem?_cons_zero, Option.some.injEq] at h
    exact ⟨(w, x), t, rfl, h.symm⟩
  | (w, x) :: cs, t :: ts, k + 1, y, h => by
    simp only [catD, List.getElem?_cons_succ] at h
    obtain ⟨c, t', e, e2⟩ := cat_get cs ts k y h
    exact ⟨c, t', by simpa using e, e2⟩
theorem prs_get : ∀ (ds : List D) (n k : Nat) (y : D), (prs n ds)[k]? = some y → ∃ x, ds[k]? = some x ∧ y = .tup [.int ((n + k : Nat) : Int), x]
  | [], n, k, y, h => by simp [prs] at h
  | d :: ds, n, 0, y, h => by
    simp only [prs, List.getElem?_cons_zero, Option.some.injEq] at h
    exact ⟨d, rfl, h.symm⟩
  | d :: ds, n, k + 1, y, h => by
    simp only [prs, List.getElem?_cons_succ] at h
    obtain ⟨x, e, e2⟩ := prs_get ds (n + 1) k y h
    exact ⟨x, by simpa using e, by rw [e2, show n + 1 + k = n + (k + 1) by lia]⟩
theorem prs_len : ∀ (ds : List D) (n : Nat), (prs n ds).length = ds.length
  | [], _ => rfl
  | d :: ds, n => by simp only [prs, List.length_cons, prs_len ds (n + 1)]
theorem len_catch_of : ∀ ds M Q, spCatch ds M Q → ds.length = 3 := by rintro _ _ _ ⟨_, _, _, rfl, _⟩; rfl
theorem rd_catch_of : ∀ ds M Q, spCatch ds M Q → t_catch_of { nx := fun _ M' => View Q .non M', rt := View Q } (start3 N_catch_of ds) M := by
  rintro _ M Q ⟨d, j, w, rfl, hok, q⟩
  obtain ⟨h, rest, ed, _, et⟩ := head_is d
  have et := et hok
  rw [st_catch_of]
  unfold t_catch_of
  walk_at "rd"
  match d, hok, ed, et, q with
  | .mk (.tr cs) bs, hok, ed, et, q =>
    obtain ⟨xs, ys, b0, e, exs, hxl, _⟩ := tryD hok
    rw [e]
    refine rd_ixT (d := .str "try") rfl ?_
    walk_at "rd"
    rw [show ((("try" : Str)) == ("try" : Str)) = true by decide +kernel]
    walk_at "rd"
    by_cases hj : j = 0
    · subst hj
      have q' : Q (match cs.findIdx? (takes w) with | some c => .int (c : Nat) | none => .non) M := q
      rw [show ((0 : Int) == 0) = true by rfl]
      walk_at "rd"
      refine rd_ixT (d := .tup xs) rfl ?_
      walk_at "rd"
      refine ⟨fun k σ M1 => M1 = M ∧ (∃ s3 s4 s5 s6, σ = [some (.tup [.str "try", b0, .tup xs, .tup ys]), some (.int 0), some (.str w), s3, s4, s5, s6]) ∧ ∀ c ∈ cs.take k, takes w c = false, ⟨rfl, ⟨_, _, _, _, rfl⟩, by simp⟩, ?_, ?_⟩
      · rintro k y σ M1 hy ⟨rfl, ⟨s3, s4, s5, s6, rfl⟩, hno⟩
        obtain ⟨x, hx, rfl⟩ := prs_get xs 0 k y hy
        rw [exs] at hx
        obtain ⟨c, t, hc, rfl⟩ := cat_get cs _ k x hx
        rw [Nat.zero_add]
        refine rd_gTupG rfl ?_
        walk_at "rd"
        refine rd_gTup rfl ?_
        walk_at "rd"
        have hk : k < cs.length := (List.getElem?_eq_some_iff.mp hc).1
        have fin : takes w c = true → Q (.int (k : Nat)) M1 := fun ht => by
          have : cs.findIdx? (takes w) = some k := by
            rw [List.findIdx?_eq_some_iff_getElem]
            have e1 : cs[k] = c := (List.getElem?_eq_some_iff.mp hc).2
            refine ⟨hk, by rw [e1]; exact ht, fun j hj => ?_⟩
            have := hno cs[j] (by rw [List.mem_take_iff_getElem]; exact ⟨j, by lia, rfl⟩)
            rw [this]; exact Bool.false_ne_true
          rw [this] at q'; exact q'
        have nofin : takes w c = false → ∀ c' ∈ cs.take (k + 1), takes w c' = false := fun ht c' hc' => by
          rw [List.take_succ, hc] at hc'
          rcases List.mem_append.mp hc' with z | z
          · exact hno c' z
          · cases List.mem_singleton.mp z; exact ht
        unfold takes at fin nofin
        cases e1 : (c.1 == w) with
        | true =>
          rw [e1] at fin
          walk_at "rd"
          exact View.of (fin rfl)
        | false =>
          rw [e1] at fin nofin
          walk_at "rd"
          cases e2 : (c.1 == ("any" : Str)) with
          | true =>
            rw [e2] at fin
            walk_at "rd"
            exact View.of (fin rfl)
          | false =>
            rw [e2] at nofin
            walk_at "rd"
            exact ⟨rfl, ⟨_, _, _, _, rfl⟩, nofin rfl⟩
      · rintro σ M1 ⟨rfl, ⟨s3, s4, s5, s6, rfl⟩, hno⟩
        rw [prs_len, hxl, List.take_length] at hno
        have : cs.findIdx? (takes w) = none := List.findIdx?_eq_none_iff.mpr hno
        rw [this] at q'
        walk_at "rd"
        exact View.of q'
    · rw [show (j == 0) = false by rw [dec_beq]; exact decide_eq_false hj]
      have q' : Q (match (if j = 0 then cs.findIdx? (takes w) else none) with | some c => .int (c : Nat) | none => .non) M := q
      rw [if_neg hj] at q'
      walk_at "rd"
      exact View.of q'
  | .mk (.leaf _ _) _, hok, ed, et, q =>
    rw [ed]
    refine rd_ixT (d := .str h) (atI_nat (j := 0) rfl) ?_
    walk_at "rd"
    rw [et]
    walk_at "rd"
    exact View.of q
  | .mk (.ife _) _, hok, ed, et, q =>
    rw [ed]
    refine rd_ixT (d := .str h) (atI_nat (j := 0) rfl) ?_
    walk_at "rd"
    rw [et]
    walk_at "rd"
    exact View.of q
  | .mk (.whl _) _, hok, ed, et, q =>
    rw [ed]
    refine rd_ixT (d := .str h) (atI_nat (j := 0) rfl) ?_
    walk_at "rd"
    rw [et]
    walk_at "rd"
    exact View.of q
theorem faultF_cons (w : Str) (q : List Int) (d : Deed) (j : Int) (l : List (List Int × Deed × Int)) : faultF w ((q, d, j) :: l) = (match catchF w d j with
    | some c => .tup [.str "catch", plT q, .int (c : Nat)]
    | none => if leads d j = true then .tup [.str "last", plT q] else faultF w l) := rfl
theorem len_fault_goes : ∀ ds M Q, spFault ds M Q → ds.length = 3 := by rintro _ _ _ ⟨_, _, _, _, rfl, _⟩; rfl
theorem rd_fault_goes : ∀ ds M Q, spFault ds M Q → t_fault_goes { nx := fun _ M' => View Q .non M', rt := View Q } (start3 N_fault_goes ds) M := by
  rintro _ M Q ⟨r, p, d, w, rfl, hr, hp, q⟩
  rw [st_fault_goes]
  unfold t_fault_goes
  walk_at "rd"
  refine ⟨r, p, d, rfl, hr, hp, ?_⟩
  walk_at "rd"
  have hw := ar_way p.length (Nat.le_refl _) hp
  generalize ar r.blk p = L at *
  refine ⟨fun k σ M1 => M1 = M ∧ (∃ s3 s4 s5 s6, σ = [some (rD r), some (plT p), some (.str w), s3, s4, s5, s6]) ∧ faultF w (L.drop k) = faultF w L, ⟨rfl, ⟨_, _, _, _, rfl⟩, rfl⟩, ?_, ?_⟩
  · rintro k y σ M1 hy ⟨rfl, ⟨s3, s4, s5, s6, rfl⟩, hL⟩
    obtain ⟨⟨q', d', j⟩, hx, rfl⟩ := map_get hy
    have hok := way_ok hr (hw _ (List.mem_of_getElem? hx))
    rw [drop_get hx, faultF_cons] at hL
    refine rd_gTup rfl ?_
    walk_at "rd"
    refine ⟨d', j, w, rfl, hok, ?_⟩
    cases e : catchF w d' j with
    | some c =>
      rw [e] at hL
      walk_at "rd"
      exact View.of (by rw [← hL] at q; exact q)
    | none =>
      rw [e] at hL
      walk_at "rd"
      refine ⟨d', j, rfl, hok, ?_⟩
      have hL' : (if leads d' j = true then .tup [.str "last", plT q'] else faultF w (L.drop (k + 1))) = faultF w L := hL
      cases e : leads d' j with
      | true =>
        rw [e, if_pos rfl] at hL'
        walk_at "rd"
        exact View.of (by rw [← hL'] at q; exact q)
      | false =>
        rw [e, if_neg Bool.false_ne_true] at hL'
        walk_at "rd"
        exact ⟨rfl, ⟨_, _, _, _, rfl⟩, hL'⟩
  · rintro σ M1 ⟨rfl, ⟨s3, s4, s5, s6, rfl⟩, hL⟩
    rw [List.length_map, List.drop_length] at hL
    walk_at "rd"
    exact View.of (by rw [← hL] at q; exact q)
end GO
open L3
namespace GP
open PySem L2 L3 MK K11 K12
theorem len__law_pairs : ∀ n ds M Q, spPairs n ds M Q → ds.length = 2 := K12.len__law_pairs
theorem zero__law_pairs : ∀ ds M Q, ¬ spPairs 0 ds M Q := K12.zero__law_pairs
theorem rd__law_pairs : ∀ n ds M Q, spPairs (n + 1) ds M Q → t__law_pairs (spPairs n) { nx := fun _ M' => View Q .non M', rt := View Q } (start3 N__law_pairs ds) M := by
  rintro lv _ M Q ⟨b, ah, rfl, hok, hdp, hcnt, hah, q⟩
  rw [st__law_pairs]
  unfold t__law_pairs
  walk_at "rd"
  intro f hf
  walk_at "rd"
  have hlB := prB_len b ah 0
  have hbl : (dB b).length ≤ cntB b := by rw [dB_eq, List.length_map]; exact toL_len b
  refine ⟨by lia, by lia, fun k σ M1 => ∃ (dn : List (List Int × Deed)) (s3 s4 s5 : Option D), σ = [some (.tup (dB b)), some (plT ah), some (.ref f), s3, s4, s5] ∧ dn ++ prB (bdrop b k) ah k = prB b ah 0 ∧ M1 f = some (.lst (dn.map prT)) ∧ ∀ x, x ≠ f → M x ≠ none → M1 x = M x,
    ⟨[], _, _, _, rfl, by rw [bdrop_zero]; rfl, mput_same, fun x hx _ => mput_ne hx⟩, ?_, ?_⟩
  · rintro k d σ M1 hd ⟨dn, s3, s4, s5, rfl, hdn, hf1, hs1⟩
    have hk : k < (dB b).length := by simpa using (List.getElem?_eq_some_iff.mp hd).1
    have hdk : d = .int (k : Nat) := by
      rw [List.getElem?_map, List.getElem?_range (by simpa using hk)] at hd
      exact (Option.some.inj hd).symm
    subst hdk
    have hx : (dB b)[k]? = some (dB b)[k] := by simp
    obtain ⟨dd, hmem, hxe, hbd⟩ := bdrop_get b k _ hx
    rw [hxe] at hx
    obtain ⟨c1, c2, c3⟩ := mem_toL b dd hmem
    cases dd with
    | mk h bs =>
      have hokd := c3 hok
      walk_at "rd"
      refine ⟨.inl ⟨rfl, _, hf1⟩, ?_⟩
      walk_at "rd"
      refine rd_addT (by rw [List.length_map, sizeLine_eq]; show ah.length + 1 ≤ _; lia) ?_
      walk_at "rd"
      refine rd_ixT (atI_nat hx) ?_
      walk_at "rd"
      have hdl : dn.length ≤ cntB b := by rw [← hlB, ← hdn]; simp
      refine rd_append hf1 (by rw [List.length_map, sizeLine_eq]; lia) ?_
      walk_at "rd"
      refine rd_ixT (atI_nat hx) ?_
      walk_at "rd"
      refine ⟨h, bs, rfl, hokd.1, ?_⟩
      walk_at "rd"
      rw [hbd] at hdn
      have e0 : prB (.cons (.mk h bs) (bdrop b (k + 1))) ah k = (ah ++ [(k : Int)], .mk h bs) :: (prBs bs (ah ++ [(k : Int)]) 0 ++ prB (bdrop b (k + 1)) ah (k + 1)) := by simp only [prB, prD]
      rw [e0] at hdn
      refine ⟨fun j σ M2 => ∃ (dm : List (List Int × Deed)) (s4 s5 : Option D), σ = [some (.tup (dB b)), some (plT ah), some (.ref f), some (.int ((k : Nat) : Int)), s4, s5] ∧ dm ++ prBs (bsdrop bs j) (ah ++ [(k : Int)]) j = dn ++ [(ah ++ [(k : Int)], .mk h bs)] ++ prBs bs (ah ++ [(k : Int)]) 0 ∧ M2 f = some (.lst (dm.map prT)) ∧ ∀ x, x ≠ f → M x ≠ none → M2 x = M x,
        ⟨dn ++ [(ah ++ [(k : Int)], .mk h bs)], _, _, rfl, by rw [bsdrop_zero], by rw [mput_same, List.map_append, List.map_singleton, show prT (ah ++ [(k : Int)], Deed.mk h bs) = .tup [plT (ah ++ [(k : Int)]), dD (.mk h bs)] from rfl, plT_app], fun x hx hxn => by rw [mput_ne hx]; exact hs1 x hx hxn⟩, ?_, ?_⟩
      · rintro j y σ M2 hy ⟨dm, s4, s5, rfl, hdm, hf2, hs2⟩
        obtain ⟨x, hx2, rfl⟩ := prs_get _ 0 j y hy
        rw [Nat.zero_add]
        obtain ⟨c, hcm, rfl, hbs⟩ := bsdrop_get bs j x hx2
        obtain ⟨c4, c5, c6⟩ := mem_toLs bs c hcm
        have hcD : cntD (.mk h bs) = 1 + cntBs bs := rfl
        have hdD : dpD (.mk h bs) = dpBs bs := rfl
        rw [hbs] at hdm
        have e1 : prBs (.cons c (bsdrop bs (j + 1))) (ah ++ [(k : Int)]) j = prB c (ah ++ [(k : Int)] ++ [(j : Int)]) 0 ++ prBs (bsdrop bs (j + 1)) (ah ++ [(k : Int)]) (j + 1) := by simp only [prBs]
        rw [e1] at hdm
        have hdml : dm.length + cntB c ≤ cntB b := by
          have h1 := congrArg List.length hdm
          have h2 := congrArg List.length hdn
          have h3 := prB_len c (ah ++ [(k : Int)] ++ [(j : Int)]) 0
          simp only [List.length_append, List.length_cons, List.length_nil] at h1 h2
          lia
        refine rd_gTup rfl ?_
        walk_at "rd"
        refine ⟨.inl ⟨rfl, _, hf2⟩, ?_⟩
        walk_at "rd"
        refine rd_addT (by rw [List.length_map, sizeLine_eq]; show ah.length + 2 ≤ _; lia) ?_
        walk_at "rd"
        refine ⟨c, ah ++ [(k : Int)] ++ [(j : Int)], by unfold plT; rw [List.map_append, List.map_append, List.append_assoc]; rfl, c6 hokd.2, by lia, by lia, by simp only [List.length_append, List.length_cons, List.length_nil]; lia, fun a M3 ha hM3 hs3 => ?_⟩
        walk_at "rd"
        have hfa : f ≠ a := by rintro rfl; rw [ha] at hf2; cases hf2
        have hf3 : M3 f = some (.lst (dm.map prT)) := by rw [hs3 f hfa]; exact hf2
        refine ⟨f, a, _, _, rfl, rfl, hf3, hM3, by rw [List.length_map, List.length_map, prB_len, sizeLine_eq]; lia, ?_⟩
        refine ⟨dm ++ prB c (ah ++ [(k : Int)] ++ [(j : Int)]) 0, _, _, rfl, by rw [List.append_assoc]; exact hdm, by rw [mput_same, List.map_append], fun x hx hxn => ?_⟩
        rw [mput_ne hx, hs3 x]
        · exact hs2 x hx hxn
        · rintro rfl; rw [hs2 _ hx hxn] at ha; exact hxn ha
      · rintro σ M2 ⟨dm, s4, s5, rfl, hdm, hf2, hs2⟩
        rw [show (prs 0 (dTs bs)).length = (dTs bs).length from prs_len _ 0, bsdrop_all] at hdm
        have hdm' : dm = dn ++ [(ah ++ [(k : Int)], .mk h bs)] ++ prBs bs (ah ++ [(k : Int)]) 0 := by simpa [prBs] using hdm
        refine ⟨dm, _, _, _, rfl, ?_, hf2, hs2⟩
        rw [hdm', ← hdn]
        simp
  · rintro σ M1 ⟨dn, s3, s4, s5, rfl, hdn, hf1, hs1⟩
    rw [List.length_map, List.length_range, show Int.toNat ((dB b).length : Int) = (dB b).length by simp, bdrop_all] at hdn
    have hdn' : dn = prB b ah 0 := by simpa [prB] using hdn
    subst hdn'
    walk_at "rd"
    refine View.onlyR (f := f) (M := M) hs1 (q f _ hf ?_ fun x hx => ?_)
    · show (if f = f then M1 f else M f) = _
      rw [if_pos rfl]; exact hf1
    · show (if x = f then M1 f else M x) = M x
      rw [if_neg hx]
def kvs (b : Blk) : List (List Int × D) := (prB b [] 0).map fun x => (x.1, dD x.2)
theorem kvs_pairs (b : Blk) : (prB b [] 0).map prT = (kvs b).map prD3 := by unfold kvs; rw [List.map_map]; rfl
theorem kvs_nodup (b : Blk) : ((kvs b).map (·.1)).Nodup := by
  have := GO.pr_nodup b
  unfold kvs
  rw [List.map_map]
  exact this
theorem kvs_look (b : Blk) (p : List Int) : List.lookup p (kvs b) = (List.lookup p (prB b [] 0)).map dD := GO.look_map dD p _
theorem kvs_at {b : Blk} {p : List Int} {d : Deed} (h : (p, d) ∈ prB b [] 0) : List.lookup p (kvs b) = some (dD d) := by rw [kvs_look, GO.look_of (GO.pr_nodup b) h]; rfl
end GP
open L3
namespace GP
open PySem L2 L3 MK K11 K12 GO
theorem pr_bn {r : Rl} (hr : rFit r) {p : List Int} {d : Deed} (h : (p, d) ∈ prB r.blk [] 0) : Bn 9 p := by
  obtain ⟨h1, h2, h3⟩ := hr
  have hm : p ∈ plB r.blk [] 0 := by rw [← prB_fst]; exact List.mem_map.mpr ⟨(p, d), h, rfl⟩
  exact (plB_bn r.blk [] 0 0 h1 (by lia) ⟨Nat.le_refl _, fun x hx => by cases hx⟩ p hm).mono (by lia)
theorem pl_Sm {p : List Int} (h : Bn 9 p) : Sm 918 1 (plT p) := Sm.tup (w := 918) (m := 1) ((ints_Sm p h.2).mono (h1 := by have := h.1; lia) (m := 0))
theorem sh1 {w : Str} (hw : (w.cps.toList.all fun c => decide (c < 1114112)) = true) (hl : w.length ≤ 10) : shOk (.tup [.str w]) :=
  (Sm.tup (w := 20) (m := 1) (SmL.cons (Sm.str hw 10 hl) (SmL.nil (w := 0)))).show
theorem sh2 {w : Str} (hw : (w.cps.toList.all fun c => decide (c < 1114112)) = true) (hl : w.length ≤ 10) {p : List Int} (hp : Bn 9 p) : shOk (.tup [.str w, plT p]) :=
  (Sm.tup (w := 1000) (m := 2) (SmL.cons ((Sm.str hw 10 hl).mono (v := 10) (m := 1)) (SmL.cons (pl_Sm hp) (SmL.nil (w := 0)) (u := 919)))).show
theorem sh3 {w : Str} (hw : (w.cps.toList.all fun c => decide (c < 1114112)) = true) (hl : w.length ≤ 10) {p : List Int} (hp : Bn 9 p) {c : Nat} (hc : c ≤ 1000) : shOk (.tup [.str w, plT p, .int (c : Nat)]) :=
  (Sm.tup (w := 1200) (m := 2) (SmL.cons ((Sm.str hw 10 hl).mono (v := 10) (m := 1)) (SmL.cons (pl_Sm hp) (SmL.cons ((Sm.int (n := (c : Int)) ⟨by unfold ten30; lia, by unfold ten30; lia⟩).mono (v := 101) (m := 1)) (SmL.nil (w := 0)) (u := 102)) (u := 1021)))).show
theorem blk_pos {b : Blk} (h : b ≠ .nil) : 1 ≤ cntB b := by
  cases e : b with
  | nil => exact absurd e h
  | cons x y =>
    have := cntD_pos x
    show 1 ≤ cntD x + cntB y
    lia
end GP
namespace L3
open PySem L2
theorem comp_filtX {α : Type} {gt : TG3} {tt : TT3} {te : TE3} {σ0 : Lo} {M1 : Mem} {Q : DK} (l : List α) (f g : α → D) (c : α → Bool) (hl : l.length < sizeLine)
    (turn : ∀ a ∈ l, ∀ M2 (R : D → Mem → Prop) (F : Mem → Prop), (∀ x, M1 x ≠ none → M2 x = M1 x) → (c a = true → R (g a) M2) → (c a = false → F M2) → gt (f a) σ0 M2 fun σ' M3 => tt σ' M3 fun bb M4 => if bb = true then te σ' M4 R else F M4)
    (done : Q (.lst ((l.filter c).map g)) M1) : CompB gt tt te σ0 (l.map f) M1 Q := by
  intro p hp
  refine ⟨fun k acc M2 => acc = ((l.take k).filter c).map g ∧ M2 p = some (.lst acc) ∧ ∀ a, a ≠ p → M2 a = M1 a, ⟨rfl, mput_same, fun a ha => mput_ne ha⟩, ?_, ?_⟩
  · rintro k d acc M2 hd ⟨rfl, hacc, hsame⟩
    have hk : k < l.length := by simpa using (List.getElem?_eq_some_iff.mp hd).1
    have hdk : d = f l[k] := by
      rw [List.getElem?_map, List.getElem?_eq_getElem hk] at hd
      exact (Option.some.inj hd).symm
    subst hdk
    have hlen : (((l.take k).filter c).map g).length ≤ k := by
      rw [List.length_map]
      exact Nat.le_trans (List.length_filter_le _ _) (by simp; lia)
    have e1 : l.take (k + 1) = l.take k ++ [l[k]] := by rw [List.take_succ, List.getElem?_eq_getElem hk]; rfl
    refine turn l[k] (List.getElem_mem hk) M2 _ _ (fun a ha => hsame a (by rintro rfl; exact ha hp)) (fun hc => ⟨hacc, by lia, ?_, mput_same, fun a ha => by rw [mput_ne ha]; exact hsame a ha⟩) (fun hc => ⟨?_, hacc, hsame⟩)
    · rw [e1, List.filter_append, List.filter_cons_of_pos hc, List.map_append]; rfl
    · rw [e1, List.filter_append, List.filter_cons_of_neg (by rw [hc]; simp), List.map_append]; simp
  · rintro acc M2 ⟨rfl, hacc, hsame⟩
    have hlen : (l.map f).length = l.length := by simp
    rw [hlen, List.take_length] at hacc ⊢
    have : mdel M2 p = M1 := funext fun a => by
      by_cases ha : a = p
      · subst ha; rw [mdel_same, hp]
      · rw [mdel_ne ha]; exact hsame a ha
    rw [this]
    exact ⟨hacc, done⟩
end L3
namespace K22
open PySem L2 L3 MK K11 K12 GO GP
end K22
namespace K22
open PySem L2 L3
end K22
open L3
namespace K22
open PySem L2 L3 MK K11 K12 GO GP
theorem way_le {b : Blk} {q : List Int} {cs : List (Str × Str)} {bs : Bls} {j : Int} (w : Way b (q, .mk (.tr cs) bs, j)) (hok : okD (.mk (.tr cs) bs)) : decide (j ≤ (cs.length : Nat)) = !decide (j = (cs.length : Int) + 1) := by
  obtain ⟨jn, bk, i, d, e, h1, _⟩ := w.num
  have h1' : (toLs bs)[jn]? = some bk := h1
  have hl := (List.getElem?_eq_some_iff.mp h1').1
  have hn : bsl bs = cs.length + 2 := hok.1.1
  rw [toLs_len, hn] at hl
  have e' : j = (jn : Int) := e
  by_cases hj : j = (cs.length : Int) + 1
  · rw [decide_eq_true hj, decide_eq_false (by lia)]; rfl
  · rw [decide_eq_false hj, decide_eq_true (by lia)]; rfl
end K22
namespace K21
open PySem L2 L3 MK K11 K12 GO GP
def spDue : Sp3 := fun ds M Q => ∃ a r p d, ∃ w : Str, ds = [.ref a, plT p, .str w] ∧ M a = some (.dt (kvs r.blk)) ∧ rFit r ∧ (p, d) ∈ prB r.blk [] 0 ∧ Q (faultF w (ar r.blk p)) M
def spWords : Sp3 := fun ds M Q => ∃ p b, ∃ dds : List Deed, ds = [.ref p, .lst (dds.map dD)] ∧ (∀ d ∈ dds, okD d) ∧ dds.length ≤ 100 ∧ Pen M p b ∧ b + 60 < 2 ^ 30 ∧ ∀ (ws : List Str) M', 1 ≤ ws.length → ws.length ≤ 400 → Pen M' p (b + 40) → Same3 p M M' → Q (.lst (ws.map D.str)) M'
end K21
namespace K21
open PySem L2 L3
abbrev N__law_due : List Str := ["_law_known", "_law_place", "_law_word_here", "_law_number", "_law_deed_here", "_law_takers"]
def t__law_due : TS3 :=
    (tSeq3 (tWhile3 (tTest3 (tOp3 rGt3 (tCB3 rLen3 (tCons3 (tVar3 1) tNil3)) (tC3 (.int 1)))) (tSeq3 (tSet3 3 (tOp3 rIx3 (tVar3 1) (tUn3 rNeg3 (tC3 (.int 2)))))
    (tSeq3 (tSet3 1 (tSlA3 (tVar3 1) tNoPart3 (tPart3 (tUn3 rNeg3 (tC3 (.int 2))))))
    (tSeq3 (tSet3 4 (tOp3 rTGet3 (tVar3 0) (tVar3 1)))
    (tIfS3 (tTest3 (tOp3 rEq3 (tOp3 rIx3 (tVar3 4) (tC3 (.int 0))) (tC3 (.str "try")))) (tSeq3 (tSet3 5 (tComp3 (iRng3 (tCons3 (tCB3 rLen3 (tCons3 (tOp3 rIx3 (tVar3 4) (tC3 (.int 2))) tNil3)) tNil3)) 1 [2, 4] (gName3 0) (tOr3 (tTest3 (tOp3 rEq3 (tOp3 rIx3 (tOp3 rIx3 (tOp3 rIx3 (tVar3 2) (tC3 (.int 2))) (tVar3 0)) (tC3 (.int 0))) (tVar3 1))) (tTest3 (tOp3 rEq3 (tOp3 rIx3 (tOp3 rIx3 (tOp3 rIx3 (tVar3 2) (tC3 (.int 2))) (tVar3 0)) (tC3 (.int 0))) (tC3 (.str "any"))))) (tVar3 0)))
    (tSeq3 (tIfS3 (tAnd3 (tTest3 (tOp3 rEq3 (tVar3 3) (tC3 (.int 0)))) (tTest3 (tOp3 rGt3 (tCB3 rLen3 (tCons3 (tVar3 5) tNil3)) (tC3 (.int 0))))) (tRet3 (tTup3 (tCons3 (tC3 (.str "catch")) (tCons3 (tVar3 1) (tCons3 (tOp3 rIx3 (tVar3 5) (tC3 (.int 0))) tNil3))))) tNext3)
    (tIfS3 (tAnd3 (tTest3 (tOp3 rGt3 (tCB3 rLen3 (tCons3 (tOp3 rIx3 (tVar3 4) (tC3 (.int 3))) tNil3)) (tC3 (.int 0)))) (tTest3 (tOp3 rLe3 (tVar3 3) (tCB3 rLen3 (tCons3 (tOp3 rIx3 (tVar3 4) (tC3 (.int 2))) tNil3))))) (tRet3 (tTup3 (tCons3 (tC3 (.str "last")) (tCons3 (tVar3 1) tNil3)))) tNext3))) tNext3)))))
    (tRet3 (tTup3 (tCons3 (tC3 (.str "out")) tNil3))))
theorem st__law_due (d0 d1 d2 : D) : start3 N__law_due [d0, d1, d2] = [some d0, some d1, some d2, none, none, none] := rfl
abbrev N__law_words : List Str := ["_law_pen_here", "_law_deeds", "_law_found", "_law_deed_here"]
def t__law_words : TS3 :=
    (tSeq3 (tSet3 2 (tLstM3 (tCons3 (tC3 (.str "close")) (tCons3 (tC3 (.str "an")) (tCons3 (tC3 (.str "anyany")) (tCons3 (tC3 (.str "a")) (tCons3 (tC3 (.str "ring")) (tCons3 (tCall3 MK.spWord (tCons3 (tVar3 0) tNil3)) (tCons3 (tCall3 MK.spWord (tCons3 (tVar3 0) tNil3)) tNil3)))))))))
    (tSeq3 (tFor3 (iList3 (tVar3 1)) 3 (tIfS3 (tTest3 (tOp3 rEq3 (tOp3 rIx3 (tVar3 3) (tC3 (.int 0))) (tC3 (.str "try")))) (tDrop3 (tBM3 "list" rExt3 (tVar3 2) (tCons3 (tCompM3 (iTup3 (tOp3 rIx3 (tVar3 3) (tC3 (.int 2)))) 1 [] (gName3 0) (tTest3 (tOp3 rNe3 (tOp3 rIx3 (tVar3 0) (tC3 (.int 0))) (tC3 (.str "any")))) (tOp3 rIx3 (tVar3 0) (tC3 (.int 0)))) tNil3))) tNext3))
    (tRet3 (tVar3 2))))
theorem st__law_words (d0 d1 : D) : start3 N__law_words [d0, d1] = [some d0, some d1, none, none] := rfl
abbrev N_law : List Str := ["_law_script", "_law_pen_here", "_law_deeds", "_law_book_here", "_law_shown", "_law_rule", "_law_pairs_here", "_law_known", "_law_words_here", "_law_asked", "_law_place", "_law_deed_here", "_law_k", "_law_word_here"]
def t_law : TS3 :=
    (tSeq3 (tSet3 1 (tCall3 spPen (tCons3 (tVar3 0) tNil3)))
    (tSeq3 (tSet3 2 (tOp3 rIx3 (tLst3 (tCons3 (tC3 (.int 8)) (tCons3 (tC3 (.int 30)) tNil3))) (tCB3 rInt3 (tCons3 (tOp3 rEq3 (tCall3 spDraw (tCons3 (tVar3 1) (tCons3 (tC3 (.int 6)) tNil3))) (tC3 (.int 5))) tNil3))))
    (tSeq3 (tSet3 3 (tCall3 MK.spBook (tCons3 (tVar3 1) (tCons3 (tC3 (.int 3)) (tCons3 (tVar3 2) tNil3)))))
    (tSeq3 (tSet3 4 (tCB3 rReprM3 (tCons3 (tVar3 3) tNil3)))
    (tSeq3 (tFor3 (iTup3 (tVar3 3)) 5 (tSeq3 (tSet3 6 (tCall3 (K12.spPairs 8) (tCons3 (tOp3 rIx3 (tVar3 5) (tC3 (.int 2))) (tCons3 (tTup3 tNil3) tNil3))))
    (tFrz3 6 (tSeq3 (tSet3 7 (tDictP3 (tCons3 (tVar3 6) tNil3)))
    (tSeq3 (tSet3 8 (tCall3 spWords (tCons3 (tVar3 1) (tCons3 (tComp3 (iList3 (tVar3 6)) 2 [] (gTup3 [0, 1]) tTrue3 (tVar3 1)) tNil3))))
    (tSeq3 (tSet3 9 (tLstM3 tNil3))
    (tSeq3 (tForG3 (iList3 (tVar3 6)) (gTup3 [10, 11]) (tFor3 (iRng3 (tCons3 (tC3 (.int 3)) tNil3)) 12 (tDrop3 (tBM3 "list" rAppend3 (tVar3 9) (tCons3 (tTup3 (tCons3 (tVar3 10) (tCons3 (tOp3 rIx3 (tVar3 8) (tCall3 spDraw (tCons3 (tVar3 1) (tCons3 (tCB3 rLen3 (tCons3 (tVar3 8) tNil3)) tNil3)))) tNil3))) tNil3)))))
    (tFrz3 9 (tForG3 (iList3 (tOp3 rAdd3 (tVar3 9) (tRev3 (tVar3 9) (tPart3 (tUn3 rNeg3 (tC3 (.int 1))))))) (gTup3 [10, 13]) (tIfS3 (tTest3 (tOp3 rNe3 (tCB3 rReprM3 (tCons3 (tCall3 GO.spFault (tCons3 (tVar3 5) (tCons3 (tVar3 10) (tCons3 (tVar3 13) tNil3)))) tNil3)) (tCB3 rReprM3 (tCons3 (tCall3 spDue (tCons3 (tVar3 7) (tCons3 (tVar3 10) (tCons3 (tVar3 13) tNil3)))) tNil3)))) (tRet3 (tC3 (.bl false))) tNext3))))))))))
    (tRet3 (tOp3 rEq3 (tCB3 rReprM3 (tCons3 (tVar3 3) tNil3)) (tVar3 4))))))))
theorem st_law (d0 : D) : start3 N_law [d0] = [some d0, none, none, none, none, none, none, none, none, none, none, none, none, none] := rfl
end K21
open L3
namespace L3
open PySem L2
theorem comp_filtMX {α : Type} {gt : TG3} {tt : TT3} {te : TE3} {σ0 : Lo} {M1 : Mem} {Q : DK} (l : List α) (f g : α → D) (c : α → Bool) (hl : l.length < sizeLine)
    (turn : ∀ a ∈ l, ∀ M2 (R : D → Mem → Prop) (F : Mem → Prop), (∀ x, M1 x ≠ none → M2 x = M1 x) → (c a = true → R (g a) M2) → (c a = false → F M2) → gt (f a) σ0 M2 fun σ' M3 => tt σ' M3 fun bb M4 => if bb = true then te σ' M4 R else F M4)
    (done : ∀ p M', M1 p = none → M' p = some (.lst ((l.filter c).map g)) → (∀ x, x ≠ p → M' x = M1 x) → Q (.ref p) M') : CompMB gt tt te σ0 (l.map f) M1 Q := by
  intro p hp
  refine ⟨fun k acc M2 => acc = ((l.take k).filter c).map g ∧ M2 p = some (.lst acc) ∧ ∀ a, a ≠ p → M2 a = M1 a, ⟨rfl, mput_same, fun a ha => mput_ne ha⟩, ?_, ?_⟩
  · rintro k d acc M2 hd ⟨rfl, hacc, hsame⟩
    have hk : k < l.length := by simpa using (List.getElem?_eq_some_iff.mp hd).1
    have hdk : d = f l[k] := by
      rw [List.getElem?_map, List.getElem?_eq_getElem hk] at hd
      exact (Option.some.inj hd).symm
    subst hdk
    have hlen : (((l.take k).filter c).map g).length ≤ k := by
      rw [List.length_map]
      exact Nat.le_trans (List.length_filter_le _ _) (by simp; lia)
    have e1 : l.take (k + 1) = l.take k ++ [l[k]] := by rw [List.take_succ, List.getElem?_eq_getElem hk]; rfl
    refine turn l[k] (List.getElem_mem hk) M2 _ _ (fun a ha => hsame a (by rintro rfl; exact ha hp)) (fun hc => ⟨hacc, by lia, ?_, mput_same, fun a ha => by rw [mput_ne ha]; exact hsame a ha⟩) (fun hc => ⟨?_, hacc, hsame⟩)
    · rw [e1, List.filter_append, List.filter_cons_of_pos hc, List.map_append]; rfl
    · rw [e1, List.filter_append, List.filter_cons_of_neg (by rw [hc]; simp), List.map_append]; simp
  · rintro acc M2 ⟨rfl, hacc, hsame⟩
    rw [List.length_map, List.take_length] at hacc
    refine ⟨?_, done p M2 hp hacc hsame⟩
    rw [List.length_map, List.take_length]; exact hacc
end L3
namespace K21
open PySem L2 L3 MK K11 K12 GO GP K22
theorem take_idx (w : Str) (cs : List (Str × Str)) : ((List.range cs.length).filter fun k => takes w (cs.getD k ("", "")))[0]? = cs.findIdx? (takes w) := by
  rw [← List.head?_eq_getElem?, List.head?_filter]
  cases e : cs.findIdx? (takes w) with
  | none =>
    rw [List.findIdx?_eq_none_iff] at e
    rw [List.find?_eq_none]
    intro k hk
    have hk' : k < cs.length := List.mem_range.mp hk
    rw [List.getD, List.getElem?_eq_getElem hk', Option.getD_some, e _ (List.getElem_mem hk')]
    exact Bool.false_ne_true
  | some k =>
    rw [List.findIdx?_eq_some_iff_getElem] at e
    obtain ⟨hk, h1, h2⟩ := e
    rw [List.find?_range_eq_some]
    refine ⟨?_, List.mem_range.mpr hk, fun j hj => ?_⟩
    · rw [List.getD, List.getElem?_eq_getElem hk]; exact h1
    · have hj' : j < cs.length := by lia
      rw [List.getD, List.getElem?_eq_getElem hj', Option.getD_some]
      have := h2 j hj
      simpa using this
theorem cat_at {cs : List (Str × Str)} {ts : List D} (hl : (catD cs ts).length = cs.length) {k : Nat} (hk : k < cs.length) : ∃ t, (catD cs ts)[k]? = some (.tup [.str (cs.getD k ("", "")).1, .str (cs.getD k ("", "")).2, t]) := by
  have h1 : (catD cs ts)[k]? = some ((catD cs ts)[k]'(by lia)) := by simp
  obtain ⟨c, t, hc, e⟩ := cat_get cs ts k _ h1
  rw [e] at h1
  have : cs.getD k ("", "") = c := by rw [List.getD, hc]; rfl
  exact ⟨t, by rw [this]; exact h1⟩
theorem len__law_due : ∀ ds M Q, spDue ds M Q → ds.length = 3 := by rintro _ _ _ ⟨_, _, _, _, _, rfl, _⟩; rfl
set_option maxHeartbeats 1000000 in
theorem rd__law_due : ∀ ds M Q, spDue ds M Q → t__law_due { nx := fun _ M' => View Q .non M', rt := View Q } (start3 N__law_due ds) M := by
  rintro _ M Q ⟨a, r, p, d, w, rfl, hm, hr, hp, q⟩
  rw [st__law_due]
  unfold t__law_due
  walk_at "rd"
  refine rd_while ⟨fun m σ M1 => ∃ (p' : List Int) (d' : Deed) (s3 s4 s5 : Option D), σ = [some (.ref a), some (plT p'), some (.str w), s3, s4, s5] ∧ (p', d') ∈ prB r.blk [] 0 ∧ m = p'.length ∧ faultF w (ar r.blk p') = faultF w (ar r.blk p) ∧ M1 = M,
    ⟨p.length, p, d, _, _, _, rfl, hp, rfl, rfl, rfl⟩, ?_⟩
  rintro m σ M1 ⟨p', d', s3, s4, s5, rfl, hp', rfl, hF, rfl⟩
  walk_at "rd"
  refine rd_lenP ?_
  walk_at "rd"
  by_cases h : 1 < p'.length
  · rw [decide_eq_true (show (1 : Int) < (p'.length : Nat) by lia)]
    have hway := ar_way p'.length (Nat.le_refl _) hp' (cut2 p', dA r.blk (cut2 p'), num2 p') (by rw [ar_step h]; exact List.mem_cons_self)
    obtain ⟨q', j, i, hh, bs, bk, e1, e2, e3, hq, e4, h1, h2⟩ := pr_cut hp' h
    have hst := ar_step (b := r.blk) h
    rw [e2, e4, e3] at hway
    rw [e2, e3, e4] at hst
    rw [hst, faultF_cons] at hF
    have hok := pr_ok hr.1 hq
    obtain ⟨hd, rest, ed, _, et⟩ := head_is (.mk hh bs)
    subst e1
    have hl2 : (q' ++ [(j : Int), (i : Int)]).length = q'.length + 2 := by simp
    walk_at "rd"
    refine rd_num2 ?_
    walk_at "rd"
    refine rd_cut2 ?_
    walk_at "rd"
    refine rd_tget (k := q') hm (kvs_at hq) ?_
    walk_at "rd"
    rw [ed]
    refine rd_ixT (d := .str hd) (atI_nat (j := 0) rfl) ?_
    walk_at "rd"
    rw [et hok]
    have skip : ∀ s3 s4 s5, catchF w (.mk hh bs) j = none → leads (.mk hh bs) j = false → ∃ m', m' < (q' ++ [(j : Int), (i : Int)]).length ∧ ∃ (p' : List Int) (d' : Deed) (s3' s4' s5' : Option D), ([some (.ref a), some (plT q'), some (.str w), s3, s4, s5] : Lo) = [some (.ref a), some (plT p'), some (.str w), s3', s4', s5'] ∧ (p', d') ∈ prB r.blk [] 0 ∧ m' = p'.length ∧ faultF w (ar r.blk p') = faultF w (ar r.blk p) ∧ M1 = M1 := fun s3 s4 s5 hc hl => by
      rw [hc] at hF
      have hF' : (if leads (.mk hh bs) j = true then .tup [.str "last", plT q'] else faultF w (ar r.blk q')) = faultF w (ar r.blk p) := hF
      rw [hl, if_neg Bool.false_ne_true] at hF'
      exact ⟨q'.length, by lia, q', _, _, _, _, rfl, hq, rfl, hF', rfl⟩
    match hh, hok, ed, hF, skip, hway with
    | .tr cs, hok, ed, hF, skip, hway =>
      obtain ⟨xs, ys, b0, e, exs, hxl, hhl⟩ := tryD hok
      have hle := way_le hway hok
      have hnc : nC (.mk (.tr cs) bs) = cs.length := rfl
      have hcs : cs.length ≤ 3 := hok.1.2.1
      show if true = true then _ else _
      walk_at "rd"
      rw [← ed, e]
      refine rd_ixT (d := .tup xs) rfl ?_
      walk_at "rd"
      refine ⟨by lia, by lia, ?_⟩
      rw [hxl, show ((cs.length : Nat) : Int).toNat = cs.length by simp]
      refine comp_filtX (List.range cs.length) (fun k => .int (k : Nat)) (fun k => .int (k : Nat)) (fun k => takes w (cs.getD k ("", ""))) (by rw [List.length_range, sizeLine_eq]; lia) ?_ ?_
      · intro k hk M7 R F _ hR hF7
        have hk' : k < cs.length := List.mem_range.mp hk
        obtain ⟨t, ht⟩ := cat_at (cs := cs) (ts := (dTs bs).tail) (by rw [← exs]; exact hxl) hk'
        rw [← exs] at ht
        refine rd_gName ?_
        walk_at "rd"
        refine rd_ixT (d := .tup xs) rfl ?_
        walk_at "rd"
        refine rd_ixT (atI_nat ht) ?_
        walk_at "rd"
        refine rd_ixT (d := .str (cs.getD k ("", "")).1) (atI_nat (j := 0) rfl) ?_
        walk_at "rd"
        unfold takes at hR hF7
        cases c1 : ((cs.getD k ("", "")).1 == w) with
        | true =>
          rw [c1] at hR
          walk_at "rd"
          exact hR rfl
        | false =>
          rw [c1] at hR hF7
          walk_at "rd"
          refine rd_ixT (d := .tup xs) rfl ?_
          walk_at "rd"
          refine rd_ixT (atI_nat ht) ?_
          walk_at "rd"
          refine rd_ixT (d := .str (cs.getD k ("", "")).1) (atI_nat (j := 0) rfl) ?_
          walk_at "rd"
          cases c2 : ((cs.getD k ("", "")).1 == ("any" : Str)) with
          | true =>
            rw [c2] at hR
            walk_at "rd"
            exact hR rfl
          | false =>
            rw [c2] at hF7
            walk_at "rd"
            exact hF7 rfl
      · have hti := take_idx w cs
        generalize hI : (List.range cs.length).filter (fun k => takes w (cs.getD k ("", ""))) = I at *
        walk_at "rd"
        have lasts : catchF w (.mk (.tr cs) bs) j = none → ∀ T : Ends3, (leads (.mk (.tr cs) bs) j = false → T.nx [some (.ref a), some (plT q'), some (.str w), some (.int (j : Int)), some (.tup [.str "try", b0, .tup xs, .tup ys]), some (.lst (I.map fun k => .int (k : Nat)))] M1) → T.rt = View Q →
            (tIfS3 (tAnd3 (tTest3 (tOp3 rGt3 (tCB3 rLen3 (tCons3 (tOp3 rIx3 (tVar3 4) (tC3 (.int 3))) tNil3)) (tC3 (.int 0)))) (tTest3 (tOp3 rLe3 (tVar3 3) (tCB3 rLen3 (tCons3 (tOp3 rIx3 (tVar3 4) (tC3 (.int 2))) tNil3))))) (tRet3 (tTup3 (tCons3 (tC3 (.str "last")) (tCons3 (tVar3 1) tNil3)))) tNext3) T [some (.ref a), some (plT q'), some (.str w), some (.int (j : Int)), some (.tup [.str "try", b0, .tup xs, .tup ys]), some (.lst (I.map fun k => .int (k : Nat)))] M1 := by
          intro hc T fin hrt
          rw [hc] at hF
          have hF' : (if leads (.mk (.tr cs) bs) j = true then .tup [.str "last", plT q'] else faultF w (ar r.blk q')) = faultF w (ar r.blk p) := hF
          walk_at "rd"
          refine rd_ixT (d := .tup ys) rfl ?_
          walk_at "rd"
          rw [gt_dec, ← hhl]
          cases hhf : hasL (.mk (.tr cs) bs) with
          | true =>
            walk_at "rd"
            refine rd_ixT (d := .tup xs) rfl ?_
            walk_at "rd"
            have hlead : leads (.mk (.tr cs) bs) j = !decide ((j : Int) = (cs.length : Int) + 1) := by unfold leads; rw [hhf, Bool.true_and, hnc]
            rw [hxl, hle, ← hlead]
            cases hlf : leads (.mk (.tr cs) bs) j with
            | true =>
              rw [hlf, if_pos rfl] at hF'
              walk_at "rd"
              rw [hrt]
              exact View.of (by rw [← hF'] at q; exact q)
            | false =>
              walk_at "rd"
              exact fin hlf
          | false =>
            walk_at "rd"
            exact fin (by unfold leads; rw [hhf, Bool.false_and])
        have hcat : catchF w (.mk (.tr cs) bs) j = if (j : Int) = 0 then cs.findIdx? (takes w) else none := rfl
        by_cases hj : (j : Int) = 0
        · rw [show ((j : Int) == 0) = true by rw [dec_beq]; exact decide_eq_true hj]
          rw [if_pos hj] at hcat
          walk_at "rd"
          rw [List.length_map, gt_dec]
          cases hif : cs.findIdx? (takes w) with
          | some c =>
            rw [hif] at hti hcat
            rw [hcat] at hF
            have hlen : 0 < I.length := (List.getElem?_eq_some_iff.mp hti).1
            rw [decide_eq_true hlen]
            walk_at "rd"
            refine rd_ixL (d := .int (c : Nat)) (atI_nat (j := 0) (by rw [List.getElem?_map, hti]; rfl)) ?_
            walk_at "rd"
            exact View.of (by rw [← hF] at q; exact q)
          | none =>
            rw [hif] at hti hcat
            have hlen : ¬ 0 < I.length := by
              rw [List.getElem?_eq_none_iff] at hti; lia
            rw [decide_eq_false hlen]
            refine rd_iteF ?_
            exact lasts hcat _ (fun hl => skip _ _ _ hcat hl) rfl
        · rw [show ((j : Int) == 0) = false by rw [dec_beq]; exact decide_eq_false hj]
          rw [if_neg hj] at hcat
          refine rd_iteF ?_
          refine rd_iteF ?_
          exact lasts hcat _ (fun hl => skip _ _ _ hcat hl) rfl
    | .leaf _ _, hok, ed, hF, skip, hway =>
      show if false = true then _ else _
      walk_at "rd"
      exact skip _ _ _ rfl rfl
    | .ife _, hok, ed, hF, skip, hway =>
      show if false = true then _ else _
      walk_at "rd"
      exact skip _ _ _ rfl rfl
    | .whl _, hok, ed, hF, skip, hway =>
      show if false = true then _ else _
      walk_at "rd"
      exact skip _ _ _ rfl rfl
  · rw [decide_eq_false (show ¬ (1 : Int) < (p'.length : Nat) by lia)]
    rw [ar_end h] at hF
    walk_at "rd"
    exact View.of (by rw [← hF] at q; exact q)
theorem vs_trans {M M1 M2 : Mem} {d d1 d2 : D} (a : Vs M d M1 d1) (b : Vs M1 d1 M2 d2) : Vs M d M2 d2 := fun K H v m r => by
  obtain ⟨m1, r1, k1⟩ := a K H v m r
  obtain ⟨m2, r2, k2⟩ := b K H v m1 r1
  exact ⟨m2, r2, fun x h => k1 x (k2 x h)⟩
def fstS : D → Str
  | .tup (.str w :: _) => w
  | _ => ""
theorem len__law_words : ∀ ds M Q, spWords ds M Q → ds.length = 2 := by rintro _ _ _ ⟨_, _, _, rfl, _⟩; rfl
set_option maxHeartbeats 1000000 in
theorem rd__law_words : ∀ ds M Q, spWords ds M Q → t__law_words { nx := fun _ M' => View Q .non M', rt := View Q } (start3 N__law_words ds) M := by
  rintro _ M Q ⟨p, b, dds, rfl, hok, hdl, hP, hb, q⟩
  rw [st__law_words]
  unfold t__law_words
  walk_at "rd"
  refine ⟨p, b, rfl, hP, by lia, fun x1 M1 hx1 hP1 hs1 => ?_⟩
  walk_at "rd"
  refine ⟨p, b + 20, rfl, hP1, by lia, fun x2 M2 hx2 hP2 hs2 => ?_⟩
  walk_at "rd"
  intro f hf
  have hpf : p ≠ f := pen_ne hP2 hf
  walk_at "rd"
  refine ⟨fun k σ M3 => ∃ (s3 : Option D) (ws : List Str), σ = [some (.ref p), some (.lst (dds.map dD)), some (.ref f), s3] ∧ M3 f = some (.lst (ws.map D.str)) ∧ 1 ≤ ws.length ∧ ws.length ≤ 7 + 3 * k ∧ ∀ x, x ≠ f → M2 x ≠ none → M3 x = M2 x,
    ⟨_, ["close", "an", "anyany", "a", "ring", x1, x2], rfl, mput_same, by show 1 ≤ 7; decide, by show 7 ≤ 7; decide, fun x hx _ => mput_ne hx⟩, ?_, ?_⟩
  · rintro k y σ M3 hy ⟨s3, ws, rfl, hf3, hw1, hw2, hs3⟩
    obtain ⟨d, hd, rfl⟩ := map_get hy
    have hkl : k < dds.length := (List.getElem?_eq_some_iff.mp hd).1
    have hokd := hok d (List.mem_of_getElem? hd)
    obtain ⟨h, rest, ed, _, et⟩ := head_is d
    walk_at "rd"
    rw [ed]
    refine rd_ixT (d := .str h) (atI_nat (j := 0) rfl) ?_
    walk_at "rd"
    rw [et hokd]
    match d, hokd, ed with
    | .mk (.tr cs) bs, hokd, ed =>
      obtain ⟨xs, ys, b0, e, exs, hxl, hhl⟩ := tryD hokd
      have hcs : cs.length ≤ 3 := hokd.1.2.1
      show if true = true then _ else _
      walk_at "rd"
      refine ⟨.inl ⟨rfl, _, hf3⟩, ?_⟩
      walk_at "rd"
      rw [← ed, e]
      refine rd_ixT (d := .tup xs) rfl ?_
      walk_at "rd"
      suffices hh : CompMB _ _ _ _ (xs.map id) _ _ by rwa [List.map_id] at hh
      refine comp_filtMX xs id (fun x => .str (fstS x)) (fun x => !(fstS x == ("any" : Str))) (by rw [hxl, sizeLine_eq]; lia) ?_ ?_
      · intro x hx M7 R F _ hR hF
        rw [exs] at hx
        obtain ⟨w', x', t, rfl⟩ := cat_mem cs _ x hx
        refine rd_gName ?_
        walk_at "rd"
        refine rd_ixT (d := .str w') (atI_nat (j := 0) rfl) ?_
        walk_at "rd"
        have e1 : fstS (.tup [.str w', .str x', t]) = w' := rfl
        rw [e1] at hR hF
        cases c : (w' == ("any" : Str)) with
        | true =>
          rw [c] at hF
          walk_at "rd"
          exact hF rfl
        | false =>
          rw [c] at hR
          walk_at "rd"
          refine rd_ixT (d := .str w') (atI_nat (j := 0) rfl) ?_
          exact hR rfl
      · intro c M4 hc hM4 hs4
        have hfl := List.length_filter_le (fun x => !(fstS x == ("any" : Str))) xs
        have hM4' : M4 c = some (.lst (((xs.filter fun x => !(fstS x == ("any" : Str))).map fstS).map D.str)) := by rw [hM4, List.map_map]; rfl
        have hfc : f ≠ c := by rintro rfl; rw [hc] at hf3; cases hf3
        walk_at "rd"
        refine ⟨f, c, _, _, rfl, rfl, by rw [hs4 f hfc]; exact hf3, hM4', by rw [List.length_map, List.length_map, List.length_map, sizeLine_eq]; lia, ?_⟩
        refine ⟨_, ws ++ (xs.filter fun x => !(fstS x == ("any" : Str))).map fstS, rfl, by rw [mput_same, List.map_append], by rw [List.length_append]; lia, by rw [List.length_append, List.length_map]; lia, fun x hx hxn => ?_⟩
        rw [mput_ne hx, hs4 x]
        · exact hs3 x hx hxn
        · rintro rfl; rw [hs3 _ hx hxn] at hc; exact hxn hc
    | .mk (.leaf _ _) _, hokd, ed =>
      show if false = true then _ else _
      walk_at "rd"
      exact ⟨_, ws, rfl, hf3, hw1, by lia, hs3⟩
    | .mk (.ife _) _, hokd, ed =>
      show if false = true then _ else _
      walk_at "rd"
      exact ⟨_, ws, rfl, hf3, hw1, by lia, hs3⟩
    | .mk (.whl _) _, hokd, ed =>
      show if false = true then _ else _
      walk_at "rd"
      exact ⟨_, ws, rfl, hf3, hw1, by lia, hs3⟩
  · rintro σ M3 ⟨s3, ws, rfl, hf3, hw1, hw2, hs3⟩
    rw [List.length_map] at hw2
    walk_at "rd"
    have hpn : M2 p ≠ none := by obtain ⟨ns, a, l, h, _⟩ := hP2; rw [h]; simp
    refine ⟨.lst (ws.map D.str), fun x => if x = p then M3 p else M x, vs_trans (Vs.frzL hf3) (Vs.sub ?_ _), q ws _ hw1 (by lia) ?_ ?_⟩
    · intro x o hx
      have hx : (if x = p then M3 p else M x) = some o := hx
      by_cases hxp : x = p
      · subst hxp
        rw [if_pos rfl] at hx
        rw [mdel_ne hpf]; exact hx
      · rw [if_neg hxp] at hx
        have h2 : M2 x = some o := by rw [hs2 x hxp, hs1 x hxp]; exact hx
        have hxf : x ≠ f := by rintro rfl; rw [hf] at h2; cases h2
        rw [mdel_ne hxf, hs3 x hxf (by rw [h2]; simp)]; exact h2
    · obtain ⟨ns, a, l, h, r⟩ := hP2
      exact ⟨ns, a, l, by show (if p = p then M3 p else M p) = _; rw [if_pos rfl, hs3 p hpf (by rw [h]; simp)]; exact h, r.1, r.2.1, by have := r.2.2.1; lia, r.2.2.2⟩
    · intro x hx
      show (if x = p then M3 p else M x) = M x
      rw [if_neg hx]
def askT (x : List Int × Str) : D := .tup [plT x.1, .str x.2]
theorem fault_tup (w : Str) : ∀ L : List (List Int × Deed × Int), (∀ x ∈ L, Bn 9 x.1 ∧ okD x.2.1) → ∃ ds, faultF w L = .tup ds ∧ shOk (.tup ds)
  | [], _ => ⟨_, rfl, sh1 (by decide) (by decide)⟩
  | (q, d, j) :: L, h => by
    obtain ⟨hb, hok⟩ := h _ List.mem_cons_self
    rw [faultF_cons]
    cases e : catchF w d j with
    | some c =>
      refine ⟨_, rfl, sh3 (by decide) (by decide) hb ?_⟩
      match d, hok, e with
      | .mk (.tr cs) bs, hok, e =>
        have hcs : cs.length ≤ 3 := hok.1.2.1
        have e' : (if j = 0 then cs.findIdx? (takes w) else none) = some c := e
        by_cases hj : j = 0
        · rw [if_pos hj, List.findIdx?_eq_some_iff_getElem] at e'
          obtain ⟨hc, _⟩ := e'
          lia
        · rw [if_neg hj] at e'; cases e'
      | .mk (.leaf _ _) _, hok, e => cases e
      | .mk (.ife _) _, hok, e => cases e
      | .mk (.whl _) _, hok, e => cases e
    | none =>
      show ∃ ds, (if leads d j = true then .tup [.str "last", plT q] else faultF w L) = .tup ds ∧ shOk (.tup ds)
      split
      · exact ⟨_, rfl, sh2 (by decide) (by decide) hb⟩
      · exact fault_tup w L fun x hx => h x (List.mem_cons_of_mem _ hx)
theorem len_law : ∀ ds M Q, L3.spLaw3 ds M Q → ds.length = 1 := by rintro _ _ _ ⟨_, rfl, _⟩; rfl
set_option maxHeartbeats 1000000 in
theorem rd_law : ∀ ds M Q, L3.spLaw3 ds M Q → t_law { nx := fun _ M' => View Q .non M', rt := View Q } (start3 N_law ds) M := by
  rintro _ M Q ⟨ns, rfl, hl, hM, q⟩
  rw [st_law]
  unfold t_law
  walk_at "rd"
  refine ⟨ns, rfl, hl, fun p M0 _ hP0 _ => ?_⟩
  walk_at "rd"
  refine draw hP0 (by lia) (by decide) (by decide) fun w M1 w0 w1 hP1 _ => ?_
  walk_at "rd"
  obtain ⟨deeds, hdd, hd1, hd2⟩ : ∃ deeds : Nat, atI [D.int 8, D.int 30] (if (w == 5) = true then 1 else 0) = some (.int (deeds : Nat)) ∧ 1 ≤ deeds ∧ deeds ≤ 30 := by
    cases (w == 5)
    · exact ⟨8, rfl, by decide, by decide⟩
    · exact ⟨30, rfl, by decide, by decide⟩
  refine rd_ixL hdd ?_
  walk_at "rd"
  refine ⟨p, _, 3, deeds, rfl, hP1, by lia, ⟨by lia, by lia⟩, ⟨hd1, hd2⟩, fun bk M2 hbl hbk hP2 _ => ?_⟩
  have hsm := book_Sm bk hbk
  have hmul : (2600 * deeds + 101) * bk.length ≤ (2600 * 30 + 101) * 3 := Nat.mul_le_mul (by lia) (by lia)
  have hsh : shOk (.tup (bk.map rD)) := (Sm.tup (m := 29) hsm).show (hw := by lia)
  walk_at "rd"
  refine rd_reprD hsh ?_
  walk_at "rd"
  refine ⟨fun k σ M3 => ∃ s5 s6 s7 s8 s9 s10 s11 s12 s13, σ = [some (.lst (ns.map D.int)), some (.ref p), some (.int (deeds : Nat)), some (.tup (bk.map rD)), some (.str (pyD (.tup (bk.map rD))).shown), s5, s6, s7, s8, s9, s10, s11, s12, s13] ∧ Pen M3 p (1 + 8000000 + 500 * k), ⟨_, _, _, _, _, _, _, _, _, rfl, by simpa using hP2⟩, ?_, ?_⟩
  · rintro k d σ M3 hd ⟨s5, s6, s7, s8, s9, s10, s11, s12, s13, rfl, hP3⟩
    have hk : k < 6 := by
      have := (List.getElem?_eq_some_iff.mp hd).1
      rw [List.length_map] at this
      lia
    obtain ⟨r, hr, rfl⟩ : ∃ r, r ∈ bk ∧ rD r = d := List.mem_map.mp (List.mem_of_getElem? hd)
    have hrk := hbk r hr
    obtain ⟨h1, h2, h3, h4, h5, h6, h7⟩ := id hrk
    have hfit : rFit r := ⟨h4, h7, by lia⟩
    have hpl := prB_len r.blk [] 0
    have hpos := blk_pos h5
    walk_at "rd"
    refine rd_ixT (d := .tup (dB r.blk)) rfl ?_
    walk_at "rd"
    refine ⟨r.blk, [], rfl, h4, by lia, by lia, by simp, fun a M4 ha hM4 hs4 => ?_⟩
    walk_at "rd"
    refine rd_frz (a := a) rfl hM4 ?_
    rw [mdel_new ha hs4]
    walk_at "rd"
    refine rd_onDictP (kvs r.blk) (kvs_pairs r.blk) (kvs_nodup r.blk) fun g hg => ?_
    have hgp : g ≠ p := by rintro rfl; exact pen_ne hP3 hg rfl
    have hP4 : Pen (mput M3 g (.dt (kvs r.blk))) p (1 + 8000000 + 500 * k) := pen_put hP3 (Ne.symm hgp)
    walk_at "rd"
    refine comp_map (prB r.blk [] 0) prT (fun x => dD x.2) (by rw [hpl, sizeLine_eq]; lia) ?_ ?_
    · rintro ⟨p', d'⟩ hm M7 R F _ hR
      refine rd_gTup rfl ?_
      walk_at "rd"
      exact hR
    walk_at "rd"
    refine ⟨p, _, (prB r.blk [] 0).map Prod.snd, by rw [List.map_map]; rfl, fun d hd => ?_, by rw [List.length_map, hpl]; lia, hP4, by lia, fun ws M5 hw1 hw2 hP5 hs5 => ?_⟩
    · obtain ⟨⟨p', d'⟩, hm, rfl⟩ := List.mem_map.mp hd
      exact pr_ok h4 hm
    have hg5 : M5 g = some (.dt (kvs r.blk)) := by rw [hs5 g hgp, mput_same]
    walk_at "rd"
    intro f hf
    have hpf : p ≠ f := pen_ne hP5 hf
    have hgf : g ≠ f := by rintro rfl; rw [hg5] at hf; cases hf
    walk_at "rd"
    refine ⟨fun m σ M6 => ∃ s10 s11 s12, ∃ as : List (List Int × Str), σ = [some (.lst (ns.map D.int)), some (.ref p), some (.int (deeds : Nat)), some (.tup (bk.map rD)), some (.str (pyD (.tup (bk.map rD))).shown), some (rD r), some (.lst ((prB r.blk [] 0).map prT)), some (.ref g), some (.lst (ws.map D.str)), some (.ref f), s10, s11, s12, s13] ∧ M6 f = some (.lst (as.map askT)) ∧ as.length = 3 * m ∧ (∀ x ∈ as, ∃ d, (x.1, d) ∈ prB r.blk [] 0) ∧ Pen M6 p (1 + 8000000 + 500 * k + 40 + 3 * m) ∧ M6 g = some (.dt (kvs r.blk)),
      ⟨_, _, _, [], rfl, mput_same, rfl, (fun x hx => by cases hx), pen_put hP5 hpf, by rw [mput_ne hgf]; exact hg5⟩, ?_, ?_⟩
    · rintro m y σ M6 hy ⟨s10, s11, s12, as, rfl, hf6, hal, hap, hP6, hg6⟩
      obtain ⟨⟨pp, dd⟩, hx, rfl⟩ := map_get hy
      have hml : m < cntB r.blk := by rw [← hpl]; exact (List.getElem?_eq_some_iff.mp hx).1
      have hmm := List.mem_of_getElem? hx
      refine rd_gTup rfl ?_
      walk_at "rd"
      refine ⟨fun i σ M7 => ∃ s12, ∃ as : List (List Int × Str), σ = [some (.lst (ns.map D.int)), some (.ref p), some (.int (deeds : Nat)), some (.tup (bk.map rD)), some (.str (pyD (.tup (bk.map rD))).shown), some (rD r), some (.lst ((prB r.blk [] 0).map prT)), some (.ref g), some (.lst (ws.map D.str)), some (.ref f), some (plT pp), some (dD dd), s12, s13] ∧ M7 f = some (.lst (as.map askT)) ∧ as.length = 3 * m + i ∧ (∀ x ∈ as, ∃ d, (x.1, d) ∈ prB r.blk [] 0) ∧ Pen M7 p (1 + 8000000 + 500 * k + 40 + 3 * m + i) ∧ M7 g = some (.dt (kvs r.blk)),
        ⟨_, as, rfl, hf6, hal, hap, hP6, hg6⟩, ?_, ?_⟩
      · rintro i z σ M7 hz ⟨s12, as, rfl, hf7, hal, hap, hP7, hg7⟩
        have hi3 : i < 3 := by simpa using (List.getElem?_eq_some_iff.mp hz).1
        walk_at "rd"
        refine ⟨.inl ⟨rfl, _, hf7⟩, ?_⟩
        walk_at "rd"
        rw [List.length_map]
        refine draw hP7 (by lia) (by lia) (by lia) fun n M8 n0 n1 hP8 hs8 => ?_
        obtain ⟨nn, rfl⟩ : ∃ nn : Nat, n = (nn : Int) := ⟨n.toNat, by lia⟩
        have hn : nn < ws.length := by lia
        refine rd_ixL (d := .str ws[nn]) (atI_nat (by rw [List.getElem?_map, List.getElem?_eq_getElem hn]; rfl)) ?_
        walk_at "rd"
        refine rd_append (by rw [hs8 f (Ne.symm hpf)]; exact hf7) (by rw [List.length_map, sizeLine_eq]; lia) ?_
        refine ⟨_, as ++ [(pp, ws[nn])], rfl, by rw [mput_same, List.map_append]; rfl, by simp; lia, fun x hx => ?_, pen_put hP8 hpf, by rw [mput_ne hgf, hs8 g hgp]; exact hg7⟩
        rcases List.mem_append.mp hx with hx | hx
        · exact hap x hx
        · cases List.mem_singleton.mp hx; exact ⟨dd, hmm⟩
      · rintro σ M7 ⟨s12, as, rfl, hf7, hal, hap, hP7, hg7⟩
        have e3 : ((List.range (3 : Int).toNat).map fun k => D.int ((k : Nat) : Int)).length = 3 := by rfl
        rw [e3] at hal hP7
        exact ⟨_, _, _, as, rfl, hf7, by lia, hap, by rw [show 1 + 8000000 + 500 * k + 40 + 3 * (m + 1) = 1 + 8000000 + 500 * k + 40 + 3 * m + 3 by lia]; exact hP7, hg7⟩
    · rintro σ M6 ⟨s10, s11, s12, as, rfl, hf6, hal, hap, hP6, hg6⟩
      rw [List.length_map, hpl] at hal hP6
      refine rd_frz (a := f) rfl hf6 ?_
      have hP7 := pen_del (a := f) hP6 hpf
      have hg7 : mdel M6 f g = some (.dt (kvs r.blk)) := by rw [mdel_ne hgf]; exact hg6
      walk_at "rd"
      refine rd_addL (by rw [List.length_reverse, List.length_map, sizeLine_eq]; lia) ?_
      walk_at "rd"
      refine ⟨fun _ σ M8 => ∃ s10 s13, σ = [some (.lst (ns.map D.int)), some (.ref p), some (.int (deeds : Nat)), some (.tup (bk.map rD)), some (.str (pyD (.tup (bk.map rD))).shown), some (rD r), some (.lst ((prB r.blk [] 0).map prT)), some (.ref g), some (.lst (ws.map D.str)), some (.lst (as.map askT)), s10, s11, s12, s13] ∧ M8 = mdel M6 f, ⟨_, _, rfl, rfl⟩, ?_, ?_⟩
      · rintro j x σ M8 hx ⟨s10, s13, rfl, rfl⟩
        obtain ⟨⟨pp, w'⟩, hxm, rfl⟩ : ∃ y ∈ as, askT y = x := by
          rcases List.mem_append.mp (List.mem_of_getElem? hx) with z | z
          · exact List.mem_map.mp z
          · exact List.mem_map.mp (List.mem_reverse.mp z)
        obtain ⟨dd, hm⟩ := hap _ hxm
        have hway := ar_way pp.length (Nat.le_refl _) hm
        obtain ⟨ds, eb, hds⟩ := fault_tup w' (ar r.blk pp) fun x hx => ⟨pr_bn hfit (hway x hx).at_, way_ok hfit (hway x hx)⟩
        refine rd_gTup rfl ?_
        walk_at "rd"
        refine ⟨r, pp, dd, w', rfl, hfit, hm, ?_⟩
        rw [eb]
        walk_at "rd"
        refine rd_reprD hds ?_
        walk_at "rd"
        refine ⟨g, r, pp, dd, w', rfl, hg7, hfit, hm, ?_⟩
        rw [eb]
        walk_at "rd"
        refine rd_reprD hds ?_
        walk_at "rd"
        rw [beq_self_eq_true]
        walk_at "rd"
        exact ⟨_, _, rfl, rfl⟩
      · rintro σ M8 ⟨s10, s13, rfl, rfl⟩
        exact ⟨_, _, _, _, _, _, _, _, _, rfl, pen_mono hP7 (by lia)⟩
  · rintro σ M3 ⟨s5, s6, s7, s8, s9, s10, s11, s12, s13, rfl, hP3⟩
    walk_at "rd"
    refine rd_reprD hsh ?_
    walk_at "rd"
    rw [beq_self_eq_true]
    exact View.of (q _)
end K21
namespace L3
open PySem PySem.Spec PyProof.Rows L2
def isStar : Expr → Bool
  | .Starred .. => true
  | _ => false
theorem star_cons {e : Expr} (h : isStar e = false) (es : List Expr) (env : Env) : starEach (e :: es) env = (false, eval e env) :: starEach es env := by
  cases e <;> first | rfl | cases h
theorem pa3_k {X : Cx} {e : Expr} {es : List Expr} {te : TE3} {t : TA3} (ha : PE3 X e te) (hr : PA3 X es t) (hs : isStar e = false := by rfl) : PA3 X (e :: es) (tCons3 te t) := pa3_cons ha hr (star_cons hs es _)
theorem pa3_s {X : Cx} {x : Str} {j : Nat} {pos : Pos} {es : List Expr} {t : TA3} (hr : PA3 X es t) : PA3 X (.Constant (.str x) j pos :: es) (tCons3 (tC3 (.str x)) t) := pa3_k pe3_str hr
end L3
namespace K21
open PySem PySem.Spec PyProof.Rows L2 L3
open L3 renaming pa3_k → zA, pa3_nil → zB, pe3_int → zC, pss3_cons → zD, pe3_call → zE, pss3_one → zF, pe3_str → zG, ps3_set → zH, pe3_op → zI, ps3_ret → zJ, pe3_ix → zK, pt3_cmp → zL, pe3_callB → zM, pss3_nil → zN, pe3_tup → zO, pgs3_cons → zP, o3_add → zQ, ps3_if → zR, pe3_lst → zS, o3_sub → zT, c3_len → zU, o3_eq → zV, pe3_dget → zW, pe3_callTy → zX, pi3_range1 → zY, pgs3_nil → zZ, ps3_expr → yA, m3_append → yB, pe3_lstM → yC, pg3_name → yD, pe3_bm → yE, pg3_tup → yF, pe3_compB → yG, pifs_nil → yH, pa3_s → yI, ps3_for → yJ, pw3_or → yK, pe3_cmp → yL, pw3_or1 → yM, pps3_cons → yN, o3_lt → yO, pw3_and1 → yP, c3_tuple → yQ, o3_mod → yR, pi3_l → yS, pw3_and → yT, o3_gt → yU, pe3_un → yV, u3_neg → yW, po3_some → yX, ps3_forG → yY, o3_pow → yZ, c3_reprM → wA, ps3_while → wB, ps3_setCB → wC, po3_none → wD, o3_ne → wE, ps3_dput → wF, pifs_one → wG, pss3_frz → wH, o3_mul → wI, pi3_t → wJ
def top (i : Nat) : Stmt := PySem.Challenge.pw_handedon_k21_where_faults_go.main.body.getD i (.Pass ⟨0, 0, 0, 0⟩)
structure Blt (mg : Str → Option Value) : Prop where
  abs_ : mg "abs" = none
  dict_ : mg "dict" = none
  enumerate_ : mg "enumerate" = none
  int_ : mg "int" = none
  len_ : mg "len" = none
  list_ : mg "list" = none
  min_ : mg "min" = none
  range_ : mg "range" = none
  repr_ : mg "repr" = none
  sum_ : mg "sum" = none
  tuple_ : mg "tuple" = none
structure Cst (K : PySem.W.Frag) (P : Params) (mg : Str → Option Value) : Prop where
  ok : True
section
variable {P : Program} {w : World} {K : PySem.W.Frag} {mg : Str → Option Value} {base : Heap}
abbrev s0x : Stmt := top 1
theorem sc0x : FnScope K11.N_blocks_of ["deed"] (defScope s0x) := ⟨rfl, rfl, rfl, by decide +kernel, rfl, by decide +kernel, by decide +kernel⟩
set_option maxHeartbeats 4000000 in
theorem dv0x {f : Addr} {cdv : Value} {A : Around} {outer : List Env} {s : Shared} {H : Hp} {E : XK} (B : Blt mg) (C : Cst K w.params mg)
    (hr : Room 0 (A.deeper (envOfC "blocks_of" (defScope s0x) s.heap.objs.size f cdv))) :
    PSs3 (cxOf CX0 P w K mg base K11.N_blocks_of "blocks_of" (defScope s0x) f cdv A outer s H E).nox (defBody s0x) K11.t_blocks_of := by
    unfold K11.t_blocks_of
    refine zD ?_ ?_
    · exact (zR (zL (zV hr) (zK (pv3 0) zC (fun _ _ => rfl)) zG (nomark _)) (zF (zJ (zS (zA (zK (pv3 0) zC (fun _ _ => rfl)) (zA (zK (pv3 0) zC (fun _ _ => rfl)) zB))))) zN)
    refine zD ?_ ?_
    · exact (zR (zL (zV hr) (zK (pv3 0) zC (fun _ _ => rfl)) zG (nomark _)) (zF (zJ (zS (zA (zK (pv3 0) zC (fun _ _ => rfl)) zB)))) zN)
    refine zD ?_ ?_
    · exact (zR (zL (zV hr) (zK (pv3 0) zC (fun _ _ => rfl)) zG (nomark _)) (zF (zJ (zI zQ (zI zQ (zS (zA (zK (pv3 0) zC (fun _ _ => rfl)) zB)) (yG ["caught", "name", "block"] [] [] rfl (wJ (zK (pv3 0) zC (fun _ _ => rfl))) rfl (by first | rfl | kernel_rfl) rfl (gk_tup (by decide)) (fun cl s₀ H₀ ex => (yF rfl (zP (i := 0) (show List.Nodup (["caught", "name", "block"] : List Str) by decide +kernel) rfl (Or.inl rfl) (zP (i := 1) (show List.Nodup (["caught", "name", "block"] : List Str) by decide +kernel) rfl (Or.inl rfl) (zP (i := 2) (show List.Nodup (["caught", "name", "block"] : List Str) by decide +kernel) rfl (Or.inl rfl) zZ (Or.inr rfl)) (Or.inr rfl)) (Or.inr rfl)))) (fun cl s₀ H₀ ex => yH) (fun cl s₀ H₀ ex => (pv3 2)))) (zS (zA (zK (pv3 0) zC (fun _ _ => rfl)) zB))))) zN)
    exact zF (zJ (zS zB))
set_option maxHeartbeats 4000000 in
theorem ok0x {f : Addr} {fd : FuncData} (B : Blt mg) (C : Cst K w.params mg) (F : FnAt K mg "blocks_of" s0x ["deed"] f fd) : FnOk P w K mg base CX0 1 f fd ["deed"] (dnSp K MK.spInner) :=
  L3.Fun.ok3 F.fn sc0x K11.len_blocks_of fun cdv A outer s H E hr => ⟨K11.t_blocks_of, @dv0x P w K mg base f cdv A outer s H E B C hr, K11.rd_blocks_of⟩
abbrev s1x : Stmt := top 3
theorem sc1x : FnScope K12.N_deed_at ["rule", "place"] (defScope s1x) := ⟨rfl, rfl, rfl, by decide +kernel, rfl, by decide +kernel, by decide +kernel⟩
set_option maxHeartbeats 4000000 in
theorem dv1x {f : Addr} {cdv : Value} {A : Around} {outer : List Env} {s : Shared} {H : Hp} {E : XK} (B : Blt mg) (C : Cst K w.params mg) {f0x : Addr} {fd0x : FuncData} (A0x : FnAt K mg "blocks_of" s0x ["deed"] f0x fd0x) (G0x : FnOk P w K mg base CX0 1 f0x fd0x ["deed"] (dnSp K MK.spInner))
    (hr : Room 1 (A.deeper (envOfC "deed_at" (defScope s1x) s.heap.objs.size f cdv))) :
    PSs3 (cxOf CX0 P w K mg base K12.N_deed_at "deed_at" (defScope s1x) f cdv A outer s H E).nox (defBody s1x) K12.t_deed_at := by
    unfold K12.t_deed_at
    refine zD ?_ ?_
    · exact (zH (i := 2) sc1x.nd rfl (Or.inl rfl) (zK (zK (pv3 0) zC (fun _ _ => rfl)) (zK (pv3 1) zC (fun _ _ => rfl)) (fun _ _ => rfl)))
    refine zD ?_ ?_
    · exact (yJ PassesOwn.never rfl (pi3_range3 rfl B.range_ (zA zC (zA (zM zU rfl B.len_ b3_len (zA (pv3 1) zB)) (zA zC zB)))) sc1x.nd rfl (Or.inl rfl) (zF (zH (i := 2) sc1x.nd rfl (Or.inl rfl) (zK (zK (zE G0x (hr.mono (by decide)) rfl A0x.gl A0x.fn.kp A0x.bd (zA (pv3 2) zB)) (zK (pv3 1) (pv3 3) (fun _ _ => rfl)) (fun _ _ => rfl)) (zK (pv3 1) (zI zQ (pv3 3) zC) (fun _ _ => rfl)) (fun _ _ => rfl)))))
    exact zF (zJ (pv3 2))
set_option maxHeartbeats 4000000 in
theorem ok1x {f : Addr} {fd : FuncData} (B : Blt mg) (C : Cst K w.params mg) {f0x : Addr} {fd0x : FuncData} (A0x : FnAt K mg "blocks_of" s0x ["deed"] f0x fd0x) (G0x : FnOk P w K mg base CX0 1 f0x fd0x ["deed"] (dnSp K MK.spInner)) (F : FnAt K mg "deed_at" s1x ["rule", "place"] f fd) : FnOk P w K mg base CX0 2 f fd ["rule", "place"] (dnSp K K12.spDeedAt) :=
  L3.Fun.ok3 F.fn sc1x K12.len_deed_at fun cdv A outer s H E hr => ⟨K12.t_deed_at, @dv1x P w K mg base f cdv A outer s H E B C f0x fd0x A0x G0x hr, K12.rd_deed_at⟩
abbrev s2x : Stmt := top 4
theorem sc2x : FnScope K12.N_has_lasts ["deed"] (defScope s2x) := ⟨rfl, rfl, rfl, by decide +kernel, rfl, by decide +kernel, by decide +kernel⟩
set_option maxHeartbeats 4000000 in
theorem dv2x {f : Addr} {cdv : Value} {A : Around} {outer : List Env} {s : Shared} {H : Hp} {E : XK} (B : Blt mg) (C : Cst K w.params mg)
    (hr : Room 0 (A.deeper (envOfC "has_lasts" (defScope s2x) s.heap.objs.size f cdv))) :
    PSs3 (cxOf CX0 P w K mg base K12.N_has_lasts "has_lasts" (defScope s2x) f cdv A outer s H E).nox (defBody s2x) K12.t_has_lasts := by
    unfold K12.t_has_lasts
    exact zF (zJ (pe3_and (yL (zV hr) (zK (pv3 0) zC (fun _ _ => rfl)) zG (nomark _)) (pe3_one (yL yU (zM zU rfl B.len_ b3_len (zA (zK (pv3 0) zC (fun _ _ => rfl)) zB)) zC (nomark _)))))
set_option maxHeartbeats 4000000 in
theorem ok2x {f : Addr} {fd : FuncData} (B : Blt mg) (C : Cst K w.params mg) (F : FnAt K mg "has_lasts" s2x ["deed"] f fd) : FnOk P w K mg base CX0 1 f fd ["deed"] (dnSp K (K12.spTold K12.hasL)) :=
  L3.Fun.ok3 F.fn sc2x K12.len_has_lasts fun cdv A outer s H E hr => ⟨K12.t_has_lasts, @dv2x P w K mg base f cdv A outer s H E B C hr, K12.rd_has_lasts⟩
abbrev s3x : Stmt := top 6
theorem sc3x : FnScope GO.N_around ["rule", "place"] (defScope s3x) := ⟨rfl, rfl, rfl, by decide +kernel, rfl, by decide +kernel, by decide +kernel⟩
set_option maxHeartbeats 4000000 in
theorem dv3x {f : Addr} {cdv : Value} {A : Around} {outer : List Env} {s : Shared} {H : Hp} {E : XK} (B : Blt mg) (C : Cst K w.params mg) {f1x : Addr} {fd1x : FuncData} (A1x : FnAt K mg "deed_at" s1x ["rule", "place"] f1x fd1x) (G1x : FnOk P w K mg base CX0 2 f1x fd1x ["rule", "place"] (dnSp K K12.spDeedAt))
    (hr : Room 2 (A.deeper (envOfC "around" (defScope s3x) s.heap.objs.size f cdv))) :
    PSs3 (cxOf CX0 P w K mg base GO.N_around "around" (defScope s3x) f cdv A outer s H E).nox (defBody s3x) GO.t_around := by
    unfold GO.t_around
    refine zD ?_ ?_
    · exact (zH (i := 2) sc3x.nd rfl (Or.inl rfl) (yC zB))
    refine zD ?_ ?_
    · exact (wB PassesOwn.never (zL yU (zM zU rfl B.len_ b3_len (zA (pv3 1) zB)) zC (nomark _)) (zD (zH (i := 3) sc3x.nd rfl (Or.inl rfl) (zK (pv3 1) (yV yW zC) (fun _ _ => rfl)))
    (zD (zH (i := 1) sc3x.nd rfl (Or.inl rfl) (pe3_slA (pv3 1) wD (yX (yV yW zC))))
    (zF (yA (yE F.plainAttrs_list F.slot_list_append F.type_list_append yB (pv3 2) (zA (zO (zA (pv3 1) (zA (zE G1x (hr.mono (by decide)) rfl A1x.gl A1x.fn.kp A1x.bd (zA (pv3 0) (zA (pv3 1) zB))) (zA (pv3 3) zB)))) zB)))))))
    exact zF (zJ (pv3 2))
set_option maxHeartbeats 4000000 in
theorem ok3x {f : Addr} {fd : FuncData} (B : Blt mg) (C : Cst K w.params mg) {f1x : Addr} {fd1x : FuncData} (A1x : FnAt K mg "deed_at" s1x ["rule", "place"] f1x fd1x) (G1x : FnOk P w K mg base CX0 2 f1x fd1x ["rule", "place"] (dnSp K K12.spDeedAt)) (F : FnAt K mg "around" s3x ["rule", "place"] f fd) : FnOk P w K mg base CX0 3 f fd ["rule", "place"] (dnSp K GO.spAround) :=
  L3.Fun.ok3 F.fn sc3x GO.len_around fun cdv A outer s H E hr => ⟨GO.t_around, @dv3x P w K mg base f cdv A outer s H E B C f1x fd1x A1x G1x hr, GO.rd_around⟩
abbrev s4x : Stmt := top 7
theorem sc4x : FnScope GO.N_lasts_number ["deed"] (defScope s4x) := ⟨rfl, rfl, rfl, by decide +kernel, rfl, by decide +kernel, by decide +kernel⟩
set_option maxHeartbeats 4000000 in
theorem dv4x {f : Addr} {cdv : Value} {A : Around} {outer : List Env} {s : Shared} {H : Hp} {E : XK} (B : Blt mg) (C : Cst K w.params mg)
    (hr : Room 0 (A.deeper (envOfC "lasts_number" (defScope s4x) s.heap.objs.size f cdv))) :
    PSs3 (cxOf CX0 P w K mg base GO.N_lasts_number "lasts_number" (defScope s4x) f cdv A outer s H E).nox (defBody s4x) GO.t_lasts_number := by
    unfold GO.t_lasts_number
    exact zF (zJ (zI zQ (zM zU rfl B.len_ b3_len (zA (zK (pv3 0) zC (fun _ _ => rfl)) zB)) zC))
set_option maxHeartbeats 4000000 in
theorem ok4x {f : Addr} {fd : FuncData} (B : Blt mg) (C : Cst K w.params mg) (F : FnAt K mg "lasts_number" s4x ["deed"] f fd) : FnOk P w K mg base CX0 1 f fd ["deed"] (dnSp K GO.spLastsNo) :=
  L3.Fun.ok3 F.fn sc4x GO.len_lasts_number fun cdv A outer s H E hr => ⟨GO.t_lasts_number, @dv4x P w K mg base f cdv A outer s H E B C hr, GO.rd_lasts_number⟩
abbrev s5x : Stmt := top 8
theorem sc5x : FnScope GO.N_is_in_lasts ["deed", "number"] (defScope s5x) := ⟨rfl, rfl, rfl, by decide +kernel, rfl, by decide +kernel, by decide +kernel⟩
set_option maxHeartbeats 4000000 in
theorem dv5x {f : Addr} {cdv : Value} {A : Around} {outer : List Env} {s : Shared} {H : Hp} {E : XK} (B : Blt mg) (C : Cst K w.params mg) {f4x : Addr} {fd4x : FuncData} (A4x : FnAt K mg "lasts_number" s4x ["deed"] f4x fd4x) (G4x : FnOk P w K mg base CX0 1 f4x fd4x ["deed"] (dnSp K GO.spLastsNo))
    (hr : Room 1 (A.deeper (envOfC "is_in_lasts" (defScope s5x) s.heap.objs.size f cdv))) :
    PSs3 (cxOf CX0 P w K mg base GO.N_is_in_lasts "is_in_lasts" (defScope s5x) f cdv A outer s H E).nox (defBody s5x) GO.t_is_in_lasts := by
    unfold GO.t_is_in_lasts
    exact zF (zJ (yL (zV hr) (pv3 1) (zE G4x (hr.mono (by decide)) rfl A4x.gl A4x.fn.kp A4x.bd (zA (pv3 0) zB)) (nomark _)))
set_option maxHeartbeats 4000000 in
theorem ok5x {f : Addr} {fd : FuncData} (B : Blt mg) (C : Cst K w.params mg) {f4x : Addr} {fd4x : FuncData} (A4x : FnAt K mg "lasts_number" s4x ["deed"] f4x fd4x) (G4x : FnOk P w K mg base CX0 1 f4x fd4x ["deed"] (dnSp K GO.spLastsNo)) (F : FnAt K mg "is_in_lasts" s5x ["deed", "number"] f fd) : FnOk P w K mg base CX0 2 f fd ["deed", "number"] (dnSp K GO.spInLasts) :=
  L3.Fun.ok3 F.fn sc5x GO.len_is_in_lasts fun cdv A outer s H E hr => ⟨GO.t_is_in_lasts, @dv5x P w K mg base f cdv A outer s H E B C f4x fd4x A4x G4x hr, GO.rd_is_in_lasts⟩
abbrev s6x : Stmt := top 9
theorem sc6x : FnScope GO.N_leads_to_lasts ["deed", "number"] (defScope s6x) := ⟨rfl, rfl, rfl, by decide +kernel, rfl, by decide +kernel, by decide +kernel⟩
set_option maxHeartbeats 4000000 in
theorem dv6x {f : Addr} {cdv : Value} {A : Around} {outer : List Env} {s : Shared} {H : Hp} {E : XK} (B : Blt mg) (C : Cst K w.params mg) {f2x : Addr} {fd2x : FuncData} (A2x : FnAt K mg "has_lasts" s2x ["deed"] f2x fd2x) (G2x : FnOk P w K mg base CX0 1 f2x fd2x ["deed"] (dnSp K (K12.spTold K12.hasL))) {f5x : Addr} {fd5x : FuncData} (A5x : FnAt K mg "is_in_lasts" s5x ["deed", "number"] f5x fd5x) (G5x : FnOk P w K mg base CX0 2 f5x fd5x ["deed", "number"] (dnSp K GO.spInLasts))
    (hr : Room 2 (A.deeper (envOfC "leads_to_lasts" (defScope s6x) s.heap.objs.size f cdv))) :
    PSs3 (cxOf CX0 P w K mg base GO.N_leads_to_lasts "leads_to_lasts" (defScope s6x) f cdv A outer s H E).nox (defBody s6x) GO.t_leads_to_lasts := by
    unfold GO.t_leads_to_lasts
    exact zF (zJ (pe3_and (zE G2x (hr.mono (by decide)) rfl A2x.gl A2x.fn.kp A2x.bd (zA (pv3 0) zB)) (pe3_one (pe3_not (zE G5x (hr.mono (by decide)) rfl A5x.gl A5x.fn.kp A5x.bd (zA (pv3 0) (zA (pv3 1) zB)))))))
set_option maxHeartbeats 4000000 in
theorem ok6x {f : Addr} {fd : FuncData} (B : Blt mg) (C : Cst K w.params mg) {f2x : Addr} {fd2x : FuncData} (A2x : FnAt K mg "has_lasts" s2x ["deed"] f2x fd2x) (G2x : FnOk P w K mg base CX0 1 f2x fd2x ["deed"] (dnSp K (K12.spTold K12.hasL))) {f5x : Addr} {fd5x : FuncData} (A5x : FnAt K mg "is_in_lasts" s5x ["deed", "number"] f5x fd5x) (G5x : FnOk P w K mg base CX0 2 f5x fd5x ["deed", "number"] (dnSp K GO.spInLasts)) (F : FnAt K mg "leads_to_lasts" s6x ["deed", "number"] f fd) : FnOk P w K mg base CX0 3 f fd ["deed", "number"] (dnSp K GO.spLeads) :=
  L3.Fun.ok3 F.fn sc6x GO.len_leads_to_lasts fun cdv A outer s H E hr => ⟨GO.t_leads_to_lasts, @dv6x P w K mg base f cdv A outer s H E B C f2x fd2x A2x G2x f5x fd5x A5x G5x hr, GO.rd_leads_to_lasts⟩
abbrev s7x : Stmt := top 10
theorem sc7x : FnScope GO.N_catch_of ["deed", "number", "word"] (defScope s7x) := ⟨rfl, rfl, rfl, by decide +kernel, rfl, by decide +kernel, by decide +kernel⟩
set_option maxHeartbeats 4000000 in
theorem dv7x {f : Addr} {cdv : Value} {A : Around} {outer : List Env} {s : Shared} {H : Hp} {E : XK} (B : Blt mg) (C : Cst K w.params mg)
    (hr : Room 0 (A.deeper (envOfC "catch_of" (defScope s7x) s.heap.objs.size f cdv))) :
    PSs3 (cxOf CX0 P w K mg base GO.N_catch_of "catch_of" (defScope s7x) f cdv A outer s H E).nox (defBody s7x) GO.t_catch_of := by
    unfold GO.t_catch_of
    refine zD ?_ ?_
    · exact (zR (PW3.pt (yK (zL (wE hr) (zK (pv3 0) zC (fun _ _ => rfl)) zG (nomark _)) (yM (zL (wE hr) (pv3 1) zC (nomark _))))) (zF (zJ pe3_non)) zN)
    refine zD ?_ ?_
    · exact (ps3_forE PassesOwn.never rfl (pi3_enum rfl B.enumerate_ (zK (pv3 0) zC (fun _ _ => rfl))) (pg3_tupG rfl (pgs3_consG (yD (i := 3) sc7x.nd rfl (Or.inl rfl) (Or.inl rfl)) (pgs3_consG (yF rfl (zP (i := 4) sc7x.nd rfl (Or.inl rfl) (zP (i := 5) sc7x.nd rfl (Or.inl rfl) (zP (i := 6) sc7x.nd rfl (Or.inl rfl) zZ (Or.inl rfl)) (Or.inl rfl)) (Or.inl rfl))) pgs3_nilG))) (zF (zR (PW3.pt (yK (zL (zV hr) (pv3 4) (pv3 2) (nomark _)) (yM (zL (zV hr) (pv3 4) zG (nomark _))))) (zF (zJ (pv3 3))) zN)))
    exact zF (zJ pe3_non)
set_option maxHeartbeats 4000000 in
theorem ok7x {f : Addr} {fd : FuncData} (B : Blt mg) (C : Cst K w.params mg) (F : FnAt K mg "catch_of" s7x ["deed", "number", "word"] f fd) : FnOk P w K mg base CX0 1 f fd ["deed", "number", "word"] (dnSp K GO.spCatch) :=
  L3.Fun.ok3 F.fn sc7x GO.len_catch_of fun cdv A outer s H E hr => ⟨GO.t_catch_of, @dv7x P w K mg base f cdv A outer s H E B C hr, GO.rd_catch_of⟩
abbrev s8x : Stmt := top 11
theorem sc8x : FnScope GO.N_fault_goes ["rule", "place", "word"] (defScope s8x) := ⟨rfl, rfl, rfl, by decide +kernel, rfl, by decide +kernel, by decide +kernel⟩
set_option maxHeartbeats 4000000 in
theorem dv8x {f : Addr} {cdv : Value} {A : Around} {outer : List Env} {s : Shared} {H : Hp} {E : XK} (B : Blt mg) (C : Cst K w.params mg) {f3x : Addr} {fd3x : FuncData} (A3x : FnAt K mg "around" s3x ["rule", "place"] f3x fd3x) (G3x : FnOk P w K mg base CX0 3 f3x fd3x ["rule", "place"] (dnSp K GO.spAround)) {f7x : Addr} {fd7x : FuncData} (A7x : FnAt K mg "catch_of" s7x ["deed", "number", "word"] f7x fd7x) (G7x : FnOk P w K mg base CX0 1 f7x fd7x ["deed", "number", "word"] (dnSp K GO.spCatch)) {f6x : Addr} {fd6x : FuncData} (A6x : FnAt K mg "leads_to_lasts" s6x ["deed", "number"] f6x fd6x) (G6x : FnOk P w K mg base CX0 3 f6x fd6x ["deed", "number"] (dnSp K GO.spLeads))
    (hr : Room 3 (A.deeper (envOfC "fault_goes" (defScope s8x) s.heap.objs.size f cdv))) :
    PSs3 (cxOf CX0 P w K mg base GO.N_fault_goes "fault_goes" (defScope s8x) f cdv A outer s H E).nox (defBody s8x) GO.t_fault_goes := by
    unfold GO.t_fault_goes
    refine zD ?_ ?_
    · exact (yY PassesOwn.never rfl (yS (zE G3x (hr.mono (by decide)) rfl A3x.gl A3x.fn.kp A3x.bd (zA (pv3 0) (zA (pv3 1) zB)))) (yF rfl (zP (i := 3) sc8x.nd rfl (Or.inl rfl) (zP (i := 4) sc8x.nd rfl (Or.inl rfl) (zP (i := 5) sc8x.nd rfl (Or.inl rfl) zZ (Or.inl rfl)) (Or.inl rfl)) (Or.inl rfl))) (zD (zH (i := 6) sc8x.nd rfl (Or.inl rfl) (zE G7x (hr.mono (by decide)) rfl A7x.gl A7x.fn.kp A7x.bd (zA (pv3 4) (zA (pv3 5) (zA (pv3 2) zB)))))
    (zD (zR (zL o3_isnot (pv3 6) pe3_non (nomark _)) (zF (zJ (zO (zA zG (zA (pv3 3) (zA (pv3 6) zB)))))) zN)
    (zF (zR (pt3_val (zE G6x (hr.mono (by decide)) rfl A6x.gl A6x.fn.kp A6x.bd (zA (pv3 4) (zA (pv3 5) zB)))) (zF (zJ (zO (zA zG (zA (pv3 3) zB))))) zN)))))
    exact zF (zJ (zO (zA zG zB)))
set_option maxHeartbeats 4000000 in
theorem ok8x {f : Addr} {fd : FuncData} (B : Blt mg) (C : Cst K w.params mg) {f3x : Addr} {fd3x : FuncData} (A3x : FnAt K mg "around" s3x ["rule", "place"] f3x fd3x) (G3x : FnOk P w K mg base CX0 3 f3x fd3x ["rule", "place"] (dnSp K GO.spAround)) {f7x : Addr} {fd7x : FuncData} (A7x : FnAt K mg "catch_of" s7x ["deed", "number", "word"] f7x fd7x) (G7x : FnOk P w K mg base CX0 1 f7x fd7x ["deed", "number", "word"] (dnSp K GO.spCatch)) {f6x : Addr} {fd6x : FuncData} (A6x : FnAt K mg "leads_to_lasts" s6x ["deed", "number"] f6x fd6x) (G6x : FnOk P w K mg base CX0 3 f6x fd6x ["deed", "number"] (dnSp K GO.spLeads)) (F : FnAt K mg "fault_goes" s8x ["rule", "place", "word"] f fd) : FnOk P w K mg base CX0 4 f fd ["rule", "place", "word"] (dnSp K GO.spFault) :=
  L3.Fun.ok3 F.fn sc8x GO.len_fault_goes fun cdv A outer s H E hr => ⟨GO.t_fault_goes, @dv8x P w K mg base f cdv A outer s H E B C f3x fd3x A3x G3x f7x fd7x A7x G7x f6x fd6x A6x G6x hr, GO.rd_fault_goes⟩
abbrev s9x : Stmt := top 13
theorem sc9x : FnScope MK.N__law_pen ["_law_script"] (defScope s9x) := ⟨rfl, rfl, rfl, by decide +kernel, rfl, by decide +kernel, by decide +kernel⟩
set_option maxHeartbeats 4000000 in
theorem dv9x {f : Addr} {cdv : Value} {A : Around} {outer : List Env} {s : Shared} {H : Hp} {E : XK} (B : Blt mg) (C : Cst K w.params mg)
    (hr : Room 0 (A.deeper (envOfC "_law_pen" (defScope s9x) s.heap.objs.size f cdv))) :
    PSs3 (cxOf CX0 P w K mg base MK.N__law_pen "_law_pen" (defScope s9x) f cdv A outer s H E).nox (defBody s9x) MK.t__law_pen := by
    unfold MK.t__law_pen
    exact zF (zJ (pe3_dispM (yN zG (zX c3_list rfl B.list_ b3_list (zA (pe3_sl (pv3 0) wD (yX zC)) zB)) (yN zG zC (yN zG zC pps3_nil))) rfl rfl (by simp) (by decide)))
set_option maxHeartbeats 4000000 in
theorem ok9x {f : Addr} {fd : FuncData} (B : Blt mg) (C : Cst K w.params mg) (F : FnAt K mg "_law_pen" s9x ["_law_script"] f fd) : FnOk P w K mg base CX0 1 f fd ["_law_script"] (dnSp K spPen) :=
  L3.Fun.ok3 F.fn sc9x MK.len__law_pen fun cdv A outer s H E hr => ⟨MK.t__law_pen, @dv9x P w K mg base f cdv A outer s H E B C hr, MK.rd__law_pen⟩
abbrev s10x : Stmt := top 14
theorem sc10x : FnScope MK.N__law_draw ["_law_pen_here", "_law_many"] (defScope s10x) := ⟨rfl, rfl, rfl, by decide +kernel, rfl, by decide +kernel, by decide +kernel⟩
set_option maxHeartbeats 4000000 in
theorem dv10x {f : Addr} {cdv : Value} {A : Around} {outer : List Env} {s : Shared} {H : Hp} {E : XK} (B : Blt mg) (C : Cst K w.params mg)
    (hr : Room 0 (A.deeper (envOfC "_law_draw" (defScope s10x) s.heap.objs.size f cdv))) :
    PSs3 (cxOf CX0 P w K mg base MK.N__law_draw "_law_draw" (defScope s10x) f cdv A outer s H E).nox (defBody s10x) MK.t__law_draw := by
    unfold MK.t__law_draw
    refine zD ?_ ?_
    · exact (zR (zL yU (zW (hu3 hr) (pv3 0) zG (fun _ _ => rfl)) zC (nomark _)) (zD (zH (i := 2) sc10x.nd rfl (Or.inl rfl) (zI yR (zW (hu3 hr) (pv3 0) zG (fun _ _ => rfl)) (pv3 1)))
    (zD (wF (hu3 hr) (pv3 0) zG (zI o3_fdiv (zW (hu3 hr) (pv3 0) zG (fun _ _ => rfl)) (pv3 1)) rfl)
    (zF (zJ (pv3 2))))) zN)
    refine zD ?_ ?_
    · exact (zH (i := 3) sc10x.nd rfl (Or.inl rfl) (zW (hu3 hr) (pv3 0) zG (fun _ _ => rfl)))
    refine zD ?_ ?_
    · exact (zH (i := 4) sc10x.nd rfl (Or.inl rfl) (zW (hu3 hr) (pv3 0) zG (fun _ _ => rfl)))
    refine zD ?_ ?_
    · exact (wF (hu3 hr) (pv3 0) zG (zI zQ (pv3 4) zC) rfl)
    refine zD ?_ ?_
    · exact (zH (i := 5) sc10x.nd rfl (Or.inl rfl) (zI zQ (zI wI zC (pv3 4)) zC))
    refine zD ?_ ?_
    · exact (zR (zL (wE hr) (pv3 3) (zS zB) (nomark _)) (zF (zH (i := 5) sc10x.nd rfl (Or.inl rfl) (zK (pv3 3) (zI yR (pv3 4) (zM zU rfl B.len_ b3_len (zA (pv3 3) zB))) (fun _ _ => rfl)))) zN)
    refine zD ?_ ?_
    · exact (zR (PW3.pt (yT (zL yO (pv3 4) (zM zU rfl B.len_ b3_len (zA (pv3 3) zB)) (nomark _)) (yP (zL o3_ge (zM c3_abs rfl B.abs_ b3_abs (zA (pv3 5) zB)) (zI yZ zC zC) (nomark _))))) (zD (wF (hu3 hr) (pv3 0) zG (zI o3_fdiv (zM c3_abs rfl B.abs_ b3_abs (zA (pv3 5) zB)) (pv3 1)) rfl)
    (zF (zJ (zI yR (zM c3_abs rfl B.abs_ b3_abs (zA (pv3 5) zB)) (pv3 1))))) zN)
    refine zD ?_ ?_
    · exact (zH (i := 6) sc10x.nd rfl (Or.inl rfl) (zI yR (zI yZ (zI zQ (zI zQ (zI yR (pv3 5) zC) (zI wI zC (pv3 4))) zC) zC) zC))
    refine zD ?_ ?_
    · exact (zH (i := 6) sc10x.nd rfl (Or.inl rfl) (zI yR (zI yZ (zI zQ (zI wI (pv3 6) (zI zQ (zI wI zC (pv3 4)) zC)) zC) zC) zC))
    exact zF (zJ (zI yR (zI o3_fdiv (pv3 6) zC) (pv3 1)))
set_option maxHeartbeats 4000000 in
theorem ok10x {f : Addr} {fd : FuncData} (B : Blt mg) (C : Cst K w.params mg) (F : FnAt K mg "_law_draw" s10x ["_law_pen_here", "_law_many"] f fd) : FnOk P w K mg base CX0 1 f fd ["_law_pen_here", "_law_many"] (dnSp K spDraw) :=
  L3.Fun.ok3 F.fn sc10x MK.len__law_draw fun cdv A outer s H E hr => ⟨MK.t__law_draw, @dv10x P w K mg base f cdv A outer s H E B C hr, MK.rd__law_draw⟩
abbrev s11x : Stmt := top 15
theorem sc11x : FnScope MK.N__law_letters ["_law_pen_here", "_law_size"] (defScope s11x) := ⟨rfl, rfl, rfl, by decide +kernel, rfl, by decide +kernel, by decide +kernel⟩
set_option maxHeartbeats 4000000 in
theorem dv11x {f : Addr} {cdv : Value} {A : Around} {outer : List Env} {s : Shared} {H : Hp} {E : XK} (B : Blt mg) (C : Cst K w.params mg) {f10x : Addr} {fd10x : FuncData} (A10x : FnAt K mg "_law_draw" s10x ["_law_pen_here", "_law_many"] f10x fd10x) (G10x : FnOk P w K mg base CX0 1 f10x fd10x ["_law_pen_here", "_law_many"] (dnSp K spDraw))
    (hr : Room 1 (A.deeper (envOfC "_law_letters" (defScope s11x) s.heap.objs.size f cdv))) :
    PSs3 (cxOf CX0 P w K mg base MK.N__law_letters "_law_letters" (defScope s11x) f cdv A outer s H E).nox (defBody s11x) MK.t__law_letters := by
    unfold MK.t__law_letters
    exact zF (zJ (yE F.plainAttrs_str F.slot_str_join F.type_str_join m3_join zG (zA (yG ["_law_k"] ["_law_pen_here"] [0] rfl (zY rfl B.range_ (zA (pv3 1) zB)) rfl (by first | rfl | kernel_rfl) rfl (gk_name (by decide)) (fun cl s₀ H₀ ex => (yD (i := 0) (show List.Nodup (["_law_k", "_law_pen_here"] : List Str) by decide +kernel) rfl (Or.inl rfl) (Or.inr rfl))) (fun cl s₀ H₀ ex => yH) (fun cl s₀ H₀ ex => (zK zG (zE G10x (hr.mono (by decide)) rfl A10x.gl A10x.fn.kp A10x.bd (zA (pv3 1) (zA zC zB))) (fun _ _ => rfl)))) zB)))
set_option maxHeartbeats 4000000 in
theorem ok11x {f : Addr} {fd : FuncData} (B : Blt mg) (C : Cst K w.params mg) {f10x : Addr} {fd10x : FuncData} (A10x : FnAt K mg "_law_draw" s10x ["_law_pen_here", "_law_many"] f10x fd10x) (G10x : FnOk P w K mg base CX0 1 f10x fd10x ["_law_pen_here", "_law_many"] (dnSp K spDraw)) (F : FnAt K mg "_law_letters" s11x ["_law_pen_here", "_law_size"] f fd) : FnOk P w K mg base CX0 2 f fd ["_law_pen_here", "_law_size"] (dnSp K MK.spLetters) :=
  L3.Fun.ok3 F.fn sc11x MK.len__law_letters fun cdv A outer s H E hr => ⟨MK.t__law_letters, @dv11x P w K mg base f cdv A outer s H E B C f10x fd10x A10x G10x hr, MK.rd__law_letters⟩
abbrev s12x : Stmt := top 16
theorem sc12x : FnScope MK.N__law_fresh ["_law_pen_here", "_law_taken"] (defScope s12x) := ⟨rfl, rfl, rfl, by decide +kernel, rfl, by decide +kernel, by decide +kernel⟩
set_option maxHeartbeats 4000000 in
theorem dv12x {f : Addr} {cdv : Value} {A : Around} {outer : List Env} {s : Shared} {H : Hp} {E : XK} (B : Blt mg) (C : Cst K w.params mg) {f10x : Addr} {fd10x : FuncData} (A10x : FnAt K mg "_law_draw" s10x ["_law_pen_here", "_law_many"] f10x fd10x) (G10x : FnOk P w K mg base CX0 1 f10x fd10x ["_law_pen_here", "_law_many"] (dnSp K spDraw)) {f11x : Addr} {fd11x : FuncData} (A11x : FnAt K mg "_law_letters" s11x ["_law_pen_here", "_law_size"] f11x fd11x) (G11x : FnOk P w K mg base CX0 2 f11x fd11x ["_law_pen_here", "_law_size"] (dnSp K MK.spLetters))
    (hr : Room 2 (A.deeper (envOfC "_law_fresh" (defScope s12x) s.heap.objs.size f cdv))) :
    PSs3 (cxOf CX0 P w K mg base MK.N__law_fresh "_law_fresh" (defScope s12x) f cdv A outer s H E).nox (defBody s12x) MK.t__law_fresh := by
    unfold MK.t__law_fresh
    refine zD ?_ ?_
    · exact (zH (i := 2) sc12x.nd rfl (Or.inl rfl) zG)
    refine zD ?_ ?_
    · refine zH (i := 3) ?a ?b ?c ?d
      case a => exact sc12x.nd
      case b => exact rfl
      case c => exact (Or.inl rfl)
      case d =>
        refine zS ?_
        refine yI ?_
        refine yI ?_
        refine yI ?_
        refine yI ?_
        refine yI ?_
        refine yI ?_
        refine yI ?_
        refine yI ?_
        exact zB
    refine zD ?_ ?_
    · exact (zH (i := 4) sc12x.nd rfl (Or.inl rfl) (zK (zS (zA (zE G11x (hr.mono (by decide)) rfl A11x.gl A11x.fn.kp A11x.bd (zA (pv3 0) (zA (zI zQ zC (zE G10x (hr.mono (by decide)) rfl A10x.gl A10x.fn.kp A10x.bd (zA (pv3 0) (zA zC zB)))) zB))) (zA (zK (pv3 3) (zE G10x (hr.mono (by decide)) rfl A10x.gl A10x.fn.kp A10x.bd (zA (pv3 0) (zA zC zB))) (fun _ _ => rfl)) zB))) (zE G10x (hr.mono (by decide)) rfl A10x.gl A10x.fn.kp A10x.bd (zA (pv3 0) (zA zC zB))) (fun _ _ => rfl)))
    refine zD ?_ ?_
    · exact (zR (PW3.pt (yK (zL o3_in (pv3 4) (pv3 1) rfl) (yK (zL o3_in (pv3 4) (yE F.plainAttrs_str F.slot_str_split F.type_str_split m3_split (pv3 2) (zA zG zB)) rfl) (yM (zL (zV hr) (zE G10x (hr.mono (by decide)) rfl A10x.gl A10x.fn.kp A10x.bd (zA (pv3 0) (zA zC zB))) zC (nomark _)))))) (zF (zJ (zI zQ zG (zK zG (zM zU rfl B.len_ b3_len (zA (pv3 1) zB)) (fun _ _ => rfl))))) zN)
    exact zF (zJ (pv3 4))
set_option maxHeartbeats 4000000 in
theorem ok12x {f : Addr} {fd : FuncData} (B : Blt mg) (C : Cst K w.params mg) {f10x : Addr} {fd10x : FuncData} (A10x : FnAt K mg "_law_draw" s10x ["_law_pen_here", "_law_many"] f10x fd10x) (G10x : FnOk P w K mg base CX0 1 f10x fd10x ["_law_pen_here", "_law_many"] (dnSp K spDraw)) {f11x : Addr} {fd11x : FuncData} (A11x : FnAt K mg "_law_letters" s11x ["_law_pen_here", "_law_size"] f11x fd11x) (G11x : FnOk P w K mg base CX0 2 f11x fd11x ["_law_pen_here", "_law_size"] (dnSp K MK.spLetters)) (F : FnAt K mg "_law_fresh" s12x ["_law_pen_here", "_law_taken"] f fd) : FnOk P w K mg base CX0 3 f fd ["_law_pen_here", "_law_taken"] (dnSp K MK.spFresh) :=
  L3.Fun.ok3 F.fn sc12x MK.len__law_fresh fun cdv A outer s H E hr => ⟨MK.t__law_fresh, @dv12x P w K mg base f cdv A outer s H E B C f10x fd10x A10x G10x f11x fd11x A11x G11x hr, MK.rd__law_fresh⟩
abbrev s13x : Stmt := top 17
theorem sc13x : FnScope MK.N__law_names ["_law_pen_here", "_law_many"] (defScope s13x) := ⟨rfl, rfl, rfl, by decide +kernel, rfl, by decide +kernel, by decide +kernel⟩
set_option maxHeartbeats 4000000 in
theorem dv13x {f : Addr} {cdv : Value} {A : Around} {outer : List Env} {s : Shared} {H : Hp} {E : XK} (B : Blt mg) (C : Cst K w.params mg) {f12x : Addr} {fd12x : FuncData} (A12x : FnAt K mg "_law_fresh" s12x ["_law_pen_here", "_law_taken"] f12x fd12x) (G12x : FnOk P w K mg base CX0 3 f12x fd12x ["_law_pen_here", "_law_taken"] (dnSp K MK.spFresh))
    (hr : Room 3 (A.deeper (envOfC "_law_names" (defScope s13x) s.heap.objs.size f cdv))) :
    PSs3 (cxOf CX0 P w K mg base MK.N__law_names "_law_names" (defScope s13x) f cdv A outer s H E).nox (defBody s13x) MK.t__law_names := by
    unfold MK.t__law_names
    refine zD ?_ ?_
    · exact (zH (i := 2) sc13x.nd rfl (Or.inl rfl) (yC zB))
    refine zD ?_ ?_
    · exact (yJ PassesOwn.never rfl (zY rfl B.range_ (zA (pv3 1) zB)) sc13x.nd rfl (Or.inl rfl) (zF (yA (yE F.plainAttrs_list F.slot_list_append F.type_list_append yB (pv3 2) (zA (zE G12x (hr.mono (by decide)) rfl A12x.gl A12x.fn.kp A12x.bd (zA (pv3 0) (zA (pv3 2) zB))) zB)))))
    exact zF (zJ (pv3 2))
set_option maxHeartbeats 4000000 in
theorem ok13x {f : Addr} {fd : FuncData} (B : Blt mg) (C : Cst K w.params mg) {f12x : Addr} {fd12x : FuncData} (A12x : FnAt K mg "_law_fresh" s12x ["_law_pen_here", "_law_taken"] f12x fd12x) (G12x : FnOk P w K mg base CX0 3 f12x fd12x ["_law_pen_here", "_law_taken"] (dnSp K MK.spFresh)) (F : FnAt K mg "_law_names" s13x ["_law_pen_here", "_law_many"] f fd) : FnOk P w K mg base CX0 4 f fd ["_law_pen_here", "_law_many"] (dnSp K MK.spNames) :=
  L3.Fun.ok3 F.fn sc13x MK.len__law_names fun cdv A outer s H E hr => ⟨MK.t__law_names, @dv13x P w K mg base f cdv A outer s H E B C f12x fd12x A12x G12x hr, MK.rd__law_names⟩
abbrev s14x : Stmt := top 18
theorem sc14x : FnScope MK.N__law_word ["_law_pen_here"] (defScope s14x) := ⟨rfl, rfl, rfl, by decide +kernel, rfl, by decide +kernel, by decide +kernel⟩
set_option maxHeartbeats 4000000 in
theorem dv14x {f : Addr} {cdv : Value} {A : Around} {outer : List Env} {s : Shared} {H : Hp} {E : XK} (B : Blt mg) (C : Cst K w.params mg) {f10x : Addr} {fd10x : FuncData} (A10x : FnAt K mg "_law_draw" s10x ["_law_pen_here", "_law_many"] f10x fd10x) (G10x : FnOk P w K mg base CX0 1 f10x fd10x ["_law_pen_here", "_law_many"] (dnSp K spDraw)) {f11x : Addr} {fd11x : FuncData} (A11x : FnAt K mg "_law_letters" s11x ["_law_pen_here", "_law_size"] f11x fd11x) (G11x : FnOk P w K mg base CX0 2 f11x fd11x ["_law_pen_here", "_law_size"] (dnSp K MK.spLetters))
    (hr : Room 2 (A.deeper (envOfC "_law_word" (defScope s14x) s.heap.objs.size f cdv))) :
    PSs3 (cxOf CX0 P w K mg base MK.N__law_word "_law_word" (defScope s14x) f cdv A outer s H E).nox (defBody s14x) MK.t__law_word := by
    unfold MK.t__law_word
    refine zD ?_ ?_
    · refine zH (i := 1) ?a ?b ?c ?d
      case a => exact sc14x.nd
      case b => exact rfl
      case c => exact (Or.inl rfl)
      case d =>
        refine zS ?_
        refine yI ?_
        refine yI ?_
        refine yI ?_
        refine yI ?_
        refine yI ?_
        refine yI ?_
        refine yI ?_
        refine yI ?_
        exact zB
    refine zD ?_ ?_
    · exact (zH (i := 2) sc14x.nd rfl (Or.inl rfl) (zK (zS (zA (zK (pv3 1) (zE G10x (hr.mono (by decide)) rfl A10x.gl A10x.fn.kp A10x.bd (zA (pv3 0) (zA zC zB))) (fun _ _ => rfl)) (zA (zE G11x (hr.mono (by decide)) rfl A11x.gl A11x.fn.kp A11x.bd (zA (pv3 0) (zA (zI zQ zC (zE G10x (hr.mono (by decide)) rfl A10x.gl A10x.fn.kp A10x.bd (zA (pv3 0) (zA zC zB)))) zB))) zB))) (zE G10x (hr.mono (by decide)) rfl A10x.gl A10x.fn.kp A10x.bd (zA (pv3 0) (zA zC zB))) (fun _ _ => rfl)))
    exact zF (zJ (zK (zS (zA (pv3 2) (zA zG zB))) (zX c3_int rfl B.int_ b3_int (zA (yL (zV hr) (pv3 2) zG (nomark _)) zB)) (fun _ _ => rfl)))
set_option maxHeartbeats 4000000 in
theorem ok14x {f : Addr} {fd : FuncData} (B : Blt mg) (C : Cst K w.params mg) {f10x : Addr} {fd10x : FuncData} (A10x : FnAt K mg "_law_draw" s10x ["_law_pen_here", "_law_many"] f10x fd10x) (G10x : FnOk P w K mg base CX0 1 f10x fd10x ["_law_pen_here", "_law_many"] (dnSp K spDraw)) {f11x : Addr} {fd11x : FuncData} (A11x : FnAt K mg "_law_letters" s11x ["_law_pen_here", "_law_size"] f11x fd11x) (G11x : FnOk P w K mg base CX0 2 f11x fd11x ["_law_pen_here", "_law_size"] (dnSp K MK.spLetters)) (F : FnAt K mg "_law_word" s14x ["_law_pen_here"] f fd) : FnOk P w K mg base CX0 3 f fd ["_law_pen_here"] (dnSp K MK.spWord) :=
  L3.Fun.ok3 F.fn sc14x MK.len__law_word fun cdv A outer s H E hr => ⟨MK.t__law_word, @dv14x P w K mg base f cdv A outer s H E B C f10x fd10x A10x G10x f11x fd11x A11x G11x hr, MK.rd__law_word⟩
abbrev s15x : Stmt := top 19
theorem sc15x : FnScope MK.N__law_leaf ["_law_pen_here", "_law_env"] (defScope s15x) := ⟨rfl, rfl, rfl, by decide +kernel, rfl, by decide +kernel, by decide +kernel⟩
set_option maxHeartbeats 4000000 in
theorem dv15x {f : Addr} {cdv : Value} {A : Around} {outer : List Env} {s : Shared} {H : Hp} {E : XK} (B : Blt mg) (C : Cst K w.params mg) {f10x : Addr} {fd10x : FuncData} (A10x : FnAt K mg "_law_draw" s10x ["_law_pen_here", "_law_many"] f10x fd10x) (G10x : FnOk P w K mg base CX0 1 f10x fd10x ["_law_pen_here", "_law_many"] (dnSp K spDraw))
    (hr : Room 1 (A.deeper (envOfC "_law_leaf" (defScope s15x) s.heap.objs.size f cdv))) :
    PSs3 (cxOf CX0 P w K mg base MK.N__law_leaf "_law_leaf" (defScope s15x) f cdv A outer s H E).nox (defBody s15x) MK.t__law_leaf := by
    unfold MK.t__law_leaf
    refine zD ?_ ?_
    · exact (zH (i := 2) sc15x.nd rfl (Or.inl rfl) (zE G10x (hr.mono (by decide)) rfl A10x.gl A10x.fn.kp A10x.bd (zA (pv3 0) (zA zC zB))))
    refine zD ?_ ?_
    · exact (wC 3 ["_law_name", "_law_params"] [] [] rfl (yS (zW (hu3 hr) (pv3 1) zG (fun _ _ => rfl))) rfl (by first | rfl | kernel_rfl) rfl (gk_tup (by decide)) (fun cl s₀ H₀ ex => (yF rfl (zP (i := 0) (show List.Nodup (["_law_name", "_law_params"] : List Str) by decide +kernel) rfl (Or.inl rfl) (zP (i := 1) (show List.Nodup (["_law_name", "_law_params"] : List Str) by decide +kernel) rfl (Or.inl rfl) zZ (Or.inr rfl)) (Or.inr rfl)))) (fun cl s₀ H₀ ex => (wG (zL (zV hr) (pv3 1) (zO zB) (nomark _)))) (fun cl s₀ H₀ ex => (pv3 0)) sc15x.nd rfl (Or.inl rfl) (Or.inl rfl))
    refine zD ?_ ?_
    · exact (zR (zL (zV hr) (pv3 2) zC (nomark _)) (zF (zJ (zO (zA zG zB)))) zN)
    refine zD ?_ ?_
    · exact (zR (PW3.pt (yT (zL (zV hr) (pv3 2) zC (nomark _)) (yP (zL (wE hr) (pv3 3) (zS zB) (nomark _))))) (zF (zJ (zO (zA zG (zA (zK (pv3 3) (zE G10x (hr.mono (by decide)) rfl A10x.gl A10x.fn.kp A10x.bd (zA (pv3 0) (zA (zM zU rfl B.len_ b3_len (zA (pv3 3) zB)) zB))) (fun _ _ => rfl)) (zA (zO zB) zB)))))) zN)
    refine zD ?_ ?_
    · exact (zR (zL yO (pv3 2) zC (nomark _)) (zD (zH (i := 4) sc15x.nd rfl (Or.inl rfl) (zS (zA (zE G10x (hr.mono (by decide)) rfl A10x.gl A10x.fn.kp A10x.bd (zA (pv3 0) (zA zC zB))) (zA (zI zT (zE G10x (hr.mono (by decide)) rfl A10x.gl A10x.fn.kp A10x.bd (zA (pv3 0) (zA zC zB))) zC) (zA (zI zT (zI yZ zC zC) zC) (zA (zI zQ (yV yW (zI yZ zC zC)) zC) (zA (zE G10x (hr.mono (by decide)) rfl A10x.gl A10x.fn.kp A10x.bd (zA (pv3 0) (zA (zI yZ zC zC) zB))) zB)))))))
    (zF (zJ (zO (zA zG (zA (zK (pv3 4) (zE G10x (hr.mono (by decide)) rfl A10x.gl A10x.fn.kp A10x.bd (zA (pv3 0) (zA zC zB))) (fun _ _ => rfl)) zB)))))) zN)
    exact zF (zJ (zO (zA zG (zA (zK (zW (hu3 hr) (pv3 1) zG (fun _ _ => rfl)) (zE G10x (hr.mono (by decide)) rfl A10x.gl A10x.fn.kp A10x.bd (zA (pv3 0) (zA (zM zU rfl B.len_ b3_len (zA (zW (hu3 hr) (pv3 1) zG (fun _ _ => rfl)) zB)) zB))) (fun _ _ => rfl)) zB))))
set_option maxHeartbeats 4000000 in
theorem ok15x {f : Addr} {fd : FuncData} (B : Blt mg) (C : Cst K w.params mg) {f10x : Addr} {fd10x : FuncData} (A10x : FnAt K mg "_law_draw" s10x ["_law_pen_here", "_law_many"] f10x fd10x) (G10x : FnOk P w K mg base CX0 1 f10x fd10x ["_law_pen_here", "_law_many"] (dnSp K spDraw)) (F : FnAt K mg "_law_leaf" s15x ["_law_pen_here", "_law_env"] f fd) : FnOk P w K mg base CX0 2 f fd ["_law_pen_here", "_law_env"] (dnSp K MK.spLeaf) :=
  L3.Fun.ok3 F.fn sc15x MK.len__law_leaf fun cdv A outer s H E hr => ⟨MK.t__law_leaf, @dv15x P w K mg base f cdv A outer s H E B C f10x fd10x A10x G10x hr, MK.rd__law_leaf⟩
abbrev s16x : Stmt := top 20
theorem sc16x : FnScope MK.N__law_expression ["_law_pen_here", "_law_env", "_law_room", "_law_deep"] (defScope s16x) := ⟨rfl, rfl, rfl, by decide +kernel, rfl, by decide +kernel, by decide +kernel⟩
set_option maxHeartbeats 4000000 in
theorem dv16x {f : Addr} {cdv : Value} {A : Around} {outer : List Env} {s : Shared} {H : Hp} {E : XK} (B : Blt mg) (C : Cst K w.params mg) {f10x : Addr} {fd10x : FuncData} (A10x : FnAt K mg "_law_draw" s10x ["_law_pen_here", "_law_many"] f10x fd10x) (G10x : FnOk P w K mg base CX0 1 f10x fd10x ["_law_pen_here", "_law_many"] (dnSp K spDraw)) {f15x : Addr} {fd15x : FuncData} (A15x : FnAt K mg "_law_leaf" s15x ["_law_pen_here", "_law_env"] f15x fd15x) (G15x : FnOk P w K mg base CX0 2 f15x fd15x ["_law_pen_here", "_law_env"] (dnSp K MK.spLeaf)) {kr : Nat} {q16x : Sp3} {f16x : Addr} {fd16x : FuncData} (A16x : FnAt K mg "_law_expression" s16x ["_law_pen_here", "_law_env", "_law_room", "_law_deep"] f16x fd16x) (G16x : FnOk P w K mg base CX0 kr f16x fd16x ["_law_pen_here", "_law_env", "_law_room", "_law_deep"] (dnSp K q16x)) (hkr : 3 ≤ kr)
    (hr : Room kr (A.deeper (envOfC "_law_expression" (defScope s16x) s.heap.objs.size f cdv))) :
    PSs3 (cxOf CX0 P w K mg base MK.N__law_expression "_law_expression" (defScope s16x) f cdv A outer s H E).nox (defBody s16x) (MK.t__law_expression q16x) := by
    unfold MK.t__law_expression
    refine zD ?_ ?_
    · exact (zH (i := 4) sc16x.nd rfl (Or.inl rfl) (zE G10x (hr.mono (by omega)) rfl A10x.gl A10x.fn.kp A10x.bd (zA (pv3 0) (zA zC zB))))
    refine zD ?_ ?_
    · exact (zR (PW3.pt (yK (zL yO (pv3 2) zC (nomark _)) (yK (zL yO (pv3 3) zC (nomark _)) (yM (zL yO (pv3 4) zC (nomark _)))))) (zF (zJ (zE G15x (hr.mono (by omega)) rfl A15x.gl A15x.fn.kp A15x.bd (zA (pv3 0) (zA (pv3 1) zB))))) zN)
    refine zD ?_ ?_
    · exact (zR (zL yO (pv3 4) zC (nomark _)) (zD (zH (i := 5) sc16x.nd rfl (Or.inl rfl) (zI zQ zC (zE G10x (hr.mono (by omega)) rfl A10x.gl A10x.fn.kp A10x.bd (zA (pv3 0) (zA (zI zT (pv3 2) zC) zB)))))
    (zD (zH (i := 6) sc16x.nd rfl (Or.inl rfl) (zE G16x hr rfl A16x.gl A16x.fn.kp A16x.bd (zA (pv3 0) (zA (pv3 1) (zA (pv3 5) (zA (zI zT (pv3 3) zC) zB))))))
    (zF (zJ (zO (zA zG (zA (zK zG (zE G10x (hr.mono (by omega)) rfl A10x.gl A10x.fn.kp A10x.bd (zA (pv3 0) (zA zC zB))) (fun _ _ => rfl)) (zA (pv3 6) (zA (zE G16x hr rfl A16x.gl A16x.fn.kp A16x.bd (zA (pv3 0) (zA (pv3 1) (zA (zI zT (zI zT (pv3 2) zC) (pv3 5)) (zA (zI zT (pv3 3) zC) zB))))) zB))))))))) zN)
    refine zD ?_ ?_
    · exact (ps3_asg (zK (zW (hu3 hr) (pv3 1) zG (fun _ _ => rfl)) (zE G10x (hr.mono (by omega)) rfl A10x.gl A10x.fn.kp A10x.bd (zA (pv3 0) (zA (zM zU rfl B.len_ b3_len (zA (zW (hu3 hr) (pv3 1) zG (fun _ _ => rfl)) zB)) zB))) (fun _ _ => rfl)) (yF rfl (zP (i := 7) sc16x.nd rfl (Or.inl rfl) (zP (i := 8) sc16x.nd rfl (Or.inl rfl) zZ (Or.inl rfl)) (Or.inl rfl))))
    refine zD ?_ ?_
    · exact (zH (i := 9) sc16x.nd rfl (Or.inl rfl) (zI zT (pv3 2) zC))
    refine zD ?_ ?_
    · exact (zR (zL yU (zM zU rfl B.len_ b3_len (zA (pv3 8) zB)) (pv3 9) (nomark _)) (zF (zJ (zE G15x (hr.mono (by omega)) rfl A15x.gl A15x.fn.kp A15x.bd (zA (pv3 0) (zA (pv3 1) zB))))) zN)
    refine zD ?_ ?_
    · exact (zH (i := 10) sc16x.nd rfl (Or.inl rfl) (yC zB))
    refine zD ?_ ?_
    · exact (yJ PassesOwn.never rfl (zY rfl B.range_ (zA (zM zU rfl B.len_ b3_len (zA (pv3 8) zB)) zB)) sc16x.nd rfl (Or.inl rfl) (zD (zH (i := 5) sc16x.nd rfl (Or.inl rfl) (zI zQ zC (zE G10x (hr.mono (by omega)) rfl A10x.gl A10x.fn.kp A10x.bd (zA (pv3 0) (zA (zI zQ (zI zT (pv3 9) (zI zT (zM zU rfl B.len_ b3_len (zA (pv3 8) zB)) (pv3 11))) zC) zB)))))
    (zD (yA (yE F.plainAttrs_list F.slot_list_append F.type_list_append yB (pv3 10) (zA (zE G16x hr rfl A16x.gl A16x.fn.kp A16x.bd (zA (pv3 0) (zA (pv3 1) (zA (pv3 5) (zA (zI zT (pv3 3) zC) zB))))) zB)))
    (zF (zH (i := 9) sc16x.nd rfl (Or.inl rfl) (zI zT (pv3 9) (pv3 5)))))))
    exact zF (zJ (zO (zA zG (zA (pv3 7) (zA (zX yQ rfl B.tuple_ b3_tuple (zA (pv3 10) zB)) zB)))))
set_option maxHeartbeats 4000000 in
theorem ok16x {f : Addr} {fd : FuncData} (B : Blt mg) (C : Cst K w.params mg) {f10x : Addr} {fd10x : FuncData} (A10x : FnAt K mg "_law_draw" s10x ["_law_pen_here", "_law_many"] f10x fd10x) (G10x : FnOk P w K mg base CX0 1 f10x fd10x ["_law_pen_here", "_law_many"] (dnSp K spDraw)) {f15x : Addr} {fd15x : FuncData} (A15x : FnAt K mg "_law_leaf" s15x ["_law_pen_here", "_law_env"] f15x fd15x) (G15x : FnOk P w K mg base CX0 2 f15x fd15x ["_law_pen_here", "_law_env"] (dnSp K MK.spLeaf)) {kr lv : Nat} {f16x : Addr} {fd16x : FuncData} (A16x : FnAt K mg "_law_expression" s16x ["_law_pen_here", "_law_env", "_law_room", "_law_deep"] f16x fd16x) (G16x : FnOk P w K mg base CX0 kr f16x fd16x ["_law_pen_here", "_law_env", "_law_room", "_law_deep"] (dnSp K (MK.spExpr lv))) (hkr : 3 ≤ kr) (F : FnAt K mg "_law_expression" s16x ["_law_pen_here", "_law_env", "_law_room", "_law_deep"] f fd) : FnOk P w K mg base CX0 (kr + 1) f fd ["_law_pen_here", "_law_env", "_law_room", "_law_deep"] (dnSp K (MK.spExpr (lv + 1))) :=
  L3.Fun.ok3 F.fn sc16x (MK.len__law_expression (lv + 1)) fun cdv A outer s H E hr => ⟨MK.t__law_expression (MK.spExpr lv), dv16x B C A10x G10x A15x G15x A16x G16x hkr hr, MK.rd__law_expression lv⟩
theorem grp16x (B : Blt mg) (C : Cst K w.params mg) {f10x : Addr} {fd10x : FuncData} (A10x : FnAt K mg "_law_draw" s10x ["_law_pen_here", "_law_many"] f10x fd10x) (G10x : FnOk P w K mg base CX0 1 f10x fd10x ["_law_pen_here", "_law_many"] (dnSp K spDraw)) {f15x : Addr} {fd15x : FuncData} (A15x : FnAt K mg "_law_leaf" s15x ["_law_pen_here", "_law_env"] f15x fd15x) (G15x : FnOk P w K mg base CX0 2 f15x fd15x ["_law_pen_here", "_law_env"] (dnSp K MK.spLeaf)) {f16x : Addr} {fd16x : FuncData} (A16x : FnAt K mg "_law_expression" s16x ["_law_pen_here", "_law_env", "_law_room", "_law_deep"] f16x fd16x) : ∀ lv : Nat, FnOk P w K mg base CX0 (3 + lv) f16x fd16x ["_law_pen_here", "_law_env", "_law_room", "_law_deep"] (dnSp K (MK.spExpr lv))
  | 0 => fnOk_zero MK.len__law_expression MK.zero__law_expression
  | lv + 1 => by
    obtain G16x := grp16x B C A10x G10x A15x G15x A16x lv
    exact ok16x B C A10x G10x A15x G15x A16x G16x (Nat.le_add_right _ _) A16x
abbrev s17x : Stmt := top 21
theorem sc17x : FnScope MK.N__law_simple ["_law_pen_here", "_law_env", "_law_in_while"] (defScope s17x) := ⟨rfl, rfl, rfl, by decide +kernel, rfl, by decide +kernel, by decide +kernel⟩
set_option maxHeartbeats 4000000 in
theorem dv17x {f : Addr} {cdv : Value} {A : Around} {outer : List Env} {s : Shared} {H : Hp} {E : XK} (B : Blt mg) (C : Cst K w.params mg) {f10x : Addr} {fd10x : FuncData} (A10x : FnAt K mg "_law_draw" s10x ["_law_pen_here", "_law_many"] f10x fd10x) (G10x : FnOk P w K mg base CX0 1 f10x fd10x ["_law_pen_here", "_law_many"] (dnSp K spDraw)) {f16x : Addr} {fd16x : FuncData} (A16x : FnAt K mg "_law_expression" s16x ["_law_pen_here", "_law_env", "_law_room", "_law_deep"] f16x fd16x) (G16x : FnOk P w K mg base CX0 8 f16x fd16x ["_law_pen_here", "_law_env", "_law_room", "_law_deep"] (dnSp K (MK.spExpr 5))) {f14x : Addr} {fd14x : FuncData} (A14x : FnAt K mg "_law_word" s14x ["_law_pen_here"] f14x fd14x) (G14x : FnOk P w K mg base CX0 3 f14x fd14x ["_law_pen_here"] (dnSp K MK.spWord))
    (hr : Room 8 (A.deeper (envOfC "_law_simple" (defScope s17x) s.heap.objs.size f cdv))) :
    PSs3 (cxOf CX0 P w K mg base MK.N__law_simple "_law_simple" (defScope s17x) f cdv A outer s H E).nox (defBody s17x) MK.t__law_simple := by
    unfold MK.t__law_simple
    refine zD ?_ ?_
    · exact (zH (i := 3) sc17x.nd rfl (Or.inl rfl) (zE G10x (hr.mono (by decide)) rfl A10x.gl A10x.fn.kp A10x.bd (zA (pv3 0) (zA (zI zQ zC (zX c3_int rfl B.int_ b3_int (zA (pv3 2) zB))) zB))))
    refine zD ?_ ?_
    · exact (ps3_asg (yG ["_law_k"] ["_law_env", "_law_pen_here"] [1, 0] rfl (zY rfl B.range_ (zA zC zB)) rfl (by first | rfl | kernel_rfl) rfl (gk_name (by decide)) (fun cl s₀ H₀ ex => (yD (i := 0) (show List.Nodup (["_law_k", "_law_env", "_law_pen_here"] : List Str) by decide +kernel) rfl (Or.inl rfl) (Or.inr rfl))) (fun cl s₀ H₀ ex => yH) (fun cl s₀ H₀ ex => (zK (zW (hu3 hr) (pv3 1) zG (fun _ _ => rfl)) (zE G10x (hr.mono (by decide)) rfl A10x.gl A10x.fn.kp A10x.bd (zA (pv3 2) (zA (zM zU rfl B.len_ b3_len (zA (zW (hu3 hr) (pv3 1) zG (fun _ _ => rfl)) zB)) zB))) (fun _ _ => rfl)))) (pg3_lst rfl (zP (i := 4) sc17x.nd rfl (Or.inl rfl) (zP (i := 5) sc17x.nd rfl (Or.inl rfl) zZ (Or.inl rfl)) (Or.inl rfl))))
    refine zD ?_ ?_
    · exact (zH (i := 6) sc17x.nd rfl (Or.inl rfl) (zE G16x (hr.mono (by decide)) rfl A16x.gl A16x.fn.kp A16x.bd (zA (pv3 0) (zA (pv3 1) (zA zC (zA zC zB))))))
    refine zD ?_ ?_
    · exact (zR (zL yO (pv3 3) zC (nomark _)) (zF (zJ (zO (zA (zK (zS (zA zG (zA zG (zA zG zB)))) (pv3 3) (fun _ _ => rfl)) (zA (pv3 4) (zA (pv3 6) zB)))))) zN)
    refine zD ?_ ?_
    · exact (zR (zL yO (pv3 3) zC (nomark _)) (zF (zJ (zO (zA (zK (zS (zA zG (zA zG (zA zG zB)))) (zI zT (pv3 3) zC) (fun _ _ => rfl)) (zA (pv3 6) zB))))) zN)
    refine zD ?_ ?_
    · exact (zR (zL (zV hr) (pv3 3) zC (nomark _)) (zF (zJ (zO (zA zG (zA (pv3 4) (zA (pv3 5) (zA (zE G16x (hr.mono (by decide)) rfl A16x.gl A16x.fn.kp A16x.bd (zA (pv3 0) (zA (pv3 1) (zA zC (zA zC zB))))) (zA (pv3 6) zB)))))))) zN)
    refine zD ?_ ?_
    · exact (zR (zL (zV hr) (pv3 3) zC (nomark _)) (zF (zJ (zO (zA zG (zA (pv3 4) (zA (pv3 5) (zA (zE G16x (hr.mono (by decide)) rfl A16x.gl A16x.fn.kp A16x.bd (zA (pv3 0) (zA (pv3 1) (zA zC (zA zC zB))))) (zA (zE G14x (hr.mono (by decide)) rfl A14x.gl A14x.fn.kp A14x.bd (zA (pv3 0) zB)) (zA (pv3 6) zB))))))))) zN)
    refine zD ?_ ?_
    · exact (zR (zL (zV hr) (pv3 3) zC (nomark _)) (zF (zJ (zO (zA zG zB)))) zN)
    exact zF (zJ (zK (zS (zA (zO (zA zG (zA (zE G14x (hr.mono (by decide)) rfl A14x.gl A14x.fn.kp A14x.bd (zA (pv3 0) zB)) (zA (pv3 6) zB)))) (zA (zO (zA zG (zA (pv3 4) (zA (pv3 6) zB)))) zB))) (zI zT (pv3 3) zC) (fun _ _ => rfl)))
set_option maxHeartbeats 4000000 in
theorem ok17x {f : Addr} {fd : FuncData} (B : Blt mg) (C : Cst K w.params mg) {f10x : Addr} {fd10x : FuncData} (A10x : FnAt K mg "_law_draw" s10x ["_law_pen_here", "_law_many"] f10x fd10x) (G10x : FnOk P w K mg base CX0 1 f10x fd10x ["_law_pen_here", "_law_many"] (dnSp K spDraw)) {f16x : Addr} {fd16x : FuncData} (A16x : FnAt K mg "_law_expression" s16x ["_law_pen_here", "_law_env", "_law_room", "_law_deep"] f16x fd16x) (G16x : FnOk P w K mg base CX0 8 f16x fd16x ["_law_pen_here", "_law_env", "_law_room", "_law_deep"] (dnSp K (MK.spExpr 5))) {f14x : Addr} {fd14x : FuncData} (A14x : FnAt K mg "_law_word" s14x ["_law_pen_here"] f14x fd14x) (G14x : FnOk P w K mg base CX0 3 f14x fd14x ["_law_pen_here"] (dnSp K MK.spWord)) (F : FnAt K mg "_law_simple" s17x ["_law_pen_here", "_law_env", "_law_in_while"] f fd) : FnOk P w K mg base CX0 9 f fd ["_law_pen_here", "_law_env", "_law_in_while"] (dnSp K MK.spSimple) :=
  L3.Fun.ok3 F.fn sc17x MK.len__law_simple fun cdv A outer s H E hr => ⟨MK.t__law_simple, @dv17x P w K mg base f cdv A outer s H E B C f10x fd10x A10x G10x f16x fd16x A16x G16x f14x fd14x A14x G14x hr, MK.rd__law_simple⟩
abbrev s18x : Stmt := top 22
theorem sc18x : FnScope MK.N__law_inner ["_law_deed_here"] (defScope s18x) := ⟨rfl, rfl, rfl, by decide +kernel, rfl, by decide +kernel, by decide +kernel⟩
set_option maxHeartbeats 4000000 in
theorem dv18x {f : Addr} {cdv : Value} {A : Around} {outer : List Env} {s : Shared} {H : Hp} {E : XK} (B : Blt mg) (C : Cst K w.params mg)
    (hr : Room 0 (A.deeper (envOfC "_law_inner" (defScope s18x) s.heap.objs.size f cdv))) :
    PSs3 (cxOf CX0 P w K mg base MK.N__law_inner "_law_inner" (defScope s18x) f cdv A outer s H E).nox (defBody s18x) MK.t__law_inner := by
    unfold MK.t__law_inner
    refine zD ?_ ?_
    · exact (zR (zL (zV hr) (zK (pv3 0) zC (fun _ _ => rfl)) zG (nomark _)) (zF (zJ (zS (zA (zK (pv3 0) zC (fun _ _ => rfl)) (zA (zK (pv3 0) zC (fun _ _ => rfl)) zB))))) zN)
    refine zD ?_ ?_
    · exact (zR (zL (zV hr) (zK (pv3 0) zC (fun _ _ => rfl)) zG (nomark _)) (zF (zJ (zS (zA (zK (pv3 0) zC (fun _ _ => rfl)) zB)))) zN)
    refine zD ?_ ?_
    · exact (zR (zL (zV hr) (zK (pv3 0) zC (fun _ _ => rfl)) zG (nomark _)) (zF (zJ (zI zQ (zI zQ (zS (zA (zK (pv3 0) zC (fun _ _ => rfl)) zB)) (yG ["_law_caught"] [] [] rfl (wJ (zK (pv3 0) zC (fun _ _ => rfl))) rfl (by first | rfl | kernel_rfl) rfl (gk_name (by decide)) (fun cl s₀ H₀ ex => (yD (i := 0) (show List.Nodup (["_law_caught"] : List Str) by decide +kernel) rfl (Or.inl rfl) (Or.inr rfl))) (fun cl s₀ H₀ ex => yH) (fun cl s₀ H₀ ex => (zK (pv3 0) zC (fun _ _ => rfl))))) (zS (zA (zK (pv3 0) zC (fun _ _ => rfl)) zB))))) zN)
    exact zF (zJ (zS zB))
set_option maxHeartbeats 4000000 in
theorem ok18x {f : Addr} {fd : FuncData} (B : Blt mg) (C : Cst K w.params mg) (F : FnAt K mg "_law_inner" s18x ["_law_deed_here"] f fd) : FnOk P w K mg base CX0 1 f fd ["_law_deed_here"] (dnSp K MK.spInner) :=
  L3.Fun.ok3 F.fn sc18x MK.len__law_inner fun cdv A outer s H E hr => ⟨MK.t__law_inner, @dv18x P w K mg base f cdv A outer s H E B C hr, MK.rd__law_inner⟩
abbrev s19x : Stmt := top 23
theorem sc19x : FnScope MK.N__law_count ["_law_block_here"] (defScope s19x) := ⟨rfl, rfl, rfl, by decide +kernel, rfl, by decide +kernel, by decide +kernel⟩
set_option maxHeartbeats 4000000 in
theorem dv19x {f : Addr} {cdv : Value} {A : Around} {outer : List Env} {s : Shared} {H : Hp} {E : XK} (B : Blt mg) (C : Cst K w.params mg) {f18x : Addr} {fd18x : FuncData} (A18x : FnAt K mg "_law_inner" s18x ["_law_deed_here"] f18x fd18x) (G18x : FnOk P w K mg base CX0 1 f18x fd18x ["_law_deed_here"] (dnSp K MK.spInner)) {kr : Nat} {q19x : Sp3} {f19x : Addr} {fd19x : FuncData} (A19x : FnAt K mg "_law_count" s19x ["_law_block_here"] f19x fd19x) (G19x : FnOk P w K mg base CX0 kr f19x fd19x ["_law_block_here"] (dnSp K q19x)) (hkr : 2 ≤ kr)
    (hr : Room kr (A.deeper (envOfC "_law_count" (defScope s19x) s.heap.objs.size f cdv))) :
    PSs3 (cxOf CX0 P w K mg base MK.N__law_count "_law_count" (defScope s19x) f cdv A outer s H E).nox (defBody s19x) (MK.t__law_count q19x) := by
    unfold MK.t__law_count
    exact zF (zJ (zM (c3_sum rfl) rfl B.sum_ b3_sum (zA (yG ["_law_deed_here"] [] [] rfl (wJ (pv3 0)) rfl (by first | rfl | kernel_rfl) rfl (gk_name (by decide)) (fun cl s₀ H₀ ex => (yD (i := 0) (show List.Nodup (["_law_deed_here"] : List Str) by decide +kernel) rfl (Or.inl rfl) (Or.inr rfl))) (fun cl s₀ H₀ ex => yH) (fun cl s₀ H₀ ex => (zI zQ zC (zM (c3_sum rfl) rfl B.sum_ b3_sum (zA (yG ["_law_inner_here"] [] [] rfl (yS (zE G18x (hr.mono (by omega)) rfl A18x.gl A18x.fn.kp A18x.bd (zA (pv3 0) zB))) rfl (by first | rfl | kernel_rfl) rfl (gk_name (by decide)) (fun cl s₀ H₀ ex => (yD (i := 0) (show List.Nodup (["_law_inner_here"] : List Str) by decide +kernel) rfl (Or.inl rfl) (Or.inr rfl))) (fun cl s₀ H₀ ex => yH) (fun cl s₀ H₀ ex => (zE G19x hr rfl A19x.gl A19x.fn.kp A19x.bd (zA (pv3 0) zB)))) zB))))) zB)))
set_option maxHeartbeats 4000000 in
theorem ok19x {f : Addr} {fd : FuncData} (B : Blt mg) (C : Cst K w.params mg) {f18x : Addr} {fd18x : FuncData} (A18x : FnAt K mg "_law_inner" s18x ["_law_deed_here"] f18x fd18x) (G18x : FnOk P w K mg base CX0 1 f18x fd18x ["_law_deed_here"] (dnSp K MK.spInner)) {kr lv : Nat} {f19x : Addr} {fd19x : FuncData} (A19x : FnAt K mg "_law_count" s19x ["_law_block_here"] f19x fd19x) (G19x : FnOk P w K mg base CX0 kr f19x fd19x ["_law_block_here"] (dnSp K (MK.spCount lv))) (hkr : 2 ≤ kr) (F : FnAt K mg "_law_count" s19x ["_law_block_here"] f fd) : FnOk P w K mg base CX0 (kr + 1) f fd ["_law_block_here"] (dnSp K (MK.spCount (lv + 1))) :=
  L3.Fun.ok3 F.fn sc19x (MK.len__law_count (lv + 1)) fun cdv A outer s H E hr => ⟨MK.t__law_count (MK.spCount lv), dv19x B C A18x G18x A19x G19x hkr hr, MK.rd__law_count lv⟩
theorem grp19x (B : Blt mg) (C : Cst K w.params mg) {f18x : Addr} {fd18x : FuncData} (A18x : FnAt K mg "_law_inner" s18x ["_law_deed_here"] f18x fd18x) (G18x : FnOk P w K mg base CX0 1 f18x fd18x ["_law_deed_here"] (dnSp K MK.spInner)) {f19x : Addr} {fd19x : FuncData} (A19x : FnAt K mg "_law_count" s19x ["_law_block_here"] f19x fd19x) : ∀ lv : Nat, FnOk P w K mg base CX0 (2 + lv) f19x fd19x ["_law_block_here"] (dnSp K (MK.spCount lv))
  | 0 => fnOk_zero MK.len__law_count MK.zero__law_count
  | lv + 1 => by
    obtain G19x := grp19x B C A18x G18x A19x lv
    exact ok19x B C A18x G18x A19x G19x (Nat.le_add_right _ _) A19x
abbrev s20x : Stmt := top 24
abbrev s21x : Stmt := top 25
abbrev s22x : Stmt := top 26
theorem sc20x : FnScope MK.N__law_try ["_law_pen_here", "_law_env", "_law_deep", "_law_in_while", "_law_left"] (defScope s20x) := ⟨rfl, rfl, rfl, by decide +kernel, rfl, by decide +kernel, by decide +kernel⟩
set_option maxHeartbeats 4000000 in
theorem dv20x {f : Addr} {cdv : Value} {A : Around} {outer : List Env} {s : Shared} {H : Hp} {E : XK} (B : Blt mg) (C : Cst K w.params mg) {f10x : Addr} {fd10x : FuncData} (A10x : FnAt K mg "_law_draw" s10x ["_law_pen_here", "_law_many"] f10x fd10x) (G10x : FnOk P w K mg base CX0 1 f10x fd10x ["_law_pen_here", "_law_many"] (dnSp K spDraw)) {f14x : Addr} {fd14x : FuncData} (A14x : FnAt K mg "_law_word" s14x ["_law_pen_here"] f14x fd14x) (G14x : FnOk P w K mg base CX0 3 f14x fd14x ["_law_pen_here"] (dnSp K MK.spWord)) {kr : Nat} {q20x q21x q22x : Sp3} {f20x : Addr} {fd20x : FuncData} (A20x : FnAt K mg "_law_try" s20x ["_law_pen_here", "_law_env", "_law_deep", "_law_in_while", "_law_left"] f20x fd20x) (G20x : FnOk P w K mg base CX0 kr f20x fd20x ["_law_pen_here", "_law_env", "_law_deep", "_law_in_while", "_law_left"] (dnSp K q20x)) {f21x : Addr} {fd21x : FuncData} (A21x : FnAt K mg "_law_deed" s21x ["_law_pen_here", "_law_env", "_law_deep", "_law_in_while", "_law_left"] f21x fd21x) (G21x : FnOk P w K mg base CX0 kr f21x fd21x ["_law_pen_here", "_law_env", "_law_deep", "_law_in_while", "_law_left"] (dnSp K q21x)) {f22x : Addr} {fd22x : FuncData} (A22x : FnAt K mg "_law_block" s22x ["_law_pen_here", "_law_env", "_law_deep", "_law_in_while", "_law_left"] f22x fd22x) (G22x : FnOk P w K mg base CX0 kr f22x fd22x ["_law_pen_here", "_law_env", "_law_deep", "_law_in_while", "_law_left"] (dnSp K q22x)) (hkr : 11 ≤ kr)
    (hr : Room kr (A.deeper (envOfC "_law_try" (defScope s20x) s.heap.objs.size f cdv))) :
    PSs3 (cxOf CX0 P w K mg base MK.N__law_try "_law_try" (defScope s20x) f cdv A outer s H E).nox (defBody s20x) (MK.t__law_try q20x q21x q22x) := by
    unfold MK.t__law_try
    refine zD ?_ ?_
    · exact (zH (i := 5) sc20x.nd rfl (Or.inl rfl) (zI zQ zC (zE G10x (hr.mono (by omega)) rfl A10x.gl A10x.fn.kp A10x.bd (zA (pv3 0) (zA (zI zT (pv3 4) zC) zB)))))
    refine zD ?_ ?_
    · exact (zH (i := 6) sc20x.nd rfl (Or.inl rfl) (zE G22x hr rfl A22x.gl A22x.fn.kp A22x.bd (zA (pv3 0) (zA (pv3 1) (zA (zI zQ (pv3 2) zC) (zA (pv3 3) (zA (pv3 5) zB)))))))
    refine zD ?_ ?_
    · exact (zH (i := 7) sc20x.nd rfl (Or.inl rfl) (zI zT (zI zT (pv3 4) zC) (pv3 5)))
    refine zD ?_ ?_
    · exact (zH (i := 8) sc20x.nd rfl (Or.inl rfl) (zM (c3_min rfl) rfl B.min_ b3_min (zA (zE G10x (hr.mono (by omega)) rfl A10x.gl A10x.fn.kp A10x.bd (zA (pv3 0) (zA zC zB))) (zA (zI zT (pv3 7) zC) zB))))
    refine zD ?_ ?_
    · exact (zH (i := 9) sc20x.nd rfl (Or.inl rfl) (yC zB))
    refine zD ?_ ?_
    · exact (yJ PassesOwn.never rfl (zY rfl B.range_ (zA (pv3 8) zB)) sc20x.nd rfl (Or.inl rfl) (zD (zH (i := 11) sc20x.nd rfl (Or.inl rfl) (zI zQ zC (zE G10x (hr.mono (by omega)) rfl A10x.gl A10x.fn.kp A10x.bd (zA (pv3 0) (zA (zI zT (pv3 7) (zI zT (pv3 8) (pv3 10))) zB)))))
    (zD (zH (i := 12) sc20x.nd rfl (Or.inl rfl) (zK (zS (zA (zE G14x (hr.mono (by omega)) rfl A14x.gl A14x.fn.kp A14x.bd (zA (pv3 0) zB)) (zA zG zB))) (zE G10x (hr.mono (by omega)) rfl A10x.gl A10x.fn.kp A10x.bd (zA (pv3 0) (zA zC zB))) (fun _ _ => rfl)))
    (zD (zH (i := 13) sc20x.nd rfl (Or.inl rfl) (zK (zW (hu3 hr) (pv3 1) zG (fun _ _ => rfl)) (zE G10x (hr.mono (by omega)) rfl A10x.gl A10x.fn.kp A10x.bd (zA (pv3 0) (zA (zM zU rfl B.len_ b3_len (zA (zW (hu3 hr) (pv3 1) zG (fun _ _ => rfl)) zB)) zB))) (fun _ _ => rfl)))
    (zD (yA (yE F.plainAttrs_list F.slot_list_append F.type_list_append yB (pv3 9) (zA (zO (zA (pv3 12) (zA (pv3 13) (zA (zE G22x hr rfl A22x.gl A22x.fn.kp A22x.bd (zA (pv3 0) (zA (pv3 1) (zA (zI zQ (pv3 2) zC) (zA (pv3 3) (zA (pv3 11) zB)))))) zB)))) zB)))
    (zF (zH (i := 7) sc20x.nd rfl (Or.inl rfl) (zI zT (pv3 7) (pv3 11)))))))))
    refine zD ?_ ?_
    · exact (zH (i := 14) sc20x.nd rfl (Or.inl rfl) (zO zB))
    refine zD ?_ ?_
    · exact (zR (PW3.pt (yK (zL (zV hr) (pv3 8) zC (nomark _)) (yM (zL (zV hr) (zE G10x (hr.mono (by omega)) rfl A10x.gl A10x.fn.kp A10x.bd (zA (pv3 0) (zA zC zB))) zC (nomark _))))) (zF (zH (i := 14) sc20x.nd rfl (Or.inl rfl) (zE G22x hr rfl A22x.gl A22x.fn.kp A22x.bd (zA (pv3 0) (zA (pv3 1) (zA (zI zQ (pv3 2) zC) (zA (pv3 3) (zA (zI zQ zC (zE G10x (hr.mono (by omega)) rfl A10x.gl A10x.fn.kp A10x.bd (zA (pv3 0) (zA (pv3 7) zB)))) zB)))))))) zN)
    exact zF (zJ (zO (zA zG (zA (pv3 6) (zA (zX yQ rfl B.tuple_ b3_tuple (zA (pv3 9) zB)) (zA (pv3 14) zB))))))
set_option maxHeartbeats 4000000 in
theorem ok20x {f : Addr} {fd : FuncData} (B : Blt mg) (C : Cst K w.params mg) {f10x : Addr} {fd10x : FuncData} (A10x : FnAt K mg "_law_draw" s10x ["_law_pen_here", "_law_many"] f10x fd10x) (G10x : FnOk P w K mg base CX0 1 f10x fd10x ["_law_pen_here", "_law_many"] (dnSp K spDraw)) {f14x : Addr} {fd14x : FuncData} (A14x : FnAt K mg "_law_word" s14x ["_law_pen_here"] f14x fd14x) (G14x : FnOk P w K mg base CX0 3 f14x fd14x ["_law_pen_here"] (dnSp K MK.spWord)) {kr lv : Nat} {f20x : Addr} {fd20x : FuncData} (A20x : FnAt K mg "_law_try" s20x ["_law_pen_here", "_law_env", "_law_deep", "_law_in_while", "_law_left"] f20x fd20x) (G20x : FnOk P w K mg base CX0 kr f20x fd20x ["_law_pen_here", "_law_env", "_law_deep", "_law_in_while", "_law_left"] (dnSp K (MK.spTry lv))) {f21x : Addr} {fd21x : FuncData} (A21x : FnAt K mg "_law_deed" s21x ["_law_pen_here", "_law_env", "_law_deep", "_law_in_while", "_law_left"] f21x fd21x) (G21x : FnOk P w K mg base CX0 kr f21x fd21x ["_law_pen_here", "_law_env", "_law_deep", "_law_in_while", "_law_left"] (dnSp K (MK.spDeed lv))) {f22x : Addr} {fd22x : FuncData} (A22x : FnAt K mg "_law_block" s22x ["_law_pen_here", "_law_env", "_law_deep", "_law_in_while", "_law_left"] f22x fd22x) (G22x : FnOk P w K mg base CX0 kr f22x fd22x ["_law_pen_here", "_law_env", "_law_deep", "_law_in_while", "_law_left"] (dnSp K (MK.spBlock lv))) (hkr : 11 ≤ kr) (F : FnAt K mg "_law_try" s20x ["_law_pen_here", "_law_env", "_law_deep", "_law_in_while", "_law_left"] f fd) : FnOk P w K mg base CX0 (kr + 1) f fd ["_law_pen_here", "_law_env", "_law_deep", "_law_in_while", "_law_left"] (dnSp K (MK.spTry (lv + 1))) :=
  L3.Fun.ok3 F.fn sc20x (MK.len__law_try (lv + 1)) fun cdv A outer s H E hr => ⟨MK.t__law_try (MK.spTry lv) (MK.spDeed lv) (MK.spBlock lv), dv20x B C A10x G10x A14x G14x A20x G20x A21x G21x A22x G22x hkr hr, MK.rd__law_try lv⟩
theorem sc21x : FnScope MK.N__law_deed ["_law_pen_here", "_law_env", "_law_deep", "_law_in_while", "_law_left"] (defScope s21x) := ⟨rfl, rfl, rfl, by decide +kernel, rfl, by decide +kernel, by decide +kernel⟩
set_option maxHeartbeats 4000000 in
theorem dv21x {f : Addr} {cdv : Value} {A : Around} {outer : List Env} {s : Shared} {H : Hp} {E : XK} (B : Blt mg) (C : Cst K w.params mg) {f10x : Addr} {fd10x : FuncData} (A10x : FnAt K mg "_law_draw" s10x ["_law_pen_here", "_law_many"] f10x fd10x) (G10x : FnOk P w K mg base CX0 1 f10x fd10x ["_law_pen_here", "_law_many"] (dnSp K spDraw)) {f17x : Addr} {fd17x : FuncData} (A17x : FnAt K mg "_law_simple" s17x ["_law_pen_here", "_law_env", "_law_in_while"] f17x fd17x) (G17x : FnOk P w K mg base CX0 9 f17x fd17x ["_law_pen_here", "_law_env", "_law_in_while"] (dnSp K MK.spSimple)) {f16x : Addr} {fd16x : FuncData} (A16x : FnAt K mg "_law_expression" s16x ["_law_pen_here", "_law_env", "_law_room", "_law_deep"] f16x fd16x) (G16x : FnOk P w K mg base CX0 8 f16x fd16x ["_law_pen_here", "_law_env", "_law_room", "_law_deep"] (dnSp K (MK.spExpr 5))) {kr : Nat} {q20x q21x q22x : Sp3} {f20x : Addr} {fd20x : FuncData} (A20x : FnAt K mg "_law_try" s20x ["_law_pen_here", "_law_env", "_law_deep", "_law_in_while", "_law_left"] f20x fd20x) (G20x : FnOk P w K mg base CX0 kr f20x fd20x ["_law_pen_here", "_law_env", "_law_deep", "_law_in_while", "_law_left"] (dnSp K q20x)) {f21x : Addr} {fd21x : FuncData} (A21x : FnAt K mg "_law_deed" s21x ["_law_pen_here", "_law_env", "_law_deep", "_law_in_while", "_law_left"] f21x fd21x) (G21x : FnOk P w K mg base CX0 kr f21x fd21x ["_law_pen_here", "_law_env", "_law_deep", "_law_in_while", "_law_left"] (dnSp K q21x)) {f22x : Addr} {fd22x : FuncData} (A22x : FnAt K mg "_law_block" s22x ["_law_pen_here", "_law_env", "_law_deep", "_law_in_while", "_law_left"] f22x fd22x) (G22x : FnOk P w K mg base CX0 kr f22x fd22x ["_law_pen_here", "_law_env", "_law_deep", "_law_in_while", "_law_left"] (dnSp K q22x)) (hkr : 11 ≤ kr)
    (hr : Room kr (A.deeper (envOfC "_law_deed" (defScope s21x) s.heap.objs.size f cdv))) :
    PSs3 (cxOf CX0 P w K mg base MK.N__law_deed "_law_deed" (defScope s21x) f cdv A outer s H E).nox (defBody s21x) (MK.t__law_deed q20x q21x q22x) := by
    unfold MK.t__law_deed
    refine zD ?_ ?_
    · exact (zH (i := 5) sc21x.nd rfl (Or.inl rfl) (zE G10x (hr.mono (by omega)) rfl A10x.gl A10x.fn.kp A10x.bd (zA (pv3 0) (zA zC zB))))
    refine zD ?_ ?_
    · exact (zR (PW3.pt (yK (zL o3_ge (pv3 2) zC (nomark _)) (yK (zL yO (pv3 4) zC (nomark _)) (yM (zL yO (pv3 5) zC (nomark _)))))) (zF (zJ (zE G17x (hr.mono (by omega)) rfl A17x.gl A17x.fn.kp A17x.bd (zA (pv3 0) (zA (pv3 1) (zA (pv3 3) zB)))))) zN)
    refine zD ?_ ?_
    · exact (zR (zL (zV hr) (pv3 5) zC (nomark _)) (zF (zJ (zE G20x hr rfl A20x.gl A20x.fn.kp A20x.bd (zA (pv3 0) (zA (pv3 1) (zA (pv3 2) (zA (pv3 3) (zA (pv3 4) zB)))))))) zN)
    refine zD ?_ ?_
    · exact (zH (i := 6) sc21x.nd rfl (Or.inl rfl) (zE G16x (hr.mono (by omega)) rfl A16x.gl A16x.fn.kp A16x.bd (zA (pv3 0) (zA (pv3 1) (zA zC (zA zC zB))))))
    refine zD ?_ ?_
    · exact (zH (i := 7) sc21x.nd rfl (Or.inl rfl) (zI zQ zC (zE G10x (hr.mono (by omega)) rfl A10x.gl A10x.fn.kp A10x.bd (zA (pv3 0) (zA (zI zT (pv3 4) zC) zB)))))
    refine zD ?_ ?_
    · exact (zH (i := 8) sc21x.nd rfl (Or.inl rfl) (zE G22x hr rfl A22x.gl A22x.fn.kp A22x.bd (zA (pv3 0) (zA (pv3 1) (zA (zI zQ (pv3 2) zC) (zA (pe3_or (pv3 3) (pe3_one (yL (zV hr) (pv3 5) zC (nomark _)))) (zA (pv3 7) zB)))))))
    refine zD ?_ ?_
    · exact (zR (zL (zV hr) (pv3 5) zC (nomark _)) (zF (zJ (zO (zA zG (zA (pv3 6) (zA (pv3 8) zB)))))) zN)
    refine zD ?_ ?_
    · exact (zH (i := 9) sc21x.nd rfl (Or.inl rfl) (zO zB))
    refine zD ?_ ?_
    · exact (zR (zL (zV hr) (zE G10x (hr.mono (by omega)) rfl A10x.gl A10x.fn.kp A10x.bd (zA (pv3 0) (zA zC zB))) zC (nomark _)) (zF (zH (i := 9) sc21x.nd rfl (Or.inl rfl) (zE G22x hr rfl A22x.gl A22x.fn.kp A22x.bd (zA (pv3 0) (zA (pv3 1) (zA (zI zQ (pv3 2) zC) (zA (pv3 3) (zA (zI zT (zI zT (pv3 4) zC) (pv3 7)) zB)))))))) zN)
    exact zF (zJ (zO (zA zG (zA (pv3 6) (zA (pv3 8) (zA (pv3 9) zB))))))
set_option maxHeartbeats 4000000 in
theorem ok21x {f : Addr} {fd : FuncData} (B : Blt mg) (C : Cst K w.params mg) {f10x : Addr} {fd10x : FuncData} (A10x : FnAt K mg "_law_draw" s10x ["_law_pen_here", "_law_many"] f10x fd10x) (G10x : FnOk P w K mg base CX0 1 f10x fd10x ["_law_pen_here", "_law_many"] (dnSp K spDraw)) {f17x : Addr} {fd17x : FuncData} (A17x : FnAt K mg "_law_simple" s17x ["_law_pen_here", "_law_env", "_law_in_while"] f17x fd17x) (G17x : FnOk P w K mg base CX0 9 f17x fd17x ["_law_pen_here", "_law_env", "_law_in_while"] (dnSp K MK.spSimple)) {f16x : Addr} {fd16x : FuncData} (A16x : FnAt K mg "_law_expression" s16x ["_law_pen_here", "_law_env", "_law_room", "_law_deep"] f16x fd16x) (G16x : FnOk P w K mg base CX0 8 f16x fd16x ["_law_pen_here", "_law_env", "_law_room", "_law_deep"] (dnSp K (MK.spExpr 5))) {kr lv : Nat} {f20x : Addr} {fd20x : FuncData} (A20x : FnAt K mg "_law_try" s20x ["_law_pen_here", "_law_env", "_law_deep", "_law_in_while", "_law_left"] f20x fd20x) (G20x : FnOk P w K mg base CX0 kr f20x fd20x ["_law_pen_here", "_law_env", "_law_deep", "_law_in_while", "_law_left"] (dnSp K (MK.spTry lv))) {f21x : Addr} {fd21x : FuncData} (A21x : FnAt K mg "_law_deed" s21x ["_law_pen_here", "_law_env", "_law_deep", "_law_in_while", "_law_left"] f21x fd21x) (G21x : FnOk P w K mg base CX0 kr f21x fd21x ["_law_pen_here", "_law_env", "_law_deep", "_law_in_while", "_law_left"] (dnSp K (MK.spDeed lv))) {f22x : Addr} {fd22x : FuncData} (A22x : FnAt K mg "_law_block" s22x ["_law_pen_here", "_law_env", "_law_deep", "_law_in_while", "_law_left"] f22x fd22x) (G22x : FnOk P w K mg base CX0 kr f22x fd22x ["_law_pen_here", "_law_env", "_law_deep", "_law_in_while", "_law_left"] (dnSp K (MK.spBlock lv))) (hkr : 11 ≤ kr) (F : FnAt K mg "_law_deed" s21x ["_law_pen_here", "_law_env", "_law_deep", "_law_in_while", "_law_left"] f fd) : FnOk P w K mg base CX0 (kr + 1) f fd ["_law_pen_here", "_law_env", "_law_deep", "_law_in_while", "_law_left"] (dnSp K (MK.spDeed (lv + 1))) :=
  L3.Fun.ok3 F.fn sc21x (MK.len__law_deed (lv + 1)) fun cdv A outer s H E hr => ⟨MK.t__law_deed (MK.spTry lv) (MK.spDeed lv) (MK.spBlock lv), dv21x B C A10x G10x A17x G17x A16x G16x A20x G20x A21x G21x A22x G22x hkr hr, MK.rd__law_deed lv⟩
theorem sc22x : FnScope MK.N__law_block ["_law_pen_here", "_law_env", "_law_deep", "_law_in_while", "_law_left"] (defScope s22x) := ⟨rfl, rfl, rfl, by decide +kernel, rfl, by decide +kernel, by decide +kernel⟩
set_option maxHeartbeats 4000000 in
theorem dv22x {f : Addr} {cdv : Value} {A : Around} {outer : List Env} {s : Shared} {H : Hp} {E : XK} (B : Blt mg) (C : Cst K w.params mg) {f10x : Addr} {fd10x : FuncData} (A10x : FnAt K mg "_law_draw" s10x ["_law_pen_here", "_law_many"] f10x fd10x) (G10x : FnOk P w K mg base CX0 1 f10x fd10x ["_law_pen_here", "_law_many"] (dnSp K spDraw)) {f19x : Addr} {fd19x : FuncData} (A19x : FnAt K mg "_law_count" s19x ["_law_block_here"] f19x fd19x) (G19x : FnOk P w K mg base CX0 10 f19x fd19x ["_law_block_here"] (dnSp K (MK.spCount 8))) {kr : Nat} {q20x q21x q22x : Sp3} {f20x : Addr} {fd20x : FuncData} (A20x : FnAt K mg "_law_try" s20x ["_law_pen_here", "_law_env", "_law_deep", "_law_in_while", "_law_left"] f20x fd20x) (G20x : FnOk P w K mg base CX0 kr f20x fd20x ["_law_pen_here", "_law_env", "_law_deep", "_law_in_while", "_law_left"] (dnSp K q20x)) {f21x : Addr} {fd21x : FuncData} (A21x : FnAt K mg "_law_deed" s21x ["_law_pen_here", "_law_env", "_law_deep", "_law_in_while", "_law_left"] f21x fd21x) (G21x : FnOk P w K mg base CX0 kr f21x fd21x ["_law_pen_here", "_law_env", "_law_deep", "_law_in_while", "_law_left"] (dnSp K q21x)) {f22x : Addr} {fd22x : FuncData} (A22x : FnAt K mg "_law_block" s22x ["_law_pen_here", "_law_env", "_law_deep", "_law_in_while", "_law_left"] f22x fd22x) (G22x : FnOk P w K mg base CX0 kr f22x fd22x ["_law_pen_here", "_law_env", "_law_deep", "_law_in_while", "_law_left"] (dnSp K q22x)) (hkr : 11 ≤ kr)
    (hr : Room kr (A.deeper (envOfC "_law_block" (defScope s22x) s.heap.objs.size f cdv))) :
    PSs3 (cxOf CX0 P w K mg base MK.N__law_block "_law_block" (defScope s22x) f cdv A outer s H E).nox (defBody s22x) (MK.t__law_block q20x q21x q22x) := by
    unfold MK.t__law_block
    refine zD ?_ ?_
    · exact (zH (i := 5) sc22x.nd rfl (Or.inl rfl) (yC zB))
    refine zD ?_ ?_
    · exact (zH (i := 6) sc22x.nd rfl (Or.inl rfl) (zI zQ zC (zE G10x (hr.mono (by omega)) rfl A10x.gl A10x.fn.kp A10x.bd (zA (pv3 0) (zA zC zB)))))
    refine zD ?_ ?_
    · exact (wB PassesOwn.never (PW3.pt (yT (zL yU (pv3 4) zC (nomark _)) (yP (zL yO (zM zU rfl B.len_ b3_len (zA (pv3 5) zB)) (pv3 6) (nomark _))))) (zD (zH (i := 7) sc22x.nd rfl (Or.inl rfl) (zE G21x hr rfl A21x.gl A21x.fn.kp A21x.bd (zA (pv3 0) (zA (pv3 1) (zA (pv3 2) (zA (pv3 3) (zA (pv3 4) zB)))))))
    (zD (yA (yE F.plainAttrs_list F.slot_list_append F.type_list_append yB (pv3 5) (zA (pv3 7) zB)))
    (zF (zH (i := 4) sc22x.nd rfl (Or.inl rfl) (zI zT (pv3 4) (zE G19x (hr.mono (by omega)) rfl A19x.gl A19x.fn.kp A19x.bd (zA (zO (zA (pv3 7) zB)) zB))))))))
    exact zF (zJ (zX yQ rfl B.tuple_ b3_tuple (zA (pv3 5) zB)))
set_option maxHeartbeats 4000000 in
theorem ok22x {f : Addr} {fd : FuncData} (B : Blt mg) (C : Cst K w.params mg) {f10x : Addr} {fd10x : FuncData} (A10x : FnAt K mg "_law_draw" s10x ["_law_pen_here", "_law_many"] f10x fd10x) (G10x : FnOk P w K mg base CX0 1 f10x fd10x ["_law_pen_here", "_law_many"] (dnSp K spDraw)) {f19x : Addr} {fd19x : FuncData} (A19x : FnAt K mg "_law_count" s19x ["_law_block_here"] f19x fd19x) (G19x : FnOk P w K mg base CX0 10 f19x fd19x ["_law_block_here"] (dnSp K (MK.spCount 8))) {kr lv : Nat} {f20x : Addr} {fd20x : FuncData} (A20x : FnAt K mg "_law_try" s20x ["_law_pen_here", "_law_env", "_law_deep", "_law_in_while", "_law_left"] f20x fd20x) (G20x : FnOk P w K mg base CX0 kr f20x fd20x ["_law_pen_here", "_law_env", "_law_deep", "_law_in_while", "_law_left"] (dnSp K (MK.spTry lv))) {f21x : Addr} {fd21x : FuncData} (A21x : FnAt K mg "_law_deed" s21x ["_law_pen_here", "_law_env", "_law_deep", "_law_in_while", "_law_left"] f21x fd21x) (G21x : FnOk P w K mg base CX0 kr f21x fd21x ["_law_pen_here", "_law_env", "_law_deep", "_law_in_while", "_law_left"] (dnSp K (MK.spDeed lv))) {f22x : Addr} {fd22x : FuncData} (A22x : FnAt K mg "_law_block" s22x ["_law_pen_here", "_law_env", "_law_deep", "_law_in_while", "_law_left"] f22x fd22x) (G22x : FnOk P w K mg base CX0 kr f22x fd22x ["_law_pen_here", "_law_env", "_law_deep", "_law_in_while", "_law_left"] (dnSp K (MK.spBlock lv))) (hkr : 11 ≤ kr) (F : FnAt K mg "_law_block" s22x ["_law_pen_here", "_law_env", "_law_deep", "_law_in_while", "_law_left"] f fd) : FnOk P w K mg base CX0 (kr + 1) f fd ["_law_pen_here", "_law_env", "_law_deep", "_law_in_while", "_law_left"] (dnSp K (MK.spBlock (lv + 1))) :=
  L3.Fun.ok3 F.fn sc22x (MK.len__law_block (lv + 1)) fun cdv A outer s H E hr => ⟨MK.t__law_block (MK.spTry lv) (MK.spDeed lv) (MK.spBlock lv), dv22x B C A10x G10x A19x G19x A20x G20x A21x G21x A22x G22x hkr hr, MK.rd__law_block lv⟩
theorem grp22x (B : Blt mg) (C : Cst K w.params mg) {f10x : Addr} {fd10x : FuncData} (A10x : FnAt K mg "_law_draw" s10x ["_law_pen_here", "_law_many"] f10x fd10x) (G10x : FnOk P w K mg base CX0 1 f10x fd10x ["_law_pen_here", "_law_many"] (dnSp K spDraw)) {f14x : Addr} {fd14x : FuncData} (A14x : FnAt K mg "_law_word" s14x ["_law_pen_here"] f14x fd14x) (G14x : FnOk P w K mg base CX0 3 f14x fd14x ["_law_pen_here"] (dnSp K MK.spWord)) {f17x : Addr} {fd17x : FuncData} (A17x : FnAt K mg "_law_simple" s17x ["_law_pen_here", "_law_env", "_law_in_while"] f17x fd17x) (G17x : FnOk P w K mg base CX0 9 f17x fd17x ["_law_pen_here", "_law_env", "_law_in_while"] (dnSp K MK.spSimple)) {f16x : Addr} {fd16x : FuncData} (A16x : FnAt K mg "_law_expression" s16x ["_law_pen_here", "_law_env", "_law_room", "_law_deep"] f16x fd16x) (G16x : FnOk P w K mg base CX0 8 f16x fd16x ["_law_pen_here", "_law_env", "_law_room", "_law_deep"] (dnSp K (MK.spExpr 5))) {f19x : Addr} {fd19x : FuncData} (A19x : FnAt K mg "_law_count" s19x ["_law_block_here"] f19x fd19x) (G19x : FnOk P w K mg base CX0 10 f19x fd19x ["_law_block_here"] (dnSp K (MK.spCount 8))) {f20x : Addr} {fd20x : FuncData} (A20x : FnAt K mg "_law_try" s20x ["_law_pen_here", "_law_env", "_law_deep", "_law_in_while", "_law_left"] f20x fd20x) {f21x : Addr} {fd21x : FuncData} (A21x : FnAt K mg "_law_deed" s21x ["_law_pen_here", "_law_env", "_law_deep", "_law_in_while", "_law_left"] f21x fd21x) {f22x : Addr} {fd22x : FuncData} (A22x : FnAt K mg "_law_block" s22x ["_law_pen_here", "_law_env", "_law_deep", "_law_in_while", "_law_left"] f22x fd22x) : ∀ lv : Nat, FnOk P w K mg base CX0 (11 + lv) f20x fd20x ["_law_pen_here", "_law_env", "_law_deep", "_law_in_while", "_law_left"] (dnSp K (MK.spTry lv)) ∧ FnOk P w K mg base CX0 (11 + lv) f21x fd21x ["_law_pen_here", "_law_env", "_law_deep", "_law_in_while", "_law_left"] (dnSp K (MK.spDeed lv)) ∧ FnOk P w K mg base CX0 (11 + lv) f22x fd22x ["_law_pen_here", "_law_env", "_law_deep", "_law_in_while", "_law_left"] (dnSp K (MK.spBlock lv))
  | 0 => ⟨fnOk_zero MK.len__law_try MK.zero__law_try, fnOk_zero MK.len__law_deed MK.zero__law_deed, fnOk_zero MK.len__law_block MK.zero__law_block⟩
  | lv + 1 => by
    obtain ⟨G20x, G21x, G22x⟩ := grp22x B C A10x G10x A14x G14x A17x G17x A16x G16x A19x G19x A20x A21x A22x lv
    exact ⟨ok20x B C A10x G10x A14x G14x A20x G20x A21x G21x A22x G22x (Nat.le_add_right _ _) A20x, ok21x B C A10x G10x A17x G17x A16x G16x A20x G20x A21x G21x A22x G22x (Nat.le_add_right _ _) A21x, ok22x B C A10x G10x A19x G19x A20x G20x A21x G21x A22x G22x (Nat.le_add_right _ _) A22x⟩
abbrev s23x : Stmt := top 27
theorem sc23x : FnScope MK.N__law_book ["_law_pen_here", "_law_rules", "_law_deeds"] (defScope s23x) := ⟨rfl, rfl, rfl, by decide +kernel, rfl, by decide +kernel, by decide +kernel⟩
set_option maxHeartbeats 4000000 in
theorem dv23x {f : Addr} {cdv : Value} {A : Around} {outer : List Env} {s : Shared} {H : Hp} {E : XK} (B : Blt mg) (C : Cst K w.params mg) {f10x : Addr} {fd10x : FuncData} (A10x : FnAt K mg "_law_draw" s10x ["_law_pen_here", "_law_many"] f10x fd10x) (G10x : FnOk P w K mg base CX0 1 f10x fd10x ["_law_pen_here", "_law_many"] (dnSp K spDraw)) {f13x : Addr} {fd13x : FuncData} (A13x : FnAt K mg "_law_names" s13x ["_law_pen_here", "_law_many"] f13x fd13x) (G13x : FnOk P w K mg base CX0 4 f13x fd13x ["_law_pen_here", "_law_many"] (dnSp K MK.spNames)) {f12x : Addr} {fd12x : FuncData} (A12x : FnAt K mg "_law_fresh" s12x ["_law_pen_here", "_law_taken"] f12x fd12x) (G12x : FnOk P w K mg base CX0 3 f12x fd12x ["_law_pen_here", "_law_taken"] (dnSp K MK.spFresh)) {f22x : Addr} {fd22x : FuncData} (A22x : FnAt K mg "_law_block" s22x ["_law_pen_here", "_law_env", "_law_deep", "_law_in_while", "_law_left"] f22x fd22x) (G22x : FnOk P w K mg base CX0 31 f22x fd22x ["_law_pen_here", "_law_env", "_law_deep", "_law_in_while", "_law_left"] (dnSp K (MK.spBlock 20)))
    (hr : Room 32 (A.deeper (envOfC "_law_book" (defScope s23x) s.heap.objs.size f cdv))) :
    PSs3 (cxOf CX0 P w K mg base MK.N__law_book "_law_book" (defScope s23x) f cdv A outer s H E).nox (defBody s23x) MK.t__law_book := by
    unfold MK.t__law_book
    refine zD ?_ ?_
    · exact (zH (i := 3) sc23x.nd rfl (Or.inl rfl) (zE G13x (hr.mono (by decide)) rfl A13x.gl A13x.fn.kp A13x.bd (zA (pv3 0) (zA (zI zQ zC (zE G10x (hr.mono (by decide)) rfl A10x.gl A10x.fn.kp A10x.bd (zA (pv3 0) (zA (pv3 1) zB)))) zB))))
    refine zD ?_ ?_
    · exact (wC 4 ["_law_name"] ["_law_pen_here"] [0] rfl (yS (pv3 3)) rfl (by first | rfl | kernel_rfl) rfl (gk_name (by decide)) (fun cl s₀ H₀ ex => (yD (i := 0) (show List.Nodup (["_law_name", "_law_pen_here"] : List Str) by decide +kernel) rfl (Or.inl rfl) (Or.inr rfl))) (fun cl s₀ H₀ ex => yH) (fun cl s₀ H₀ ex => (zO (zA (pv3 0) (zA (zX yQ rfl B.tuple_ b3_tuple (zA (zE G13x (hr.mono (by decide)) rfl A13x.gl A13x.fn.kp A13x.bd (zA (pv3 1) (zA (zE G10x (hr.mono (by decide)) rfl A10x.gl A10x.fn.kp A10x.bd (zA (pv3 1) (zA zC zB))) zB))) zB)) zB)))) sc23x.nd rfl (Or.inl rfl) (Or.inl rfl))
    refine zD ?_ ?_
    · exact (zH (i := 5) sc23x.nd rfl (Or.inl rfl) (yC zB))
    refine zD ?_ ?_
    · exact (yY PassesOwn.never rfl (yS (pv3 4)) (yF rfl (zP (i := 6) sc23x.nd rfl (Or.inl rfl) (zP (i := 7) sc23x.nd rfl (Or.inl rfl) zZ (Or.inl rfl)) (Or.inl rfl))) (zD (zH (i := 8) sc23x.nd rfl (Or.inl rfl) (pe3_listM rfl B.list_ (zA (pv3 7) zB)))
    (zD (yJ PassesOwn.never rfl (zY rfl B.range_ (zA (zI zQ zC (zE G10x (hr.mono (by decide)) rfl A10x.gl A10x.fn.kp A10x.bd (zA (pv3 0) (zA (zI zT zC (zM zU rfl B.len_ b3_len (zA (pv3 7) zB))) zB)))) zB)) sc23x.nd rfl (Or.inl rfl) (zF (yA (yE F.plainAttrs_list F.slot_list_append F.type_list_append yB (pv3 8) (zA (zE G12x (hr.mono (by decide)) rfl A12x.gl A12x.fn.kp A12x.bd (zA (pv3 0) (zA (pv3 8) zB))) zB)))))
    (wH 8 (zD (zH (i := 10) sc23x.nd rfl (Or.inl rfl) (pe3_dispM (yN zG (pv3 4) (yN zG (pv3 8) pps3_nil)) rfl rfl (by simp) (by decide)))
    (zF (yA (yE F.plainAttrs_list F.slot_list_append F.type_list_append yB (pv3 5) (zA (zO (zA (pv3 6) (zA (pv3 7) (zA (zE G22x (hr.mono (by decide)) rfl A22x.gl A22x.fn.kp A22x.bd (zA (pv3 0) (zA (pv3 10) (zA zC (zA pe3_bl (zA (zI zQ zC (zE G10x (hr.mono (by decide)) rfl A10x.gl A10x.fn.kp A10x.bd (zA (pv3 0) (zA (pv3 2) zB)))) zB)))))) zB)))) zB)))))))))
    exact zF (zJ (zX yQ rfl B.tuple_ b3_tuple (zA (pv3 5) zB)))
set_option maxHeartbeats 4000000 in
theorem ok23x {f : Addr} {fd : FuncData} (B : Blt mg) (C : Cst K w.params mg) {f10x : Addr} {fd10x : FuncData} (A10x : FnAt K mg "_law_draw" s10x ["_law_pen_here", "_law_many"] f10x fd10x) (G10x : FnOk P w K mg base CX0 1 f10x fd10x ["_law_pen_here", "_law_many"] (dnSp K spDraw)) {f13x : Addr} {fd13x : FuncData} (A13x : FnAt K mg "_law_names" s13x ["_law_pen_here", "_law_many"] f13x fd13x) (G13x : FnOk P w K mg base CX0 4 f13x fd13x ["_law_pen_here", "_law_many"] (dnSp K MK.spNames)) {f12x : Addr} {fd12x : FuncData} (A12x : FnAt K mg "_law_fresh" s12x ["_law_pen_here", "_law_taken"] f12x fd12x) (G12x : FnOk P w K mg base CX0 3 f12x fd12x ["_law_pen_here", "_law_taken"] (dnSp K MK.spFresh)) {f22x : Addr} {fd22x : FuncData} (A22x : FnAt K mg "_law_block" s22x ["_law_pen_here", "_law_env", "_law_deep", "_law_in_while", "_law_left"] f22x fd22x) (G22x : FnOk P w K mg base CX0 31 f22x fd22x ["_law_pen_here", "_law_env", "_law_deep", "_law_in_while", "_law_left"] (dnSp K (MK.spBlock 20))) (F : FnAt K mg "_law_book" s23x ["_law_pen_here", "_law_rules", "_law_deeds"] f fd) : FnOk P w K mg base CX0 33 f fd ["_law_pen_here", "_law_rules", "_law_deeds"] (dnSp K MK.spBook) :=
  L3.Fun.ok3 F.fn sc23x MK.len__law_book fun cdv A outer s H E hr => ⟨MK.t__law_book, @dv23x P w K mg base f cdv A outer s H E B C f10x fd10x A10x G10x f13x fd13x A13x G13x f12x fd12x A12x G12x f22x fd22x A22x G22x hr, MK.rd__law_book⟩
abbrev s24x : Stmt := top 28
theorem sc24x : FnScope GP.N__law_pairs ["_law_block_here", "_law_ahead"] (defScope s24x) := ⟨rfl, rfl, rfl, by decide +kernel, rfl, by decide +kernel, by decide +kernel⟩
set_option maxHeartbeats 4000000 in
theorem dv24x {f : Addr} {cdv : Value} {A : Around} {outer : List Env} {s : Shared} {H : Hp} {E : XK} (B : Blt mg) (C : Cst K w.params mg) {f18x : Addr} {fd18x : FuncData} (A18x : FnAt K mg "_law_inner" s18x ["_law_deed_here"] f18x fd18x) (G18x : FnOk P w K mg base CX0 1 f18x fd18x ["_law_deed_here"] (dnSp K MK.spInner)) {kr : Nat} {q24x : Sp3} {f24x : Addr} {fd24x : FuncData} (A24x : FnAt K mg "_law_pairs" s24x ["_law_block_here", "_law_ahead"] f24x fd24x) (G24x : FnOk P w K mg base CX0 kr f24x fd24x ["_law_block_here", "_law_ahead"] (dnSp K q24x)) (hkr : 2 ≤ kr)
    (hr : Room kr (A.deeper (envOfC "_law_pairs" (defScope s24x) s.heap.objs.size f cdv))) :
    PSs3 (cxOf CX0 P w K mg base GP.N__law_pairs "_law_pairs" (defScope s24x) f cdv A outer s H E).nox (defBody s24x) (GP.t__law_pairs q24x) := by
    unfold GP.t__law_pairs
    refine zD ?_ ?_
    · exact (zH (i := 2) sc24x.nd rfl (Or.inl rfl) (yC zB))
    refine zD ?_ ?_
    · exact (yJ PassesOwn.never rfl (zY rfl B.range_ (zA (zM zU rfl B.len_ b3_len (zA (pv3 0) zB)) zB)) sc24x.nd rfl (Or.inl rfl) (zD (yA (yE F.plainAttrs_list F.slot_list_append F.type_list_append yB (pv3 2) (zA (zO (zA (zI zQ (pv3 1) (zO (zA (pv3 3) zB))) (zA (zK (pv3 0) (pv3 3) (fun _ _ => rfl)) zB))) zB)))
    (zF (ps3_forE PassesOwn.never rfl (pi3_enum rfl B.enumerate_ (zE G18x (hr.mono (by omega)) rfl A18x.gl A18x.fn.kp A18x.bd (zA (zK (pv3 0) (pv3 3) (fun _ _ => rfl)) zB))) (yF rfl (zP (i := 4) sc24x.nd rfl (Or.inl rfl) (zP (i := 5) sc24x.nd rfl (Or.inl rfl) zZ (Or.inl rfl)) (Or.inl rfl))) (zF (yA (yE F.plainAttrs_list F.slot_list_extend F.type_list_extend m3_extend (pv3 2) (zA (zE G24x hr rfl A24x.gl A24x.fn.kp A24x.bd (zA (pv3 5) (zA (zI zQ (pv3 1) (zO (zA (pv3 3) (zA (pv3 4) zB)))) zB))) zB))))))))
    exact zF (zJ (pv3 2))
set_option maxHeartbeats 4000000 in
theorem ok24x {f : Addr} {fd : FuncData} (B : Blt mg) (C : Cst K w.params mg) {f18x : Addr} {fd18x : FuncData} (A18x : FnAt K mg "_law_inner" s18x ["_law_deed_here"] f18x fd18x) (G18x : FnOk P w K mg base CX0 1 f18x fd18x ["_law_deed_here"] (dnSp K MK.spInner)) {kr lv : Nat} {f24x : Addr} {fd24x : FuncData} (A24x : FnAt K mg "_law_pairs" s24x ["_law_block_here", "_law_ahead"] f24x fd24x) (G24x : FnOk P w K mg base CX0 kr f24x fd24x ["_law_block_here", "_law_ahead"] (dnSp K (K12.spPairs lv))) (hkr : 2 ≤ kr) (F : FnAt K mg "_law_pairs" s24x ["_law_block_here", "_law_ahead"] f fd) : FnOk P w K mg base CX0 (kr + 1) f fd ["_law_block_here", "_law_ahead"] (dnSp K (K12.spPairs (lv + 1))) :=
  L3.Fun.ok3 F.fn sc24x (GP.len__law_pairs (lv + 1)) fun cdv A outer s H E hr => ⟨GP.t__law_pairs (K12.spPairs lv), dv24x B C A18x G18x A24x G24x hkr hr, GP.rd__law_pairs lv⟩
theorem grp24x (B : Blt mg) (C : Cst K w.params mg) {f18x : Addr} {fd18x : FuncData} (A18x : FnAt K mg "_law_inner" s18x ["_law_deed_here"] f18x fd18x) (G18x : FnOk P w K mg base CX0 1 f18x fd18x ["_law_deed_here"] (dnSp K MK.spInner)) {f24x : Addr} {fd24x : FuncData} (A24x : FnAt K mg "_law_pairs" s24x ["_law_block_here", "_law_ahead"] f24x fd24x) : ∀ lv : Nat, FnOk P w K mg base CX0 (2 + lv) f24x fd24x ["_law_block_here", "_law_ahead"] (dnSp K (K12.spPairs lv))
  | 0 => fnOk_zero GP.len__law_pairs GP.zero__law_pairs
  | lv + 1 => by
    obtain G24x := grp24x B C A18x G18x A24x lv
    exact ok24x B C A18x G18x A24x G24x (Nat.le_add_right _ _) A24x
abbrev s25x : Stmt := top 29
theorem sc25x : FnScope N__law_due ["_law_known", "_law_place", "_law_word_here"] (defScope s25x) := ⟨rfl, rfl, rfl, by decide +kernel, rfl, by decide +kernel, by decide +kernel⟩
set_option maxHeartbeats 4000000 in
theorem dv25x {f : Addr} {cdv : Value} {A : Around} {outer : List Env} {s : Shared} {H : Hp} {E : XK} (B : Blt mg) (C : Cst K w.params mg)
    (hr : Room 0 (A.deeper (envOfC "_law_due" (defScope s25x) s.heap.objs.size f cdv))) :
    PSs3 (cxOf CX0 P w K mg base N__law_due "_law_due" (defScope s25x) f cdv A outer s H E).nox (defBody s25x) t__law_due := by
    unfold t__law_due
    refine zD ?_ ?_
    · exact (wB PassesOwn.never (zL yU (zM zU rfl B.len_ b3_len (zA (pv3 1) zB)) zC (nomark _)) (zD (zH (i := 3) sc25x.nd rfl (Or.inl rfl) (zK (pv3 1) (yV yW zC) (fun _ _ => rfl)))
    (zD (zH (i := 1) sc25x.nd rfl (Or.inl rfl) (pe3_slA (pv3 1) wD (yX (yV yW zC))))
    (zD (zH (i := 4) sc25x.nd rfl (Or.inr rfl) (pe3_tget (hu3 hr) (pv3 0) (pv3 1) (fun _ _ => rfl)))
    (zF (zR (zL (zV hr) (zK (pv3 4) zC (fun _ _ => rfl)) zG (nomark _)) (zD (wC 5 ["_law_k"] ["_law_word_here", "_law_deed_here"] [2, 4] rfl (zY rfl B.range_ (zA (zM zU rfl B.len_ b3_len (zA (zK (pv3 4) zC (fun _ _ => rfl)) zB)) zB)) rfl (by first | rfl | kernel_rfl) rfl (gk_name (by decide)) (fun cl s₀ H₀ ex => (yD (i := 0) (show List.Nodup (["_law_k", "_law_word_here", "_law_deed_here"] : List Str) by decide +kernel) rfl (Or.inl rfl) (Or.inr rfl))) (fun cl s₀ H₀ ex => (wG (PW3.pt (yK (zL (zV hr) (zK (zK (zK (pv3 2) zC (fun _ _ => rfl)) (pv3 0) (fun _ _ => rfl)) zC (fun _ _ => rfl)) (pv3 1) (nomark _)) (yM (zL (zV hr) (zK (zK (zK (pv3 2) zC (fun _ _ => rfl)) (pv3 0) (fun _ _ => rfl)) zC (fun _ _ => rfl)) zG (nomark _))))))) (fun cl s₀ H₀ ex => (pv3 0)) sc25x.nd rfl (Or.inl rfl) (Or.inl rfl))
    (zD (zR (PW3.pt (yT (zL (zV hr) (pv3 3) zC (nomark _)) (yP (zL yU (zM zU rfl B.len_ b3_len (zA (pv3 5) zB)) zC (nomark _))))) (zF (zJ (zO (zA zG (zA (pv3 1) (zA (zK (pv3 5) zC (fun _ _ => rfl)) zB)))))) zN)
    (zF (zR (PW3.pt (yT (zL yU (zM zU rfl B.len_ b3_len (zA (zK (pv3 4) zC (fun _ _ => rfl)) zB)) zC (nomark _)) (yP (zL o3_le (pv3 3) (zM zU rfl B.len_ b3_len (zA (zK (pv3 4) zC (fun _ _ => rfl)) zB)) (nomark _))))) (zF (zJ (zO (zA zG (zA (pv3 1) zB))))) zN)))) zN))))))
    exact zF (zJ (zO (zA zG zB)))
set_option maxHeartbeats 4000000 in
theorem ok25x {f : Addr} {fd : FuncData} (B : Blt mg) (C : Cst K w.params mg) (F : FnAt K mg "_law_due" s25x ["_law_known", "_law_place", "_law_word_here"] f fd) : FnOk P w K mg base CX0 1 f fd ["_law_known", "_law_place", "_law_word_here"] (dnSp K spDue) :=
  L3.Fun.ok3 F.fn sc25x len__law_due fun cdv A outer s H E hr => ⟨t__law_due, @dv25x P w K mg base f cdv A outer s H E B C hr, rd__law_due⟩
abbrev s26x : Stmt := top 30
theorem sc26x : FnScope N__law_words ["_law_pen_here", "_law_deeds"] (defScope s26x) := ⟨rfl, rfl, rfl, by decide +kernel, rfl, by decide +kernel, by decide +kernel⟩
set_option maxHeartbeats 4000000 in
theorem dv26x {f : Addr} {cdv : Value} {A : Around} {outer : List Env} {s : Shared} {H : Hp} {E : XK} (B : Blt mg) (C : Cst K w.params mg) {f14x : Addr} {fd14x : FuncData} (A14x : FnAt K mg "_law_word" s14x ["_law_pen_here"] f14x fd14x) (G14x : FnOk P w K mg base CX0 3 f14x fd14x ["_law_pen_here"] (dnSp K MK.spWord))
    (hr : Room 3 (A.deeper (envOfC "_law_words" (defScope s26x) s.heap.objs.size f cdv))) :
    PSs3 (cxOf CX0 P w K mg base N__law_words "_law_words" (defScope s26x) f cdv A outer s H E).nox (defBody s26x) t__law_words := by
    unfold t__law_words
    refine zD ?_ ?_
    · exact (zH (i := 2) sc26x.nd rfl (Or.inl rfl) (yC (zA zG (zA zG (zA zG (zA zG (zA zG (zA (zE G14x (hr.mono (by decide)) rfl A14x.gl A14x.fn.kp A14x.bd (zA (pv3 0) zB)) (zA (zE G14x (hr.mono (by decide)) rfl A14x.gl A14x.fn.kp A14x.bd (zA (pv3 0) zB)) zB)))))))))
    refine zD ?_ ?_
    · exact (yJ PassesOwn.never rfl (yS (pv3 1)) sc26x.nd rfl (Or.inl rfl) (zF (zR (zL (zV hr) (zK (pv3 3) zC (fun _ _ => rfl)) zG (nomark _)) (zF (yA (yE F.plainAttrs_list F.slot_list_extend F.type_list_extend m3_extend (pv3 2) (zA (pe3_compMB ["_law_one"] [] [] rfl (wJ (zK (pv3 3) zC (fun _ _ => rfl))) rfl (by first | rfl | kernel_rfl) rfl (gk_name (by decide)) (fun cl s₀ H₀ ex => (yD (i := 0) (show List.Nodup (["_law_one"] : List Str) by decide +kernel) rfl (Or.inl rfl) (Or.inr rfl))) (fun cl s₀ H₀ ex => (wG (zL (wE hr) (zK (pv3 0) zC (fun _ _ => rfl)) zG (nomark _)))) (fun cl s₀ H₀ ex => (zK (pv3 0) zC (fun _ _ => rfl)))) zB)))) zN)))
    exact zF (zJ (pv3 2))
set_option maxHeartbeats 4000000 in
theorem ok26x {f : Addr} {fd : FuncData} (B : Blt mg) (C : Cst K w.params mg) {f14x : Addr} {fd14x : FuncData} (A14x : FnAt K mg "_law_word" s14x ["_law_pen_here"] f14x fd14x) (G14x : FnOk P w K mg base CX0 3 f14x fd14x ["_law_pen_here"] (dnSp K MK.spWord)) (F : FnAt K mg "_law_words" s26x ["_law_pen_here", "_law_deeds"] f fd) : FnOk P w K mg base CX0 4 f fd ["_law_pen_here", "_law_deeds"] (dnSp K spWords) :=
  L3.Fun.ok3 F.fn sc26x len__law_words fun cdv A outer s H E hr => ⟨t__law_words, @dv26x P w K mg base f cdv A outer s H E B C f14x fd14x A14x G14x hr, rd__law_words⟩
abbrev s27x : Stmt := top 31
theorem sc27x : FnScope N_law ["_law_script"] (defScope s27x) := ⟨rfl, rfl, rfl, by decide +kernel, rfl, by decide +kernel, by decide +kernel⟩
set_option maxHeartbeats 4000000 in
theorem dv27x {f : Addr} {cdv : Value} {A : Around} {outer : List Env} {s : Shared} {H : Hp} {E : XK} (B : Blt mg) (C : Cst K w.params mg) {f9x : Addr} {fd9x : FuncData} (A9x : FnAt K mg "_law_pen" s9x ["_law_script"] f9x fd9x) (G9x : FnOk P w K mg base CX0 1 f9x fd9x ["_law_script"] (dnSp K spPen)) {f10x : Addr} {fd10x : FuncData} (A10x : FnAt K mg "_law_draw" s10x ["_law_pen_here", "_law_many"] f10x fd10x) (G10x : FnOk P w K mg base CX0 1 f10x fd10x ["_law_pen_here", "_law_many"] (dnSp K spDraw)) {f23x : Addr} {fd23x : FuncData} (A23x : FnAt K mg "_law_book" s23x ["_law_pen_here", "_law_rules", "_law_deeds"] f23x fd23x) (G23x : FnOk P w K mg base CX0 33 f23x fd23x ["_law_pen_here", "_law_rules", "_law_deeds"] (dnSp K MK.spBook)) {f24x : Addr} {fd24x : FuncData} (A24x : FnAt K mg "_law_pairs" s24x ["_law_block_here", "_law_ahead"] f24x fd24x) (G24x : FnOk P w K mg base CX0 10 f24x fd24x ["_law_block_here", "_law_ahead"] (dnSp K (K12.spPairs 8))) {f26x : Addr} {fd26x : FuncData} (A26x : FnAt K mg "_law_words" s26x ["_law_pen_here", "_law_deeds"] f26x fd26x) (G26x : FnOk P w K mg base CX0 4 f26x fd26x ["_law_pen_here", "_law_deeds"] (dnSp K spWords)) {f8x : Addr} {fd8x : FuncData} (A8x : FnAt K mg "fault_goes" s8x ["rule", "place", "word"] f8x fd8x) (G8x : FnOk P w K mg base CX0 4 f8x fd8x ["rule", "place", "word"] (dnSp K GO.spFault)) {f25x : Addr} {fd25x : FuncData} (A25x : FnAt K mg "_law_due" s25x ["_law_known", "_law_place", "_law_word_here"] f25x fd25x) (G25x : FnOk P w K mg base CX0 1 f25x fd25x ["_law_known", "_law_place", "_law_word_here"] (dnSp K spDue))
    (hr : Room 34 (A.deeper (envOfC "law" (defScope s27x) s.heap.objs.size f cdv))) :
    PSs3 (cxOf CX0 P w K mg base N_law "law" (defScope s27x) f cdv A outer s H E).nox (defBody s27x) t_law := by
    unfold t_law
    refine zD ?_ ?_
    · exact (zH (i := 1) sc27x.nd rfl (Or.inl rfl) (zE G9x (hr.mono (by decide)) rfl A9x.gl A9x.fn.kp A9x.bd (zA (pv3 0) zB)))
    refine zD ?_ ?_
    · exact (zH (i := 2) sc27x.nd rfl (Or.inl rfl) (zK (zS (zA zC (zA zC zB))) (zX c3_int rfl B.int_ b3_int (zA (yL (zV hr) (zE G10x (hr.mono (by decide)) rfl A10x.gl A10x.fn.kp A10x.bd (zA (pv3 1) (zA zC zB))) zC (nomark _)) zB)) (fun _ _ => rfl)))
    refine zD ?_ ?_
    · exact (zH (i := 3) sc27x.nd rfl (Or.inl rfl) (zE G23x (hr.mono (by decide)) rfl A23x.gl A23x.fn.kp A23x.bd (zA (pv3 1) (zA zC (zA (pv3 2) zB)))))
    refine zD ?_ ?_
    · exact (zH (i := 4) sc27x.nd rfl (Or.inl rfl) (zM (wA hr) rfl B.repr_ b3_repr (zA (pv3 3) zB)))
    refine zD ?_ ?_
    · exact (yJ PassesOwn.never rfl (wJ (pv3 3)) sc27x.nd rfl (Or.inl rfl) (zD (zH (i := 6) sc27x.nd rfl (Or.inl rfl) (zE G24x (hr.mono (by decide)) rfl A24x.gl A24x.fn.kp A24x.bd (zA (zK (pv3 5) zC (fun _ _ => rfl)) (zA (zO zB) zB))))
    (wH 6 (zD (zH (i := 7) sc27x.nd rfl (Or.inl rfl) (pe3_dictP (Room.u4 hr) hr.hd rfl B.dict_ (zA (pv3 6) zB)))
    (zD (zH (i := 8) sc27x.nd rfl (Or.inl rfl) (zE G26x (hr.mono (by decide)) rfl A26x.gl A26x.fn.kp A26x.bd (zA (pv3 1) (zA (yG ["_law_place", "_law_deed_here"] [] [] rfl (yS (pv3 6)) rfl (by first | rfl | kernel_rfl) rfl (gk_tup (by decide)) (fun cl s₀ H₀ ex => (yF rfl (zP (i := 0) (show List.Nodup (["_law_place", "_law_deed_here"] : List Str) by decide +kernel) rfl (Or.inl rfl) (zP (i := 1) (show List.Nodup (["_law_place", "_law_deed_here"] : List Str) by decide +kernel) rfl (Or.inl rfl) zZ (Or.inr rfl)) (Or.inr rfl)))) (fun cl s₀ H₀ ex => yH) (fun cl s₀ H₀ ex => (pv3 1))) zB))))
    (zD (zH (i := 9) sc27x.nd rfl (Or.inl rfl) (yC zB))
    (zD (yY PassesOwn.never rfl (yS (pv3 6)) (yF rfl (zP (i := 10) sc27x.nd rfl (Or.inl rfl) (zP (i := 11) sc27x.nd rfl (Or.inl rfl) zZ (Or.inl rfl)) (Or.inl rfl))) (zF (yJ PassesOwn.never rfl (zY rfl B.range_ (zA zC zB)) sc27x.nd rfl (Or.inl rfl) (zF (yA (yE F.plainAttrs_list F.slot_list_append F.type_list_append yB (pv3 9) (zA (zO (zA (pv3 10) (zA (zK (pv3 8) (zE G10x (hr.mono (by decide)) rfl A10x.gl A10x.fn.kp A10x.bd (zA (pv3 1) (zA (zM zU rfl B.len_ b3_len (zA (pv3 8) zB)) zB))) (fun _ _ => rfl)) zB))) zB)))))))
    (wH 9 (zF (yY PassesOwn.never rfl (yS (zI zQ (pv3 9) (pe3_rev (pv3 9) (yX (yV yW zC))))) (yF rfl (zP (i := 10) sc27x.nd rfl (Or.inl rfl) (zP (i := 13) sc27x.nd rfl (Or.inl rfl) zZ (Or.inl rfl)) (Or.inl rfl))) (zF (zR (zL (wE hr) (zM (wA hr) rfl B.repr_ b3_repr (zA (zE G8x (hr.mono (by decide)) rfl A8x.gl A8x.fn.kp A8x.bd (zA (pv3 5) (zA (pv3 10) (zA (pv3 13) zB)))) zB)) (zM (wA hr) rfl B.repr_ b3_repr (zA (zE G25x (hr.mono (by decide)) rfl A25x.gl A25x.fn.kp A25x.bd (zA (pv3 7) (zA (pv3 10) (zA (pv3 13) zB)))) zB)) (nomark _)) (zF (zJ pe3_bl)) zN))))))))))))
    exact zF (zJ (yL (zV hr) (zM (wA hr) rfl B.repr_ b3_repr (zA (pv3 3) zB)) (pv3 4) (nomark _)))
set_option maxHeartbeats 4000000 in
theorem ok27x {f : Addr} {fd : FuncData} (B : Blt mg) (C : Cst K w.params mg) {f9x : Addr} {fd9x : FuncData} (A9x : FnAt K mg "_law_pen" s9x ["_law_script"] f9x fd9x) (G9x : FnOk P w K mg base CX0 1 f9x fd9x ["_law_script"] (dnSp K spPen)) {f10x : Addr} {fd10x : FuncData} (A10x : FnAt K mg "_law_draw" s10x ["_law_pen_here", "_law_many"] f10x fd10x) (G10x : FnOk P w K mg base CX0 1 f10x fd10x ["_law_pen_here", "_law_many"] (dnSp K spDraw)) {f23x : Addr} {fd23x : FuncData} (A23x : FnAt K mg "_law_book" s23x ["_law_pen_here", "_law_rules", "_law_deeds"] f23x fd23x) (G23x : FnOk P w K mg base CX0 33 f23x fd23x ["_law_pen_here", "_law_rules", "_law_deeds"] (dnSp K MK.spBook)) {f24x : Addr} {fd24x : FuncData} (A24x : FnAt K mg "_law_pairs" s24x ["_law_block_here", "_law_ahead"] f24x fd24x) (G24x : FnOk P w K mg base CX0 10 f24x fd24x ["_law_block_here", "_law_ahead"] (dnSp K (K12.spPairs 8))) {f26x : Addr} {fd26x : FuncData} (A26x : FnAt K mg "_law_words" s26x ["_law_pen_here", "_law_deeds"] f26x fd26x) (G26x : FnOk P w K mg base CX0 4 f26x fd26x ["_law_pen_here", "_law_deeds"] (dnSp K spWords)) {f8x : Addr} {fd8x : FuncData} (A8x : FnAt K mg "fault_goes" s8x ["rule", "place", "word"] f8x fd8x) (G8x : FnOk P w K mg base CX0 4 f8x fd8x ["rule", "place", "word"] (dnSp K GO.spFault)) {f25x : Addr} {fd25x : FuncData} (A25x : FnAt K mg "_law_due" s25x ["_law_known", "_law_place", "_law_word_here"] f25x fd25x) (G25x : FnOk P w K mg base CX0 1 f25x fd25x ["_law_known", "_law_place", "_law_word_here"] (dnSp K spDue)) (F : FnAt K mg "law" s27x ["_law_script"] f fd) : FnOk P w K mg base CX0 35 f fd ["_law_script"] (dnSp K L3.spLaw3) :=
  L3.Fun.ok3 F.fn sc27x len_law fun cdv A outer s H E hr => ⟨t_law, @dv27x P w K mg base f cdv A outer s H E B C f9x fd9x A9x G9x f10x fd10x A10x G10x f23x fd23x A23x G23x f24x fd24x A24x G24x f26x fd26x A26x G26x f8x fd8x A8x G8x f25x fd25x A25x G25x hr, rd_law⟩
end
theorem all_mk {l : PySem.W.OpenLaw} {w : World} {K : PySem.W.Frag} {h : Heap} {mg : Str → Option Value} {fa : Addr} (X : K.In h) (G : h.Ns mainGlobals mg) (hfa : mg "law" = some (.ref fa))
    {f0x : Addr} {od0x an0x : Option Addr} {sl0x : Array (Option Value)} {oc0x kV0x dc0x pm0x cd0x ct0x : Value}
    {f1x : Addr} {od1x an1x : Option Addr} {sl1x : Array (Option Value)} {oc1x kV1x dc1x pm1x cd1x ct1x : Value}
    {f2x : Addr} {od2x an2x : Option Addr} {sl2x : Array (Option Value)} {oc2x kV2x dc2x pm2x cd2x ct2x : Value}
    {f3x : Addr} {od3x an3x : Option Addr} {sl3x : Array (Option Value)} {oc3x kV3x dc3x pm3x cd3x ct3x : Value}
    {f4x : Addr} {od4x an4x : Option Addr} {sl4x : Array (Option Value)} {oc4x kV4x dc4x pm4x cd4x ct4x : Value}
    {f5x : Addr} {od5x an5x : Option Addr} {sl5x : Array (Option Value)} {oc5x kV5x dc5x pm5x cd5x ct5x : Value}
    {f6x : Addr} {od6x an6x : Option Addr} {sl6x : Array (Option Value)} {oc6x kV6x dc6x pm6x cd6x ct6x : Value}
    {f7x : Addr} {od7x an7x : Option Addr} {sl7x : Array (Option Value)} {oc7x kV7x dc7x pm7x cd7x ct7x : Value}
    {f8x : Addr} {od8x an8x : Option Addr} {sl8x : Array (Option Value)} {oc8x kV8x dc8x pm8x cd8x ct8x : Value}
    {f9x : Addr} {od9x an9x : Option Addr} {sl9x : Array (Option Value)} {oc9x kV9x dc9x pm9x cd9x ct9x : Value}
    {f10x : Addr} {od10x an10x : Option Addr} {sl10x : Array (Option Value)} {oc10x kV10x dc10x pm10x cd10x ct10x : Value}
    {f11x : Addr} {od11x an11x : Option Addr} {sl11x : Array (Option Value)} {oc11x kV11x dc11x pm11x cd11x ct11x : Value}
    {f12x : Addr} {od12x an12x : Option Addr} {sl12x : Array (Option Value)} {oc12x kV12x dc12x pm12x cd12x ct12x : Value}
    {f13x : Addr} {od13x an13x : Option Addr} {sl13x : Array (Option Value)} {oc13x kV13x dc13x pm13x cd13x ct13x : Value}
    {f14x : Addr} {od14x an14x : Option Addr} {sl14x : Array (Option Value)} {oc14x kV14x dc14x pm14x cd14x ct14x : Value}
    {f15x : Addr} {od15x an15x : Option Addr} {sl15x : Array (Option Value)} {oc15x kV15x dc15x pm15x cd15x ct15x : Value}
    {f16x : Addr} {od16x an16x : Option Addr} {sl16x : Array (Option Value)} {oc16x kV16x dc16x pm16x cd16x ct16x : Value}
    {f17x : Addr} {od17x an17x : Option Addr} {sl17x : Array (Option Value)} {oc17x kV17x dc17x pm17x cd17x ct17x : Value}
    {f18x : Addr} {od18x an18x : Option Addr} {sl18x : Array (Option Value)} {oc18x kV18x dc18x pm18x cd18x ct18x : Value}
    {f19x : Addr} {od19x an19x : Option Addr} {sl19x : Array (Option Value)} {oc19x kV19x dc19x pm19x cd19x ct19x : Value}
    {f20x : Addr} {od20x an20x : Option Addr} {sl20x : Array (Option Value)} {oc20x kV20x dc20x pm20x cd20x ct20x : Value}
    {f21x : Addr} {od21x an21x : Option Addr} {sl21x : Array (Option Value)} {oc21x kV21x dc21x pm21x cd21x ct21x : Value}
    {f22x : Addr} {od22x an22x : Option Addr} {sl22x : Array (Option Value)} {oc22x kV22x dc22x pm22x cd22x ct22x : Value}
    {f23x : Addr} {od23x an23x : Option Addr} {sl23x : Array (Option Value)} {oc23x kV23x dc23x pm23x cd23x ct23x : Value}
    {f24x : Addr} {od24x an24x : Option Addr} {sl24x : Array (Option Value)} {oc24x kV24x dc24x pm24x cd24x ct24x : Value}
    {f25x : Addr} {od25x an25x : Option Addr} {sl25x : Array (Option Value)} {oc25x kV25x dc25x pm25x cd25x ct25x : Value}
    {f26x : Addr} {od26x an26x : Option Addr} {sl26x : Array (Option Value)} {oc26x kV26x dc26x pm26x cd26x ct26x : Value}
    {f27x : Addr} {od27x an27x : Option Addr} {sl27x : Array (Option Value)} {oc27x kV27x dc27x pm27x cd27x ct27x : Value}
    (a0x : PySem.W.nsIn K mainGlobals "blocks_of" = some (some (.ref f0x))) (l0x : K.lookup f0x = some ⟨oc0x, od0x, .func (PySem.W.fnOf "blocks_of" "blocks_of" (defArgs s0x) (defBody s0x) (defScope s0x) .none kV0x dc0x pm0x an0x cd0x ct0x), sl0x⟩) (c0x : PySem.W.codeIn K cd0x "blocks_of" = true) (k0x : PySem.W.keepIn K (.ref f0x) = true)
    (a1x : PySem.W.nsIn K mainGlobals "deed_at" = some (some (.ref f1x))) (l1x : K.lookup f1x = some ⟨oc1x, od1x, .func (PySem.W.fnOf "deed_at" "deed_at" (defArgs s1x) (defBody s1x) (defScope s1x) .none kV1x dc1x pm1x an1x cd1x ct1x), sl1x⟩) (c1x : PySem.W.codeIn K cd1x "deed_at" = true) (k1x : PySem.W.keepIn K (.ref f1x) = true)
    (a2x : PySem.W.nsIn K mainGlobals "has_lasts" = some (some (.ref f2x))) (l2x : K.lookup f2x = some ⟨oc2x, od2x, .func (PySem.W.fnOf "has_lasts" "has_lasts" (defArgs s2x) (defBody s2x) (defScope s2x) .none kV2x dc2x pm2x an2x cd2x ct2x), sl2x⟩) (c2x : PySem.W.codeIn K cd2x "has_lasts" = true) (k2x : PySem.W.keepIn K (.ref f2x) = true)
    (a3x : PySem.W.nsIn K mainGlobals "around" = some (some (.ref f3x))) (l3x : K.lookup f3x = some ⟨oc3x, od3x, .func (PySem.W.fnOf "around" "around" (defArgs s3x) (defBody s3x) (defScope s3x) .none kV3x dc3x pm3x an3x cd3x ct3x), sl3x⟩) (c3x : PySem.W.codeIn K cd3x "around" = true) (k3x : PySem.W.keepIn K (.ref f3x) = true)
    (a4x : PySem.W.nsIn K mainGlobals "lasts_number" = some (some (.ref f4x))) (l4x : K.lookup f4x = some ⟨oc4x, od4x, .func (PySem.W.fnOf "lasts_number" "lasts_number" (defArgs s4x) (defBody s4x) (defScope s4x) .none kV4x dc4x pm4x an4x cd4x ct4x), sl4x⟩) (c4x : PySem.W.codeIn K cd4x "lasts_number" = true) (k4x : PySem.W.keepIn K (.ref f4x) = true)
    (a5x : PySem.W.nsIn K mainGlobals "is_in_lasts" = some (some (.ref f5x))) (l5x : K.lookup f5x = some ⟨oc5x, od5x, .func (PySem.W.fnOf "is_in_lasts" "is_in_lasts" (defArgs s5x) (defBody s5x) (defScope s5x) .none kV5x dc5x pm5x an5x cd5x ct5x), sl5x⟩) (c5x : PySem.W.codeIn K cd5x "is_in_lasts" = true) (k5x : PySem.W.keepIn K (.ref f5x) = true)
    (a6x : PySem.W.nsIn K mainGlobals "leads_to_lasts" = some (some (.ref f6x))) (l6x : K.lookup f6x = some ⟨oc6x, od6x, .func (PySem.W.fnOf "leads_to_lasts" "leads_to_lasts" (defArgs s6x) (defBody s6x) (defScope s6x) .none kV6x dc6x pm6x an6x cd6x ct6x), sl6x⟩) (c6x : PySem.W.codeIn K cd6x "leads_to_lasts" = true) (k6x : PySem.W.keepIn K (.ref f6x) = true)
    (a7x : PySem.W.nsIn K mainGlobals "catch_of" = some (some (.ref f7x))) (l7x : K.lookup f7x = some ⟨oc7x, od7x, .func (PySem.W.fnOf "catch_of" "catch_of" (defArgs s7x) (defBody s7x) (defScope s7x) .none kV7x dc7x pm7x an7x cd7x ct7x), sl7x⟩) (c7x : PySem.W.codeIn K cd7x "catch_of" = true) (k7x : PySem.W.keepIn K (.ref f7x) = true)
    (a8x : PySem.W.nsIn K mainGlobals "fault_goes" = some (some (.ref f8x))) (l8x : K.lookup f8x = some ⟨oc8x, od8x, .func (PySem.W.fnOf "fault_goes" "fault_goes" (defArgs s8x) (defBody s8x) (defScope s8x) .none kV8x dc8x pm8x an8x cd8x ct8x), sl8x⟩) (c8x : PySem.W.codeIn K cd8x "fault_goes" = true) (k8x : PySem.W.keepIn K (.ref f8x) = true)
    (a9x : PySem.W.nsIn K mainGlobals "_law_pen" = some (some (.ref f9x))) (l9x : K.lookup f9x = some ⟨oc9x, od9x, .func (PySem.W.fnOf "_law_pen" "_law_pen" (defArgs s9x) (defBody s9x) (defScope s9x) .none kV9x dc9x pm9x an9x cd9x ct9x), sl9x⟩) (c9x : PySem.W.codeIn K cd9x "_law_pen" = true) (k9x : PySem.W.keepIn K (.ref f9x) = true)
    (a10x : PySem.W.nsIn K mainGlobals "_law_draw" = some (some (.ref f10x))) (l10x : K.lookup f10x = some ⟨oc10x, od10x, .func (PySem.W.fnOf "_law_draw" "_law_draw" (defArgs s10x) (defBody s10x) (defScope s10x) .none kV10x dc10x pm10x an10x cd10x ct10x), sl10x⟩) (c10x : PySem.W.codeIn K cd10x "_law_draw" = true) (k10x : PySem.W.keepIn K (.ref f10x) = true)
    (a11x : PySem.W.nsIn K mainGlobals "_law_letters" = some (some (.ref f11x))) (l11x : K.lookup f11x = some ⟨oc11x, od11x, .func (PySem.W.fnOf "_law_letters" "_law_letters" (defArgs s11x) (defBody s11x) (defScope s11x) .none kV11x dc11x pm11x an11x cd11x ct11x), sl11x⟩) (c11x : PySem.W.codeIn K cd11x "_law_letters" = true) (k11x : PySem.W.keepIn K (.ref f11x) = true)
    (a12x : PySem.W.nsIn K mainGlobals "_law_fresh" = some (some (.ref f12x))) (l12x : K.lookup f12x = some ⟨oc12x, od12x, .func (PySem.W.fnOf "_law_fresh" "_law_fresh" (defArgs s12x) (defBody s12x) (defScope s12x) .none kV12x dc12x pm12x an12x cd12x ct12x), sl12x⟩) (c12x : PySem.W.codeIn K cd12x "_law_fresh" = true) (k12x : PySem.W.keepIn K (.ref f12x) = true)
    (a13x : PySem.W.nsIn K mainGlobals "_law_names" = some (some (.ref f13x))) (l13x : K.lookup f13x = some ⟨oc13x, od13x, .func (PySem.W.fnOf "_law_names" "_law_names" (defArgs s13x) (defBody s13x) (defScope s13x) .none kV13x dc13x pm13x an13x cd13x ct13x), sl13x⟩) (c13x : PySem.W.codeIn K cd13x "_law_names" = true) (k13x : PySem.W.keepIn K (.ref f13x) = true)
    (a14x : PySem.W.nsIn K mainGlobals "_law_word" = some (some (.ref f14x))) (l14x : K.lookup f14x = some ⟨oc14x, od14x, .func (PySem.W.fnOf "_law_word" "_law_word" (defArgs s14x) (defBody s14x) (defScope s14x) .none kV14x dc14x pm14x an14x cd14x ct14x), sl14x⟩) (c14x : PySem.W.codeIn K cd14x "_law_word" = true) (k14x : PySem.W.keepIn K (.ref f14x) = true)
    (a15x : PySem.W.nsIn K mainGlobals "_law_leaf" = some (some (.ref f15x))) (l15x : K.lookup f15x = some ⟨oc15x, od15x, .func (PySem.W.fnOf "_law_leaf" "_law_leaf" (defArgs s15x) (defBody s15x) (defScope s15x) .none kV15x dc15x pm15x an15x cd15x ct15x), sl15x⟩) (c15x : PySem.W.codeIn K cd15x "_law_leaf" = true) (k15x : PySem.W.keepIn K (.ref f15x) = true)
    (a16x : PySem.W.nsIn K mainGlobals "_law_expression" = some (some (.ref f16x))) (l16x : K.lookup f16x = some ⟨oc16x, od16x, .func (PySem.W.fnOf "_law_expression" "_law_expression" (defArgs s16x) (defBody s16x) (defScope s16x) .none kV16x dc16x pm16x an16x cd16x ct16x), sl16x⟩) (c16x : PySem.W.codeIn K cd16x "_law_expression" = true) (k16x : PySem.W.keepIn K (.ref f16x) = true)
    (a17x : PySem.W.nsIn K mainGlobals "_law_simple" = some (some (.ref f17x))) (l17x : K.lookup f17x = some ⟨oc17x, od17x, .func (PySem.W.fnOf "_law_simple" "_law_simple" (defArgs s17x) (defBody s17x) (defScope s17x) .none kV17x dc17x pm17x an17x cd17x ct17x), sl17x⟩) (c17x : PySem.W.codeIn K cd17x "_law_simple" = true) (k17x : PySem.W.keepIn K (.ref f17x) = true)
    (a18x : PySem.W.nsIn K mainGlobals "_law_inner" = some (some (.ref f18x))) (l18x : K.lookup f18x = some ⟨oc18x, od18x, .func (PySem.W.fnOf "_law_inner" "_law_inner" (defArgs s18x) (defBody s18x) (defScope s18x) .none kV18x dc18x pm18x an18x cd18x ct18x), sl18x⟩) (c18x : PySem.W.codeIn K cd18x "_law_inner" = true) (k18x : PySem.W.keepIn K (.ref f18x) = true)
    (a19x : PySem.W.nsIn K mainGlobals "_law_count" = some (some (.ref f19x))) (l19x : K.lookup f19x = some ⟨oc19x, od19x, .func (PySem.W.fnOf "_law_count" "_law_count" (defArgs s19x) (defBody s19x) (defScope s19x) .none kV19x dc19x pm19x an19x cd19x ct19x), sl19x⟩) (c19x : PySem.W.codeIn K cd19x "_law_count" = true) (k19x : PySem.W.keepIn K (.ref f19x) = true)
    (a20x : PySem.W.nsIn K mainGlobals "_law_try" = some (some (.ref f20x))) (l20x : K.lookup f20x = some ⟨oc20x, od20x, .func (PySem.W.fnOf "_law_try" "_law_try" (defArgs s20x) (defBody s20x) (defScope s20x) .none kV20x dc20x pm20x an20x cd20x ct20x), sl20x⟩) (c20x : PySem.W.codeIn K cd20x "_law_try" = true) (k20x : PySem.W.keepIn K (.ref f20x) = true)
    (a21x : PySem.W.nsIn K mainGlobals "_law_deed" = some (some (.ref f21x))) (l21x : K.lookup f21x = some ⟨oc21x, od21x, .func (PySem.W.fnOf "_law_deed" "_law_deed" (defArgs s21x) (defBody s21x) (defScope s21x) .none kV21x dc21x pm21x an21x cd21x ct21x), sl21x⟩) (c21x : PySem.W.codeIn K cd21x "_law_deed" = true) (k21x : PySem.W.keepIn K (.ref f21x) = true)
    (a22x : PySem.W.nsIn K mainGlobals "_law_block" = some (some (.ref f22x))) (l22x : K.lookup f22x = some ⟨oc22x, od22x, .func (PySem.W.fnOf "_law_block" "_law_block" (defArgs s22x) (defBody s22x) (defScope s22x) .none kV22x dc22x pm22x an22x cd22x ct22x), sl22x⟩) (c22x : PySem.W.codeIn K cd22x "_law_block" = true) (k22x : PySem.W.keepIn K (.ref f22x) = true)
    (a23x : PySem.W.nsIn K mainGlobals "_law_book" = some (some (.ref f23x))) (l23x : K.lookup f23x = some ⟨oc23x, od23x, .func (PySem.W.fnOf "_law_book" "_law_book" (defArgs s23x) (defBody s23x) (defScope s23x) .none kV23x dc23x pm23x an23x cd23x ct23x), sl23x⟩) (c23x : PySem.W.codeIn K cd23x "_law_book" = true) (k23x : PySem.W.keepIn K (.ref f23x) = true)
    (a24x : PySem.W.nsIn K mainGlobals "_law_pairs" = some (some (.ref f24x))) (l24x : K.lookup f24x = some ⟨oc24x, od24x, .func (PySem.W.fnOf "_law_pairs" "_law_pairs" (defArgs s24x) (defBody s24x) (defScope s24x) .none kV24x dc24x pm24x an24x cd24x ct24x), sl24x⟩) (c24x : PySem.W.codeIn K cd24x "_law_pairs" = true) (k24x : PySem.W.keepIn K (.ref f24x) = true)
    (a25x : PySem.W.nsIn K mainGlobals "_law_due" = some (some (.ref f25x))) (l25x : K.lookup f25x = some ⟨oc25x, od25x, .func (PySem.W.fnOf "_law_due" "_law_due" (defArgs s25x) (defBody s25x) (defScope s25x) .none kV25x dc25x pm25x an25x cd25x ct25x), sl25x⟩) (c25x : PySem.W.codeIn K cd25x "_law_due" = true) (k25x : PySem.W.keepIn K (.ref f25x) = true)
    (a26x : PySem.W.nsIn K mainGlobals "_law_words" = some (some (.ref f26x))) (l26x : K.lookup f26x = some ⟨oc26x, od26x, .func (PySem.W.fnOf "_law_words" "_law_words" (defArgs s26x) (defBody s26x) (defScope s26x) .none kV26x dc26x pm26x an26x cd26x ct26x), sl26x⟩) (c26x : PySem.W.codeIn K cd26x "_law_words" = true) (k26x : PySem.W.keepIn K (.ref f26x) = true)
    (a27x : PySem.W.nsIn K mainGlobals "law" = some (some (.ref f27x))) (l27x : K.lookup f27x = some ⟨oc27x, od27x, .func (PySem.W.fnOf "law" "law" (defArgs s27x) (defBody s27x) (defScope s27x) .none kV27x dc27x pm27x an27x cd27x ct27x), sl27x⟩) (c27x : PySem.W.codeIn K cd27x "law" = true) (k27x : PySem.W.keepIn K (.ref f27x) = true)
    (z_abs : PySem.W.nsIn K mainGlobals "abs" = some none)
    (z_dict : PySem.W.nsIn K mainGlobals "dict" = some none)
    (z_enumerate : PySem.W.nsIn K mainGlobals "enumerate" = some none)
    (z_int : PySem.W.nsIn K mainGlobals "int" = some none)
    (z_len : PySem.W.nsIn K mainGlobals "len" = some none)
    (z_list : PySem.W.nsIn K mainGlobals "list" = some none)
    (z_min : PySem.W.nsIn K mainGlobals "min" = some none)
    (z_range : PySem.W.nsIn K mainGlobals "range" = some none)
    (z_repr : PySem.W.nsIn K mainGlobals "repr" = some none)
    (z_sum : PySem.W.nsIn K mainGlobals "sum" = some none)
    (z_tuple : PySem.W.nsIn K mainGlobals "tuple" = some none) :
    ∃ fd : FuncData, (∀ (s : Shared) (v : Value), BindsTo s fd ⟨[v], []⟩ [("_law_script", v)]) ∧ ∀ base : Heap, K.In base → base.Ns mainGlobals mg → FnOk l.prog w K mg base CX0 35 fa fd ["_law_script"] (dnSp K L3.spLaw3) := by
  have e := hfa.symm.trans (PySem.W.mg_of X G a27x)
  cases e
  have B : Blt mg := ⟨PySem.W.mg_none_of X G z_abs, PySem.W.mg_none_of X G z_dict, PySem.W.mg_none_of X G z_enumerate, PySem.W.mg_none_of X G z_int, PySem.W.mg_none_of X G z_len, PySem.W.mg_none_of X G z_list, PySem.W.mg_none_of X G z_min, PySem.W.mg_none_of X G z_range, PySem.W.mg_none_of X G z_repr, PySem.W.mg_none_of X G z_sum, PySem.W.mg_none_of X G z_tuple⟩
  have C : Cst K w.params mg := ⟨trivial⟩
  have A0x := fnAt_mk (st := s0x) (ps := ["deed"]) X G a0x l0x c0x k0x fun _ _ _ _ _ _ us hl => by obtain ⟨_, rfl⟩ := us1 hl; rfl
  have A1x := fnAt_mk (st := s1x) (ps := ["rule", "place"]) X G a1x l1x c1x k1x fun _ _ _ _ _ _ us hl => by obtain ⟨_, _, rfl⟩ := us2 hl; rfl
  have A2x := fnAt_mk (st := s2x) (ps := ["deed"]) X G a2x l2x c2x k2x fun _ _ _ _ _ _ us hl => by obtain ⟨_, rfl⟩ := us1 hl; rfl
  have A3x := fnAt_mk (st := s3x) (ps := ["rule", "place"]) X G a3x l3x c3x k3x fun _ _ _ _ _ _ us hl => by obtain ⟨_, _, rfl⟩ := us2 hl; rfl
  have A4x := fnAt_mk (st := s4x) (ps := ["deed"]) X G a4x l4x c4x k4x fun _ _ _ _ _ _ us hl => by obtain ⟨_, rfl⟩ := us1 hl; rfl
  have A5x := fnAt_mk (st := s5x) (ps := ["deed", "number"]) X G a5x l5x c5x k5x fun _ _ _ _ _ _ us hl => by obtain ⟨_, _, rfl⟩ := us2 hl; rfl
  have A6x := fnAt_mk (st := s6x) (ps := ["deed", "number"]) X G a6x l6x c6x k6x fun _ _ _ _ _ _ us hl => by obtain ⟨_, _, rfl⟩ := us2 hl; rfl
  have A7x := fnAt_mk (st := s7x) (ps := ["deed", "number", "word"]) X G a7x l7x c7x k7x fun _ _ _ _ _ _ us hl => by obtain ⟨_, _, _, rfl⟩ := us3 hl; rfl
  have A8x := fnAt_mk (st := s8x) (ps := ["rule", "place", "word"]) X G a8x l8x c8x k8x fun _ _ _ _ _ _ us hl => by obtain ⟨_, _, _, rfl⟩ := us3 hl; rfl
  have A9x := fnAt_mk (st := s9x) (ps := ["_law_script"]) X G a9x l9x c9x k9x fun _ _ _ _ _ _ us hl => by obtain ⟨_, rfl⟩ := us1 hl; rfl
  have A10x := fnAt_mk (st := s10x) (ps := ["_law_pen_here", "_law_many"]) X G a10x l10x c10x k10x fun _ _ _ _ _ _ us hl => by obtain ⟨_, _, rfl⟩ := us2 hl; rfl
  have A11x := fnAt_mk (st := s11x) (ps := ["_law_pen_here", "_law_size"]) X G a11x l11x c11x k11x fun _ _ _ _ _ _ us hl => by obtain ⟨_, _, rfl⟩ := us2 hl; rfl
  have A12x := fnAt_mk (st := s12x) (ps := ["_law_pen_here", "_law_taken"]) X G a12x l12x c12x k12x fun _ _ _ _ _ _ us hl => by obtain ⟨_, _, rfl⟩ := us2 hl; rfl
  have A13x := fnAt_mk (st := s13x) (ps := ["_law_pen_here", "_law_many"]) X G a13x l13x c13x k13x fun _ _ _ _ _ _ us hl => by obtain ⟨_, _, rfl⟩ := us2 hl; rfl
  have A14x := fnAt_mk (st := s14x) (ps := ["_law_pen_here"]) X G a14x l14x c14x k14x fun _ _ _ _ _ _ us hl => by obtain ⟨_, rfl⟩ := us1 hl; rfl
  have A15x := fnAt_mk (st := s15x) (ps := ["_law_pen_here", "_law_env"]) X G a15x l15x c15x k15x fun _ _ _ _ _ _ us hl => by obtain ⟨_, _, rfl⟩ := us2 hl; rfl
  have A16x := fnAt_mk (st := s16x) (ps := ["_law_pen_here", "_law_env", "_law_room", "_law_deep"]) X G a16x l16x c16x k16x fun _ _ _ _ _ _ us hl => by obtain ⟨_, _, _, _, rfl⟩ := us4 hl; rfl
  have A17x := fnAt_mk (st := s17x) (ps := ["_law_pen_here", "_law_env", "_law_in_while"]) X G a17x l17x c17x k17x fun _ _ _ _ _ _ us hl => by obtain ⟨_, _, _, rfl⟩ := us3 hl; rfl
  have A18x := fnAt_mk (st := s18x) (ps := ["_law_deed_here"]) X G a18x l18x c18x k18x fun _ _ _ _ _ _ us hl => by obtain ⟨_, rfl⟩ := us1 hl; rfl
  have A19x := fnAt_mk (st := s19x) (ps := ["_law_block_here"]) X G a19x l19x c19x k19x fun _ _ _ _ _ _ us hl => by obtain ⟨_, rfl⟩ := us1 hl; rfl
  have A20x := fnAt_mk (st := s20x) (ps := ["_law_pen_here", "_law_env", "_law_deep", "_law_in_while", "_law_left"]) X G a20x l20x c20x k20x fun _ _ _ _ _ _ us hl => by obtain ⟨_, _, _, _, _, rfl⟩ := us5 hl; rfl
  have A21x := fnAt_mk (st := s21x) (ps := ["_law_pen_here", "_law_env", "_law_deep", "_law_in_while", "_law_left"]) X G a21x l21x c21x k21x fun _ _ _ _ _ _ us hl => by obtain ⟨_, _, _, _, _, rfl⟩ := us5 hl; rfl
  have A22x := fnAt_mk (st := s22x) (ps := ["_law_pen_here", "_law_env", "_law_deep", "_law_in_while", "_law_left"]) X G a22x l22x c22x k22x fun _ _ _ _ _ _ us hl => by obtain ⟨_, _, _, _, _, rfl⟩ := us5 hl; rfl
  have A23x := fnAt_mk (st := s23x) (ps := ["_law_pen_here", "_law_rules", "_law_deeds"]) X G a23x l23x c23x k23x fun _ _ _ _ _ _ us hl => by obtain ⟨_, _, _, rfl⟩ := us3 hl; rfl
  have A24x := fnAt_mk (st := s24x) (ps := ["_law_block_here", "_law_ahead"]) X G a24x l24x c24x k24x fun _ _ _ _ _ _ us hl => by obtain ⟨_, _, rfl⟩ := us2 hl; rfl
  have A25x := fnAt_mk (st := s25x) (ps := ["_law_known", "_law_place", "_law_word_here"]) X G a25x l25x c25x k25x fun _ _ _ _ _ _ us hl => by obtain ⟨_, _, _, rfl⟩ := us3 hl; rfl
  have A26x := fnAt_mk (st := s26x) (ps := ["_law_pen_here", "_law_deeds"]) X G a26x l26x c26x k26x fun _ _ _ _ _ _ us hl => by obtain ⟨_, _, rfl⟩ := us2 hl; rfl
  have A27x := fnAt_mk (st := s27x) (ps := ["_law_script"]) X G a27x l27x c27x k27x fun _ _ _ _ _ _ us hl => by obtain ⟨_, rfl⟩ := us1 hl; rfl
  refine ⟨PySem.W.fnOf "law" "law" (defArgs s27x) (defBody s27x) (defScope s27x) .none kV27x dc27x pm27x an27x cd27x ct27x, fun s v => .of_eq rfl, fun base _ _ => ?_⟩
  have G0x := ok0x (P := l.prog) (w := w) (base := base) B C A0x
  have G1x := ok1x (P := l.prog) (w := w) (base := base) B C A0x G0x A1x
  have G2x := ok2x (P := l.prog) (w := w) (base := base) B C A2x
  have G3x := ok3x (P := l.prog) (w := w) (base := base) B C A1x G1x A3x
  have G4x := ok4x (P := l.prog) (w := w) (base := base) B C A4x
  have G5x := ok5x (P := l.prog) (w := w) (base := base) B C A4x G4x A5x
  have G6x := ok6x (P := l.prog) (w := w) (base := base) B C A2x G2x A5x G5x A6x
  have G7x := ok7x (P := l.prog) (w := w) (base := base) B C A7x
  have G8x := ok8x (P := l.prog) (w := w) (base := base) B C A3x G3x A7x G7x A6x G6x A8x
  have G9x := ok9x (P := l.prog) (w := w) (base := base) B C A9x
  have G10x := ok10x (P := l.prog) (w := w) (base := base) B C A10x
  have G11x := ok11x (P := l.prog) (w := w) (base := base) B C A10x G10x A11x
  have G12x := ok12x (P := l.prog) (w := w) (base := base) B C A10x G10x A11x G11x A12x
  have G13x := ok13x (P := l.prog) (w := w) (base := base) B C A12x G12x A13x
  have G14x := ok14x (P := l.prog) (w := w) (base := base) B C A10x G10x A11x G11x A14x
  have G15x := ok15x (P := l.prog) (w := w) (base := base) B C A10x G10x A15x
  have GG16x := grp16x (P := l.prog) (w := w) (base := base) B C A10x G10x A15x G15x A16x
  have G16x := (GG16x 5)
  have G17x := ok17x (P := l.prog) (w := w) (base := base) B C A10x G10x A16x G16x A14x G14x A17x
  have G18x := ok18x (P := l.prog) (w := w) (base := base) B C A18x
  have GG19x := grp19x (P := l.prog) (w := w) (base := base) B C A18x G18x A19x
  have G19x := (GG19x 8)
  have GG22x := grp22x (P := l.prog) (w := w) (base := base) B C A10x G10x A14x G14x A17x G17x A16x G16x A19x G19x A20x A21x A22x
  have G20x := (GG22x 20).1
  have G21x := (GG22x 20).2.1
  have G22x := (GG22x 20).2.2
  have G23x := ok23x (P := l.prog) (w := w) (base := base) B C A10x G10x A13x G13x A12x G12x A22x G22x A23x
  have GG24x := grp24x (P := l.prog) (w := w) (base := base) B C A18x G18x A24x
  have G24x := (GG24x 8)
  have G25x := ok25x (P := l.prog) (w := w) (base := base) B C A25x
  have G26x := ok26x (P := l.prog) (w := w) (base := base) B C A14x G14x A26x
  have G27x := ok27x (P := l.prog) (w := w) (base := base) B C A9x G9x A10x G10x A23x G23x A24x G24x A26x G26x A8x G8x A25x G25x A27x
  exact G27x
end K21
open PySem PySem.W PyProof.Rows
set_option maxRecDepth 100000 in
set_option maxHeartbeats 0 in
theorem PySem.Challenge.cw_handedon_k21_where_faults_go_holds : PySem.Challenge.rw_handedon_k21_where_faults_go.Holds := by
  w_on; o_law; k_head; (case hw => w_witness2)
  k_fill
  refine L3.walk3 (l := PySem.Challenge.rw_handedon_k21_where_faults_go) (k := 35) (x := "_law_script") rfl rfl ⟨rfl, by decide, by decide, rfl⟩ (fun w h Y => PySem.W.kIn_of Y) ?F
  case F =>
    intro w mg fa h KX G hmg
    refine' K21.all_mk KX G hmg ?a0x ?l0x ?c0x ?k0x ?a1x ?l1x ?c1x ?k1x ?a2x ?l2x ?c2x ?k2x ?a3x ?l3x ?c3x ?k3x ?a4x ?l4x ?c4x ?k4x ?a5x ?l5x ?c5x ?k5x ?a6x ?l6x ?c6x ?k6x ?a7x ?l7x ?c7x ?k7x ?a8x ?l8x ?c8x ?k8x ?a9x ?l9x ?c9x ?k9x ?a10x ?l10x ?c10x ?k10x ?a11x ?l11x ?c11x ?k11x ?a12x ?l12x ?c12x ?k12x ?a13x ?l13x ?c13x ?k13x ?a14x ?l14x ?c14x ?k14x ?a15x ?l15x ?c15x ?k15x ?a16x ?l16x ?c16x ?k16x ?a17x ?l17x ?c17x ?k17x ?a18x ?l18x ?c18x ?k18x ?a19x ?l19x ?c19x ?k19x ?a20x ?l20x ?c20x ?k20x ?a21x ?l21x ?c21x ?k21x ?a22x ?l22x ?c22x ?k22x ?a23x ?l23x ?c23x ?k23x ?a24x ?l24x ?c24x ?k24x ?a25x ?l25x ?c25x ?k25x ?a26x ?l26x ?c26x ?k26x ?a27x ?l27x ?c27x ?k27x ?z_abs ?z_dict ?z_enumerate ?z_int ?z_len ?z_list ?z_min ?z_range ?z_repr ?z_sum ?z_tuple
    (case a0x => k_is)
    (case l0x => k_is)
    (case c0x => k_is)
    (case k0x => k_is)
    (case a1x => k_is)
    (case l1x => k_is)
    (case c1x => k_is)
    (case k1x => k_is)
    (case a2x => k_is)
    (case l2x => k_is)
    (case c2x => k_is)
    (case k2x => k_is)
    (case a3x => k_is)
    (case l3x => k_is)
    (case c3x => k_is)
    (case k3x => k_is)
    (case a4x => k_is)
    (case l4x => k_is)
    (case c4x => k_is)
    (case k4x => k_is)
    (case a5x => k_is)
    (case l5x => k_is)
    (case c5x => k_is)
    (case k5x => k_is)
    (case a6x => k_is)
    (case l6x => k_is)
    (case c6x => k_is)
    (case k6x => k_is)
    (case a7x => k_is)
    (case l7x => k_is)
    (case c7x => k_is)
    (case k7x => k_is)
    (case a8x => k_is)
    (case l8x => k_is)
    (case c8x => k_is)
    (case k8x => k_is)
    (case a9x => k_is)
    (case l9x => k_is)
    (case c9x => k_is)
    (case k9x => k_is)
    (case a10x => k_is)
    (case l10x => k_is)
    (case c10x => k_is)
    (case k10x => k_is)
    (case a11x => k_is)
    (case l11x => k_is)
    (case c11x => k_is)
    (case k11x => k_is)
    (case a12x => k_is)
    (case l12x => k_is)
    (case c12x => k_is)
    (case k12x => k_is)
    (case a13x => k_is)
    (case l13x => k_is)
    (case c13x => k_is)
    (case k13x => k_is)
    (case a14x => k_is)
    (case l14x => k_is)
    (case c14x => k_is)
    (case k14x => k_is)
    (case a15x => k_is)
    (case l15x => k_is)
    (case c15x => k_is)
    (case k15x => k_is)
    (case a16x => k_is)
    (case l16x => k_is)
    (case c16x => k_is)
    (case k16x => k_is)
    (case a17x => k_is)
    (case l17x => k_is)
    (case c17x => k_is)
    (case k17x => k_is)
    (case a18x => k_is)
    (case l18x => k_is)
    (case c18x => k_is)
    (case k18x => k_is)
    (case a19x => k_is)
    (case l19x => k_is)
    (case c19x => k_is)
    (case k19x => k_is)
    (case a20x => k_is)
    (case l20x => k_is)
    (case c20x => k_is)
    (case k20x => k_is)
    (case a21x => k_is)
    (case l21x => k_is)
    (case c21x => k_is)
    (case k21x => k_is)
    (case a22x => k_is)
    (case l22x => k_is)
    (case c22x => k_is)
    (case k22x => k_is)
    (case a23x => k_is)
    (case l23x => k_is)
    (case c23x => k_is)
    (case k23x => k_is)
    (case a24x => k_is)
    (case l24x => k_is)
    (case c24x => k_is)
    (case k24x => k_is)
    (case a25x => k_is)
    (case l25x => k_is)
    (case c25x => k_is)
    (case k25x => k_is)
    (case a26x => k_is)
    (case l26x => k_is)
    (case c26x => k_is)
    (case k26x => k_is)
    (case a27x => k_is)
    (case l27x => k_is)
    (case c27x => k_is)
    (case k27x => k_is)
    (case z_abs => k_is)
    (case z_dict => k_is)
    (case z_enumerate => k_is)
    (case z_int => k_is)
    (case z_len => k_is)
    (case z_list => k_is)
    (case z_min => k_is)
    (case z_range => k_is)
    (case z_repr => k_is)
    (case z_sum => k_is)
    (case z_tuple => k_is)
