import PyProof.Rows.All
import Wide.All
import OpenK.AllK
import Wide.FinOn
import PyProof.EqAt
import PyProof.EqKinds
import PyProof.TupleCall
import PyProof.NeData
import PyProof.ReprRoads
import PyProof.ExcArgsOwn
import PyProof.ExcAttrAll.ValueError
import PyProof.ExcInit
import PyProof.InstStore
import PyProof.InstStoreFacts
import PyProof.Rows.StrCase
import KE.IntTextLaws
import PyProof.Rows.StrClip
import PySem.Challenge.RW_handedon_k04_texts_of_no_worth
set_option Elab.async false
set_option linter.all false
set_option maxRecDepth 100000
namespace L2
open PySem PySem.Spec PyProof.Rows
abbrev Key := Sum Int Str
def keyIs : Key → Value → Bool
  | .inl k, v => Value.isInt k v
  | .inr x, v => Value.isStrOf x v
def keyH (w : World) : Key → Int
  | .inl k => hashInt k
  | .inr x => hashStr w x
theorem keyIs_shape : ∀ {k : Key} {v : Value}, keyIs k v = true → (∃ i t, k = Sum.inl i ∧ v = Value.int i t) ∨ (∃ x t, k = Sum.inr x ∧ v = Value.str x t)
  | .inl i, v, h => by
    obtain ⟨t, e⟩ := Value.isInt_shape (k := i) (v := v) h
    exact .inl ⟨i, t, rfl, e⟩
  | .inr x, v, h => by
    obtain ⟨t, e⟩ := Value.isStrOf_shape (x := x) (v := v) h
    exact .inr ⟨x, t, rfl, e⟩
theorem keyIs_int (i : Int) (t : Tok) : keyIs (.inl i) (.int i t) = true := by simp [keyIs, Value.isInt]
theorem keyIs_str (x : Str) (t : Tok) : keyIs (.inr x) (.str x t) = true := by simp [keyIs, Value.isStrOf]
theorem key_ll (a b : Int) : decide ((Sum.inl a : Key) = Sum.inl b) = (a == b) := by
  by_cases e : a = b
  · subst e; simp
  · have h : ¬ (Sum.inl a : Key) = Sum.inl b := fun q => e (Sum.inl.inj q)
    rw [decide_eq_false h]
    exact (beq_eq_false_iff_ne.mpr e).symm
theorem key_rr (a b : Str) : decide ((Sum.inr a : Key) = Sum.inr b) = decide (a = b) := by
  by_cases e : a = b
  · subst e; simp
  · have h : ¬ (Sum.inr a : Key) = Sum.inr b := fun q => e (Sum.inr.inj q)
    rw [decide_eq_false h, decide_eq_false e]
theorem key_lr (a : Int) (b : Str) : decide ((Sum.inl a : Key) = Sum.inr b) = false := decide_eq_false (fun q => nomatch q)
theorem key_rl (a : Str) (b : Int) : decide ((Sum.inr a : Key) = Sum.inl b) = false := decide_eq_false (fun q => nomatch q)
def mixKind (prog : Program) (w : World) : PySem.KeyKind prog w Key where
  is := keyIs
  hash := keyH w
  inj := fun v a b ha hb => by
    rcases keyIs_shape ha with ⟨i, t, rfl, rfl⟩ | ⟨x, t, rfl, rfl⟩
    · rcases keyIs_shape hb with ⟨j, u, rfl, e⟩ | ⟨y, u, rfl, e⟩
      · injection e with e1 _; rw [e1]
      · exact nomatch e
    · rcases keyIs_shape hb with ⟨j, u, rfl, e⟩ | ⟨y, u, rfl, e⟩
      · exact nomatch e
      · injection e with e1 _; rw [e1]
  byValue := fun k v h => by
    rcases keyIs_shape h with ⟨i, t, rfl, rfl⟩ | ⟨x, t, rfl, rfl⟩ <;> rfl
  pyHash := fun hv h => by
    rcases keyIs_shape hv with ⟨i, t, rfl, rfl⟩ | ⟨x, t, rfl, rfl⟩
    · exact wpAny_pyHash_int h
    · exact wpAny_pyHash_str h
  eqBool := fun hu hv h => by
    rcases keyIs_shape hu with ⟨i, t, rfl, rfl⟩ | ⟨x, t, rfl, rfl⟩
    · rcases keyIs_shape hv with ⟨j, u, rfl, rfl⟩ | ⟨y, u, rfl, rfl⟩
      · rw [key_ll] at h; exact wpAny_eqBool_int h
      · rw [key_lr] at h; exact SeqAt.EqAt.int_str i t y u _ _ _ _ h
    · rcases keyIs_shape hv with ⟨j, u, rfl, rfl⟩ | ⟨y, u, rfl, rfl⟩
      · rw [key_rl] at h; exact SeqAt.EqAt.str_int x t j u _ _ _ _ h
      · rw [key_rr] at h; exact wpAny_eqBool_str h
  «strs» := fun k x t v h => by
    rcases keyIs_shape h with ⟨i, u, rfl, e⟩ | ⟨y, u, rfl, e⟩
    · exact nomatch e
    · injection e with e1 _
      subst e1
      cases v <;> rfl
theorem mixKind_int (prog : Program) (w : World) (i : Int) (t : Tok) : (mixKind prog w).is (.inl i) (.int i t) = true := keyIs_int i t
theorem mixKind_str (prog : Program) (w : World) (x : Str) (t : Tok) : (mixKind prog w).is (.inr x) (.str x t) = true := keyIs_str x t
end L2
namespace L2
open PySem PySem.Spec PyProof.Rows
inductive V where
  | non | bl (b : Bool) | int (i : Int) | str (x : Str) | byt (b : Array UInt8) | flt (b : UInt64) | ref (a : Addr) | ty (n : String)
  deriving DecidableEq
def RelV : V → Value → Prop
  | .non, u => u = Value.none
  | .bl b, u => u = Value.bool b
  | .int i, u => ∃ t, u = Value.int i t
  | .str x, u => ∃ t, u = Value.str x t
  | .byt b, u => ∃ t, u = Value.bytes b t
  | .flt b, u => ∃ t, u = Value.float b t
  | .ref a, u => u = Value.ref a
  | .ty n, u => u = Value.type n
abbrev Vals : List V → List Value → Prop := Paired RelV
theorem Vals.length {xs : List V} {us : List Value} (r : Vals xs us) : xs.length = us.length := Paired.length r
theorem Vals.get : ∀ {xs : List V} {us : List Value} {i : Nat} {x : V}, Vals xs us → xs[i]? = some x → ∃ u, us[i]? = some u ∧ RelV x u
  | _, _, _, _, .nil, e => by simp at e
  | _, _, 0, _, .cons r _, e => by simp at e; subst e; exact ⟨_, rfl, r⟩
  | _, _, i + 1, x, .cons _ t, e => by
    obtain ⟨u, h1, h2⟩ := Vals.get (i := i) (x := x) t (by simpa using e)
    exact ⟨u, by simpa using h1, h2⟩
theorem Vals.append : ∀ {xs ys : List V} {us ws : List Value}, Vals xs us → Vals ys ws → Vals (xs ++ ys) (us ++ ws)
  | _, _, _, _, .nil, s => s
  | _, _, _, _, .cons r t, s => .cons r (Vals.append t s)
theorem Vals.take : ∀ {xs : List V} {us : List Value} (n : Nat), Vals xs us → Vals (xs.take n) (us.take n)
  | _, _, 0, _ => .nil
  | _, _, _ + 1, .nil => .nil
  | _, _, n + 1, .cons r t => .cons r (Vals.take n t)
theorem Vals.drop : ∀ {xs : List V} {us : List Value} (n : Nat), Vals xs us → Vals (xs.drop n) (us.drop n)
  | _, _, 0, r => r
  | _, _, _ + 1, .nil => .nil
  | _, _, n + 1, .cons _ t => Vals.drop n t
def RelO : Option V → Option Value → Prop
  | some v, some u => RelV v u
  | none, none => True
  | _, _ => False
def KV {κ : Type} : List (κ × V) → List (κ × Value) → Prop := Paired fun (p : κ × V) (q : κ × Value) => p.1 = q.1 ∧ RelV p.2 q.2
def kV : Key → V
  | .inl i => .int i
  | .inr x => .str x
inductive HO where
  | lst (xs : List V)
  | tup (xs : List V)
  | dK (kvs : List (Key × V)) | dT (kvs : List (List Key × V))
  | set (S : Int → Bool) (n : Nat)
  | ins (C dx : Addr) (fs : List (Str × V))
  | own (x : Addr)
  | xd (fs : List (Str × V))
  | met (f x : Addr)
  | rng (lo hi : Int)
  | frz (o : Obj) (u : HO)
  | tbl (ps : Array Value)
  | ext (φ : Heap → Prop)
abbrev Hp := Addr → Option HO
def upd (H : Hp) (a : Addr) (o : HO) : Hp := fun b => if b = a then some o else H b
theorem upd_same {H : Hp} {a : Addr} {o : HO} : upd H a o a = some o := by unfold upd; rw [if_pos rfl]
theorem upd_ne {H : Hp} {a b : Addr} {o : HO} (h : b ≠ a) : upd H a o b = H b := by unfold upd; rw [if_neg h]
theorem ne_of {H : Hp} {a b : Addr} {o u : HO} (h : H a = some o) (h' : H b = some u) (d : o ≠ u) : a ≠ b := by
  intro e; subst e; rw [h] at h'; exact d (Option.some.inj h')
theorem ne_of_none {H : Hp} {a b : Addr} {o : HO} (h : H a = some o) (h' : H b = none) : a ≠ b := by
  intro e; subst e; rw [h] at h'; cases h'
section
variable (P : Program) (w : World)
def ObjOk (H : Hp) (h : Heap) (a : Addr) : HO → Prop
  | .lst xs => xs.length ≤ sizeLine ∧ ∃ (its : List Value) (n : Nat), Vals xs its ∧ h.get? a = some { cls := .type "list", data := .seq its.toArray n }
  | .tup xs => xs.length ≤ sizeLine ∧ ∃ its : List Value, Vals xs its ∧ IsTup h a its.toArray
  | .dK kvs => kvs.length ≤ sizeLine ∧ (a == sysModules) = false ∧ ∃ vs, KV kvs vs ∧ h.DictOf (mixKind P w) a vs
  | .dT kvs => kvs.length ≤ sizeLine ∧ (a == sysModules) = false ∧ ∃ xs : List (List Key × Addr × Value),
      Paired (fun (p : List Key × V) (q : List Key × Addr × Value) => p.1 = q.1 ∧ H q.2.1 = some (.tup (p.1.map kV)) ∧ RelV p.2 q.2.2) kvs xs ∧
      ∃ o es ep, h.get? a = some o ∧ o.ExactDict ∧ o.data = .dict es ep ∧ es.toList = xs.map (entryOfKey (tupleKind (mixKind P w))) ∧ (xs.map (·.1)).Nodup
  | .set S n => h.SetOf (intKind P w) a S n
  | .ins C dx fs => H dx = some (.own a) ∧ fs.length ≤ 1000 ∧ dx ≠ a ∧ h.get? a = some (PySem.W.instObj C dx) ∧
      ∃ mA, h.Ns1 dx mA ∧ (∀ f, RelO (fs.lookup f) (mA f)) ∧ PySem.Within mA (fs.map (·.1))
  | .own _ => ∃ o, h.get? a = some o
  | .xd fs => ∃ mA, h.Ns1 a mA ∧ ∀ f, RelO (fs.lookup f) (mA f)
  | .rng lo hi => ∃ t u v, h.get? a = some { cls := .type "range", data := .fields #[.int lo t, .int hi u, .int 1 v] }
  | .frz o u => h.get? a = some o ∧ ObjOk H h a u
  | .tbl ps => h.get? a = some { cls := .none, data := .fields ps }
  | .met f x => h.get? a = some (PySem.W.methodObj (.ref f) (.ref x))
  | .ext φ => φ h ∧ (∃ o, h.get? a = some o) ∧ ∀ h1 h2 : Heap, φ h1 → (∀ o, h1.get? a = some o → h2.get? a = some o) → φ h2
def HOk (H : Hp) (h : Heap) : Prop := ∀ a o, H a = some o → ObjOk P w H h a o
end
section
variable {P : Program} {w : World} {H H' : Hp} {h h' : Heap} {a : Addr} {o : HO}
theorem ObjOk.lt (x : ObjOk P w H h a o) : a < h.objs.size := by
  cases o with
  | lst xs => obtain ⟨_, _, _, _, e⟩ := x; exact Heap.lt_size e
  | tup xs => obtain ⟨_, _, _, p⟩ := x; exact p.lt
  | dK kvs => obtain ⟨_, _, _, _, o, _, _, e, _⟩ := x; exact Heap.lt_size e
  | dT kvs => obtain ⟨_, _, _, _, o, _, _, e, _⟩ := x; exact Heap.lt_size e
  | set S n => obtain ⟨o, _, _, _, e, _⟩ := x; exact Heap.lt_size e
  | ins C dx fs => obtain ⟨_, _, _, e, _⟩ := x; exact Heap.lt_size e
  | own y => obtain ⟨_, e⟩ := x; exact Heap.lt_size e
  | xd fs => obtain ⟨_, ⟨_, _, _, e, _⟩, _⟩ := x; exact Heap.lt_size e
  | rng lo hi => obtain ⟨_, _, _, e⟩ := x; exact Heap.lt_size e
  | frz ob u => obtain ⟨e, _⟩ := x; exact Heap.lt_size e
  | tbl ps => exact Heap.lt_size (show h.get? a = some _ from x)
  | met f y => exact Heap.lt_size (show h.get? a = some _ from x)
  | ext φ => obtain ⟨_, ⟨_, e⟩, _⟩ := x; exact Heap.lt_size e
theorem Paired.mapP {α β : Type} {F G : α → β → Prop} : ∀ {l₁ : List α} {l₂ : List β}, Paired F l₁ l₂ → (∀ a b, F a b → G a b) → Paired G l₁ l₂
  | _, _, .nil, _ => .nil
  | _, _, .cons r t, f => .cons (f _ _ r) (Paired.mapP t f)
theorem ObjOk.stay (x : ObjOk P w H h a o) (k : ∀ b u, (b = a ∨ H b = some (.own a)) → h.get? b = some u → h'.get? b = some u)
    (ho : ∀ b, H b = some (.own a) → H' b = some (.own a)) (ht : ∀ b xs, H b = some (.tup xs) → H' b = some (.tup xs)) : ObjOk P w H' h' a o := by
  induction o with
  | lst xs => obtain ⟨z, its, n, r, e⟩ := x; exact ⟨z, its, n, r, k _ _ (.inl rfl) e⟩
  | tup xs => obtain ⟨z, its, r, ob, e, c⟩ := x; exact ⟨z, its, r, ob, k _ _ (.inl rfl) e, c⟩
  | dK kvs => obtain ⟨z, y, vs, r, ob, es, ep, e, c⟩ := x; exact ⟨z, y, vs, r, ob, es, ep, k _ _ (.inl rfl) e, c⟩
  | dT kvs =>
    obtain ⟨z, y, xs, r, ob, es, ep, e, c⟩ := x
    exact ⟨z, y, xs, Paired.mapP r fun p q z => ⟨z.1, ht _ _ z.2.1, z.2.2⟩, ob, es, ep, k _ _ (.inl rfl) e, c⟩
  | set S n => obtain ⟨ob, es, ep, t, e, c⟩ := x; exact ⟨ob, es, ep, t, k _ _ (.inl rfl) e, c⟩
  | ins C dx fs =>
    obtain ⟨d, z, ne, e, mA, ⟨od, es, ep, e2, c⟩, r⟩ := x
    exact ⟨ho _ d, z, ne, k _ _ (.inl rfl) e, mA, ⟨od, es, ep, k _ _ (.inr d) e2, c⟩, r⟩
  | own y => obtain ⟨ob, e⟩ := x; exact ⟨ob, k _ _ (.inl rfl) e⟩
  | xd fs => obtain ⟨mA, ⟨od, es, ep, e, c⟩, r⟩ := x; exact ⟨mA, ⟨od, es, ep, k _ _ (.inl rfl) e, c⟩, r⟩
  | rng lo hi => obtain ⟨t, u, v, e⟩ := x; exact ⟨t, u, v, k _ _ (.inl rfl) e⟩
  | frz ob u ih => obtain ⟨e, q⟩ := x; exact ⟨k _ _ (.inl rfl) e, ih q⟩
  | tbl ps =>
    have e : h.get? a = some { cls := .none, data := .fields ps } := x
    show h'.get? a = some { cls := .none, data := .fields ps }
    exact k a _ (.inl rfl) e
  | met f y =>
    have e : h.get? a = some (PySem.W.methodObj (.ref f) (.ref y)) := x
    show h'.get? a = some (PySem.W.methodObj (.ref f) (.ref y))
    exact k a _ (.inl rfl) e
  | ext φ => obtain ⟨p, ⟨o, e⟩, st⟩ := x; exact ⟨st _ _ p fun o q => k _ _ (.inl rfl) q, ⟨o, k _ _ (.inl rfl) e⟩, st⟩
theorem HOk.lt (x : HOk P w H h) (e : H a = some o) : a < h.objs.size := (x a o e).lt
theorem HOk.fresh (x : HOk P w H h) (e : h.objs.size ≤ a) : H a = none := by
  cases q : H a with
  | none => rfl
  | some u => exact absurd (Nat.lt_of_lt_of_le (x.lt q) e) (Nat.lt_irrefl _)
theorem HOk.kept (x : HOk P w H h) (k : ∀ b u, h.get? b = some u → h'.get? b = some u) : HOk P w H h' := fun a o e =>
  (x a o e).stay (fun b u _ q => k b u q) (fun _ q => q) fun _ _ q => q
theorem HOk.laid (x : HOk P w H h) (k : ∀ b u, h.get? b = some u → h'.get? b = some u) (hp : h.objs.size ≤ a) (new : ObjOk P w (upd H a o) h' a o) : HOk P w (upd H a o) h' := fun b u e => by
  have hn := x.fresh hp
  by_cases hb : b = a
  · subst hb; rw [upd_same] at e; cases e; exact new
  · rw [upd_ne hb] at e
    exact (x b u e).stay (fun c v _ q => k c v q) (fun c q => by rw [upd_ne (ne_of_none q hn)]; exact q) fun c xs q => by rw [upd_ne (ne_of_none q hn)]; exact q
end
def Rd (H : Hp) (a : Addr) (u : HO) : Prop := H a = some u ∨ ∃ o, H a = some (.frz o u)
theorem Rd.ok {P : Program} {w : World} {H : Hp} {h : Heap} {a : Addr} {u : HO} (r : Rd H a u) (x : HOk P w H h) : ObjOk P w H h a u := by
  rcases r with r | ⟨o, r⟩
  · exact x a u r
  · obtain ⟨_, q⟩ := x a _ r
    exact q
def Mut : Option HO → Prop
  | some (.lst _) => True
  | some (.dK _) => True
  | some (.dT _) => True
  | some (.set _ _) => True
  | some (.ins _ _ _) => True
  | some (.ext _) => True
  | _ => False
section
variable {P : Program} {w : World} {H : Hp} {h h' : Heap} {x e : Addr} {o' : HO}
theorem HOk.write (ok : HOk P w H h) (mu : Mut (H x)) (he : e = x ∨ H e = some (.own x)) (k : ∀ b u, b ≠ e → h.get? b = some u → h'.get? b = some u) (heo : ∃ u, h'.get? e = some u)
    (new : ObjOk P w (upd H x o') h' x o') : HOk P w (upd H x o') h' := fun b u q => by
  have nown : ∀ c y, H c = some (.own y) → c ≠ x := fun c y r z => by subst z; rw [r] at mu; exact mu
  have ntup : ∀ c xs, H c = some (.tup xs) → c ≠ x := fun c xs r z => by subst z; rw [r] at mu; exact mu
  by_cases hb : b = x
  · subst hb; rw [upd_same] at q; cases q; exact new
  · rw [upd_ne hb] at q
    by_cases hbe : b = e
    · have q' : H b = some (.own x) := by
        rcases he with z | z
        · exact absurd (hbe.trans z) hb
        · rw [hbe]; exact z
      rw [q] at q'; cases q'
      obtain ⟨v, hv⟩ := heo
      exact ⟨v, by rw [hbe]; exact hv⟩
    · refine (ok b u q).stay (fun c v hc r => k c v ?_ r) (fun c r => by rw [upd_ne (nown c b r)]; exact r) fun c xs r => by rw [upd_ne (ntup c xs r)]; exact r
      rcases hc with rfl | hc
      · exact hbe
      · rintro rfl
        rcases he with z | z
        · exact nown c b hc z
        · rw [hc] at z; cases z; exact hb rfl
end
structure Un (fs ex : List Addr) (H H' : Hp) (h h' : Heap) : Prop where
  keep : ∀ b o, h.get? b = some o → H b = none → b ∉ fs → b ∉ ex → h'.get? b = some o
  slot : ∀ b o, h.get? b = some o → H b = none → b ∈ fs → b ∉ ex → ∃ sl, h'.get? b = some { o with slots := sl }
  free : ∀ b o, h.get? b = some o → H b = none → b ∉ ex → H' b = none
  there : ∀ b o, h.get? b = some o → b ∉ ex → ∃ o', h'.get? b = some o'
  tups : ∀ b xs, H b = some (.tup xs) → H' b = some (.tup xs)
  frzs : ∀ b o u, H b = some (.frz o u) → H' b = some (.frz o u)
  tbls : ∀ b ps, H b = some (.tbl ps) → ∃ more, H' b = some (.tbl (ps ++ more))
section
variable {fs fs' ex ex' : List Addr} {H H1 H2 : Hp} {h h1 h2 h' : Heap} {a x e : Addr} {o : HO}
theorem Un.any (u : Un fs ex H H1 h h1) {b : Addr} {ob : Obj} (q : h.get? b = some ob) (n : H b = none) (hx : b ∉ ex) : ∃ sl, h1.get? b = some { ob with slots := sl } := by
  by_cases hb : b ∈ fs
  · exact u.slot b ob q n hb hx
  · exact ⟨ob.slots, u.keep b ob q n hb hx⟩
theorem Un.kept (k : ∀ b u, h.get? b = some u → h'.get? b = some u) : Un fs ex H H h h' :=
  ⟨fun b ob q _ _ _ => k b ob q, fun b ob q _ _ _ => ⟨ob.slots, k b ob q⟩, fun _ _ _ n _ => n, fun b ob q _ => ⟨ob, k b ob q⟩, fun _ _ q => q, fun _ _ _ q => q, fun _ ps q => ⟨#[], by rw [q]; simp⟩⟩
theorem Un.refl : Un fs ex H H h h := Un.kept fun _ _ q => q
theorem Un.laid (k : ∀ b u, h.get? b = some u → h'.get? b = some u) (hp : h.objs.size ≤ a) (hn : H a = none) : Un fs ex H (upd H a o) h h' where
  keep := fun b u q _ _ _ => k b u q
  slot := fun b u q _ _ _ => ⟨u.slots, k b u q⟩
  free := fun b u q n _ => by rw [upd_ne (Nat.ne_of_lt (Nat.lt_of_lt_of_le (Heap.lt_size q) hp))]; exact n
  there := fun b u q _ => ⟨u, k b u q⟩
  tups := fun b xs q => by rw [upd_ne (ne_of_none q hn)]; exact q
  frzs := fun b u xs q => by rw [upd_ne (ne_of_none q hn)]; exact q
  tbls := fun b ps q => ⟨#[], by rw [upd_ne (ne_of_none q hn), q]; simp⟩
theorem Un.write (mu : Mut (H x)) (he : e = x ∨ H e = some (.own x)) (k : ∀ b u, b ≠ e → h.get? b = some u → h'.get? b = some u) (heo : ∃ u, h'.get? e = some u) : Un fs ex H (upd H x o) h h' := by
  have hx : ∀ b, H b = none → b ≠ x := fun b n z => by subst z; rw [n] at mu; exact mu
  have hb : ∀ b, H b = none → b ≠ e := fun b n z => by
    subst z
    rcases he with r | r
    · exact hx b n r
    · rw [n] at r; cases r
  have hm : ∀ b u, H b = some u → ¬ Mut (some u) → b ≠ x := fun b u q nm z => by subst z; rw [q] at mu; exact nm mu
  refine ⟨fun b u q n _ _ => k b u (hb b n) q, fun b u q n _ _ => ⟨u.slots, k b u (hb b n) q⟩, fun b u q n _ => by rw [upd_ne (hx b n)]; exact n, fun b u q _ => ?_,
    fun b xs q => by rw [upd_ne (hm b _ q fun z => z)]; exact q, fun b u xs q => by rw [upd_ne (hm b _ q fun z => z)]; exact q, fun b ps q => ⟨#[], by rw [upd_ne (hm b _ q fun z => z), q]; simp⟩⟩
  by_cases hbe : b = e
  · subst hbe; exact heo
  · exact ⟨u, k b u hbe q⟩
end
def trk (h : Heap) (H : Hp) : List Addr := (List.range h.objs.size).filter fun a => (H a).isSome
def hidT (h : Heap) (H : Hp) : Heap := PySem.W.hideAll h (trk h H)
theorem hidT_size (h : Heap) (H : Hp) : (hidT h H).objs.size = h.objs.size := PySem.W.hideAll_size _ _
theorem hidT_get {h : Heap} {H : Hp} {b : Addr} {o : Obj} (e : h.get? b = some o) (n : H b = none) : (hidT h H).get? b = some o :=
  PySem.W.hideAll_get _ e fun hm => by
    have q : (H b).isSome = true := (List.mem_filter.mp hm).2
    rw [n] at q; simp at q
theorem of_hidT {h : Heap} {H : Hp} {b : Addr} {o : Obj} (e : (hidT h H).get? b = some o) : h.get? b = some o ∧ H b = none := by
  have e' : h.get? b = some o := PySem.W.of_hideAll (trk h H) e
  refine ⟨e', ?_⟩
  cases q : H b with
  | none => rfl
  | some x =>
    have hm : b ∈ trk h H := List.mem_filter.mpr ⟨List.mem_range.mpr (Heap.lt_size e'), by simp [q]⟩
    have z : (hidT h H).get? b = none := PySem.W.hideAll_none (trk h H) hm
    rw [z] at e; cases e
end L2
namespace L2
open PySem PySem.Spec PyProof.Rows
structure Mod (K : PySem.W.Frag) (mg : Str → Option Value) (base : Heap) : Prop where
  kin : K.In base
  glob : base.Ns mainGlobals mg
  blt : ∃ mb, base.Ns builtinsNs mb ∧ ∀ x : Str, x ≠ "__name__" → mb x = bootBuiltins x
  nolimit : base.NoLimit
structure Cx where
  prog : Program
  w : World
  K : PySem.W.Frag
  mg : Str → Option Value
  base : Heap
  A : Around
  N : List Str
  s₀ : Shared
  H₀ : Hp
  env : Env
  outer : List Env
  stack : List Env
  ex : List Addr
  fn : Str → Bool
  calm : Bool
  pn : List (Addr × Obj)
  xe : Value → Shared → Prop
def frs (l : List Env) : List Addr := l.filterMap (·.frame)
abbrev Cx.fs (X : Cx) : List Addr := frs X.outer
def Vis (sc : Scope) (x : Str) : Prop := sc.names.lookup x = some .local ∨ sc.names.lookup x = some .cell ∨ sc.names.lookup x = some .free
def Loc (sc : Scope) (x : Str) : Prop := sc.names.lookup x = some .local ∨ sc.names.lookup x = some .cell
def Look (env : Env) (h : Heap) (m : Str → Option Value) (x : Str) (u : Value) : Prop :=
  (env.kindOf x = some .local ∧ m x = some u) ∨ ((env.kindOf x = some .cell ∨ env.kindOf x = some .free) ∧ ∃ c, env.cells.lookup x = some c ∧ h.IsCell c (some u))
structure Cx.Ok (X : Cx) : Prop where
  mod : Mod X.K X.mg X.base
  kind : X.env.scope.kind = .function
  glob : X.env.globals = mainGlobals
  blt : X.env.builtins = builtinsNs
  above : X.s₀.heap.objs.size ≤ X.env.locals
  inj : ∀ x y c, X.env.cells.lookup x = some c → X.env.cells.lookup y = some c → x = y
  has : ∀ x, (X.env.kindOf x = some .cell ∨ X.env.kindOf x = some .free) → ∃ c, X.env.cells.lookup x = some c
  cab : ∀ x c, X.fn x = true → X.env.cells.lookup x = some c → X.s₀.heap.objs.size ≤ c
  hd : X.calm = true → X.A.handled = none
  frames : X.A.frames = some X.stack
  stk : X.stack = X.outer ∨ (X.stack = X.env :: X.outer ∧ X.env.frame = some X.env.locals)
  exf : ∀ b ∈ X.ex, b ≠ X.env.locals ∧ ∀ x c, X.env.cells.lookup x = some c → c ≠ b
  bs : ∀ b o, X.base.get? b = some o → X.s₀.heap.get? b = some o ∧ X.H₀ b = none
  bsz : X.base.objs.size ≤ X.s₀.heap.objs.size
  noex : ∀ b o, X.base.get? b = some o → b ∉ X.ex
  exfs : ∀ b ∈ X.ex, b ∉ X.fs
  funs : X.s₀.heap.FunFrames X.base X.outer
  frf : ∀ b ∈ X.fs, X.H₀ b = none
structure Inv (X : Cx) (pins : List (Addr × Obj)) (σ : List (Option V)) (H : Hp) (s : Shared) : Prop where
  ok : X.Ok
  os : s.os = X.s₀.os
  bare : AllBare s.gens
  base : Un X.fs X.ex X.H₀ H X.s₀.heap s.heap
  loc : ∃ m, s.heap.Ns X.env.locals m ∧ ∀ (i : Nat) (x : Str) (v : V), X.N[i]? = some x → σ[i]? = some (some v) → Vis X.env.scope x → ∃ u, RelV v u ∧ Look X.env s.heap m x u
  cell : ∀ x c, X.env.cells.lookup x = some c → ∃ v, s.heap.IsCell c v
  free : H X.env.locals = none
  freeC : ∀ x c, X.env.cells.lookup x = some c → H c = none
  pin : ∀ p ∈ X.pn ++ pins, s.heap.get? p.1 = some p.2 ∧ H p.1 = none ∧ p.1 ≠ X.env.locals ∧ p.1 ∉ X.fs ∧ ∀ v, p.2.data ≠ .cell v
  hok : HOk X.prog X.w H s.heap
  len : σ.length = X.N.length
section
variable {X : Cx} {pins : List (Addr × Obj)} {σ : List (Option V)} {H H' : Hp} {s : Shared} {h' : Heap}
theorem Cx.Ok.nofr (ok : X.Ok) {b : Addr} {o : Obj} (e : X.base.get? b = some o) : b ∉ X.fs := fun hb => by
  have := (ok.funs.mem hb).1
  rw [e] at this; cases this
theorem Inv.bs (I : Inv X pins σ H s) : ∀ b o, X.base.get? b = some o → s.heap.get? b = some o ∧ H b = none := fun b o e =>
  ⟨I.base.keep b o (I.ok.bs b o e).1 (I.ok.bs b o e).2 (I.ok.nofr e) (I.ok.noex b o e), I.base.free b o (I.ok.bs b o e).1 (I.ok.bs b o e).2 (I.ok.noex b o e)⟩
theorem Inv.bk (I : Inv X pins σ H s) : ∀ b o, X.base.get? b = some o → s.heap.get? b = some o := fun b o e => (I.bs b o e).1
theorem Inv.mod (I : Inv X pins σ H s) : Mod X.K X.mg X.base := I.ok.mod
theorem Inv.kIn (I : Inv X pins σ H s) : X.K.In s.heap := I.ok.mod.kin.keeps I.bk
theorem Inv.lt (I : Inv X pins σ H s) : X.env.locals < s.heap.objs.size := let ⟨_, hn, _⟩ := I.loc; hn.lt
theorem Inv.sz (I : Inv X pins σ H s) : X.s₀.heap.objs.size ≤ s.heap.objs.size := Nat.le_trans I.ok.above (Nat.le_of_lt I.lt)
theorem Inv.nofs (I : Inv X pins σ H s) {a : Addr} (h : s.heap.objs.size ≤ a) : a ∉ X.fs := fun hb => by
  obtain ⟨_, o, ho, _⟩ := I.ok.funs.mem hb
  exact absurd (Nat.lt_of_lt_of_le (Heap.lt_size ho) (Nat.le_trans I.sz h)) (Nat.lt_irrefl _)
theorem Inv.cne (I : Inv X pins σ H s) : ∀ x c, X.env.cells.lookup x = some c → c ≠ X.env.locals := fun x c e z => by
  obtain ⟨v, o, ho, hd⟩ := I.cell x c e
  obtain ⟨m, ⟨o', es, ep, ho', hd', _⟩, _⟩ := I.loc
  rw [z, ho'] at ho; cases ho; rw [hd'] at hd; cases hd
theorem Inv.funs (I : Inv X pins σ H s) : s.heap.FunFrames X.base X.outer := by
  have all : ∀ (l : List Env), (∀ b ∈ frs l, b ∈ X.fs) → X.s₀.heap.FunFrames X.base l → s.heap.FunFrames X.base l := by
    intro l
    induction l with
    | nil => intro _ _; trivial
    | cons env r ih =>
      intro hs hl
      obtain ⟨hk, ⟨L, o, hf, hn, ho, hd⟩, hr⟩ := hl
      have hL : L ∈ X.fs := hs L (by unfold frs; rw [List.filterMap_cons, hf]; exact List.mem_cons_self)
      obtain ⟨sl, e⟩ := I.base.slot L o ho (I.ok.frf L hL) hL fun z => I.ok.exfs L z hL
      exact ⟨hk, ⟨L, _, hf, hn, e, hd⟩, ih (fun b hb => hs b (by unfold frs; rw [List.filterMap_cons, hf]; exact List.mem_cons_of_mem _ hb)) hr⟩
  exact all X.outer (fun _ hb => hb) I.ok.funs
theorem Inv.stack (I : Inv X pins σ H s) : s.heap.FunFrames X.base X.stack := by
  rcases I.ok.stk with e | ⟨e, hf⟩
  · rw [e]; exact I.funs
  · rw [e]
    obtain ⟨m, hn, _⟩ := I.loc
    refine .cons (by rw [I.ok.kind]; decide) hf hn ?_ I.funs
    exact Heap.get?_none_of_le (Nat.le_trans I.ok.bsz I.ok.above)
theorem Inv.stkSub (I : Inv X pins σ H s) : ∀ b ∈ frs X.stack, b ∈ X.env.locals :: X.fs := fun b hb => by
  rcases I.ok.stk with e | ⟨e, hf⟩
  · rw [e] at hb; exact List.mem_cons_of_mem _ hb
  · rw [e] at hb
    unfold frs at hb
    rw [List.filterMap_cons, hf] at hb
    exact hb
theorem Inv.stkFree (I : Inv X pins σ H s) : ∀ b ∈ frs X.stack, H b = none := fun b hb => by
  rcases List.mem_cons.mp (I.stkSub b hb) with e | hb
  · rw [e]; exact I.free
  · obtain ⟨_, o, ho, _⟩ := I.ok.funs.mem hb
    exact I.base.free b o ho (I.ok.frf b hb) fun z => I.ok.exfs b z hb
theorem Inv.step {g' : Array GenState} {t' : Nat} {d' : Drawn} {ch : List Addr} (I : Inv X pins σ H s)
    (hch : ∀ b ∈ ch, (b ∈ X.ex ∨ X.s₀.heap.objs.size ≤ b) ∧ b ≠ X.env.locals ∧ (∀ x c, X.env.cells.lookup x = some c → c ≠ b) ∧ ∀ p ∈ X.pn ++ pins, p.1 ≠ b)
    (keep : ∀ b o, b ≠ X.env.locals → b ∉ X.fs → b ∉ ch → s.heap.get? b = some o → H b = none → h'.get? b = some o)
    (slot : ∀ b o, b ≠ X.env.locals → b ∈ X.fs → b ∉ ch → s.heap.get? b = some o → H b = none → ∃ sl, h'.get? b = some { o with slots := sl }) (free : ∀ b o, b ∉ ch → s.heap.get? b = some o → H b = none → H' b = none)
    (there : ∀ b o, b ∉ ch → s.heap.get? b = some o → ∃ o', h'.get? b = some o')
    (tups : ∀ b xs, H b = some (.tup xs) → H' b = some (.tup xs)) (frzs : ∀ b o u, H b = some (.frz o u) → H' b = some (.frz o u)) (tbls : ∀ b ps, H b = some (.tbl ps) → ∃ more, H' b = some (.tbl (ps ++ more)))
    (ns : ∀ m, s.heap.Ns X.env.locals m → h'.Ns X.env.locals m) (hok : HOk X.prog X.w H' h') (hg : AllBare g') :
    Inv X pins σ H' { s with heap := h', gens := g', drawn := d', toks := t' } := by
  have neL : ∀ b o, X.s₀.heap.get? b = some o → b ≠ X.env.locals := fun b o e => Nat.ne_of_lt (Nat.lt_of_lt_of_le (Heap.lt_size e) I.ok.above)
  have neC : ∀ b o, X.s₀.heap.get? b = some o → b ∉ X.ex → b ∉ ch := fun b o e hx hb => by
    rcases (hch b hb).1 with z | z
    · exact hx z
    · exact absurd (Nat.lt_of_lt_of_le (Heap.lt_size e) z) (Nat.lt_irrefl _)
  have cellK : ∀ x c, X.env.cells.lookup x = some c → ∀ v, s.heap.IsCell c v → h'.IsCell c v := fun x c e v ⟨o, ho, hd⟩ => by
    have nch : c ∉ ch := fun z => (hch c z).2.2.1 x c e rfl
    by_cases hc : c ∈ X.fs
    · obtain ⟨sl, q⟩ := slot c o (I.cne x c e) hc nch ho (I.freeC x c e)
      exact ⟨_, q, hd⟩
    · exact ⟨o, keep c o (I.cne x c e) hc nch ho (I.freeC x c e), hd⟩
  refine ⟨I.ok, I.os, hg, ⟨fun b o e n hb hx => ?_, fun b o e n hb hx => ?_, fun b o e n hx => ?_, fun b o e hx => ?_, fun b xs e => tups b xs (I.base.tups b xs e), fun b o xs e => frzs b o xs (I.base.frzs b o xs e), fun b ps e => ?_⟩, ?_, fun x c e => ?_, ?_, fun x c e => ?_, fun p hp => ?_, hok, I.len⟩
  · exact keep b o (neL b o e) hb (neC b o e hx) (I.base.keep b o e n hb hx) (I.base.free b o e n hx)
  · obtain ⟨sl, e1⟩ := I.base.slot b o e n hb hx
    obtain ⟨sl', e2⟩ := slot b _ (neL b o e) hb (neC b o e hx) e1 (I.base.free b o e n hx)
    exact ⟨sl', e2⟩
  · obtain ⟨o', e1⟩ := I.base.there b o e hx
    exact free b o' (neC b o e hx) e1 (I.base.free b o e n hx)
  · obtain ⟨o', e1⟩ := I.base.there b o e hx
    exact there b o' (neC b o e hx) e1
  · obtain ⟨m1, e1⟩ := I.base.tbls b ps e
    obtain ⟨m2, e2⟩ := tbls b _ e1
    exact ⟨m1 ++ m2, by rw [e2, Array.append_assoc]⟩
  · obtain ⟨m, hn, hl⟩ := I.loc
    refine ⟨m, ns m hn, fun i x v e1 e2 e3 => ?_⟩
    obtain ⟨u, r, l⟩ := hl i x v e1 e2 e3
    refine ⟨u, r, ?_⟩
    rcases l with l | ⟨k, c, e, z⟩
    · exact .inl l
    · exact .inr ⟨k, c, e, cellK x c e _ z⟩
  · obtain ⟨v, z⟩ := I.cell x c e
    exact ⟨v, cellK x c e v z⟩
  · obtain ⟨m, ⟨o, _, _, ho, _⟩, _⟩ := I.loc
    exact free _ o (fun z => (hch _ z).2.1 rfl) ho I.free
  · obtain ⟨v, o, ho, hd⟩ := I.cell x c e
    exact free c o (fun z => (hch c z).2.2.1 x c e rfl) ho (I.freeC x c e)
  · obtain ⟨e, n, ne, nf, d⟩ := I.pin p hp
    have nch : p.1 ∉ ch := fun z => (hch p.1 z).2.2.2 p hp rfl
    exact ⟨keep p.1 p.2 ne nf nch e n, free p.1 p.2 nch e n, ne, nf, d⟩
theorem Inv.un {t' : Nat} (I : Inv X pins σ H s) (u : Un X.fs [] H H' s.heap h') (hok : HOk X.prog X.w H' h') : Inv X pins σ H' { s with heap := h', toks := t' } := by
  obtain ⟨m, ⟨o, es, ep, ho, r⟩, _⟩ := id I.loc
  obtain ⟨sl, hL⟩ := u.any ho I.free (by simp)
  exact I.step (g' := s.gens) (d' := s.drawn) (ch := []) (fun _ z => nomatch z) (fun b o _ hb _ e n => u.keep b o e n hb (by simp)) (fun b o _ hb _ e n => u.slot b o e n hb (by simp)) (fun b o _ e n => u.free b o e n (by simp)) (fun b o _ e => u.there b o e (by simp)) u.tups u.frzs u.tbls (fun m' hm => by
    obtain ⟨o', es', ep', ho', r'⟩ := hm
    rw [ho] at ho'; cases ho'
    exact ⟨_, es', ep', hL, r'⟩) hok I.bare
theorem Inv.call {g' : Array GenState} {t' : Nat} {d' : Drawn} {ch : List Addr} (I : Inv X pins σ H s) (u : Un (frs X.stack) ch H H' s.heap h') (hok : HOk X.prog X.w H' h') (hg : AllBare g')
    (hch : ∀ b ∈ ch, (b ∈ X.ex ∨ X.s₀.heap.objs.size ≤ b) ∧ b ≠ X.env.locals ∧ (∀ x c, X.env.cells.lookup x = some c → c ≠ b) ∧ ∀ p ∈ X.pn ++ pins, p.1 ≠ b) :
    Inv X pins σ H' { s with heap := h', gens := g', drawn := d', toks := t' } := by
  obtain ⟨m, ⟨o, es, ep, ho, r⟩, _⟩ := id I.loc
  obtain ⟨sl, hL⟩ := u.any ho I.free fun z => (hch _ z).2.1 rfl
  exact I.step (ch := ch) hch (fun b o hL hb hc e n => u.keep b o e n (fun z => (List.mem_cons.mp (I.stkSub b z)).elim hL hb) hc) (fun b o _ _ hc e n => u.any e n hc) (fun b o hc e n => u.free b o e n hc) (fun b o hc e => u.there b o e hc) u.tups u.frzs u.tbls (fun m' hm => by
    obtain ⟨o', es', ep', ho', r'⟩ := hm
    rw [ho] at ho'; cases ho'
    exact ⟨_, es', ep', hL, r'⟩) hok hg
theorem Inv.turned {t' : Nat} {it : Addr} (I : Inv X pins σ H s) (k : ∀ b o, b ≠ it → s.heap.get? b = some o → h'.get? b = some o) (hn : H it = none) (hL : it ≠ X.env.locals)
    (h1 : it ∈ X.ex ∨ X.s₀.heap.objs.size ≤ it) (h2 : ∀ x c, X.env.cells.lookup x = some c → c ≠ it) (h3 : ∀ p ∈ X.pn ++ pins, p.1 ≠ it) : Inv X pins σ H { s with heap := h', toks := t' } := by
  have nit : ∀ b u, H b = some u → b ≠ it := fun b u e z => by rw [z, hn] at e; cases e
  refine I.step (g' := s.gens) (d' := s.drawn) (ch := [it]) (fun b hb => ?_) (fun b o _ _ hc e _ => k b o (fun z => hc (by simp [z])) e) (fun b o _ _ hc e _ => ⟨o.slots, k b o (fun z => hc (by simp [z])) e⟩) (fun _ _ _ _ n => n)
    (fun b o hc e => ⟨o, k b o (fun z => hc (by simp [z])) e⟩) (fun _ _ e => e) (fun _ _ _ e => e) (fun b ps e => ⟨#[], by rw [e]; simp⟩) (fun m hm => ?_) (fun b u e => ?_) I.bare
  · have e : b = it := by simpa using hb
    subst e
    exact ⟨h1, hL, h2, h3⟩
  · obtain ⟨o, es, ep, ho, r⟩ := hm
    exact ⟨o, es, ep, k _ o (Ne.symm hL) ho, r⟩
  · refine (I.hok b u e).stay (fun c v hc q => k c v ?_ q) (fun _ q => q) fun _ _ q => q
    rcases hc with z | z
    · rw [z]; exact nit b u e
    · exact nit c _ z
theorem Inv.tok (I : Inv X pins σ H s) (t : Nat) : Inv X pins σ H { s with toks := t } := I.un (h' := s.heap) (t' := t) Un.refl I.hok
theorem Inv.kept {t' : Nat} (I : Inv X pins σ H s) (k : ∀ b u, s.heap.get? b = some u → h'.get? b = some u) : Inv X pins σ H { s with heap := h', toks := t' } := I.un (Un.kept k) (I.hok.kept k)
theorem Inv.laid {a : Addr} {o : HO} {t' : Nat} (I : Inv X pins σ H s) (k : ∀ b u, s.heap.get? b = some u → h'.get? b = some u) (hp : s.heap.objs.size ≤ a) (new : ObjOk X.prog X.w (upd H a o) h' a o) :
    Inv X pins σ (upd H a o) { s with heap := h', toks := t' } := I.un (Un.laid k hp (I.hok.fresh hp)) (I.hok.laid k hp new)
theorem Inv.write {x e : Addr} {o : HO} {t' : Nat} (I : Inv X pins σ H s) (mu : Mut (H x)) (he : e = x ∨ H e = some (.own x)) (k : ∀ b u, b ≠ e → s.heap.get? b = some u → h'.get? b = some u) (heo : ∃ u, h'.get? e = some u)
    (new : ObjOk X.prog X.w (upd H x o) h' x o) : Inv X pins σ (upd H x o) { s with heap := h', toks := t' } := I.un (Un.write mu he k heo) (I.hok.write mu he k heo new)
theorem Inv.pins_of {pins' : List (Addr × Obj)} (I : Inv X pins σ H s) (h : ∀ p ∈ pins', s.heap.get? p.1 = some p.2 ∧ H p.1 = none ∧ p.1 ≠ X.env.locals ∧ p.1 ∉ X.fs ∧ ∀ v, p.2.data ≠ .cell v) : Inv X pins' σ H s :=
  ⟨I.ok, I.os, I.bare, I.base, I.loc, I.cell, I.free, I.freeC, fun p hp => (List.mem_append.mp hp).elim (fun z => I.pin p (List.mem_append_left _ z)) (h p), I.hok, I.len⟩
theorem nodup_ix {N : List Str} (hN : N.Nodup) {i j : Nat} {x : Str} (a : N[i]? = some x) (b : N[j]? = some x) : i = j := by
  obtain ⟨h1, e1⟩ := List.getElem?_eq_some_iff.mp a
  obtain ⟨h2, e2⟩ := List.getElem?_eq_some_iff.mp b
  exact (List.getElem_inj hN).mp (e1.trans e2.symm)
theorem store_ok2 {M : Model} {A : Around} {E : Value → Shared → Prop} {i : Nat} {x : Str} {v : V} {u : Value} {Q : Unit → Shared → Prop} (I : Inv X pins σ H s) (hN : X.N.Nodup) (hi : X.N[i]? = some x) (hx : Loc X.env.scope x) (r : RelV v u)
    (h : ∀ s', Inv X pins (σ.set i (some v)) H s' → (∃ a, Heap.SameBut a s.heap s'.heap ∧ (a = X.env.locals ∨ X.env.cells.lookup x = some a)) → Q () s') (hf : X.fn x = true ∨ X.env.scope.names.lookup x = some .local := by first | exact .inl rfl | exact .inr rfl | assumption) : wpAny M A (storeName X.env x u) Q E s := by
  obtain ⟨m, hn, hl⟩ := id I.loc
  have hcls : (X.env.scope.kind == .class || (X.env.scope.kind == .module && X.env.locals != X.env.globals)) = false := by rw [I.ok.kind]; rfl
  have hiσ : i < σ.length := by rw [I.len]; exact (List.getElem?_eq_some_iff.mp hi).1
  have cne := I.cne
  have tracked : ∀ {a : Addr} {h' : Heap}, (∃ o, s.heap.get? a = some o ∧ H a = none) → Heap.SameBut a s.heap h' → HOk X.prog X.w H h' := fun {a h'} ha hs b ob e => by
    obtain ⟨_, _, hfree⟩ := ha
    refine (I.hok b ob e).stay (fun c w' hc q => (hs.2 c ?_).trans q) (fun _ q => q) fun _ _ q => q
    rintro rfl
    rcases hc with rfl | hc
    · rw [hfree] at e; cases e
    · rw [hfree] at hc; cases hc
  rcases hx with hk | hk
  · refine wpAny_storeName_local hk hn (fun h' hn' hs => ?_) hcls
    obtain ⟨oL, _, _, hoL, _⟩ := id hn
    refine h _ ⟨I.ok, I.os, I.bare, ⟨fun b o e n hb hx => ?_, fun b o e n hb hx => ?_, I.base.free, fun b o e hx => ?_, I.base.tups, I.base.frzs, I.base.tbls⟩, ⟨_, hn', fun j y v' e1 e2 e3 => ?_⟩, fun y c e => ?_, I.free, I.freeC, fun p hp => ?_, tracked ⟨oL, hoL, I.free⟩ hs, by simpa using I.len⟩ ⟨_, hs, .inl rfl⟩
    · exact (hs.2 b (Nat.ne_of_lt (Nat.lt_of_lt_of_le (Heap.lt_size e) I.ok.above))).trans (I.base.keep b o e n hb hx)
    · obtain ⟨sl, e1⟩ := I.base.slot b o e n hb hx
      exact ⟨sl, (hs.2 b (Nat.ne_of_lt (Nat.lt_of_lt_of_le (Heap.lt_size e) I.ok.above))).trans e1⟩
    · obtain ⟨o', e1⟩ := I.base.there b o e hx
      exact ⟨o', (hs.2 b (Nat.ne_of_lt (Nat.lt_of_lt_of_le (Heap.lt_size e) I.ok.above))).trans e1⟩
    · by_cases hj : j = i
      · subst hj
        rw [hi] at e1; cases e1
        rw [List.getElem?_set_self hiσ] at e2
        cases e2
        exact ⟨u, r, .inl ⟨hk, by simp⟩⟩
      · rw [List.getElem?_set_ne (Ne.symm hj)] at e2
        obtain ⟨u', r', q⟩ := hl j y v' e1 e2 e3
        refine ⟨u', r', ?_⟩
        rcases q with ⟨k, e⟩ | ⟨k, c, e, z⟩
        · refine .inl ⟨k, ?_⟩
          have : y ≠ x := fun e => hj (nodup_ix hN e1 (e ▸ hi))
          simp [this, e]
        · exact .inr ⟨k, c, e, z.sameBut hs (cne y c e)⟩
    · obtain ⟨w', z⟩ := I.cell y c e
      exact ⟨w', z.sameBut hs (cne y c e)⟩
    · obtain ⟨e, n, ne, nf, d⟩ := I.pin p hp
      exact ⟨(hs.2 p.1 ne).trans e, n, ne, nf, d⟩
  · have hfn : X.fn x = true := by
      rcases hf with z | z
      · exact z
      · rw [z] at hk; cases hk
    obtain ⟨c, hc⟩ := I.ok.has x (.inl hk)
    obtain ⟨w', z⟩ := I.cell x c hc
    refine wpAny_storeName_cell I.ok.kind hk hc z (fun h' hc' hs => ?_)
    obtain ⟨oc, hoc, hocd⟩ := id z
    refine h { s with heap := h' } ⟨I.ok, I.os, I.bare, ⟨fun b o e n hb hx => ?_, fun b o e n hb hx => ?_, I.base.free, fun b o e hx => ?_, I.base.tups, I.base.frzs, I.base.tbls⟩, ⟨m, hn.sameBut hs (Ne.symm (cne x c hc)), fun j y v' e1 e2 e3 => ?_⟩, fun y c' e => ?_, I.free, I.freeC, fun p hp => ?_, tracked ⟨oc, hoc, I.freeC x c hc⟩ hs, by simpa using I.len⟩ ⟨c, hs, .inr hc⟩
    · exact (hs.2 b (Nat.ne_of_lt (Nat.lt_of_lt_of_le (Heap.lt_size e) (I.ok.cab x c hfn hc)))).trans (I.base.keep b o e n hb hx)
    · obtain ⟨sl, e1⟩ := I.base.slot b o e n hb hx
      exact ⟨sl, (hs.2 b (Nat.ne_of_lt (Nat.lt_of_lt_of_le (Heap.lt_size e) (I.ok.cab x c hfn hc)))).trans e1⟩
    · obtain ⟨o', e1⟩ := I.base.there b o e hx
      exact ⟨o', (hs.2 b (Nat.ne_of_lt (Nat.lt_of_lt_of_le (Heap.lt_size e) (I.ok.cab x c hfn hc)))).trans e1⟩
    · by_cases hj : j = i
      · subst hj
        rw [hi] at e1; cases e1
        rw [List.getElem?_set_self hiσ] at e2
        cases e2
        exact ⟨u, r, .inr ⟨.inl hk, c, hc, hc'⟩⟩
      · rw [List.getElem?_set_ne (Ne.symm hj)] at e2
        obtain ⟨u', r', q⟩ := hl j y v' e1 e2 e3
        refine ⟨u', r', ?_⟩
        rcases q with q | ⟨k, c', e, z'⟩
        · exact .inl q
        · refine .inr ⟨k, c', e, z'.sameBut hs ?_⟩
          rintro rfl
          exact hj (nodup_ix hN e1 (I.ok.inj _ _ _ e hc ▸ hi))
    · by_cases hcc : c' = c
      · subst hcc; exact ⟨_, hc'⟩
      · obtain ⟨w2, z2⟩ := I.cell y c' e
        exact ⟨w2, z2.sameBut hs hcc⟩
    · obtain ⟨e, n, ne, nf, d⟩ := I.pin p hp
      refine ⟨(hs.2 p.1 ?_).trans e, n, ne, nf, d⟩
      intro q
      rw [q, hoc] at e
      have q' : oc = p.2 := Option.some.inj e
      exact d w' (by rw [← q']; exact hocd)
theorem store_ok {M : Model} {A : Around} {E : Value → Shared → Prop} {i : Nat} {x : Str} {v : V} {u : Value} {Q : Unit → Shared → Prop} (I : Inv X pins σ H s) (hN : X.N.Nodup) (hi : X.N[i]? = some x) (hx : Loc X.env.scope x) (r : RelV v u)
    (h : ∀ s', Inv X pins (σ.set i (some v)) H s' → Q () s') (hf : X.fn x = true ∨ X.env.scope.names.lookup x = some .local := by first | exact .inl rfl | exact .inr rfl | assumption) : wpAny M A (storeName X.env x u) Q E s :=
  store_ok2 I hN hi hx r (fun s' I' _ => h s' I') hf
theorem Inv.call' {s' : Shared} {ch : List Addr} (I : Inv X pins σ H s) (ho : s'.os = s.os) (u : Un (frs X.stack) ch H H' s.heap s'.heap) (hok : HOk X.prog X.w H' s'.heap) (hg : AllBare s'.gens)
    (hch : ∀ b ∈ ch, (b ∈ X.ex ∨ X.s₀.heap.objs.size ≤ b) ∧ b ≠ X.env.locals ∧ (∀ x c, X.env.cells.lookup x = some c → c ≠ b) ∧ ∀ p ∈ X.pn ++ pins, p.1 ≠ b) : Inv X pins σ H' s' := by
  obtain ⟨h', g', d', t', o'⟩ := s'
  have e : o' = s.os := ho
  subst e
  exact I.call (g' := g') (t' := t') (d' := d') u hok hg hch
end
abbrev XK := Value → Option Addr → Hp → Prop
abbrev St := List (Option V)
abbrev VK := V → Hp → Prop
abbrev TE := St → Hp → VK → Prop
abbrev TA := St → Hp → (List V → Hp → Prop) → Prop
structure Ends where
  nx : St → Hp → Prop
  rt : VK
  bk : St → Hp → Prop := fun _ _ => False
  ct : St → Hp → Prop := fun _ _ => False
abbrev TS := Ends → St → Hp → Prop
def EP (X : Cx) (pins : List (Addr × Obj)) (σ : St) (Q : VK) (u : Value) (s' : Shared) : Prop := ∃ v H', Inv X pins σ H' s' ∧ RelV v u ∧ Q v H'
def AP (X : Cx) (pins : List (Addr × Obj)) (σ : St) (Q : List V → Hp → Prop) (us : List Value) (s' : Shared) : Prop := ∃ vs H', Inv X pins σ H' s' ∧ Vals vs us ∧ Q vs H'
def SP (X : Cx) (pins : List (Addr × Obj)) (D : Ends) (f : Flow) (s' : Shared) : Prop :=
  match f with
  | .next => ∃ σ' H', Inv X pins σ' H' s' ∧ D.nx σ' H'
  | .brk => ∃ σ' H', Inv X pins σ' H' s' ∧ D.bk σ' H'
  | .cont => ∃ σ' H', Inv X pins σ' H' s' ∧ D.ct σ' H'
  | .ret u => ∃ v σ' H', Inv X pins σ' H' s' ∧ RelV v u ∧ D.rt v H'
def PE (X : Cx) (e : Expr) (t : TE) : Prop :=
  ∀ (pins : List (Addr × Obj)) (s : Shared) (σ : St) (H : Hp) (Q : VK), Inv X pins σ H s → t σ H Q → wpAny (model X.prog X.w) X.A (eval e X.env) (EP X pins σ Q) X.xe s
def PA (X : Cx) (es : List Expr) (t : TA) : Prop :=
  ∀ (pos : Pos) (pins : List (Addr × Obj)) (s : Shared) (σ : St) (H : Hp) (Q : List V → Hp → Prop), Inv X pins σ H s → t σ H Q → wpAny (model X.prog X.w) X.A (spliced (backTo pos (starEach es X.env))) (AP X pins σ Q) X.xe s
def PS (X : Cx) (st : Stmt) (t : TS) : Prop :=
  ∀ (pins : List (Addr × Obj)) (s : Shared) (σ : St) (H : Hp) (D : Ends), Inv X pins σ H s → t D σ H → wpAny (model X.prog X.w) X.A (exec st X.env) (SP X pins D) X.xe s
def PSs (X : Cx) (st : List Stmt) (t : TS) : Prop :=
  ∀ (pins : List (Addr × Obj)) (s : Shared) (σ : St) (H : Hp) (D : Ends), Inv X pins σ H s → t D σ H → wpAny (model X.prog X.w) X.A (execs st X.env) (SP X pins D) X.xe s
theorem thn {α : Type} {t : Sem α} {Q Q' : α → Shared → Prop} {M : Model} {A : Around} {E : Value → Shared → Prop} {s : Shared} (h : wpAny M A t Q E s) (hQ : ∀ a s, Q a s → Q' a s) : wpAny M A t Q' E s := wpAny_mono h hQ fun _ _ x => x
end L2
namespace L2
open PySem PySem.Spec PyProof.Rows
section
variable {X : Cx}
def tVar (i : Nat) : TE := fun σ H Q => ∃ v, σ[i]? = some (some v) ∧ Q v H
def tC (v : V) : TE := fun _ H Q => Q v H
theorem pe_var {i : Nat} {x : Str} {pos : Pos} (hN : X.N[i]? = some x) (hv : Vis X.env.scope x) (hd : (x == ("__debug__" : Str)) = false := by decide) (hcd : (x == ("__classdict__" : Str)) = false := by decide) : PE X (.Name x pos) (tVar i) := by
  intro pins s σ H Q I h
  obtain ⟨v, e, h⟩ := h
  obtain ⟨m, hn, hl⟩ := I.loc
  obtain ⟨u, r, l⟩ := hl i x v hN e hv
  have fin : EP X pins σ Q u s := ⟨v, H, I, r, h⟩
  rcases l with ⟨hk, hm⟩ | ⟨hk, c, hc, hcell⟩
  · exact wpAny_Name (wpAny_loadName_local I.ok.kind hk hn hm fin) hd
  · rcases hk with hk | hk
    · exact wpAny_Name (wpAny_loadName_cell I.ok.kind hk hc hcell fin) hd
    · exact wpAny_Name (wpAny_loadName_free I.ok.kind hk hc hcell fin hcd) hd
theorem pe_int {i j pos} : PE X (.Constant (.int i) j pos) (tC (.int i)) := fun _ _ _ H _ I h => wpAny_Constant_int ⟨.int i, H, I.tok _, ⟨_, rfl⟩, h⟩
theorem pe_bl {b j pos} : PE X (.Constant (.bool b) j pos) (tC (.bl b)) := fun _ _ _ H _ I h => Constant_bool ⟨.bl b, H, I, rfl, h⟩
theorem pe_non {j pos} : PE X (.Constant .none j pos) (tC .non) := fun _ _ _ H _ I h => Constant_none ⟨.non, H, I, rfl, h⟩
theorem pe_str {x j pos} : PE X (.Constant (.str x) j pos) (tC (.str x)) := fun _ _ _ H _ I h => Calls.Constant_str ⟨.str x, H, I.tok _, ⟨_, rfl⟩, h⟩
def Gl (X : Cx) (x : Str) : Prop := X.env.kindOf x = some .globalImplicit
theorem ld_glob {E : Value → Shared → Prop} {pins : List (Addr × Obj)} {s : Shared} {σ : St} {H : Hp} {x : Str} {u : Value} {pos : Pos} {Q : Value → Shared → Prop} (I : Inv X pins σ H s) (hg : Gl X x) (hm : X.mg x = some u) (h : Q u s)
    (hd : (x == ("__debug__" : Str)) = false := by decide) : wpAny (model X.prog X.w) X.A (eval (.Name x pos) X.env) Q E s :=
  Calls.Name_function_global I.ok.kind hg (Calls.loadGlobal_global (by rw [I.ok.glob]; exact I.mod.glob.keeps I.bk) hm h) hd
theorem ld_blt {E : Value → Shared → Prop} {pins : List (Addr × Obj)} {s : Shared} {σ : St} {H : Hp} {x : Str} {u : Value} {pos : Pos} {Q : Value → Shared → Prop} (I : Inv X pins σ H s) (hg : Gl X x) (hm : X.mg x = none) (hv : bootBuiltins x = some u) (h : Q u s)
    (hn : x ≠ "__name__" := by decide) (hd : (x == ("__debug__" : Str)) = false := by decide) : wpAny (model X.prog X.w) X.A (eval (.Name x pos) X.env) Q E s := by
  obtain ⟨mb, h1, h2⟩ := I.mod.blt
  exact Calls.Name_function_global I.ok.kind hg (Calls.loadGlobal_builtin (by rw [I.ok.glob]; exact I.mod.glob.keeps I.bk) hm (by rw [I.ok.blt]; exact h1.keeps I.bk) ((h2 x hn).trans hv) h) hd
theorem pe_glob {x : Str} {v : V} {u : Value} {pos : Pos} (hg : Gl X x) (hm : X.mg x = some u) (r : RelV v u) (hd : (x == ("__debug__" : Str)) = false := by decide) : PE X (.Name x pos) (tC v) :=
  fun _ _ _ H _ I h => ld_glob I hg hm ⟨v, H, I, r, h⟩ hd
theorem pe_bltn {x : Str} {v : V} {u : Value} {pos : Pos} (hg : Gl X x) (hm : X.mg x = none) (hv : bootBuiltins x = some u) (r : RelV v u) (hn : x ≠ "__name__" := by decide) (hd : (x == ("__debug__" : Str)) = false := by decide) : PE X (.Name x pos) (tC v) :=
  fun _ _ _ H _ I h => ld_blt I hg hm hv ⟨v, H, I, r, h⟩ hn hd
variable {a b : Expr} {ta tb : TE} {pos : Pos}
variable {tA tB' : TT} {rest : List Expr}
end
end L2
namespace L2
open PySem PySem.Spec PyProof.Rows
def SqL (K : PySem.W.Frag) (H : Hp) (a : Addr) (xs : List V) : Prop :=
  Rd H a (.lst xs) ∨
    ∃ (o : Obj) (its : Array Value) (n : Nat), K.lookup a = some o ∧ o.cls = .type "list" ∧ o.dict = none ∧ o.data = .seq its n ∧ its.size ≤ sizeLine ∧ Vals xs its.toList
def SqT (K : PySem.W.Frag) (H : Hp) (a : Addr) (xs : List V) : Prop :=
  Rd H a (.tup xs) ∨
    ∃ (o : Obj) (its : Array Value) (n : Nat), K.lookup a = some o ∧ o.cls = .type "tuple" ∧ o.data = .seq its n ∧ its.size ≤ sizeLine ∧ Vals xs its.toList
def absV : Value → Option V
  | .none => some .non
  | .bool b => some (.bl b)
  | .int i _ => some (.int i)
  | .str x _ => some (.str x)
  | .bytes b _ => some (.byt b)
  | .float b _ => some (.flt b)
  | .ref a => some (.ref a)
  | .type n => some (.ty n)
  | _ => none
theorem RelV.abs {x : V} {u : Value} (r : RelV x u) : absV u = some x := by
  cases x with
  | non => cases r; rfl
  | bl _ => cases r; rfl
  | int _ => obtain ⟨t, rfl⟩ := r; rfl
  | str _ => obtain ⟨t, rfl⟩ := r; rfl
  | byt _ => obtain ⟨t, rfl⟩ := r; rfl
  | flt _ => obtain ⟨t, rfl⟩ := r; rfl
  | ref _ => cases r; rfl
  | ty _ => cases r; rfl
theorem RelV.inj {x y : V} {u : Value} (r : RelV x u) (q : RelV y u) : x = y := Option.some.inj (r.abs.symm.trans q.abs)
theorem Vals.inj : ∀ {xs ys : List V} {us : List Value}, Vals xs us → Vals ys us → xs = ys
  | _, _, _, .nil, .nil => rfl
  | _, _, _, .cons r t, .cons r' t' => by rw [r.inj r', Vals.inj t t']
section
variable {X : Cx} {pins : List (Addr × Obj)} {σ : St} {H : Hp} {s : Shared} {a : Addr} {xs ys : List V}
theorem Inv.list (I : Inv X pins σ H s) (h : SqL X.K H a xs) : ∃ its : List Value, Vals xs its ∧ PlainL s.heap a its.toArray ∧ xs.length ≤ sizeLine := by
  rcases h with h | ⟨o, its, n, hk, hc, hd, hs, hz, r⟩
  · obtain ⟨z, its, n, r, e⟩ := h.ok I.hok
    exact ⟨its, r, ⟨_, n, e, rfl, rfl, rfl⟩, z⟩
  · refine ⟨its.toList, r, ⟨o, n, I.kIn a o hk, hc, hd, by simpa using hs⟩, ?_⟩
    have e := r.length
    simp only [Array.length_toList] at e
    lia
theorem Inv.tuple (I : Inv X pins σ H s) (h : SqT X.K H a xs) : ∃ its : List Value, Vals xs its ∧ IsTup s.heap a its.toArray ∧ xs.length ≤ sizeLine := by
  rcases h with h | ⟨o, its, n, hk, hc, hs, hz, r⟩
  · obtain ⟨z, its, r, p⟩ := h.ok I.hok
    exact ⟨its, r, p, z⟩
  · refine ⟨its.toList, r, ⟨o, I.kIn a o hk, hc, n, by simpa using hs⟩, ?_⟩
    have e := r.length
    simp only [Array.length_toList] at e
    lia
theorem Inv.list_inj (I : Inv X pins σ H s) (h : SqL X.K H a xs) (h' : SqL X.K H a ys) : xs = ys := by
  obtain ⟨its, r, ⟨o, n, e, _, _, d⟩, _⟩ := I.list h
  obtain ⟨its', r', ⟨o', n', e', _, _, d'⟩, _⟩ := I.list h'
  rw [e] at e'; cases e'
  rw [d] at d'
  injection d' with d1 _
  have : its = its' := by simpa using congrArg Array.toList d1
  subst this
  exact r.inj r'
theorem Inv.tuple_inj (I : Inv X pins σ H s) (h : SqT X.K H a xs) (h' : SqT X.K H a ys) : xs = ys := by
  obtain ⟨its, r, ⟨o, e, _, n, d⟩, _⟩ := I.tuple h
  obtain ⟨its', r', ⟨o', e', _, n', d'⟩, _⟩ := I.tuple h'
  rw [e] at e'; cases e'
  rw [d] at d'
  injection d' with d1 _
  have : its = its' := by simpa using congrArg Array.toList d1
  subst this
  exact r.inj r'
end
abbrev Cx.wish (X : Cx) (E : Value → Shared → Prop) : Cx := { X with xe := E }
abbrev Cx.nox (X : Cx) : Cx := X.wish fun _ _ => False
theorem Cx.Ok.wish {X : Cx} (ok : X.Ok) (E : Value → Shared → Prop) : (X.wish E).Ok :=
  ⟨ok.mod, ok.kind, ok.glob, ok.blt, ok.above, ok.inj, ok.has, ok.cab, ok.hd, ok.frames, ok.stk, ok.exf, ok.bs, ok.bsz, ok.noex, ok.exfs, ok.funs, ok.frf⟩
theorem Cx.Ok.unwish {X : Cx} {E : Value → Shared → Prop} (ok : (X.wish E).Ok) : X.Ok :=
  ⟨ok.mod, ok.kind, ok.glob, ok.blt, ok.above, ok.inj, ok.has, ok.cab, ok.hd, ok.frames, ok.stk, ok.exf, ok.bs, ok.bsz, ok.noex, ok.exfs, ok.funs, ok.frf⟩
section
variable {X : Cx} {pins : List (Addr × Obj)} {σ : St} {H : Hp} {s : Shared} {E : Value → Shared → Prop}
theorem Inv.wish (I : Inv X pins σ H s) (E : Value → Shared → Prop) : Inv (X.wish E) pins σ H s := ⟨I.ok.wish E, I.os, I.bare, I.base, I.loc, I.cell, I.free, I.freeC, I.pin, I.hok, I.len⟩
theorem Inv.unwish (I : Inv (X.wish E) pins σ H s) : Inv X pins σ H s := ⟨I.ok.unwish, I.os, I.bare, I.base, I.loc, I.cell, I.free, I.freeC, I.pin, I.hok, I.len⟩
theorem SP.unwish {D : Ends} {f : Flow} {s' : Shared} (h : SP (X.wish E) pins D f s') : SP X pins D f s' := by
  cases f with
  | next => obtain ⟨σ', H', I, q⟩ := h; exact ⟨σ', H', I.unwish, q⟩
  | brk => obtain ⟨σ', H', I, q⟩ := h; exact ⟨σ', H', I.unwish, q⟩
  | cont => obtain ⟨σ', H', I, q⟩ := h; exact ⟨σ', H', I.unwish, q⟩
  | ret u => obtain ⟨v, σ', H', I, r, q⟩ := h; exact ⟨v, σ', H', I.unwish, r, q⟩
theorem PSs.nox {st : List Stmt} {t : TS} (h : PSs X.nox st t) : PSs X st t := fun pins s σ H D I hw =>
  wpAny_mono (h pins s σ H D (I.wish _) hw) (fun _ _ q => q.unwish) fun _ _ z => False.elim z
end
section
variable {X : Cx} {st : Stmt} {rest : List Stmt} {t u : TS} {e : Expr} {te : TE} {pos : Pos}
theorem Inv.quiet {pins : List (Addr × Obj)} {σ : St} {H : Hp} {s : Shared} (I : Inv X pins σ H s) : interactive X.env = false := by simp [interactive, I.ok.kind]
end
abbrev TG := V → St → Hp → (St → Hp → Prop) → Prop
def PG (X : Cx) (target : Expr) (t : TG) : Prop :=
  ∀ (pins : List (Addr × Obj)) (s : Shared) (σ : St) (H : Hp) (v : V) (u : Value) (Q : St → Hp → Prop), Inv X pins σ H s → RelV v u → t v σ H Q →
    wpAny (model X.prog X.w) X.A (assign target X.env u) (fun _ s' => ∃ σ' H', Inv X pins σ' H' s' ∧ Q σ' H') X.xe s
section
variable {X : Cx} {pos : Pos}
def gName (i : Nat) : TG := fun v σ H Q => Q (σ.set i (some v)) H
theorem pg_name {i : Nat} {x : Str} (hN : X.N.Nodup) (hi : X.N[i]? = some x) (hx : Loc X.env.scope x) (hf : X.fn x = true ∨ X.env.scope.names.lookup x = some .local := by first | exact .inl rfl | exact .inr rfl | assumption) : PG X (.Name x pos) (gName i) := by
  intro pins s σ H v u Q I r h
  exact wpAny_assign_Name (store_ok I hN hi hx r (fun s' I' => ⟨_, H, I', h⟩) hf)
def tAsg (te : TE) (g : TG) : TS := fun D σ H => te σ H fun x H1 => g x σ H1 D.nx
theorem ps_set {i : Nat} {x : Str} {e : Expr} {te : TE} {pos' : Pos} (hN : X.N.Nodup) (hi : X.N[i]? = some x) (hx : Loc X.env.scope x) (he : PE X e te) (hs : swapsWith e (some (.Name x pos')) pos.line X.env = pure false := by rfl) (hf : X.fn x = true ∨ X.env.scope.names.lookup x = some .local := by first | exact .inl rfl | exact .inr rfl | assumption) :
    PS X (.Assign [.Name x pos'] e pos) (tAsg te (gName i)) := by
  intro pins s σ H D I h
  refine wpAny_Assign_Name (thn (he pins s σ H _ I h) fun v s1 ⟨y, H1, I1, r1, q1⟩ => ?_) hs
  exact store_ok I1 hN hi hx r1 (fun s2 I2 => ⟨_, H1, I2, q1⟩) hf
end
section
variable {X : Cx} {pos : Pos}
end
structure It where
  go : Nat → Hp → Prop
  yld : Nat → Hp → V → Hp → Prop
  stop : Nat → Hp → Prop
def FpOk (X : Cx) (pins : List (Addr × Obj)) (H : Hp) (b : Addr) : Prop :=
  H b = none ∧ b ≠ X.env.locals ∧ b ∉ X.fs ∧ (b ∈ X.ex ∨ X.s₀.heap.objs.size ≤ b) ∧ (∀ x c, X.env.cells.lookup x = some c → c ≠ b) ∧ ∀ p ∈ X.pn ++ pins, p.1 ≠ b
theorem Inv.fpOk {X : Cx} {pins : List (Addr × Obj)} {σ : St} {H H' : Hp} {s : Shared} {b : Addr} (I : Inv X pins σ H s) (hb : s.heap.objs.size ≤ b) (hn : H' b = none) : FpOk X pins H' b := by
  refine ⟨hn, Nat.ne_of_gt (Nat.lt_of_lt_of_le I.lt hb), I.nofs hb, .inr (Nat.le_trans I.sz hb), fun x c e z => ?_, fun p hp z => ?_⟩
  · obtain ⟨v, q⟩ := I.cell x c e
    exact absurd (Nat.lt_of_lt_of_le q.lt (by rw [z]; exact hb)) (Nat.lt_irrefl _)
  · exact absurd (Nat.lt_of_lt_of_le (Heap.lt_size (I.pin p hp).1) (by rw [z]; exact hb)) (Nat.lt_irrefl _)
structure Turn (P : Program) (w : World) (K : PySem.W.Frag) (tg : Expr) (J : It) (fp : List Addr) (it : Addr) (tn : Nat → Heap → Prop) : Prop where
  mem : it ∈ fp
  obj : ∀ i h, tn i h → ∀ b ∈ fp, ∃ o, h.get? b = some o ∧ ∀ v, o.data ≠ .cell v
  keep : ∀ i h h', tn i h → (∀ b ∈ fp, ∀ o, h.get? b = some o → h'.get? b = some o) → tn i h'
  item : ∀ (X : Cx), X.prog = P → X.w = w → X.K = K → X.calm = true → ∀ (i : Nat) (pins : List (Addr × Obj)) (s : Shared) (σ : St) (H : Hp) (E : Value → Shared → Prop), Inv X pins σ H s → (∀ b ∈ fp, FpOk X pins H b) → tn i s.heap → J.go i H →
    wpAny (model P w) X.A (pyNext (.ref it)) (fun r s1 => ∃ u, r = some u ∧
      wpAny (model P w) X.A (letOwnedTupleGo tg (.ref it) u) (fun _ s2 => ∃ x H', Inv X pins σ H' s2 ∧ RelV x u ∧ J.yld i H x H' ∧ tn (i + 1) s2.heap ∧ ∀ b ∈ fp, H' b = none) E s1) E s
  done : ∀ (X : Cx), X.prog = P → X.w = w → X.K = K → X.calm = true → ∀ (i : Nat) (pins : List (Addr × Obj)) (s : Shared) (σ : St) (H : Hp) (E : Value → Shared → Prop), Inv X pins σ H s → (∀ b ∈ fp, FpOk X pins H b) → tn i s.heap → J.stop i H →
    wpAny (model P w) X.A (pyNext (.ref it)) (fun r s1 => r = none ∧ Inv X pins σ H s1) E s
  self : ∀ (A : Around) (i : Nat) (s : Shared) (Q : Value → Shared → Prop) (E : Value → Shared → Prop), tn i s.heap → Q (.ref it) s → wpAny (model P w) A (pyIter (.ref it)) Q E s
abbrev TI := St → Hp → (It → Hp → Prop) → Prop
def PIE (X : Cx) (pins : List (Addr × Obj)) (σ : St) (tg : Expr) (R : It → Hp → Prop) (itv : Value) (s2 : Shared) : Prop :=
  ∃ (it : Addr) (fp : List Addr) (tn : Nat → Heap → Prop) (J : It) (H' : Hp), itv = .ref it ∧ Inv X pins σ H' s2 ∧ Turn X.prog X.w X.K tg J fp it tn ∧ tn 0 s2.heap ∧ (∀ b ∈ fp, FpOk X pins H' b) ∧ R J H'
def PI (X : Cx) (tg iter : Expr) (wi : TI) : Prop :=
  ∀ (pins : List (Addr × Obj)) (s : Shared) (σ : St) (H : Hp) (R : It → Hp → Prop), Inv X pins σ H s → wi σ H R →
    wpAny (model X.prog X.w) X.A (eval iter X.env) (fun v s1 => wpAny (model X.prog X.w) X.A (pyIter v) (PIE X pins σ tg R) X.xe s1) X.xe s
theorem go_of {M : Model} {A : Around} {E : Value → Shared → Prop} {s : Shared} {tg : Expr} {it : Addr} {u : Value} {o : Obj} {n : String} {vs : Array Value} {Q : Unit → Shared → Prop} (ho : s.heap.get? it = some o) (hc : o.cls = .type n) (hd : o.data = .fields vs)
    (hn : ["enumerate", "zip", "dict_itemiterator", "dict_reverseitemiterator", "odict_iterator", "itertools.zip_longest", "itertools.pairwise"].contains n = false) (hQ : Q () s) : wpAny M A (letOwnedTupleGo tg (.ref it) u) Q E s := by
  unfold letOwnedTupleGo
  cases tg <;> first
    | exact wpAny_pure hQ
    | (cases u <;> first
        | exact wpAny_pure hQ
        | (refine wpAny_bind (wpAny_load ho ?_)
           rw [hc, hd]
           show wpAny M A (if (["enumerate", "zip", "dict_itemiterator", "dict_reverseitemiterator", "odict_iterator", "itertools.zip_longest", "itertools.pairwise"].contains n && vs[0]? == some (rawInt _)) = true then _ else _) Q E s
           rw [if_neg (by intro h; rw [hn, Bool.false_and] at h; cases h)]
           exact wpAny_pure hQ))
def Itl (K : PySem.W.Frag) (a : Addr) : It :=
  ⟨fun i H => ∃ xs x, SqL K H a xs ∧ xs[i]? = some x, fun i H x H' => H' = H ∧ ∀ xs, SqL K H a xs → xs[i]? = some x, fun i H => ∃ xs, SqL K H a xs ∧ xs.length ≤ i⟩
def Itt (K : PySem.W.Frag) (a : Addr) : It :=
  ⟨fun i H => ∃ xs x, SqT K H a xs ∧ xs[i]? = some x, fun i H x H' => H' = H ∧ ∀ xs, SqT K H a xs → xs[i]? = some x, fun i H => ∃ xs, SqT K H a xs ∧ xs.length ≤ i⟩
def Itr (lo : Int) (n : Nat) : It := ⟨fun i _ => i < n, fun i H x H' => H' = H ∧ x = .int (lo + i), fun i _ => n ≤ i⟩
theorem turn_list {P : Program} {w : World} {K : PySem.W.Frag} {tg : Expr} (a it : Addr) : Turn P w K tg (Itl K a) [it] it (fun i h => h.IsListIter it a i) where
  mem := by simp
  obj := fun i h st b hb => by
    have e : b = it := by simpa using hb
    subst e
    obtain ⟨o, e, c, d⟩ := st
    exact ⟨o, e, fun v z => by rw [d] at z; cases z⟩
  keep := fun i h h' st k => st.at fun o e => k it (by simp) o e
  item := by
    intro X hP hw hK hc i pins s σ H E I hf st hg
    subst hP hw hK
    obtain ⟨xs, x, hq, hx⟩ := hg
    obtain ⟨its, rv, p, hz⟩ := I.list hq
    obtain ⟨u, hu, ru⟩ := rv.get hx
    obtain ⟨f0, f1, f2, f3, f4, f5⟩ := hf it (by simp)
    refine wpAny_pyNext_list_item st p.isList (x := u) (by simpa using hu) fun h' st' sb => ?_
    have I1 : Inv X pins σ H { s with heap := h' } := I.turned (t' := s.toks) (fun b o hb e => (sb.2 b hb).trans e) f0 f1 f3 f4 f5
    obtain ⟨o, e, c, d⟩ := id st'
    exact ⟨u, rfl, go_of (s := { s with heap := h' }) e c d (by decide) ⟨x, H, I1, ru, ⟨rfl, fun ys hy => by rw [I.list_inj hy hq]; exact hx⟩, st', fun b hb => (hf b hb).1⟩⟩
  done := by
    intro X hP hw hK hc i pins s σ H E I hf st hg
    subst hP hw hK
    obtain ⟨xs, hq, hx⟩ := hg
    obtain ⟨its, rv, p, hz⟩ := I.list hq
    obtain ⟨f0, f1, f2, f3, f4, f5⟩ := hf it (by simp)
    have hl := rv.length
    exact wpAny_pyNext_list_end (I.ok.hd hc) st p.isList (by simp; lia) fun h' eb => ⟨rfl, I.turned (t' := s.toks) (fun b o hb e => eb b o hb e) f0 f1 f3 f4 f5⟩
  self := fun _ _ _ _ _ st h => wpAny_pyIter_listiter st h
theorem turn_tuple {P : Program} {w : World} {K : PySem.W.Frag} {tg : Expr} (a it : Addr) : Turn P w K tg (Itt K a) [it] it (fun i h => h.IsTupleIter it a i) where
  mem := by simp
  obj := fun i h st b hb => by
    have e : b = it := by simpa using hb
    subst e
    obtain ⟨o, e, c, d⟩ := st
    exact ⟨o, e, fun v z => by rw [d] at z; cases z⟩
  keep := fun i h h' st k => st.at fun o e => k it (by simp) o e
  item := by
    intro X hP hw hK hc i pins s σ H E I hf st hg
    subst hP hw hK
    obtain ⟨xs, x, hq, hx⟩ := hg
    obtain ⟨its, rv, p, hz⟩ := I.tuple hq
    obtain ⟨u, hu, ru⟩ := rv.get hx
    obtain ⟨f0, f1, f2, f3, f4, f5⟩ := hf it (by simp)
    refine wpAny_pyNext_tuple_item st (show s.heap.IsTuple a its.toArray from p) (x := u) (by simpa using hu) fun h' st' sb => ?_
    have I1 : Inv X pins σ H { s with heap := h' } := I.turned (t' := s.toks) (fun b o hb e => (sb.2 b hb).trans e) f0 f1 f3 f4 f5
    obtain ⟨o, e, c, d⟩ := id st'
    exact ⟨u, rfl, go_of (s := { s with heap := h' }) e c d (by decide) ⟨x, H, I1, ru, ⟨rfl, fun ys hy => by rw [I.tuple_inj hy hq]; exact hx⟩, st', fun b hb => (hf b hb).1⟩⟩
  done := by
    intro X hP hw hK hc i pins s σ H E I hf st hg
    subst hP hw hK
    obtain ⟨xs, hq, hx⟩ := hg
    obtain ⟨its, rv, p, hz⟩ := I.tuple hq
    obtain ⟨f0, f1, f2, f3, f4, f5⟩ := hf it (by simp)
    have hl := rv.length
    exact wpAny_pyNext_tuple_end (I.ok.hd hc) st (show s.heap.IsTuple a its.toArray from p) (by simp; lia) fun h' eb => ⟨rfl, I.turned (t' := s.toks) (fun b o hb e => eb b o hb e) f0 f1 f3 f4 f5⟩
  self := fun _ _ _ _ _ st h => wpAny_pyIter_tupleiter st h
theorem turn_range {P : Program} {w : World} {K : PySem.W.Frag} {tg : Expr} (it : Addr) (lo : Int) (n : Nat) : Turn P w K tg (Itr lo n) [it] it (fun i h => IsRangeIter h it (lo + (i : Nat) * 1) ((n : Int) - (i : Nat)) 1) where
  mem := by simp
  obj := fun i h st b hb => by
    have e : b = it := by simpa using hb
    subst e
    exact ⟨_, st, fun v z => by
      have z' : Data.fields _ = Data.cell v := z
      cases z'⟩
  keep := fun i h h' st k => k it (by simp) _ st
  item := by
    intro X hP hw hK hc i pins s σ H E I hf st hg
    subst hP hw hK
    obtain ⟨f0, f1, f2, f3, f4, f5⟩ := hf it (by simp)
    have W := Walks.range (prog := X.prog) (w := X.w) (I.ok.hd hc) it lo 1 n
    refine W.item i s _ _ hg st fun v h' tk hv st' kk => ?_
    obtain ⟨t, rfl⟩ := hv
    have I1 : Inv X pins σ H { s with heap := h', toks := tk } := I.turned (fun b o hb e => kk b o (by simpa using hb) e) f0 f1 f3 f4 f5
    refine ⟨_, rfl, go_of (s := { s with heap := h', toks := tk }) (n := "range_iterator") st' rfl rfl (by decide) ⟨.int (lo + i), H, I1, ⟨t, ?_⟩, ⟨rfl, rfl⟩, st', fun b hb => (hf b hb).1⟩⟩
    rw [Int.mul_one]
  done := by
    intro X hP hw hK hc i pins s σ H E I hf st hg
    subst hP hw hK
    obtain ⟨f0, f1, f2, f3, f4, f5⟩ := hf it (by simp)
    exact wpAny_pyNext_range_end (I.ok.hd hc) st (by have : n ≤ i := hg; lia) fun h' eb => ⟨rfl, I.turned (t' := s.toks) (fun b o hb e => eb b o hb e) f0 f1 f3 f4 f5⟩
  self := fun _ _ _ _ _ st h => wpAny_pyIter_rangeiter st h
end L2
namespace L2
open PySem PySem.Spec PyProof.Rows
section
variable {X : Cx} {tg : Expr}
def iList (K : PySem.W.Frag) (tl : TE) : TI := fun σ H R => tl σ H fun x H1 => ∃ a, x = .ref a ∧ (∃ xs, SqL K H1 a xs) ∧ R (Itl K a) H1
def iTup (K : PySem.W.Frag) (tl : TE) : TI := fun σ H R => tl σ H fun x H1 => ∃ a, x = .ref a ∧ (∃ xs, SqT K H1 a xs) ∧ R (Itt K a) H1
theorem pi_list {l : Expr} {tl : TE} (hl : PE X l tl) : PI X tg l (iList X.K tl) := by
  intro pins s σ H R I h
  refine thn (hl pins s σ H _ I h) fun v s1 ⟨x, H1, I1, r1, q1⟩ => ?_
  obtain ⟨a, e, ⟨xs, hq⟩, q⟩ := q1
  subst e
  cases r1
  obtain ⟨its, rv, p, hz⟩ := I1.list hq
  refine wpAny_pyIter_list p.isList ?_
  refine ⟨s1.heap.objs.size, [s1.heap.objs.size], _, _, H1, rfl, I1.kept (t' := s1.toks) fun b o e => Heap.get?_push_of_some _ e, turn_list a _, ⟨_, Heap.get?_push_size _ rfl, rfl, rfl⟩, fun b hb => ?_, q⟩
  have e : b = s1.heap.objs.size := by simpa using hb
  subst e
  exact I1.fpOk (Nat.le_refl _) (I1.hok.fresh (Nat.le_refl _))
theorem pi_tup {l : Expr} {tl : TE} (hl : PE X l tl) : PI X tg l (iTup X.K tl) := by
  intro pins s σ H R I h
  refine thn (hl pins s σ H _ I h) fun v s1 ⟨x, H1, I1, r1, q1⟩ => ?_
  obtain ⟨a, e, ⟨xs, hq⟩, q⟩ := q1
  subst e
  cases r1
  obtain ⟨its, rv, p, hz⟩ := I1.tuple hq
  refine wpAny_pyIter_tuple (show s1.heap.IsTuple a its.toArray from p) ?_
  refine ⟨s1.heap.objs.size, [s1.heap.objs.size], _, _, H1, rfl, I1.kept (t' := s1.toks) fun b o e => Heap.get?_push_of_some _ e, turn_tuple a _, ⟨_, Heap.get?_push_size _ rfl, rfl, rfl⟩, fun b hb => ?_, q⟩
  have e : b = s1.heap.objs.size := by simpa using hb
  subst e
  exact I1.fpOk (Nat.le_refl _) (I1.hok.fresh (Nat.le_refl _))
theorem range_it {pins : List (Addr × Obj)} {σ : St} {H : Hp} {s : Shared} {R : It → Hp → Prop} {E : Value → Shared → Prop} {lo hi : Int} {t u v : Tok} {tk : Nat} (I : Inv X pins σ H s) (h1 : -(2 ^ 62) ≤ lo) (h2 : lo < 2 ^ 62) (h3 : -(2 ^ 62) ≤ hi) (h4 : hi < 2 ^ 62)
    (q : R (Itr lo (hi - lo).toNat) H) : wpAny (model X.prog X.w) X.A (pyIter (.ref s.heap.objs.size)) (PIE X pins σ tg R) E { s with heap := s.heap.push { cls := .type "range", data := .fields #[.int lo t, .int hi u, .int 1 v] }, toks := tk } := by
  refine wpAny_pyIter_range (IsRange.new ..) (small_one h1 h2 h3 h4) ?_
  have I1 : Inv X pins σ H { s with heap := s.heap.push { cls := .type "range", data := .fields #[.int lo t, .int hi u, .int 1 v] }, toks := tk } := I.kept fun b o e => Heap.get?_push_of_some _ e
  refine ⟨(s.heap.push { cls := .type "range", data := .fields #[.int lo t, .int hi u, .int 1 v] }).objs.size, [(s.heap.push { cls := .type "range", data := .fields #[.int lo t, .int hi u, .int 1 v] }).objs.size], _, _, H, rfl,
    I1.kept (t' := tk) fun b o e => Heap.get?_push_of_some _ e, turn_range _ lo (hi - lo).toNat, ?_, fun b hb => ?_, q⟩
  · have e1 : lo + ((0 : Nat) : Int) * 1 = lo := by simp
    have e2 : (((hi - lo).toNat : Nat) : Int) - ((0 : Nat) : Int) = Builtin.Range.rangeSize lo hi 1 := by rw [rangeSize_one]; split <;> lia
    show IsRangeIter _ _ (lo + ((0 : Nat) : Int) * 1) ((((hi - lo).toNat : Nat) : Int) - ((0 : Nat) : Int)) 1
    rw [e1, e2]
    exact Heap.get?_push_size _ rfl
  · have e : b = (s.heap.push { cls := .type "range", data := .fields #[.int lo t, .int hi u, .int 1 v] }).objs.size := by simpa using hb
    subst e
    exact I1.fpOk (Nat.le_refl _) (I1.hok.fresh (Nat.le_refl _))
def iRng1 (ta : TA) : TI := fun σ H R => ta σ H fun vs H1 => ∃ j : Int, vs = [.int j] ∧ -(2 ^ 62) ≤ j ∧ j < 2 ^ 62 ∧ R (Itr 0 j.toNat) H1
theorem pi_range1 {a : Expr} {ta : TA} {p pos : Pos} (hg : Gl X "range") (hm : X.mg "range" = none) (ha : PA X [a] ta) (hs : starEach [a] X.env = [(false, eval a X.env)] := by rfl) : PI X tg (.Call (.Name "range" p) [a] [] pos) (iRng1 ta) := by
  intro pins s σ H R I h
  refine Call_ (ld_blt I hg hm boot_range (PyProof.Rows.callWith_type1 (thn (ha pos pins s σ H _ I h) fun us s1 ⟨vs, H1, I1, r1, q1⟩ => ?_) hs rfl))
  obtain ⟨j, e, q1, q2, q⟩ := q1
  subst e
  cases r1 with
  | cons r rr =>
    cases rr
    obtain ⟨t, rfl⟩ := r
    exact call_range_1 (range_it I1 (by lia) (by lia) q1 q2 (by simpa using q))
def tFor (wi : TI) (g : TG) (tb : TS) : TS := fun D σ H => wi σ H fun J H1 => ∃ W : Nat → Nat → St → Hp → Prop, (∃ m, W 0 m σ H1) ∧ ∀ i m σ H, W i m σ H →
  (J.stop i H ∧ D.nx σ H) ∨ (J.go i H ∧ ∃ N : St → Hp → Prop, (∀ σ' H', N σ' H' → ∃ m', m' < m ∧ W (i + 1) m' σ' H') ∧ ∀ x H', J.yld i H x H' → g x σ H' fun σ2 H2 => tb { D with nx := N, ct := N, bk := D.nx } σ2 H2)
def pinsAt (fp : List Addr) (h : Heap) : List (Addr × Obj) := fp.filterMap fun b => (h.get? b).map fun o => (b, o)
theorem mem_pinsAt {fp : List Addr} {h : Heap} {b : Addr} {o : Obj} (hb : b ∈ fp) (e : h.get? b = some o) : (b, o) ∈ pinsAt fp h := List.mem_filterMap.mpr ⟨b, hb, by rw [e]; rfl⟩
theorem of_pinsAt {fp : List Addr} {h : Heap} {p : Addr × Obj} (hp : p ∈ pinsAt fp h) : p.1 ∈ fp ∧ h.get? p.1 = some p.2 := by
  obtain ⟨b, hb, e⟩ := List.mem_filterMap.mp hp
  cases q : h.get? b with
  | none => rw [q] at e; cases e
  | some o =>
    rw [q] at e
    have e' : (b, o) = p := Option.some.inj e
    subst e'
    exact ⟨hb, q⟩
theorem Inv.pinned {pins : List (Addr × Obj)} {σ : St} {H : Hp} {s : Shared} {fp : List Addr} (I : Inv X pins σ H s) (hf : ∀ b ∈ fp, FpOk X pins H b) (ho : ∀ b ∈ fp, ∃ o, s.heap.get? b = some o ∧ ∀ v, o.data ≠ .cell v) : Inv X (pins ++ pinsAt fp s.heap) σ H s :=
  I.pins_of fun p hp => (List.mem_append.mp hp).elim (fun z => I.pin p (List.mem_append_right _ z)) fun z => by
    obtain ⟨hb, e⟩ := of_pinsAt z
    obtain ⟨f0, f1, f2, _⟩ := hf p.1 hb
    obtain ⟨o, e', d⟩ := ho p.1 hb
    rw [e] at e'; cases e'
    exact ⟨e, f0, f1, f2, d⟩
theorem Inv.unpinned {pins pl : List (Addr × Obj)} {σ : St} {H : Hp} {s : Shared} (I : Inv X (pins ++ pl) σ H s) : Inv X pins σ H s := I.pins_of fun p hp => I.pin p (List.mem_append_right _ (List.mem_append_left _ hp))
theorem ps_for {iter : Expr} {body : List Stmt} {wi : TI} {g : TG} {tb : TS} {pos : Pos} (hp : PassesOwn (model X.prog X.w) X.A X.env X.xe) (hc : X.calm = true) (hi : PI X tg iter wi) (hg : PG X tg g) (hb : PSs X body tb)
    (hs : ∀ x, foldedSetIterable iter X.env x = pure x := by intro _; rfl) : PS X (.For tg iter body [] pos) (tFor wi g tb) := by
  intro pins s σ H D I h
  refine wpAny_For (thn (hi pins s σ H _ I h) fun v s1 h1 => thn h1 fun itv s2 h2 => ?_) hs
  obtain ⟨it, fp, tn, J, H2, e, I2, T, st2, f2, W, ⟨m0, w0⟩, turn⟩ := h2
  subst e
  have stat : ∀ {H' : Hp}, (∀ b ∈ fp, H' b = none) → ∀ b ∈ fp, FpOk X pins H' b := fun hn b hb => ⟨hn b hb, (f2 b hb).2⟩
  refine codeAny_forLoop_any (fun n s' => ∃ i σ' H', Inv X pins σ' H' s' ∧ tn i s'.heap ∧ (∀ b ∈ fp, H' b = none) ∧ W i n σ' H') ?_ m0 ⟨0, σ, H2, I2, st2, fun b hb => (f2 b hb).1, w0⟩
  rintro n s3 ⟨i, σ3, H3, I3, st3, fr3, w3⟩
  rcases turn i n σ3 H3 w3 with ⟨stop, qn⟩ | ⟨go, N, hN, step⟩
  · refine wpAny_passesOwn hp (thn (T.done X rfl rfl rfl hc i pins s3 σ3 H3 X.xe I3 (stat fr3) st3 stop) fun r s4 ⟨hr, I4⟩ => ?_)
    subst hr
    exact wpAny_execs_nil ⟨σ3, H3, I4, qn⟩
  · refine wpAny_passesOwn hp (thn (T.item X rfl rfl rfl hc i pins s3 σ3 H3 X.xe I3 (stat fr3) st3 go) fun r s4 ⟨u, hr, h4⟩ => ?_)
    subst hr
    refine wpAny_passesOwn hp (thn h4 fun _ s5 ⟨x, H5, I5, r5, y5, st5, fr5⟩ => ?_)
    have I5' := I5.pinned (stat fr5) (T.obj _ _ st5)
    refine wpAny_passesOwn hp (thn (hg _ s5 σ3 H5 x u _ I5' r5 (step x H5 y5)) fun _ s6 ⟨σ6, H6, I6, q6⟩ => ?_)
    refine wpAny_passesOwn hp (thn (hb _ s6 σ6 H6 _ I6 q6) fun f s7 q7 => ?_)
    have again : ∀ {σ7 : St} {H7 : Hp}, Inv X (pins ++ pinsAt fp s5.heap) σ7 H7 s7 → N σ7 H7 → ∃ m, m < n ∧ ∃ i σ' H', Inv X pins σ' H' s7 ∧ tn i s7.heap ∧ (∀ b ∈ fp, H' b = none) ∧ W i m σ' H' := fun {σ7 H7} I7 n7 => by
      obtain ⟨m', hm, w7⟩ := hN σ7 H7 n7
      refine ⟨m', hm, i + 1, σ7, H7, I7.unpinned, T.keep _ _ _ st5 fun b hb o e => (I7.pin (b, o) (List.mem_append_right _ (List.mem_append_right _ (mem_pinsAt hb e)))).1, fun b hb => ?_, w7⟩
      obtain ⟨o, e, d⟩ := T.obj _ _ st5 b hb
      exact (I7.pin (b, o) (List.mem_append_right _ (List.mem_append_right _ (mem_pinsAt hb e)))).2.1
    cases f with
    | next => obtain ⟨σ7, H7, I7, n7⟩ := q7; exact again I7 n7
    | cont => obtain ⟨σ7, H7, I7, n7⟩ := q7; exact again I7 n7
    | brk => obtain ⟨σ7, H7, I7, q7⟩ := q7; exact ⟨σ7, H7, I7.unpinned, q7⟩
    | ret v => obtain ⟨x7, σ7, H7, I7, r7, q7⟩ := q7; exact ⟨x7, σ7, H7, I7.unpinned, r7, q7⟩
end
end L2
namespace L2
open PySem PySem.Spec PyProof.Rows
abbrev R2 := V → V → Hp → VK → Prop
def OpR (X : Cx) (f : Value → Value → Sem Value) (r : R2) : Prop :=
  ∀ (pins : List (Addr × Obj)) (s : Shared) (σ : St) (H : Hp) (x y : V) (v u : Value) (Q : VK), Inv X pins σ H s → RelV x v → RelV y u → r x y H Q →
    wpAny (model X.prog X.w) X.A (f v u) (EP X pins σ Q) X.xe s
def CallR (X : Cx) (f : Value) (r : List V → Hp → VK → Prop) : Prop :=
  ∀ (pins : List (Addr × Obj)) (s : Shared) (σ : St) (H : Hp) (xs : List V) (us : List Value) (Q : VK), Inv X pins σ H s → Vals xs us → r xs H Q →
    wpAny (model X.prog X.w) X.A (call f us) (EP X pins σ Q) X.xe s
def rI (C : Int → Int → Prop) (g : Int → Int → V) : R2 := fun x y H Q => ∃ i j, x = .int i ∧ y = .int j ∧ C i j ∧ Q (g i j) H
def rI0 (g : Int → Int → V) : R2 := fun x y H Q => ∃ i j, x = .int i ∧ y = .int j ∧ Q (g i j) H
section
variable {X : Cx} {a b c : Expr} {ta tb tc : TE} {pos : Pos}
theorem opI {f : Value → Value → Sem Value} {C : Int → Int → Prop} {g : Int → Int → Int}
    (rule : ∀ (i j : Int) (t u : Tok) (s : Shared) (Q : Value → Shared → Prop) (E : Value → Shared → Prop), C i j → Q (.int (g i j) s.toks) { s with toks := s.toks + 1 } → wpAny (model X.prog X.w) X.A (f (.int i t) (.int j u)) Q E s) :
    OpR X f (rI C fun i j => .int (g i j)) := by
  intro pins s σ H x y v u Q I rx ry h
  obtain ⟨i, j, rfl, rfl, hc, q⟩ := h
  obtain ⟨t, rfl⟩ := rx
  obtain ⟨t', rfl⟩ := ry
  exact rule i j t t' s _ _ hc ⟨.int (g i j), H, I.tok _, ⟨_, rfl⟩, q⟩
theorem opI0 {f : Value → Value → Sem Value} {g : Int → Int → Int}
    (rule : ∀ (i j : Int) (t u : Tok) (s : Shared) (Q : Value → Shared → Prop) (E : Value → Shared → Prop), Q (.int (g i j) s.toks) { s with toks := s.toks + 1 } → wpAny (model X.prog X.w) X.A (f (.int i t) (.int j u)) Q E s) :
    OpR X f (rI0 fun i j => .int (g i j)) := by
  intro pins s σ H x y v u Q I rx ry h
  obtain ⟨i, j, rfl, rfl, q⟩ := h
  obtain ⟨t, rfl⟩ := rx
  obtain ⟨t', rfl⟩ := ry
  exact rule i j t t' s _ _ ⟨.int (g i j), H, I.tok _, ⟨_, rfl⟩, q⟩
theorem opB0 {f : Value → Value → Sem Value} {g : Int → Int → Bool}
    (rule : ∀ (i j : Int) (t u : Tok) (s : Shared) (Q : Value → Shared → Prop) (E : Value → Shared → Prop), Q (.bool (g i j)) s → wpAny (model X.prog X.w) X.A (f (.int i t) (.int j u)) Q E s) :
    OpR X f (rI0 fun i j => .bl (g i j)) := by
  intro pins s σ H x y v u Q I rx ry h
  obtain ⟨i, j, rfl, rfl, q⟩ := h
  obtain ⟨t, rfl⟩ := rx
  obtain ⟨t', rfl⟩ := ry
  exact rule i j t t' s _ _ ⟨.bl (g i j), H, I, rfl, q⟩
def CPow (i j : Int) : Prop := 0 ≤ j ∧ j ≤ 1000000 ∧ i.natAbs < 2 ^ 64
def CMul (i j : Int) : Prop := (-(2 ^ 64) < i ∧ i < 2 ^ 64) ∨ (-(2 ^ 64) < j ∧ j < 2 ^ 64)
theorem CMul.ok {i j : Int} (h : CMul i j) : IntMulOk i j := by
  rcases h with ⟨h1, h2⟩ | ⟨h1, h2⟩
  · exact .of_left (intBits_le_64 h1 h2)
  · exact .of_right (intBits_le_64 h1 h2)
theorem op_add : OpR X (binaryOp .Add) (rI0 fun i j => .int (i + j)) := opI0 fun _ _ _ _ _ _ _ q => add_int q
theorem op_mod : OpR X (binaryOp .Mod) (rI (fun _ j => 0 < j) fun i j => .int (i % j)) := opI fun i j _ _ _ _ _ hc q => by
  have h1 : (0 : Int) < j := hc
  exact mod_int' (by lia) (by rw [Int.fmod_eq_emod_of_nonneg i (by lia)]; exact q)
theorem op_pow : OpR X (binaryOp .Pow) (rI CPow fun i j => .int (i ^ j.toNat)) := opI fun _ _ _ _ _ _ _ hc q => pow_int_small hc.1 hc.2.1 hc.2.2 q
end
def scal : V → V → Bool
  | .non, .non => true | .non, .int _ => true | .int _, .non => true | .non, .bl _ => true | .bl _, .non => true | .non, .str _ => true | .str _, .non => true
  | .int _, .int _ => true | .bl _, .bl _ => true | .str _, .str _ => true | .byt _, .byt _ => true
  | .int _, .str _ => true | .str _, .int _ => true | .bl _, .str _ => true | .str _, .bl _ => true
  | _, _ => false
def rEq : R2 := fun x y H Q => scal x y = true ∧ Q (.bl (decide (x = y))) H
def rNe : R2 := fun x y H Q => scal x y = true ∧ Q (.bl (!decide (x = y))) H
theorem dec_int {i j : Int} : decide (V.int i = V.int j) = (i == j) := by
  rw [Bool.eq_iff_iff]
  simp
theorem dec_bl {i j : Bool} : decide (V.bl i = V.bl j) = (i == j) := by
  rw [Bool.eq_iff_iff]
  simp
theorem dec_str {i j : Str} : decide (V.str i = V.str j) = (i == j) := by
  rw [Bool.eq_iff_iff]
  simp
theorem dec_byt {i j : Array UInt8} : decide (V.byt i = V.byt j) = (i.toList == j.toList) := by
  rw [Bool.eq_iff_iff]
  cases i
  cases j
  simp
section
variable {X : Cx} {a b c : Expr} {ta tb tc : TE} {pos : Pos}
theorem fin_bl {pins : List (Addr × Obj)} {σ : St} {H : Hp} {s : Shared} {Q : VK} {k k' : Bool} (I : Inv X pins σ H s) (q : Q (.bl k) H) (e : k = k') : EP X pins σ Q (.bool k') s := by
  subst e
  exact ⟨.bl k, H, I, rfl, q⟩
theorem op_eq : OpR X (compareOp .Eq) rEq := by
  intro pins s σ H x y v u Q I rx ry h
  obtain ⟨hs, q⟩ := h
  cases x with
  | non =>
    cases rx
    cases y with
    | non => cases ry; exact PySem.EqNone.eq_none_none (fin_bl I q (by simp))
    | bl j => cases ry; exact PySem.EqNone.eq_none_bool (fin_bl I q (by simp))
    | int j => obtain ⟨t', rfl⟩ := ry; exact PySem.EqNone.eq_none_int (fin_bl I q (by simp))
    | str j => obtain ⟨t', rfl⟩ := ry; exact PySem.EqNone.eq_none_str (fin_bl I q (by simp))
    | _ => exact absurd (show false = true from hs) Bool.false_ne_true
  | bl i =>
    cases rx
    cases y with
    | non => cases ry; exact PySem.EqNone.eq_bool_none (fin_bl I q (by simp))
    | bl j => cases ry; exact eq_bool (fin_bl I q dec_bl)
    | str j => obtain ⟨t', rfl⟩ := ry; exact PySem.EqMixed.eq_bool_str (fin_bl I q (by simp))
    | _ => exact absurd (show false = true from hs) Bool.false_ne_true
  | int i =>
    obtain ⟨t, rfl⟩ := rx
    cases y with
    | non => cases ry; exact PySem.EqNone.eq_int_none (fin_bl I q (by simp))
    | int j => obtain ⟨t', rfl⟩ := ry; exact eq_int (fin_bl I q dec_int)
    | str j => obtain ⟨t', rfl⟩ := ry; exact PySem.EqMixed.eq_int_str (fin_bl I q (by simp))
    | _ => exact absurd (show false = true from hs) Bool.false_ne_true
  | str i =>
    obtain ⟨t, rfl⟩ := rx
    cases y with
    | non => cases ry; exact PySem.EqNone.eq_str_none (fin_bl I q (by simp))
    | bl j => cases ry; exact PySem.EqMixed.eq_str_bool (fin_bl I q (by simp))
    | int j => obtain ⟨t', rfl⟩ := ry; exact PySem.EqMixed.eq_str_int (fin_bl I q (by simp))
    | str j => obtain ⟨t', rfl⟩ := ry; exact eq_str (fin_bl I q dec_str)
    | _ => exact absurd (show false = true from hs) Bool.false_ne_true
  | byt i =>
    obtain ⟨t, rfl⟩ := rx
    cases y with
    | byt j => obtain ⟨t', rfl⟩ := ry; exact PySem.W.eq_bytes (fin_bl I q dec_byt)
    | _ => exact absurd (show false = true from hs) Bool.false_ne_true
  | _ => cases y <;> exact absurd (show false = true from hs) Bool.false_ne_true
theorem op_ne : OpR X (compareOp .NotEq) rNe := by
  intro pins s σ H x y v u Q I rx ry h
  obtain ⟨hs, q⟩ := h
  cases x with
  | non =>
    cases rx
    cases y with
    | non => cases ry; exact PySem.EqNone.ne_none_none (fin_bl I q (by simp))
    | bl j => cases ry; exact PySem.EqNone.ne_none_bool (fin_bl I q (by simp))
    | int j => obtain ⟨t', rfl⟩ := ry; exact PySem.EqNone.ne_none_int (fin_bl I q (by simp))
    | str j => obtain ⟨t', rfl⟩ := ry; exact PySem.EqNone.ne_none_str (fin_bl I q (by simp))
    | _ => exact absurd (show false = true from hs) Bool.false_ne_true
  | bl i =>
    cases rx
    cases y with
    | non => cases ry; exact PySem.EqNone.ne_bool_none (fin_bl I q (by simp))
    | bl j => cases ry; exact ne_bool (fin_bl I q (congrArg not dec_bl))
    | str j => obtain ⟨t', rfl⟩ := ry; exact PySem.EqMixed.ne_bool_str (fin_bl I q (by simp))
    | _ => exact absurd (show false = true from hs) Bool.false_ne_true
  | int i =>
    obtain ⟨t, rfl⟩ := rx
    cases y with
    | non => cases ry; exact PySem.EqNone.ne_int_none (fin_bl I q (by simp))
    | int j => obtain ⟨t', rfl⟩ := ry; exact ne_int (fin_bl I q (congrArg not dec_int))
    | str j => obtain ⟨t', rfl⟩ := ry; exact PySem.EqMixed.ne_int_str (fin_bl I q (by simp))
    | _ => exact absurd (show false = true from hs) Bool.false_ne_true
  | str i =>
    obtain ⟨t, rfl⟩ := rx
    cases y with
    | non => cases ry; exact PySem.EqNone.ne_str_none (fin_bl I q (by simp))
    | bl j => cases ry; exact PySem.EqMixed.ne_str_bool (fin_bl I q (by simp))
    | int j => obtain ⟨t', rfl⟩ := ry; exact PySem.EqMixed.ne_str_int (fin_bl I q (by simp))
    | str j => obtain ⟨t', rfl⟩ := ry; exact ne_str (fin_bl I q (congrArg not dec_str))
    | _ => exact absurd (show false = true from hs) Bool.false_ne_true
  | byt i =>
    obtain ⟨t, rfl⟩ := rx
    cases y with
    | byt j => obtain ⟨t', rfl⟩ := ry; exact PySem.W.ne_bytes (fin_bl I q (congrArg not dec_byt))
    | _ => exact absurd (show false = true from hs) Bool.false_ne_true
  | _ => cases y <;> exact absurd (show false = true from hs) Bool.false_ne_true
theorem op_lt : OpR X (compareOp .Lt) (rI0 fun i j => .bl (decide (i < j))) := opB0 fun _ _ _ _ _ _ _ q => lt_int q
theorem op_le : OpR X (compareOp .LtE) (rI0 fun i j => .bl (decide (i ≤ j))) := opB0 fun _ _ _ _ _ _ _ q => le_int q
theorem op_gt : OpR X (compareOp .Gt) (rI0 fun i j => .bl (decide (j < i))) := opB0 fun _ _ _ _ _ _ _ q => gt_int q
theorem op_ge : OpR X (compareOp .GtE) (rI0 fun i j => .bl (decide (j ≤ i))) := opB0 fun _ _ _ _ _ _ _ q => ge_int q
theorem op_in_str : OpR X (compareOp .In) (fun x y H Q => ∃ i j, x = .str i ∧ y = .str j ∧ Q (.bl (!(Builtin.Str.occurrences j i 0 j.length 1).isEmpty)) H) := by
  intro pins s σ H x y v u Q I rx ry h
  obtain ⟨i, j, rfl, rfl, q⟩ := h
  obtain ⟨t, rfl⟩ := rx
  obtain ⟨t', rfl⟩ := ry
  exact in_str (fin_bl I q rfl)
theorem op_isN : OpR X (compareOp .Is) (fun x y H Q => y = .non ∧ Q (.bl (decide (x = .non))) H) := by
  intro pins s σ H x y v u Q I rx ry h
  obtain ⟨rfl, q⟩ := h
  cases ry
  refine is_none_gen (fin_bl I q ?_)
  cases x <;> first
    | (cases rx; rfl)
    | (obtain ⟨t, rfl⟩ := rx; rfl)
theorem op_notin_str : OpR X (compareOp .NotIn) (fun x y H Q => ∃ i j, x = .str i ∧ y = .str j ∧ Q (.bl (!(!(Builtin.Str.occurrences j i 0 j.length 1).isEmpty))) H) := by
  intro pins s σ H x y v u Q I rx ry h
  obtain ⟨i, j, rfl, rfl, q⟩ := h
  obtain ⟨t, rfl⟩ := rx
  obtain ⟨t', rfl⟩ := ry
  exact notIn_str (fin_bl I q rfl)
theorem nomark (b : Expr) {op : CmpOp} (h : op ≠ .In := by decide) (h2 : op ≠ .NotIn := by decide) : behindInMarks op b = false := by
  have e1 : (op == CmpOp.In) = false := by cases op <;> first | rfl | exact absurd rfl h
  have e2 : (op == CmpOp.NotIn) = false := by cases op <;> first | rfl | exact absurd rfl h2
  cases b <;> simp [behindInMarks, e1, e2]
theorem line63 : (sizeLine : Nat) < 2 ^ 63 := by rw [sizeLine_eq]; decide
theorem op_add_str : OpR X (binaryOp .Add) (fun x y H Q => ∃ i j, x = .str i ∧ y = .str j ∧ i.length + j.length ≤ sizeLine ∧ Q (.str (i ++ j)) H) := by
  intro pins s σ H x y v u Q I rx ry h
  obtain ⟨i, j, rfl, rfl, hz, q⟩ := h
  obtain ⟨t, rfl⟩ := rx
  obtain ⟨t', rfl⟩ := ry
  exact add_str (fun t' tk => ⟨.str (i ++ j), H, I.tok _, ⟨_, rfl⟩, q⟩) hz
theorem vals1 {x : V} {us : List Value} (r : Vals [x] us) : ∃ u, us = [u] ∧ RelV x u := by
  cases r with
  | cons r1 r2 => cases r2; exact ⟨_, rfl, r1⟩
theorem vals2 {x y : V} {us : List Value} (r : Vals [x, y] us) : ∃ u w', us = [u, w'] ∧ RelV x u ∧ RelV y w' := by
  cases r with
  | cons r1 r2 =>
    cases r2 with
    | cons r3 r4 => cases r4; exact ⟨_, _, rfl, r1, r3⟩
theorem call_abs : CallR X (.builtin "abs") (fun xs H Q => ∃ i, xs = [.int i] ∧ Q (.int (if i < 0 then -i else i)) H) := by
  intro pins s σ H xs us Q I r h
  obtain ⟨i, rfl, q⟩ := h
  obtain ⟨u, rfl, t, rfl⟩ := vals1 r
  exact call_abs_int fun u tk => ⟨.int (if i < 0 then -i else i), H, I.tok _, ⟨_, rfl⟩, q⟩
theorem call_int1 : CallR X (.type "int") (fun xs H Q => (∃ i, xs = [.int i] ∧ Q (.int i) H) ∨ ∃ k, xs = [.bl k] ∧ Q (.int (if k then 1 else 0)) H) := by
  intro pins s σ H xs us Q I r h
  rcases h with ⟨i, rfl, q⟩ | ⟨k, rfl, q⟩
  · obtain ⟨u, rfl, t, rfl⟩ := vals1 r
    exact call_int_int ⟨.int i, H, I, ⟨_, rfl⟩, q⟩
  · obtain ⟨u, rfl, r1⟩ := vals1 r
    cases r1
    exact call_int_bool ⟨.int (if k then 1 else 0), H, I.tok _, ⟨_, rfl⟩, q⟩
end
end L2
namespace L2
open PySem PySem.Spec PyProof.Rows
section
variable {prog : Program} {w : World} {A : Around} {E : Value → Shared → Prop} {s : Shared} {K : PySem.W.Frag} {x dx C f : Addr} {mA : Str → Option Value} {name : Str} {v : Value}
end
theorem RelO.some_of {v : V} {o : Option Value} (r : RelO (some v) o) : ∃ u, o = some u ∧ RelV v u := by
  cases o with
  | none => exact (show False from r).elim
  | some u => exact ⟨u, rfl, r⟩
section
variable {P : Program} {w : World} {H H' : Hp} {h h' : Heap} {a C dx : Addr} {fs fs' : List (Str × V)}
end
section
variable {X : Cx} {pins : List (Addr × Obj)} {σ : St} {H : Hp} {s : Shared} {a C dx : Addr} {fs : List (Str × V)} {f : Str} {v : V} {A : Around} {E : Value → Shared → Prop}
theorem attr_of {prog : Program} {w : World} {env : Env} {e : Expr} {f : Str} {pos : Pos} {s : Shared} {Q : Value → Shared → Prop} (hb : attributeBase e f env (eval e env) = eval e env)
    (h : wpAny (model prog w) A (eval e env) (fun o s₁ => wpAny (model prog w) A (getAttr o f true) Q E s₁) E s) : wpAny (model prog w) A (eval (.Attribute e f pos) env) Q E s :=
  Attribute_any_ h (by rw [arm_eval_Attribute, hb])
end
section
variable {X : Cx} {o e value : Expr} {f : Str} {pos pos' tpos : Pos} {ta tv : TE}
end
section
variable {X : Cx} {pins : List (Addr × Obj)} {σ : St} {H : Hp} {s : Shared} {A : Around} {E : Value → Shared → Prop} {Q : Value → Shared → Prop} {c : Value} {b : Bool}
end
end L2
namespace L2
open PySem PySem.Spec PyProof.Rows
structure Room (k : Nat) (A : Around) : Prop where
  hd : A.handled = none
  dp : A.depth + 3 * k + 5 < recursionLimit
  un : A.units + 16 * k + 200 < cLine
  gd : A.guards = some []
theorem Room.mono {j k : Nat} {A : Around} (r : Room k A) (h : j ≤ k) : Room j A := ⟨r.hd, by have := r.dp; lia, by have := r.un; lia, r.gd⟩
theorem Room.deeper {k : Nat} {A : Around} (r : Room (k + 1) A) (env : Env) : Room k (A.deeper env) :=
  ⟨r.hd, by have := r.dp; show A.depth + 1 + 3 * k + 5 < _; lia, by have := r.un; show A.units + 3 + 16 * k + 200 < _; lia, r.gd⟩
theorem make_depth {A : Around} {C : Addr} {us : List Value} {kw : List (Str × Value)} : (A.under (.builtin "type.__call__" ⟨.ref C :: us, kw⟩)).depth = A.depth + 1 := by
  first | rfl | simp [Around.under, Code.weight, Code.isCreation, Code.isGuard, Code.isCaller, Code.frames, Code.isFrame, guardIds]
theorem make_units {A : Around} {C : Addr} {us : List Value} {kw : List (Str × Value)} : (A.under (.builtin "type.__call__" ⟨.ref C :: us, kw⟩)).units = A.units + 1 := by
  first | rfl | simp [Around.under, Code.cUnits, Code.frames, Code.isFrame]
theorem Room.make {k : Nat} {A : Around} (r : Room (k + 1) A) (C : Addr) (us : List Value) (kw : List (Str × Value)) : Room k (A.under (.builtin "type.__call__" ⟨.ref C :: us, kw⟩)) :=
  ⟨r.hd, by have := r.dp; rw [make_depth]; lia, by have := r.un; rw [make_units]; lia, by first | exact r.gd | (have h := r.gd; simpa [Around.under, Code.guards, Code.isGuard, guardIds, pushGuards] using h)⟩
theorem Room.depth {k : Nat} {A : Around} (r : Room k A) : A.depth < recursionLimit := by have := r.dp; lia
theorem Room.units {k : Nat} {A : Around} (r : Room k A) : A.units + 64 < cLine := by have := r.un; lia
section
variable {X : Cx} {e : Expr} {es : List Expr} {te : TE} {t : TA} {pos : Pos}
def tTup (t : TA) : TE := fun σ H Q => t σ H fun xs H1 => xs.length ≤ sizeLine ∧ ∀ p, H1 p = none → Q (.ref p) (upd H1 p (.tup xs))
def tLst (t : TA) : TE := fun σ H Q => t σ H fun xs H1 => xs.length ≤ sizeLine ∧ ∀ p, H1 p = none → Q (.ref p) (upd H1 p (.lst xs))
theorem pe_tup {x1} (h : PA X es t) : PE X (.Tuple es x1 pos) (tTup t) := by
  intro pins s σ H Q I hq
  refine wpAny_Tuple_spliced (thn (h pos pins s σ H _ I hq) fun us s1 ⟨xs, H1, I1, r, z, q⟩ => ⟨by rw [← r.length]; exact z, ?_⟩)
  have hf : H1 s1.heap.objs.size = none := I1.hok.fresh (Nat.le_refl _)
  refine ⟨.ref s1.heap.objs.size, upd H1 s1.heap.objs.size (.tup xs), I1.laid (t' := s1.toks) (fun b u e => Heap.get?_push_of_some _ e) (Nat.le_refl _) ?_, rfl, q _ hf⟩
  exact ⟨z, us, r, ⟨_, Heap.get?_push_size _ rfl, rfl, _, rfl⟩⟩
theorem pe_lst (h : PA X es t) : PE X (.List es pos) (tLst t) := by
  intro pins s σ H Q I hq
  refine wpAny_List_spliced (thn (h pos pins s σ H _ I hq) fun us s1 ⟨xs, H1, I1, r, z, q⟩ => ⟨by rw [← r.length]; exact z, ?_⟩)
  have hf : H1 s1.heap.objs.size = none := I1.hok.fresh (Nat.le_refl _)
  refine ⟨.ref s1.heap.objs.size, upd H1 s1.heap.objs.size (.lst xs), I1.laid (t' := s1.toks) (fun b u e => Heap.get?_push_of_some _ e) (Nat.le_refl _) ?_, rfl, q _ hf⟩
  exact ⟨z, us, 0, r, Heap.get?_push_size _ rfl⟩
end
abbrev Sp := List V → Hp → VK → XK → Prop
abbrev CXT := List Env → Hp → Shared → XK → Value → Shared → Prop
structure Env0 (P : Program) (w : World) (K : PySem.W.Frag) (mg : Str → Option Value) (base : Heap) (A : Around) (outer : List Env) (s : Shared) (H : Hp) : Prop where
  frames : A.frames = some outer
  mod : Mod K mg base
  bs : ∀ b o, base.get? b = some o → s.heap.get? b = some o ∧ H b = none
  bsz : base.objs.size ≤ s.heap.objs.size
  funs : s.heap.FunFrames base outer
  frf : ∀ b ∈ frs outer, H b = none
  hok : HOk P w H s.heap
  bare : AllBare s.gens
def CE (outer : List Env) (P : Program) (w : World) (H : Hp) (s : Shared) (Q : VK) (u : Value) (s' : Shared) : Prop :=
  ∃ v H', s'.os = s.os ∧ AllBare s'.gens ∧ Un (frs outer) [] H H' s.heap s'.heap ∧ HOk P w H' s'.heap ∧ RelV v u ∧ Q v H'
def CR (CX : CXT) (outer : List Env) (P : Program) (w : World) (H : Hp) (s : Shared) (Q : VK) (E : XK) (r : Result) (s' : Shared) : Prop :=
  match r with
  | .ok (.ret u) => CE outer P w H s Q u s'
  | .ok _ => False
  | .error e => CX outer H s E e s'
structure FnOk (P : Program) (w : World) (K : PySem.W.Frag) (mg : Str → Option Value) (base : Heap) (CX : CXT) (k : Nat) (f : Addr) (fd : FuncData) (ps : List Str) (sp : Sp) : Prop where
  len : ∀ vs H Q E, sp vs H Q E → vs.length = ps.length
  run : ∀ (A : Around) (outer : List Env) (s : Shared) (H : Hp) (args : Args) (us : List Value) (vs : List V) (Q : VK) (E : XK), Room k A → Env0 P w K mg base A outer s H → BindsTo s fd args (ps.zip us) → Vals vs us → sp vs H Q E →
    codeAny (model P w) A (.call (.ref f) args) (CR CX outer P w H s Q E) s
theorem Env0.make {P : Program} {w : World} {K : PySem.W.Frag} {mg : Str → Option Value} {base : Heap} {A : Around} {outer : List Env} {s : Shared} {H : Hp} (e : Env0 P w K mg base A outer s H) (C : Addr) (us : List Value) (kw : List (Str × Value)) :
    Env0 P w K mg base (A.under (.builtin "type.__call__" ⟨.ref C :: us, kw⟩)) outer s H := ⟨by first | exact e.frames | (simpa [Around.under, Code.envs, Code.isFrame, pushEnvs] using e.frames), e.mod, e.bs, e.bsz, e.funs, e.frf, e.hok, e.bare⟩
section
variable {X : Cx} {pins : List (Addr × Obj)} {σ : St} {H : Hp} {s s' : Shared}
theorem Inv.env0 (I : Inv X pins σ H s) : Env0 X.prog X.w X.K X.mg X.base X.A X.stack s H :=
  ⟨I.ok.frames, I.ok.mod, I.bs, Nat.le_trans I.ok.bsz I.sz, I.stack, I.stkFree, I.hok, I.bare⟩
theorem Inv.after {Q : VK} {u : Value} (I : Inv X pins σ H s) (h : CE X.stack X.prog X.w H s Q u s') : EP X pins σ Q u s' := by
  obtain ⟨v, H', os, bare, un, hok, r, q⟩ := h
  obtain ⟨hh, g, d, t, os'⟩ := s'
  obtain rfl : os' = s.os := os
  exact ⟨v, H', I.call (h' := hh) (g' := g) (d' := d) (t' := t) (ch := []) un hok bare (fun b z => absurd z (by simp)), r, q⟩
end
def tCall (sp : Sp) (dvs : List V) (E : XK) (t : TA) : TE := fun σ H Q => t σ H fun vs H1 => sp (vs ++ dvs) H1 Q E
def Binds (K : PySem.W.Frag) (fd : FuncData) (ps : List Str) (ds : List Value) : Prop :=
  ∀ (s : Shared) (us : List Value), K.In s.heap → (us ++ ds).length = ps.length → BindsTo s fd ⟨us, []⟩ (ps.zip (us ++ ds))
theorem Binds.all {K : PySem.W.Frag} {fd : FuncData} {ps : List Str} (h : ∀ us : List Value, us.length = ps.length → bindArgs fd ⟨us, []⟩ = pure (ps.zip us)) : Binds K fd ps [] := fun s us _ hl => by
  rw [List.append_nil] at hl ⊢
  exact .of_eq (h us hl)
def Passes (CX : CXT) (X : Cx) (E : XK) : Prop := ∀ (pins : List (Addr × Obj)) (σ : St) (H : Hp) (s : Shared) (e : Value) (s' : Shared), Inv X pins σ H s → CX X.stack H s E e s' → X.xe e s'
section
variable {X : Cx} {CX : CXT} {k : Nat} {f C : Addr} {fd : FuncData} {ps : List Str} {sp : Sp} {dvs : List V} {ds : List Value} {E : XK} {x m : Str} {p pos apos : Pos} {e o : Expr} {es : List Expr} {ta : TE} {t : TA}
theorem run_fn {pins : List (Addr × Obj)} {σ : St} {H : Hp} {s : Shared} {Q : VK} {us : List Value} {vs : List V} (F : FnOk X.prog X.w X.K X.mg X.base CX k f fd ps sp) (hr : Room k X.A) (hb : Binds X.K fd ps ds) (hd : Vals dvs ds) (hx : Passes CX X E)
    (I : Inv X pins σ H s) (r : Vals vs us) (h : sp (vs ++ dvs) H Q E) : wpAny (model X.prog X.w) X.A (call (.ref f) us) (EP X pins σ Q) X.xe s := by
  have r2 : Vals (vs ++ dvs) (us ++ ds) := r.append hd
  have hl : (us ++ ds).length = ps.length := by rw [← r2.length]; exact F.len _ _ _ _ h
  refine wpAny_call (codeAny_mono (F.run X.A X.stack s H ⟨us, []⟩ (us ++ ds) (vs ++ dvs) Q E hr I.env0 (hb s us I.kIn hl) r2 h) fun r s' hq => ?_)
  cases r with
  | error e => exact hx pins σ H s e s' I hq
  | ok fl =>
    cases fl with
    | ret u => exact I.after hq
    | next => exact False.elim hq
    | brk => exact False.elim hq
    | cont => exact False.elim hq
theorem pe_call (F : FnOk X.prog X.w X.K X.mg X.base CX k f fd ps sp) (hr : Room k X.A) (hg : Gl X x) (hm : X.mg x = some (.ref f)) (hk : PySem.W.keepIn X.K (.ref f) = true) (hb : Binds X.K fd ps ds) (hd : Vals dvs ds) (hx : Passes CX X E)
    (ha : PA X (e :: es) t) (hdb : (x == ("__debug__" : Str)) = false := by decide) (he : starEach (e :: es) X.env = (false, eval e X.env) :: starEach es X.env := by rfl) (hpl : (backTo pos (starEach es X.env)).any (·.1) = false := by rfl) :
    PE X (.Call (.Name x p) (e :: es) [] pos) (tCall sp dvs E t) := by
  intro pins s σ H Q I h
  refine wpAny_Call_Name_kw (ld_glob I hg hm ?_ hdb)
  refine PySem.W.callWith_K (h₀ := X.base) I.ok.mod.kin hk (thn (ha pos pins s σ H _ I h) fun us s1 ⟨vs, H1, I1, r, q⟩ => ⟨I1.kIn, ?_⟩) he hpl
  exact run_fn F hr hb hd hx I1 r q
end
section
variable {X : Cx} {CX : CXT} {k : Nat} {f C : Addr} {fd : FuncData} {ps ks : List Str} {sp : Sp} {E : XK} {x m : Str} {p pos apos kpos : Pos} {e o : Expr} {es : List Expr} {kws : List Keyword} {te ta : TE} {t tk : TA} {nm : Option Str}
variable {g : List Value → List Value → List Value} {gV : List V → List V → List V}
end
structure FnScope (N P : List Str) (sc : Scope) : Prop where
  kind : sc.kind = .function
  co : sc.isCoroutine = false
  gen : sc.isGenerator = false
  nd : N.Nodup
  pre : N.take P.length = P
  par : ∀ x ∈ P, sc.names.lookup x = some .local ∨ sc.names.lookup x = some .cell
  nofree : ∀ y ∈ sc.names, y.2 ≠ .free
theorem bindL_out {kindOf : Str → Option NameKind} {x : Str} : ∀ {binds : List (Str × Value)} {m : Str → Option Value}, (∀ v, (x, v) ∉ binds) → bindL kindOf binds m x = m x
  | [], _, _ => rfl
  | (n, v) :: r, m, h => by
    unfold bindL
    rw [bindL_out fun w hw => h w (List.mem_cons_of_mem _ hw)]
    split
    · have : x ≠ n := by rintro rfl; exact h v List.mem_cons_self
      simp [this]
    · rfl
theorem bindC_out {kindOf : Str → Option NameKind} {x : Str} : ∀ {binds : List (Str × Value)} {m : Str → Option Value}, (∀ v, (x, v) ∉ binds) → bindC kindOf binds m x = m x
  | [], _, _ => rfl
  | (n, v) :: r, m, h => by
    unfold bindC
    rw [bindC_out fun w hw => h w (List.mem_cons_of_mem _ hw)]
    split
    · rfl
    · have : x ≠ n := by rintro rfl; exact h v List.mem_cons_self
      simp [this]
theorem bindL_get {kindOf : Str → Option NameKind} {x : Str} {v : Value} : ∀ {P : List Str} {vs : List Value} {i : Nat} {m : Str → Option Value}, P.Nodup → P[i]? = some x → vs[i]? = some v → kindOf x = some .local →
    bindL kindOf (P.zip vs) m x = some v
  | [], _, _, _, _, h, _, _ => by simp at h
  | _ :: _, [], _, _, _, _, h, _ => by simp at h
  | p :: P, w :: vs, 0, m, nd, h1, h2, hk => by
    simp at h1 h2; subst h1; subst h2
    show bindL kindOf ((p, w) :: P.zip vs) m p = _
    unfold bindL
    rw [bindL_out fun v hv => (List.nodup_cons.mp nd).1 (List.of_mem_zip hv).1, if_pos hk]
    simp
  | p :: P, w :: vs, i + 1, m, nd, h1, h2, hk => by
    show bindL kindOf ((p, w) :: P.zip vs) m x = _
    unfold bindL
    exact bindL_get (i := i) (List.nodup_cons.mp nd).2 (by simpa using h1) (by simpa using h2) hk
theorem bindC_get {kindOf : Str → Option NameKind} {x : Str} {v : Value} : ∀ {P : List Str} {vs : List Value} {i : Nat} {m : Str → Option Value}, P.Nodup → P[i]? = some x → vs[i]? = some v → kindOf x ≠ some .local →
    bindC kindOf (P.zip vs) m x = some v
  | [], _, _, _, _, h, _, _ => by simp at h
  | _ :: _, [], _, _, _, _, h, _ => by simp at h
  | p :: P, w :: vs, 0, m, nd, h1, h2, hk => by
    simp at h1 h2; subst h1; subst h2
    show bindC kindOf ((p, w) :: P.zip vs) m p = _
    unfold bindC
    rw [bindC_out fun v hv => (List.nodup_cons.mp nd).1 (List.of_mem_zip hv).1, if_neg hk]
    simp
  | p :: P, w :: vs, i + 1, m, nd, h1, h2, hk => by
    show bindC kindOf ((p, w) :: P.zip vs) m x = _
    unfold bindC
    exact bindC_get (i := i) (List.nodup_cons.mp nd).2 (by simpa using h1) (by simpa using h2) hk
def start (N : List Str) (vs : List V) : St := vs.map some ++ List.replicate (N.length - vs.length) none
def cxOf (CX : CXT) (P : Program) (w : World) (K : PySem.W.Frag) (mg : Str → Option Value) (base : Heap) (N : List Str) (qual : Str) (scope : Scope) (f : Addr) (cd : Value) (A : Around) (outer : List Env) (s : Shared) (H : Hp) (E : XK) : Cx where
  prog := P
  w := w
  K := K
  mg := mg
  base := base
  A := A.deeper (envOfC qual scope s.heap.objs.size f cd)
  N := N
  s₀ := s
  H₀ := H
  env := envOfC qual scope s.heap.objs.size f cd
  outer := outer
  stack := envOfC qual scope s.heap.objs.size f cd :: outer
  ex := []
  calm := true
  fn := fun _ => true
  pn := []
  xe := fun e s' => wpAny (model P w) (A.deeper (envOfC qual scope s.heap.objs.size f cd)) (leaving (envOfC qual scope s.heap.objs.size f cd) e) (fun _ s'' => CX outer H s E e s'') (fun e' s'' => CX outer H s E e' s'') s'
theorem cell_has {sc : Scope} {n : Nat} {x : Str} (h : sc.names.lookup x = some .cell) : ∃ c, (cellsFrom n sc.names []).lookup x = some c := by
  have q := PySem.W.cellsFrom_some sc.names n [] (.inl h)
  exact Option.isSome_iff_exists.mp q
theorem inv_start {CX : CXT} {P : Program} {w : World} {K : PySem.W.Frag} {mg : Str → Option Value} {base : Heap} {N ps : List Str} {qual : Str} {scope : Scope} {f : Addr} {cd : Value} {A : Around} {outer : List Env} {s s1 : Shared} {H : Hp} {E : XK} {us : List Value} {vs : List V}
    (S : FnScope N ps scope) (hd : A.handled = none) (e0 : Env0 P w K mg base A outer s H) (hl : vs.length = ps.length) (r : Vals vs us)
    (x : InCallC s s.heap.objs.size (bindL (envOfC qual scope s.heap.objs.size f cd).kindOf (ps.zip us) fun _ => none) (cellsFrom (s.heap.objs.size + 1) scope.names []) (bindC (envOfC qual scope s.heap.objs.size f cd).kindOf (ps.zip us) fun _ => none) s1) :
    Inv (cxOf CX P w K mg base N qual scope f cd A outer s H E) [] (start N vs) H s1 := by
  have hpl : ps.length ≤ N.length := by have := congrArg List.length S.pre; rw [List.length_take] at this; lia
  obtain ⟨h1, tk, rfl, hk⟩ := x.done
  have noA : ∀ b : Addr, b ∉ (cxOf CX P w K mg base N qual scope f cd A outer s H E).ex := fun b z => absurd (show b ∈ ([] : List Addr) from z) (by simp)
  refine ⟨⟨e0.mod, S.kind, rfl, rfl, Nat.le_refl _, fun y z c h1 h2 => ?_, fun y hy => ?_, fun y c _ h => ?_, fun _ => hd, Around.frames_deeper e0.frames, .inr ⟨rfl, rfl⟩, fun b z => absurd z (noA b), e0.bs, e0.bsz, fun b _ _ => noA b, fun b z => absurd z (noA b), e0.funs, e0.frf⟩,
    rfl, e0.bare, Un.kept hk, ⟨_, x.toInCall.ns, fun i y v h1 h2 h3 => ?_⟩, fun y c h => ⟨_, x.cell y c h⟩, e0.hok.fresh (Nat.le_refl _), fun y c h => ?_, fun p hp => absurd (show p ∈ ([] : List (Addr × Obj)) from hp) (by simp), e0.hok.kept hk, ?_⟩
  · exact name_of_addr x.apart (PySem.mem_of_lookup h1) (PySem.mem_of_lookup h2)
  · have hy : scope.names.lookup y = some .cell ∨ scope.names.lookup y = some .free := hy
    rcases hy with hy | hy
    · exact cell_has hy
    · exact absurd rfl (S.nofree _ (PySem.mem_of_lookup hy))
  · exact Nat.le_of_lt (x.above y c (PySem.mem_of_lookup h))
  · have hi : i < vs.length := by
      unfold start at h2
      by_cases hi : i < vs.length
      · exact hi
      · rw [List.getElem?_append_right (by simpa using hi)] at h2
        rw [List.getElem?_replicate] at h2
        split at h2 <;> cases h2
    have ha : vs[i]? = some v := by
      unfold start at h2
      rw [List.getElem?_append_left (by simpa using hi), List.getElem?_map] at h2
      cases e : vs[i]? with
      | none => rw [e] at h2; cases h2
      | some a => rw [e] at h2; cases h2; rfl
    obtain ⟨u, hu, rv⟩ := r.get ha
    have hp : ps[i]? = some y := by
      rw [← S.pre, List.getElem?_take_of_lt (by lia)]; exact h1
    have ndP : ps.Nodup := by rw [← S.pre]; exact S.nd.sublist (List.take_sublist _ _)
    refine ⟨u, rv, ?_⟩
    rcases S.par y (List.mem_of_getElem? hp) with k | k
    · exact .inl ⟨k, bindL_get ndP hp hu k⟩
    · obtain ⟨c, e⟩ := cell_has (n := s.heap.objs.size + 1) k
      refine .inr ⟨.inl k, c, e, ?_⟩
      have q := x.cell y c e
      rw [bindC_get ndP hp hu (by show scope.names.lookup y ≠ _; rw [k]; decide)] at q
      exact q
  · exact e0.hok.fresh (Nat.le_of_lt (x.above y c (PySem.mem_of_lookup h)))
  · unfold start
    show _ = N.length
    rw [List.length_append, List.length_map, List.length_replicate]
    lia
theorem fn_of {CX : CXT} {P : Program} {w : World} {K : PySem.W.Frag} {mg : Str → Option Value} {base : Heap} {k : Nat} {f : Addr} {name qual : Str} {params : Arguments} {body : List Stmt} {scope : Scope} {dV kV doc pm cdv ct oc : Value} {an od : Option Addr}
    {osl : Array (Option Value)} {N ps : List Str} {sp : Sp} (lk : K.lookup f = some ⟨oc, od, .func (PySem.W.fnOf name qual params body scope dV kV doc pm an cdv ct), osl⟩) (hcd : PySem.W.codeIn K cdv qual = true) (S : FnScope N ps scope)
    (len : ∀ vs H Q E, sp vs H Q E → vs.length = ps.length)
    (hbody : ∀ (A : Around) (outer : List Env) (s : Shared) (H : Hp) (vs : List V) (Q : VK) (E : XK), Room k (A.deeper (envOfC qual scope s.heap.objs.size f cdv)) → sp vs H Q E →
      ∃ t, PSs (cxOf CX P w K mg base N qual scope f cdv A outer s H E) body t ∧ t { nx := fun _ H' => Q .non H', rt := Q } (start N vs) H) :
    FnOk P w K mg base CX (k + 1) f (PySem.W.fnOf name qual params body scope dV kV doc pm an cdv ct) ps sp := by
  refine ⟨len, fun A outer s H args us vs Q E hr e0 hb r hsp => ?_⟩
  have hl := len _ _ _ _ hsp
  have KX : K.In s.heap := e0.mod.kin.keeps fun b o e => (e0.bs b o e).1
  have lim : s.heap.NoLimit := e0.mod.nolimit.keeps fun b o e => (e0.bs b o e).1
  have hkind : ∀ y ∈ ps.zip us, scope.names.lookup y.1 = some .local ∨ (scope.names.lookup y.1 = some .cell ∧ ((cellsFrom (s.heap.objs.size + 1) scope.names []).lookup y.1).isSome = true) := fun ⟨n, v⟩ hy => by
    rcases S.par n (List.of_mem_zip hy).1 with q | q
    · exact .inl q
    · exact .inr ⟨q, PySem.W.cellsFrom_some _ _ _ (.inl q)⟩
  refine codeAny_call_function hr.depth (KX _ _ lk) rfl S.co S.gen rfl (PySem.W.codeRec_of KX hcd) (hb _ _ _ _ ?_)
  refine wpAny_newFunctionEnv_cells S.kind hkind fun env he s1 x => ?_
  subst he
  refine ⟨lim.keeps x.toInCall.keep, codeAny_func ?_⟩
  obtain ⟨t, ht, hq⟩ := hbody A outer s H vs Q E (hr.deeper _) hsp
  have I : Inv (cxOf CX P w K mg base N qual scope f cdv A outer s H E) [] (start N vs) H s1 := inv_start S hr.hd e0 hl r x
  refine wpAny_mono (ht [] s1 (start N vs) H _ I hq) (fun fl s' hs => ?_) fun e s' hs => hs
  have fin : ∀ {σ' : St} {H' : Hp} {v : V} {u : Value}, Inv (cxOf CX P w K mg base N qual scope f cdv A outer s H E) [] σ' H' s' → RelV v u → Q v H' → CE outer P w H s Q u s' :=
    fun {σ' H' v u} J rv q => ⟨v, H', J.os, J.bare, J.base, J.hok, rv, q⟩
  cases fl with
  | ret u =>
    obtain ⟨v, σ', H', J, rv, q⟩ := hs
    exact fin J rv q
  | next =>
    obtain ⟨σ', H', J, q⟩ := hs
    exact fin (v := V.non) (u := Value.none) J rfl q
  | brk =>
    obtain ⟨_, _, _, q⟩ := hs
    exact False.elim q
  | cont =>
    obtain ⟨_, _, _, q⟩ := hs
    exact False.elim q
end L2
namespace L2
open PySem PySem.Spec PyProof.Rows
section
variable {X : Cx} {x : Str} {p pos : Pos} {e : Expr} {es : List Expr} {t : TA} {id T : String} {r : List V → Hp → VK → Prop}
end
end L2
namespace HT
open PySem PyProof.Rows
section
open PySem.SeqAt
open PySem.AutoSeq1 (wpAny_loadPart')
open PySem.MeetsSeq PySem.MeetsSeq2 PySem.MeetsSeq3
end
section
variable {prog : Program} {w : World} {A : Around} {E : Value → Shared → Prop} {s : Shared}
def sIx (n d : Nat) : Option Int → Nat
  | none => d
  | some v => if v < 0 then (v + (n : Int)).toNat else min v.toNat n
theorem sIx_le (n d : Nat) (hd : d ≤ n) (o : Option Int) : sIx n d o ≤ n := by
  cases o with
  | none => exact hd
  | some v =>
    show (if v < 0 then (v + (n : Int)).toNat else min v.toNat n) ≤ n
    by_cases hv : v < 0
    · rw [if_pos hv]; lia
    · rw [if_neg hv]; exact Nat.min_le_right _ _
theorem clip_eq (v : Int) (n d : Nat) : (if v < 0 then max (v + (n : Int)) 0 else min v (n : Int)) = ((sIx n d (some v) : Nat) : Int) := by
  show (if v < 0 then max (v + (n : Int)) 0 else min v (n : Int)) = (((if v < 0 then (v + (n : Int)).toNat else min v.toNat n) : Nat) : Int)
  by_cases hv : v < 0
  · simp only [if_pos hv]; lia
  · simp only [if_neg hv]; lia
theorem adjust_gen (lo hi : Option Int) (n : Nat) : Builtin.Slice.sliceAdjust lo hi 1 (n : Int) = (((sIx n 0 lo : Nat) : Int), ((sIx n n hi : Nat) : Int)) := by
  have h1 : ¬ ((1 : Int) < 0) := by lia
  unfold Builtin.Slice.sliceAdjust
  simp only [h1, if_false]
  refine Prod.ext ?_ ?_
  · cases lo with
    | none => rfl
    | some v => exact clip_eq v n 0
  · cases hi with
    | none => rfl
    | some v => exact clip_eq v n n
theorem places_gen (i j : Nat) : Builtin.Slice.slicePlaces (i : Int) (j : Int) 1 = j - i := by
  unfold Builtin.Slice.slicePlaces
  have h1 : (1 : Int) > 0 := by lia
  simp only [h1, if_true, Int.ediv_one]
  split <;> lia
theorem slicePart_ {v : Value} {o : Option Int} {Q : Option Int → Shared → Prop} (p : IsPart v o) (h : Q o s) : wpAny (model prog w) A (Builtin.Slice.slicePartIndex v) Q E s := by
  cases p with
  | none => exact slicePart_none h
  | int i t => exact slicePart_int h
theorem sliceApplied_gen {sl : Addr} {vl vu : Value} {lo hi : Option Int} {n : Nat} {Q : Int × Int × Nat → Shared → Prop} (hs : s.heap.IsSliceOf sl vl vu .none) (pl : IsPart vl lo) (pu : IsPart vu hi)
    (h : Q (((sIx n 0 lo : Nat) : Int), 1, sIx n n hi - sIx n 0 lo) s) : wpAny (model prog w) A (Builtin.Slice.sliceApplied (.ref sl) (pure (n : Int))) Q E s := by
  obtain ⟨os, hos, hcs, hds⟩ := id hs
  unfold Builtin.Slice.sliceApplied Builtin.Slice.sliceFields
  refine wpAny_bind (wpAny_bind (wpAny_field hos hds (x := vl) rfl (wpAny_bind (wpAny_field hos hds (x := vu) rfl (wpAny_bind (wpAny_field hos hds (x := .none) rfl (wpAny_pure ?_)))))))
  refine wpAny_bind (slicePart_none ?_)
  show wpAny _ _ (if ((1 : Int) == 0) = true then _ else _) _ _ s
  rw [if_neg (by decide)]
  refine wpAny_bind (slicePart_ pl (wpAny_bind (slicePart_ pu (wpAny_bind (wpAny_pure ?_)))))
  show wpAny _ _ (match Builtin.Slice.sliceAdjust lo hi 1 (n : Int) with | (lo, hi) => pure (lo, (1 : Int), Builtin.Slice.slicePlaces lo hi 1)) _ _ s
  rw [adjust_gen lo hi n]
  show wpAny _ _ (pure (((sIx n 0 lo : Nat) : Int), (1 : Int), Builtin.Slice.slicePlaces ((sIx n 0 lo : Nat) : Int) ((sIx n n hi : Nat) : Int) 1)) _ _ s
  rw [places_gen]
  exact wpAny_pure h
theorem pick_gen (xs : Array Value) (i k : Nat) : ((List.range k).filterMap fun (m : Nat) => xs[((i : Int) + (m : Int) * 1).toNat]?).toArray = ((xs.toList.drop i).take k).toArray := by
  have e : (fun (m : Nat) => xs[((i : Int) + (m : Int) * 1).toNat]?) = fun m => xs[i + m]? := by
    funext m
    have : ((i : Int) + (m : Int) * 1).toNat = i + m := by lia
    rw [this]
  rw [e]
  have := pick_run xs i k
  rw [List.filterMap_map] at this
  have e2 : ((fun x => xs[x]?) ∘ fun x => i + x) = fun m => xs[i + m]? := rfl
  rw [e2] at this
  rw [this]
theorem getItem_tuple_cut {t sl : Addr} {items : Array Value} {vl vu : Value} {lo hi : Option Int} {Q : Value → Shared → Prop} (ht : IsTup s.heap t items) (hs : s.heap.IsSliceOf sl vl vu .none) (pl : IsPart vl lo) (pu : IsPart vu hi)
    (hw : ¬ (sIx items.size 0 lo = 0 ∧ sIx items.size items.size hi = items.size))
    (h : Q (.ref s.heap.objs.size) { s with heap := s.heap.push { cls := .type "tuple", data := .seq ((items.toList.drop (sIx items.size 0 lo)).take (sIx items.size items.size hi - sIx items.size 0 lo)).toArray } })
    (hsz : items.size ≤ sizeLine) : wpAny (model prog w) A (getItem (.ref t) (.ref sl)) Q E s := by
  have htake : sizeOk (.seq ((items.toList.drop (sIx items.size 0 lo)).take (sIx items.size items.size hi - sIx items.size 0 lo)).toArray) := by
    show ((items.toList.drop (sIx items.size 0 lo)).take (sIx items.size items.size hi - sIx items.size 0 lo)).toArray.size ≤ sizeLine
    rw [List.size_toArray, List.length_take, List.length_drop, Array.length_toList]
    lia
  have hj : sIx items.size items.size hi ≤ items.size := sIx_le _ _ (Nat.le_refl _) hi
  obtain ⟨os, hos, hcs, hds⟩ := id hs
  have hTs : s.TypeIs (.ref sl) "slice" := ⟨os, hos, hcs⟩
  unfold getItem
  try with_reducible refine wpAny_holding ?_
  first | refine wpAny_bind (wpAny_pure ?_) | skip
  refine wpAny_bind (wpAny_sequenceKey ht.typeIs (by decide) ?_)
  refine wpAny_bind (wpAny_callSpecial?_slot (name := Str.ofString "__getitem__") ht.typeIs PyProof.Rows.slot_tuple_getitem
    (wpAny_call_entry PyProof.Rows.slot_tuple_getitem ht.typeIs entry_tuple_getitem ?_ (args_tuple_getitem _ _)))
  show wpAny _ _ (Builtin.Tuple.tupleItemsOf (.ref t) >>= _) _ _ s
  refine wpAny_bind (tupleItemsOf_ ht ?_)
  refine wpAny_bind (wpAny_typeOf hTs ?_)
  rw [if_pos (by decide)]
  refine wpAny_bind (sliceApplied_gen hs pl pu ?_)
  have hno : ¬ ((((sIx items.size 0 lo : Nat) : Int) == 0 && (1 : Int) == 1 && (sIx items.size items.size hi - sIx items.size 0 lo) == items.size) = true) := by
    intro q
    rw [Bool.and_eq_true, Bool.and_eq_true] at q
    have q1 : ((sIx items.size 0 lo : Nat) : Int) = 0 := eq_of_beq q.1.1
    have q2 : sIx items.size items.size hi - sIx items.size 0 lo = items.size := eq_of_beq q.2
    exact hw ⟨by lia, by lia⟩
  show wpAny _ _ (if (((sIx items.size 0 lo : Nat) : Int) == 0 && (1 : Int) == 1 && (sIx items.size items.size hi - sIx items.size 0 lo) == items.size) = true then _ else _) _ _ s
  rw [if_neg hno, pick_gen]
  first
    | exact wpAny_bind (m := Builtin.Tuple.tupleExact _) (wpAny_newObj_type (wpAny_pure ⟨_, rfl, wpAny_pure h⟩) htake)
    | exact wpAny_bind (m := Builtin.Tuple.tupleExact _) (wpAny_newObj_type (wpAny_bind (wpAny_pure (wpAny_pure ⟨_, rfl, wpAny_pure h⟩))) htake)
    | exact wpAny_bind (wpAny_bind (m := Builtin.Tuple.tupleExact _) (wpAny_newObj_type (wpAny_pure (wpAny_pure ⟨_, rfl, wpAny_pure h⟩)) htake))
    | exact wpAny_bind (wpAny_bind (m := Builtin.Tuple.tupleExact _) (wpAny_newObj_type (wpAny_pure ⟨_, rfl, wpAny_pure h⟩) htake))
end
end HT
namespace L2
open PySem PySem.Spec PyProof.Rows
section
variable {X : Cx} {e : Expr} {te : TE} {lo hi : Option Expr} {tl th : TO} {pos p2 : Pos}
def SlR (X : Cx) (r : V → Option Int → Option Int → Hp → VK → Prop) : Prop :=
  ∀ (pins : List (Addr × Obj)) (s : Shared) (σ : St) (H : Hp) (x : V) (v vl vu : Value) (lo hi : Option Int) (sl : Addr) (Q : VK), Inv X pins σ H s → RelV x v → s.heap.IsSliceOf sl vl vu .none → IsPart vl lo → IsPart vu hi → r x lo hi H Q →
    ∃ T id, typeLookup (.type T) "__getitem__" = pure (some (.builtin id)) ∧ s.TypeIs v T ∧ wpAny (model X.prog X.w) X.A (getItem v (.ref sl)) (EP X pins σ Q) X.xe s
theorem SlR.or {r r' : V → Option Int → Option Int → Hp → VK → Prop} (h : SlR X r) (h' : SlR X r') : SlR X (fun x lo hi H Q => r x lo hi H Q ∨ r' x lo hi H Q) := by
  intro pins s σ H x v vl vu lo hi sl Q I rx hs pl pu q
  rcases q with q | q
  · exact h pins s σ H x v vl vu lo hi sl Q I rx hs pl pu q
  · exact h' pins s σ H x v vl vu lo hi sl Q I rx hs pl pu q
def cutV (xs : List V) (lo hi : Option Int) : List V := (xs.drop (HT.sIx xs.length 0 lo)).take (HT.sIx xs.length xs.length hi - HT.sIx xs.length 0 lo)
theorem cutV_length (xs : List V) (lo hi : Option Int) : (cutV xs lo hi).length ≤ xs.length := by
  unfold cutV
  rw [List.length_take, List.length_drop]
  lia
def rSlT (K : PySem.W.Frag) : V → Option Int → Option Int → Hp → VK → Prop := fun x lo hi H Q => ∃ a xs, x = .ref a ∧ SqT K H a xs ∧
  ¬ (HT.sIx xs.length 0 lo = 0 ∧ HT.sIx xs.length xs.length hi = xs.length) ∧ ∀ p, H p = none → Q (.ref p) (upd H p (.tup (cutV xs lo hi)))
theorem sl_tup : SlR X (rSlT X.K) := by
  intro pins s σ H x v vl vu lo hi sl Q I rx hs pl pu h
  obtain ⟨a, xs, rfl, hx, hw, q⟩ := h
  cases rx
  obtain ⟨its, r, ht, hz⟩ := I.tuple hx
  have hlen : its.toArray.size = xs.length := by rw [List.size_toArray]; exact r.length.symm
  refine ⟨"tuple", _, PyProof.Rows.slot_tuple_getitem.lookup, ht.typeIs, ?_⟩
  refine HT.getItem_tuple_cut ht hs pl pu (by rw [hlen]; exact hw) ?_ (by rw [hlen]; exact hz)
  rw [hlen]
  refine ⟨.ref s.heap.objs.size, _, I.laid (t' := s.toks) (o := .tup (cutV xs lo hi)) (fun b ob q => Heap.get?_push_of_some _ q) (Nat.le_refl _) ?_, rfl, q _ (I.hok.fresh (Nat.le_refl _))⟩
  exact ⟨Nat.le_trans (cutV_length xs lo hi) hz, _, (r.drop (HT.sIx xs.length 0 lo)).take (HT.sIx xs.length xs.length hi - HT.sIx xs.length 0 lo), IsTup.new _ _⟩
end
end L2
namespace L2
open PySem PySem.Spec PyProof.Rows
def ixN (n : Nat) (i : Int) : Option Nat := if 0 ≤ i then (if i < n then some i.toNat else none) else if -(n : Int) ≤ i then some (i + n).toNat else none
def atI {α : Type} (xs : List α) (i : Int) : Option α := (ixN xs.length i).bind fun j => xs[j]?
theorem ixN_seq {n : Nat} {i : Int} {j : Nat} (h : ixN n i = some j) : seqIndex? i n = some j ∧ j < n ∧ -(n : Int) ≤ i ∧ i < n := by
  unfold ixN at h
  by_cases h0 : 0 ≤ i
  · rw [if_pos h0] at h
    by_cases h1 : i < n
    · rw [if_pos h1] at h
      have e : i.toNat = j := Option.some.inj h
      exact ⟨by rw [seqIndex_of h0 h1, e], by lia, by lia, h1⟩
    · rw [if_neg h1] at h; cases h
  · rw [if_neg h0] at h
    by_cases h1 : -(n : Int) ≤ i
    · rw [if_pos h1] at h
      have e : (i + n).toNat = j := Option.some.inj h
      exact ⟨by rw [seqIndex_neg (by lia) h1, e], by lia, h1, by lia⟩
    · rw [if_neg h1] at h; cases h
theorem atI_get {α : Type} {xs : List α} {i : Int} {v : α} (h : atI xs i = some v) : ∃ j, seqIndex? i xs.length = some j ∧ xs[j]? = some v ∧ j < xs.length ∧ -(xs.length : Int) ≤ i ∧ i < xs.length := by
  unfold atI at h
  cases e : ixN xs.length i with
  | none => rw [e] at h; cases h
  | some j =>
    rw [e] at h
    obtain ⟨h1, h2, h3, h4⟩ := ixN_seq e
    exact ⟨j, h1, h, h2, h3, h4⟩
theorem atI_nat {α : Type} {xs : List α} {j : Nat} {v : α} (h : xs[j]? = some v) : atI xs (j : Int) = some v := by
  have hj : j < xs.length := (List.getElem?_eq_some_iff.mp h).1
  have e : ixN xs.length (j : Int) = some j := by
    unfold ixN
    rw [if_pos (by lia), if_pos (by lia)]; simp
  unfold atI; rw [e]; exact h
def PlainIx (b : Expr) : Prop := ∀ o i, subscripted b false o i = operate [o, i] (getItem o i)
def IxR (X : Cx) (r : R2) : Prop :=
  ∀ (value slice : Expr) (pins : List (Addr × Obj)) (s : Shared) (σ : St) (H : Hp) (x y : V) (v u : Value) (Q : VK), Inv X pins σ H s → RelV x v → RelV y u → r x y H Q →
    subscripted slice false v u = operate [v, u] (getItem v u) → wpAny (model X.prog X.w) X.A (subscriptTail value slice v u) (EP X pins σ Q) X.xe s
section
variable {X : Cx} {a b : Expr} {ta tb : TE} {pos : Pos}
theorem IxR.or {r r' : R2} (h : IxR X r) (h' : IxR X r') : IxR X (fun x y H Q => r x y H Q ∨ r' x y H Q) := by
  intro value slice pins s σ H x y v u Q I rx ry q hs
  rcases q with q | q
  · exact h value slice pins s σ H x y v u Q I rx ry q hs
  · exact h' value slice pins s σ H x y v u Q I rx ry q hs
def rIxL (K : PySem.W.Frag) : R2 := fun x y H Q => ∃ p xs i v, x = .ref p ∧ y = .int i ∧ SqL K H p xs ∧ atI xs i = some v ∧ Q v H
def rIxT (K : PySem.W.Frag) : R2 := fun x y H Q => ∃ p xs i v, x = .ref p ∧ y = .int i ∧ SqT K H p xs ∧ atI xs i = some v ∧ Q v H
def rIxS : R2 := fun x y H Q => ∃ z i c, x = .str z ∧ y = .int i ∧ z.length ≤ sizeLine ∧ atI z.cps.toList i = some c ∧ Q (.str ⟨#[c]⟩) H
theorem ix_list : IxR X (rIxL X.K) := by
  intro value slice pins s σ H x y v u Q I rx ry h hs
  obtain ⟨p, xs, i, z, rfl, rfl, hq, he, q⟩ := h
  cases rx
  obtain ⟨t, rfl⟩ := ry
  obtain ⟨its, r, pl, hz⟩ := I.list hq
  obtain ⟨j, h1, h2, h3, h4, h5⟩ := atI_get he
  obtain ⟨w, ew, rw'⟩ := r.get h2
  have hl := r.length
  have hn := line63
  have fin : EP X pins σ Q w s := ⟨z, H, I, rw', q⟩
  by_cases h0 : 0 ≤ i
  · have hj : i.toNat = j := by
      rw [seqIndex_of h0 h5] at h1
      exact Option.some.inj h1
    exact item_listR pl.isList h0 (by lia) (by rw [hj]; simpa using ew) fin hs
  · have hj : (i + (its.toArray.size : Int)).toNat = j := by
      rw [seqIndex_neg (by lia) h4] at h1
      rw [List.size_toArray, ← hl]
      exact Option.some.inj h1
    exact subscriptTail_builtinR (x := w) pl.isList.typeIs slot_list_getitem.lookup
      (wpAny_getItem_list_neg (Q := fun r s' => r = w ∧ EP X pins σ Q r s') pl.isList (by lia) (by rw [List.size_toArray] <;> lia) (by lia) (by rw [hj]; simpa using ew) ⟨rfl, fin⟩) hs
theorem ix_tup : IxR X (rIxT X.K) := by
  intro value slice pins s σ H x y v u Q I rx ry h hs
  obtain ⟨p, xs, i, z, rfl, rfl, hq, he, q⟩ := h
  cases rx
  obtain ⟨t, rfl⟩ := ry
  obtain ⟨its, r, pl, hz⟩ := I.tuple hq
  obtain ⟨j, h1, h2, h3, h4, h5⟩ := atI_get he
  obtain ⟨w, ew, rw'⟩ := r.get h2
  have hl := r.length
  have hn := line63
  have fin : EP X pins σ Q w s := ⟨z, H, I, rw', q⟩
  exact subscriptTail_builtinR (x := w) pl.typeIs slot_tuple_getitem.lookup
    (getItem_tuple (j := j) (Q := fun r s' => r = w ∧ EP X pins σ Q r s') pl (by lia) (by lia) (by rw [List.size_toArray, ← hl]; exact h1) (by simpa using ew) ⟨rfl, fin⟩) hs
theorem ix_str : IxR X rIxS := by
  intro value slice pins s σ H x y v u Q I rx ry h hs
  obtain ⟨z, i, c, rfl, rfl, hz, he, q⟩ := h
  obtain ⟨t, rfl⟩ := rx
  obtain ⟨t', rfl⟩ := ry
  obtain ⟨j, h1, h2, h3, h4, h5⟩ := atI_get he
  have hl : z.cps.toList.length = z.length := by simp [Str.length]
  rw [hl] at h1 h4 h5
  have hn := line63
  exact tail_any (typeIs_str s z t) slot_str_getitem.lookup (getItem_str (c := c) (by
    have e1 : decide (i < -(2 ^ 63 : Int)) = false := decide_eq_false (by lia)
    have e2 : decide (i ≥ 2 ^ 63) = false := decide_eq_false (by lia)
    rw [e1, e2, Bool.or_false]) (by rw [h1]; simpa using h2) ⟨.str ⟨#[c]⟩, H, I.tok _, ⟨_, rfl⟩, q⟩) hs
def rIx (K : PySem.W.Frag) : R2 := fun x y H Q => rIxL K x y H Q ∨ rIxT K x y H Q ∨ rIxS x y H Q
theorem ix_seq : IxR X (rIx X.K) := ix_list.or (ix_tup.or ix_str)
theorem slice_bounds (lo hi : Option Int) (n : Nat) : (sliceBounds lo hi none n).1 = ((HT.sIx n 0 lo : Nat) : Int) ∧ (sliceBounds lo hi none n).2.1 = ((HT.sIx n n hi : Nat) : Int) ∧ (sliceBounds lo hi none n).2.2 = 1 := by
  refine ⟨?_, ?_, rfl⟩
  · cases lo with
    | none => simp [sliceBounds, HT.sIx]
    | some i =>
      simp only [sliceBounds, HT.sIx, Option.getD_none, show (1 : Int) > 0 by decide, if_true]
      by_cases h : i < 0
      · simp only [h, if_true] <;> lia
      · simp only [h, if_false] <;> lia
  · cases hi with
    | none => simp [sliceBounds, HT.sIx]
    | some i =>
      simp only [sliceBounds, HT.sIx, Option.getD_none, show (1 : Int) > 0 by decide, if_true]
      by_cases h : i < 0
      · simp only [h, if_true] <;> lia
      · simp only [h, if_false] <;> lia
theorem slicePick_cut (its : List Value) (lo hi : Option Int) : slicePick its.toArray lo hi none = ((its.drop (HT.sIx its.length 0 lo)).take (HT.sIx its.length its.length hi - HT.sIx its.length 0 lo)).toArray := by
  obtain ⟨h1, h2, h3⟩ := slice_bounds lo hi its.toArray.size
  unfold slicePick
  rw [h1, h2, h3]
  simp only [sliceRange_one, pick_run, List.size_toArray] <;> rfl
def rSlL (K : PySem.W.Frag) : V → Option Int → Option Int → Hp → VK → Prop := fun x lo hi H Q => ∃ a xs, x = .ref a ∧ SqL K H a xs ∧ ∀ p, H p = none → Q (.ref p) (upd H p (.lst (cutV xs lo hi)))
theorem sl_list : SlR X (rSlL X.K) := by
  intro pins s σ H x v vl vu lo hi sl Q I rx hs pl pu h
  obtain ⟨a, xs, rfl, hx, q⟩ := h
  cases rx
  obtain ⟨its, r, ht, hz⟩ := I.list hx
  have hlen := r.length
  refine ⟨"list", _, slot_list_getitem.lookup, ht.isList.typeIs, ?_⟩
  refine wpAny_getItem_list_slice ht.isList hs pl pu .none (by simp) ?_ (by rw [List.size_toArray] <;> lia)
  rw [slicePick_cut, ← hlen]
  refine ⟨.ref s.heap.objs.size, _, I.laid (t' := s.toks) (o := .lst (cutV xs lo hi)) (fun b ob q => Heap.get?_push_of_some _ q) (Nat.le_refl _) ?_, rfl, q _ (I.hok.fresh (Nat.le_refl _))⟩
  exact ⟨Nat.le_trans (cutV_length xs lo hi) hz, _, 0, (r.drop (HT.sIx xs.length 0 lo)).take (HT.sIx xs.length xs.length hi - HT.sIx xs.length 0 lo), Heap.get?_push_size _ rfl⟩
def flatV : V → Bool
  | .non => true
  | .bl _ => true
  | .int _ => true
  | .str _ => true
  | _ => false
def eqV : V → V → Bool
  | .non, .non => true
  | .bl a, .bl b => a == b
  | .bl a, .int b => (if a then 1 else 0) == b
  | .int a, .bl b => a == (if b then 1 else 0)
  | .int a, .int b => a == b
  | .str a, .str b => a == b
  | _, _ => false
theorem eqAt_V {A : Around} {s : Shared} {y x : V} {u v : Value} (ry : RelV y u) (rx : RelV x v) (fy : flatV y = true) (fx : flatV x = true) : SeqAt.EqAt A s u v (eqV y x) := by
  cases y with
  | non =>
    cases ry
    cases x with
    | non => cases rx; exact SeqAt.EqAt.same _
    | bl b => cases rx; exact SeqAt.EqAt.none_bool b
    | int b => obtain ⟨t, rfl⟩ := rx; exact SeqAt.EqAt.none_int b t
    | str b => obtain ⟨t, rfl⟩ := rx; exact SeqAt.EqAt.none_str b t
    | _ => exact absurd (show false = true from fx) Bool.false_ne_true
  | bl a =>
    cases ry
    cases x with
    | non => cases rx; exact SeqAt.EqAt.bool_none a
    | bl b => cases rx; exact SeqAt.EqAt.bool_bool a b
    | int b => obtain ⟨t, rfl⟩ := rx; exact SeqAt.EqAt.bool_int a b t
    | str b => obtain ⟨t, rfl⟩ := rx; exact SeqAt.EqAt.bool_str a b t
    | _ => exact absurd (show false = true from fx) Bool.false_ne_true
  | int a =>
    obtain ⟨t', rfl⟩ := ry
    cases x with
    | non => cases rx; exact SeqAt.EqAt.int_none a t'
    | bl b => cases rx; exact SeqAt.EqAt.int_bool a t' b
    | int b => obtain ⟨t, rfl⟩ := rx; exact SeqAt.EqAt.int_int a t' b t
    | str b => obtain ⟨t, rfl⟩ := rx; exact SeqAt.EqAt.int_str a t' b t
    | _ => exact absurd (show false = true from fx) Bool.false_ne_true
  | str a =>
    obtain ⟨t', rfl⟩ := ry
    cases x with
    | non => cases rx; exact SeqAt.EqAt.str_none a t'
    | bl b => cases rx; exact SeqAt.EqAt.str_bool a t' b
    | int b => obtain ⟨t, rfl⟩ := rx; exact SeqAt.EqAt.str_int a t' b t
    | str b => obtain ⟨t, rfl⟩ := rx; exact SeqAt.EqAt.str_str a t' b t
    | _ => exact absurd (show false = true from fx) Bool.false_ne_true
  | _ => exact absurd (show false = true from fy) Bool.false_ne_true
def eqU (x : V) (u : Value) : Bool := match u with
  | .none => eqV .non x
  | .bool b => eqV (.bl b) x
  | .int i _ => eqV (.int i) x
  | .str z _ => eqV (.str z) x
  | _ => false
theorem eqU_of {x y : V} {u : Value} (r : RelV y u) (f : flatV y = true) : eqU x u = eqV y x := by
  cases y with
  | non => cases r; rfl
  | bl b => cases r; rfl
  | int i => obtain ⟨t, rfl⟩ := r; rfl
  | str z => obtain ⟨t, rfl⟩ := r; rfl
  | _ => exact absurd (show false = true from f) Bool.false_ne_true
theorem any_eqU {x : V} : ∀ {xs : List V} {us : List Value}, Vals xs us → xs.all flatV = true → us.any (eqU x) = xs.any fun y => eqV y x
  | _, _, .nil, _ => rfl
  | y :: xs, u :: us, .cons r t, f => by
    rw [List.all_cons, Bool.and_eq_true] at f
    rw [List.any_cons, List.any_cons, eqU_of r f.1, any_eqU t f.2]
theorem mem_eqAt {A : Around} {s : Shared} {x : V} {v : Value} (rx : RelV x v) (fx : flatV x = true) : ∀ {xs : List V} {us : List Value}, Vals xs us → xs.all flatV = true → ∀ u ∈ us, SeqAt.EqAt A s u v (eqU x u)
  | _, _, .nil, _ => fun u hu => by cases hu
  | y :: xs, u :: us, .cons r t, f => fun u' hu => by
    rw [List.all_cons, Bool.and_eq_true] at f
    rcases List.mem_cons.mp hu with rfl | hu
    · rw [eqU_of r f.1]; exact eqAt_V r rx f.1 fx
    · exact mem_eqAt rx fx t f.2 u' hu
def inV (x : V) (xs : List V) : Bool := xs.any fun y => eqV y x
def rIn (K : PySem.W.Frag) (neg : Bool) : R2 := fun x y H Q => ∃ p xs, y = .ref p ∧ (SqL K H p xs ∨ SqT K H p xs) ∧ flatV x = true ∧ xs.all flatV = true ∧ Q (.bl (if neg then !inV x xs else inV x xs)) H
theorem op_in_seq : OpR X (compareOp .In) (rIn X.K false) := by
  intro pins s σ H x y v u Q I rx ry h
  obtain ⟨p, xs, rfl, hq, fx, fs, q⟩ := h
  cases ry
  rcases hq with hq | hq
  · obtain ⟨its, r, pl, hz⟩ := I.list hq
    refine SeqAt.in_listAt (eqU x) pl.isList (fun w hw => mem_eqAt rx fx r fs w (by simpa using hw)) ⟨.bl _, H, I, rfl, ?_⟩
    rw [show its.toArray.any (eqU x) = its.any (eqU x) by simp, any_eqU r fs]
    exact q
  · obtain ⟨its, r, pl, hz⟩ := I.tuple hq
    refine SeqAt.in_tupleAt (eqU x) pl (fun w hw => mem_eqAt rx fx r fs w (by simpa using hw)) ⟨.bl _, H, I, rfl, ?_⟩
    rw [show its.toArray.any (eqU x) = its.any (eqU x) by simp, any_eqU r fs]
    exact q
theorem op_notIn_seq : OpR X (compareOp .NotIn) (rIn X.K true) := by
  intro pins s σ H x y v u Q I rx ry h
  obtain ⟨p, xs, rfl, hq, fx, fs, q⟩ := h
  cases ry
  rcases hq with hq | hq
  · obtain ⟨its, r, pl, hz⟩ := I.list hq
    refine SeqAt.notIn_listAt (eqU x) pl.isList (fun w hw => mem_eqAt rx fx r fs w (by simpa using hw)) ⟨.bl _, H, I, rfl, ?_⟩
    rw [show its.toArray.any (eqU x) = its.any (eqU x) by simp, any_eqU r fs]
    exact q
  · obtain ⟨its, r, pl, hz⟩ := I.tuple hq
    refine SeqAt.notIn_tupleAt (eqU x) pl (fun w hw => mem_eqAt rx fx r fs w (by simpa using hw)) ⟨.bl _, H, I, rfl, ?_⟩
    rw [show its.toArray.any (eqU x) = its.any (eqU x) by simp, any_eqU r fs]
    exact q
theorem call_len_seq : CallR X (.builtin "len") (fun xs H Q => ∃ p ys, xs = [.ref p] ∧ (SqL X.K H p ys ∨ SqT X.K H p ys) ∧ Q (.int ys.length) H) := by
  intro pins s σ H xs us Q I r h
  obtain ⟨p, ys, rfl, hq, q⟩ := h
  obtain ⟨u, rfl, rx⟩ := vals1 r
  cases rx
  have hn := line63
  rcases hq with hq | hq
  · obtain ⟨its, r', pl, hz⟩ := I.list hq
    have hlen := r'.length
    exact Calls.call_len_list pl.isList (by simp only [List.size_toArray] <;> lia) ⟨.int ys.length, H, I.tok _, ⟨s.toks + 1, by rw [List.size_toArray, hlen]⟩, q⟩
  · obtain ⟨its, r', pl, hz⟩ := I.tuple hq
    have hlen := r'.length
    exact len_tuple pl (by simp only [List.size_toArray] <;> lia) ⟨.int ys.length, H, I.tok _, ⟨s.toks + 1, by rw [List.size_toArray, hlen]⟩, q⟩
theorem call_len_str : CallR X (.builtin "len") (fun xs H Q => ∃ z, xs = [.str z] ∧ z.length ≤ sizeLine ∧ Q (.int z.length) H) := by
  intro pins s σ H xs us Q I r h
  obtain ⟨z, rfl, hz, q⟩ := h
  obtain ⟨u, rfl, t, rfl⟩ := vals1 r
  have hn := line63
  exact len_str (by lia) ⟨.int z.length, H, I.tok _, ⟨_, rfl⟩, q⟩
theorem CallR.or {f : Value} {r r' : List V → Hp → VK → Prop} (h : CallR X f r) (h' : CallR X f r') : CallR X f (fun xs H Q => r xs H Q ∨ r' xs H Q) := by
  intro pins s σ H xs us Q I rs q
  rcases q with q | q
  · exact h pins s σ H xs us Q I rs q
  · exact h' pins s σ H xs us Q I rs q
theorem call_list_of : CallR X (.type "list") (fun xs H Q => ∃ p ys, xs = [.ref p] ∧ (SqL X.K H p ys ∨ SqT X.K H p ys) ∧ ∀ l, H l = none → Q (.ref l) (upd H l (.lst ys))) := by
  intro pins s σ H xs us Q I r h
  obtain ⟨p, ys, rfl, hq, q⟩ := h
  obtain ⟨u, rfl, rx⟩ := vals1 r
  cases rx
  have fin : ∀ (its : List Value), Vals ys its → ys.length ≤ sizeLine → ∀ (h' : Heap) (c' : Nat), (∀ b o', s.heap.get? b = some o' → h'.get? b = some o') →
      h'.get? s.heap.objs.size = some { cls := .type "list", dict := none, data := .seq its.toArray c', slots := #[] } → EP X pins σ Q (.ref s.heap.objs.size) { s with heap := h' } := fun its r' hz h' c' kp e =>
    ⟨.ref s.heap.objs.size, _, I.laid (t' := s.toks) kp (Nat.le_refl _) (show ObjOk X.prog X.w _ h' _ (.lst ys) from ⟨hz, its, c', r', e⟩), rfl, q _ (I.hok.fresh (Nat.le_refl _))⟩
  rcases hq with hq | hq
  · obtain ⟨its, r', pl, hz⟩ := I.list hq
    have hlen := r'.length
    obtain ⟨o, ho, hc, n, hd⟩ := pl.isList
    exact call_list_seq p (.inl rfl) ho hc hd (fun h' c' kp e => fin its r' hz h' c' kp e) (by simp only [List.size_toArray] <;> lia)
  · obtain ⟨its, r', pl, hz⟩ := I.tuple hq
    have hlen := r'.length
    obtain ⟨o, ho, hc, n, hd⟩ := pl
    exact call_list_seq p (.inr rfl) ho hc hd (fun h' c' kp e => fin its r' hz h' c' kp e) (by simp only [List.size_toArray] <;> lia)
def tyV (K : PySem.W.Frag) (T : String) (x : V) (H : Hp) : Prop := match x with
  | .str _ => T = "str"
  | .int _ => T = "int"
  | .ref p => (T = "list" ∧ ∃ xs, SqL K H p xs) ∨ (T = "tuple" ∧ ∃ o, K.lookup p = some o ∧ o.cls = .type "tuple" ∧ o.dict = none) ∨
      (T = "dict" ∧ ((∃ kvs, H p = some (.dK kvs)) ∨ ∃ kvs, H p = some (.dT kvs))) ∨ (T = "set" ∧ ∃ S n, H p = some (.set S n))
  | _ => False
theorem tyV_is {pins : List (Addr × Obj)} {σ : St} {H : Hp} {s : Shared} {T : String} {x : V} {v : Value} (I : Inv X pins σ H s) (r : RelV x v) (ty : tyV X.K T x H) :
    s.TypeIs v T ∧ ∀ a, v = .ref a → ∃ ob, s.heap.get? a = some ob ∧ ob.dict = none := by
  cases x with
  | str z =>
    obtain ⟨t, rfl⟩ := r
    cases (show T = "str" from ty)
    exact ⟨typeIs_str s z t, fun _ e => nomatch e⟩
  | int i =>
    obtain ⟨t, rfl⟩ := r
    cases (show T = "int" from ty)
    exact ⟨typeIs_int s i t, fun _ e => nomatch e⟩
  | ref p =>
    cases r
    rcases ty with ⟨rfl, xs, hq⟩ | ⟨rfl, o, hk, hc, hd⟩ | ⟨rfl, hk⟩ | ⟨rfl, S, n, hk⟩
    · obtain ⟨its, _, pl, _⟩ := I.list hq
      refine ⟨pl.isList.typeIs, fun a e => ?_⟩
      cases e
      obtain ⟨o, n, e, c, hd, _⟩ := pl
      exact ⟨o, e, hd⟩
    · refine ⟨⟨o, I.kIn p o hk, hc⟩, fun a e => ?_⟩
      cases e
      exact ⟨o, I.kIn _ o hk, hd⟩
    · have z : ∃ o, s.heap.get? p = some o ∧ o.ExactDict := by
        rcases hk with ⟨kvs, hk⟩ | ⟨kvs, hk⟩
        · obtain ⟨_, _, _, _, o, _, _, e, ex, _⟩ := I.hok p _ hk
          exact ⟨o, e, ex⟩
        · obtain ⟨_, _, _, _, o, _, _, e, ex, _⟩ := I.hok p _ hk
          exact ⟨o, e, ex⟩
      obtain ⟨o, e, ex⟩ := z
      refine ⟨⟨o, e, ex.1⟩, fun a e2 => ?_⟩
      cases e2
      exact ⟨o, e, ex.2.1⟩
    · obtain ⟨o, _, _, _, e, ex, _⟩ := I.hok p _ hk
      refine ⟨⟨o, e, ex.1⟩, fun a e2 => ?_⟩
      cases e2
      exact ⟨o, e, ex.2.1⟩
  | _ => exact False.elim ty
variable {o e : Expr} {es : List Expr} {to : TE} {t : TA} {name : Str} {apos cpos : Pos} {T id : String} {r : V → List V → Hp → VK → Prop}
end
end L2
namespace L2
open PySem PySem.Spec PyProof.Rows
def MtM (X : Cx) (id : String) (r : V → List V → Hp → VK → Prop) : Prop :=
  ∀ (pins : List (Addr × Obj)) (s : Shared) (σ : St) (H : Hp) (x : V) (xs : List V) (v : Value) (us : List Value) (Q : VK), Inv X pins σ H s → RelV x v → Vals xs us → r x xs H Q →
    wpAny (model X.prog X.w) X.A (call (.builtin id) (v :: us)) (EP X pins σ Q) X.xe s
theorem Vals.one : ∀ {x : V} {us : List Value}, Vals [x] us → ∃ u, us = [u] ∧ RelV x u
  | _, _, .cons r .nil => ⟨_, rfl, r⟩
section
variable {X : Cx} {pins : List (Addr × Obj)} {σ : St} {H : Hp} {s : Shared} {l b : Addr} {xs ys zs : List V}
theorem Inv.lset {its its' : List Value} {n : Nat} {f : Array Value → Array Value} {t' : Nat} (I : Inv X pins σ H s) (hH : H l = some (.lst xs))
    (e : s.heap.get? l = some { cls := .type "list", data := .seq its.toArray n }) (hf : f its.toArray = its'.toArray) (hv : Vals ys its') (hz : ys.length ≤ sizeLine) :
    Inv X pins σ (upd H l (.lst ys)) { s with heap := s.heap.update l (Obj.mapSeq f), toks := t' } := by
  have q := PySem.IsL.update e f
  rw [hf] at q
  refine I.write (x := l) (e := l) (by rw [hH]; exact trivial) (.inl rfl) (fun b' u hb hu => (Heap.get?_update_other s.heap (Obj.mapSeq f) (Ne.symm hb)).trans hu) ⟨_, q⟩ ?_
  exact ⟨hz, its', _, hv, q⟩
theorem Inv.lnew {its : List Value} {t' : Nat} (I : Inv X pins σ H s) (hv : Vals ys its) (hz : ys.length ≤ sizeLine) :
    Inv X pins σ (upd H s.heap.objs.size (.lst ys)) { s with heap := s.heap.push { cls := .type "list", data := .seq its.toArray }, toks := t' } :=
  I.laid (fun _ _ q => Heap.get?_push_of_some _ q) (Nat.le_refl _) ⟨hz, its, 0, hv, Heap.get?_push_size _ rfl⟩
theorem Inv.fresh (I : Inv X pins σ H s) : H s.heap.objs.size = none := I.hok.fresh (Nat.le_refl _)
theorem Inv.lstM (I : Inv X pins σ H s) (hH : H l = some (.lst xs)) : xs.length ≤ sizeLine ∧ ∃ (its : List Value) (n : Nat), Vals xs its ∧ xs.length = its.length ∧ s.heap.get? l = some { cls := .type "list", data := .seq its.toArray n } := by
  obtain ⟨z, its, n, r, e⟩ := I.hok l _ hH
  exact ⟨z, its, n, r, r.length, e⟩
end
section
variable {X : Cx}
def rAppend : V → List V → Hp → VK → Prop := fun x vs H Q => ∃ l xs y, x = .ref l ∧ vs = [y] ∧ H l = some (.lst xs) ∧ xs.length < sizeLine ∧ Q .non (upd H l (.lst (xs ++ [y])))
theorem mt_append : MtM X "list.append" rAppend := by
  intro pins s σ H x vs v us Q I rx rv h
  obtain ⟨l, xs, y, rfl, rfl, hH, hz, q⟩ := h
  cases rx
  obtain ⟨u, rfl, ru⟩ := rv.one
  obtain ⟨z, its, n, r, hl, e⟩ := I.lstM hH
  refine call_meets F.slot_list_append ⟨_, e, rfl⟩ F.entry_list_append (F.args_list_append_2 _ _) (PySem.list_append l its.toArray n u (by rw [List.size_toArray]; lia)) ⟨e, ?_⟩
  refine ⟨.non, _, I.lset (its' := its ++ [u]) hH e (by simp) (r.append (.cons ru .nil)) ?_, rfl, q⟩
  rw [List.length_append, List.length_singleton]
  lia
end
section
variable {prog : Program} {w : World} {A : Around} {E : Value → Shared → Prop} {s : Shared}
end
section
variable {X : Cx}
end
end L2
namespace Att
open PySem PySem.W PySem.Calls PyProof.Rows
theorem ints_of_wellAll {P : Params} {h : Heap} : ∀ (ns : List Int) (vs : List Value), WellAll P h vs (ns.map WData.int) → IntsAre vs ns := by
  intro ns
  induction ns with
  | nil =>
    intro vs w
    rw [List.map_nil] at w
    cases w
    exact .nil
  | cons n ns ih =>
    intro vs w
    rw [List.map_cons] at w
    cases w with
    | cons a b =>
      cases a
      exact .cons _ _ (ih _ b)
theorem script_of {l : OpenLaw} {n : Nat} (hn : l.most = some n) {P : Params} {h : Heap} {args : List WData} {vals : List Value}
    (hpre : l.row.toRowW.claim.pre args = true) (hwl : WellAll P h vals args) :
    ∃ a vs ns, vals = [Value.ref a] ∧ args = [WData.list (ns.map WData.int)] ∧ h.get? a = some { cls := .type "list", data := .seq vs.toArray } ∧ IntsAre vs ns ∧ ns.length ≤ n := by
  have hsh : WShape.hasAll [] args [.list .int] = true := (pre_splitW hpre).1
  have hc : l.pre.holds [] { args := args } = true := (pre_splitW hpre).2
  obtain ⟨d, r, rfl, h1, h2⟩ := hasAllW_cons hsh
  obtain rfl := hasAllW_nil h2
  obtain ⟨xs, rfl, h3⟩ := hasW_list h1
  obtain ⟨ns, rfl⟩ := items_int h3
  have hlen : ns.length ≤ n := by
    unfold OpenLaw.pre at hc
    have h4 : (WTm.not (.lt (.lit (.int (n : Int))) (.len (.arg 0)))).holds [] { args := [.list (ns.map .int)] } = true := by
      have h4 := (holds_andW hc).1
      rw [hn] at h4
      exact h4
    have h5 := condW_of h4 (w_not (w_lt w_lit (w_len_list (w_arg rfl))))
    rw [List.length_map] at h5
    refine Nat.le_of_not_lt fun q => ?_
    have q' : (n : Int) < ((ns.length : Nat) : Int) := by lia
    first
      | (rw [decide_eq_true q'] at h5; exact absurd h5 (by decide))
      | (simp at h5; lia)
  cases hwl with
  | cons w1 w2 =>
    cases w2
    cases w1 with
    | list ho hall => exact ⟨_, _, ns, rfl, rfl, ho, ints_of_wellAll ns _ hall, hlen⟩
theorem post_true (l : OpenLaw) (args : List WData) : l.row.toRowW.claim.post args (.bool true) args = true :=
  postW_of (r := l.row.toRowW) (X := (true == true))
    (show WShape.has [] (.bool true) .bool = true by first | rfl | decide | simp [WShape.has, WShape.arms, WShape.armsAll])
    (show (WTm.eq .res (.lit (.bool true))).value [] { args := args, res := some (.bool true), after := args } = some (.bool (true == true)) from w_eq_bool (w_res rfl) w_lit) rfl
theorem attach_call {l : OpenLaw} {n : Nat} {q : Program} {loose : List Str} {XP : (Str → Option Value) → Heap → Prop} {YP : World → Heap → Prop} {d : DefRec}
    (hn : l.most = some n) (hdf : d.params.defaults = [])
    (call : ∀ (w : World) (s₀ s₁ : Shared) (mg mb : Str → Option Value) (fa : Addr) (o : Obj) (pm cd doc : Value) (a : Addr) (vs : List Value) (ns : List Int),
      Ground q loose [] XP w s₀ mg mb s₁.heap → YP w s₁.heap →
      s₁.heap.get? fa = some o → o.data = .func (docDef d.name d.params d.body d.scope pm cd doc) → s₁.heap.CodeRec cd d.name → mg d.name = some (.ref fa) →
      s₁.heap.get? a = some { cls := .type "list", data := .seq vs.toArray } → IntsAre vs ns → ns.length ≤ n → s₁.gens = #[] →
      codeAny (model l.prog w) callerA (.call (.ref fa) ⟨[.ref a], []⟩) (fun r s' => r = .ok (.ret (.bool true)) ∧ OldK s₁.heap s'.heap ∧ s'.os = s₁.os ∧ AllBare s'.gens) s₁) :
    WalkO q loose XP YP l.row.toRowW d [] (fun f vs => PySem.call f vs) := by
  intro w s₀ s₁ mg mb G Y fa o pm cd doc dV kV ho hd hcd hD hmg hg args vals as hpre hlay hrd hwl hlo
  obtain rfl : dV = .none := Dflts.none hD hdf
  obtain rfl : kV = .none := Dflts.noKw hD
  obtain ⟨a, vs, ns, rfl, rfl, hobj, hints, hlen⟩ := script_of hn hpre hwl
  refine enter_call (codeAny_mono (call w s₀ s₁ mg mb fa o pm cd doc a vs ns G Y ho (fd_plain hd) hcd hmg hobj hints hlen hg) fun r s' hq => ?_)
  obtain ⟨rfl, h2, h3, h4⟩ := hq
  exact ⟨.inl ⟨.bool true, .bool true, [], rfl, fun _ => rfl, .bool true, post_true l _, fun _ => ⟨List.Pairwise.nil, fun _ hm => (nomatch hm)⟩⟩, h2, h3, h4⟩
section
variable {prog : Program} {w : World} {A : Around} {E : Value → Shared → Prop} {s : Shared} {K : Frag}
end
end Att
namespace L2
open PySem PySem.Spec PyProof.Rows
theorem vals_ints : ∀ {vs : List Value} {ns : List Int}, IntsAre vs ns → Vals (ns.map V.int) vs
  | _, _, .nil => .nil
  | _, _, .cons n t h => .cons ⟨t, rfl⟩ (vals_ints h)
def Only (H : Hp) : Prop := ∀ b, H b = none ∨ ∃ o xs, H b = some (.frz o (.lst xs))
theorem law_call {P : Program} {w : World} {K : PySem.W.Frag} {mg mb : Str → Option Value} {CX : CXT} {k : Nat} {fa a : Addr} {fd : FuncData} {x : Str} {sp : Sp} {s₁ : Shared} {vs : List Value} {ns : List Int}
    (KX : K.In s₁.heap) (hns : s₁.heap.Ns mainGlobals mg) (hb : s₁.heap.Ns builtinsNs mb) (hbb : ∀ x : Str, x ≠ "__name__" → mb x = bootBuiltins x) (hlim : s₁.heap.NoLimit) (hg : s₁.gens = #[])
    (ha : s₁.heap.get? a = some { cls := .type "list", data := .seq vs.toArray }) (hi : IntsAre vs ns) (hl : ns.length ≤ sizeLine) (hr : Room k callerA)
    (F : ∀ base : Heap, K.In base → base.Ns mainGlobals mg → FnOk P w K mg base CX k fa fd [x] sp) (hbind : ∀ (s : Shared) (u : Value), BindsTo s fd ⟨[u], []⟩ [(x, u)])
    (hsp : ∀ H : Hp, Only H → SqL K H a (ns.map V.int) → sp [.ref a] H (fun v _ => v = .bl true) fun _ _ _ => False)
    (hCX : ∀ H e s', CX [] H s₁ (fun _ _ _ => False) e s' → False) :
    codeAny (model P w) callerA (.call (.ref fa) ⟨[.ref a], []⟩) (fun r s' => r = .ok (.ret (.bool true)) ∧ OldK s₁.heap s'.heap ∧ s'.os = s₁.os ∧ AllBare s'.gens) s₁ := by
  have rv := vals_ints hi
  have lenV := hi.length
  have core : ∀ H : Hp, Only H → SqL K H a (ns.map V.int) → HOk P w H s₁.heap → (∀ b, H b ≠ none → b = a) → (H a ≠ none → K.lookup a = none) →
      codeAny (model P w) callerA (.call (.ref fa) ⟨[.ref a], []⟩) (fun r s' => r = .ok (.ret (.bool true)) ∧ OldK s₁.heap s'.heap ∧ s'.os = s₁.os ∧ AllBare s'.gens) s₁ := by
    intro H hO hS hok hA hK
    have base_of : ∀ {b : Addr} {o : Obj}, s₁.heap.get? b = some o → H b = none → (hidT s₁.heap H).get? b = some o := fun e n => hidT_get e n
    have noA : ∀ {b : Addr} {o : Obj} {es : Array DictEntry} {ep : Nat}, s₁.heap.get? b = some o → o.data = .dict es ep → H b = none := fun {b o es ep} e d => by
      cases q : H b with
      | none => rfl
      | some u =>
        have e' : b = a := hA b (by rw [q]; simp)
        subst e'
        rw [ha] at e; cases e
        have d' : Data.seq vs.toArray _ = Data.dict es ep := d
        cases d'
    have nsK : ∀ {b : Addr} {m : Str → Option Value}, s₁.heap.Ns b m → (hidT s₁.heap H).Ns b m := fun {b m} ⟨o, es, ep, e, d, r⟩ => ⟨o, es, ep, base_of e (noA e d), d, r⟩
    have hKb : K.In (hidT s₁.heap H) := fun b o e => base_of (KX b o e) (by
      cases q : H b with
      | none => rfl
      | some u =>
        have e' : b = a := hA b (by rw [q]; simp)
        subst e'
        rw [hK (by rw [q]; simp)] at e; cases e)
    have hM : Mod K mg (hidT s₁.heap H) := ⟨hKb, nsK hns, ⟨mb, nsK hb, hbb⟩, let ⟨mc, h1, h2⟩ := hlim; ⟨mc, nsK h1, h2⟩⟩
    have e0 : Env0 P w K mg (hidT s₁.heap H) callerA [] s₁ H := ⟨rfl, hM, fun b o e => of_hidT e, Nat.le_of_eq (hidT_size _ _), trivial, fun b hb => absurd (show b ∈ ([] : List Addr) from hb) (by simp), hok, .of_eq hg⟩
    refine codeAny_mono ((F _ hKb (nsK hns)).run callerA [] s₁ H ⟨[.ref a], []⟩ [.ref a] [.ref a] _ _ hr e0 (hbind s₁ (.ref a)) (.cons rfl .nil) (hsp H hO hS)) fun r s' h => ?_
    cases r with
    | error e => exact (hCX H e s' h).elim
    | ok fl =>
      cases fl with
      | next => exact False.elim h
      | brk => exact False.elim h
      | cont => exact False.elim h
      | ret u =>
        obtain ⟨v, H', os, bare, un, hok', r', q⟩ := h
        have q' : v = .bl true := q
        subst q'
        obtain rfl : u = Value.bool true := r'
        refine ⟨rfl, OldK.of_keep fun b o e => ?_, os, bare⟩
        cases q : H b with
        | none => exact un.keep b o e q (by intro z; exact absurd (show b ∈ ([] : List Addr) from z) (by simp)) (by simp)
        | some u =>
          rcases hO b with z | ⟨ob, xs, z⟩
          · rw [q] at z; cases z
          · have z2 := un.frzs b ob _ z
            obtain ⟨e1, _⟩ := hok b _ z
            obtain ⟨e2, _⟩ := hok' b _ z2
            rw [e] at e1; cases e1
            exact e2
  cases hk : K.lookup a with
  | some o =>
    have e := KX a o hk
    rw [ha] at e
    cases e
    refine core (fun _ => none) (fun _ => .inl rfl) (.inr ⟨_, vs.toArray, _, hk, rfl, rfl, rfl, by rw [List.size_toArray, lenV]; exact hl, by simpa using rv⟩) (fun b u z => by have z' : (none : Option HO) = some u := z; cases z') (fun b z => absurd rfl z) fun z => absurd rfl z
  | none =>
    refine core (fun b => if b = a then some (.frz { cls := .type "list", data := .seq vs.toArray } (.lst (ns.map V.int))) else none) (fun b => ?_) (.inl (.inr ⟨{ cls := .type "list", data := .seq vs.toArray }, if_pos rfl⟩)) (fun b u z => ?_) (fun b z => ?_) fun _ => hk
    · by_cases hb : b = a
      · exact .inr ⟨_, _, if_pos hb⟩
      · exact .inl (if_neg hb)
    · by_cases hb : b = a
      · have z' := (if_pos hb).symm.trans z
        cases z'
        subst hb
        exact ⟨ha, by rw [List.length_map]; exact hl, vs, _, rv, ha⟩
      · have z' := (if_neg hb).symm.trans z
        cases z'
    · by_cases hb : b = a
      · exact hb
      · exact absurd (if_neg hb) z
end L2
namespace L2
open PySem PySem.Spec PyProof.Rows
theorem walk_of {l : PySem.W.OpenLaw} {n k : Nat} {q : Program} {loose : List Str} {XP : (Str → Option Value) → Heap → Prop} {YP : World → Heap → Prop} {d : DefRec} {K : Params → PySem.W.Frag} {CX : World → CXT} {sp : World → Sp} {x : Str}
    (hn : l.most = some n) (hn2 : n ≤ sizeLine) (hdf : d.params.defaults = []) (hr : Room k callerA)
    (hY : ∀ (w : World) (h : Heap), YP w h → (K w.params).In h)
    (F : ∀ (w : World) (mg : Str → Option Value) (fa : Addr) (h : Heap), (K w.params).In h → h.Ns mainGlobals mg → mg d.name = some (.ref fa) →
      ∃ fd : FuncData, (∀ (s : Shared) (u : Value), BindsTo s fd ⟨[u], []⟩ [(x, u)]) ∧
        ∀ base : Heap, (K w.params).In base → base.Ns mainGlobals mg → FnOk l.prog w (K w.params) mg base (CX w) k fa fd [x] (sp w))
    (hsp : ∀ (w : World) (H : Hp) (a : Addr) (ns : List Int), ns.length ≤ n → Only H → SqL (K w.params) H a (ns.map V.int) → sp w [.ref a] H (fun v _ => v = .bl true) fun _ _ _ => False)
    (hCX : ∀ (w : World) (H : Hp) (s : Shared) (e : Value) (s' : Shared), CX w [] H s (fun _ _ _ => False) e s' → False) :
    PySem.W.WalkO q loose XP YP l.row.toRowW d [] (fun f vs => PySem.call f vs) := by
  refine Att.attach_call hn hdf fun w s₀ s₁ mg mb fa o pm cd doc a vs ns G Y ho hd hcd hmg hobj hints hlen hg => ?_
  have KX := hY w _ Y
  obtain ⟨fd, hb, hF⟩ := F w mg fa _ KX G.T.g hmg
  exact law_call KX G.T.g G.T.b G.T.builtins G.T.nolimit hg hobj hints (Nat.le_trans hlen hn2) hr hF hb (fun H hO hS => hsp w H a ns hlen hO hS) fun H e s' => hCX w H s₁ e s'
end L2
namespace L2
open PySem PySem.Spec PyProof.Rows
def defArgs (s : Stmt) : Arguments := match s with
  | .FunctionDef _ a _ _ _ _ _ _ _ _ => a
  | _ => { posonlyargs := [], args := [], vararg := none, kwonlyargs := [], kw_defaults := [], kwarg := none, defaults := [] }
def defBody (s : Stmt) : List Stmt := match s with
  | .FunctionDef _ _ b _ _ _ _ _ _ _ => b
  | _ => []
def defScope (s : Stmt) : Scope := match s with
  | .FunctionDef _ _ _ _ _ _ sc _ _ _ => sc
  | _ => { kind := .function, names := [], isGenerator := false, isCoroutine := false }
abbrev CX0 : CXT := fun _ _ _ _ _ _ => False
abbrev E0 : XK := fun _ _ _ => False
theorem pass0 {X : Cx} : Passes CX0 X E0 := fun _ _ _ _ _ _ _ h => h.elim
structure Fun (K : PySem.W.Frag) (x qual : Str) (st : Stmt) (f : Addr) (fd : FuncData) : Prop where
  ex : ∃ (oc : Value) (od : Option Addr) (kV doc pm : Value) (an : Option Addr) (cdv ct : Value) (osl : Array (Option Value)),
    fd = PySem.W.fnOf x qual (defArgs st) (defBody st) (defScope st) .none kV doc pm an cdv ct ∧ K.lookup f = some ⟨oc, od, .func fd, osl⟩ ∧ PySem.W.codeIn K cdv qual = true
  kp : PySem.W.keepIn K (.ref f) = true
section
variable {P : Program} {w : World} {K : PySem.W.Frag} {mg : Str → Option Value} {base : Heap}
theorem Fun.ok {x qual : Str} {st : Stmt} {f : Addr} {fd : FuncData} {N ps : List Str} {k : Nat} {sp : Sp} (F : Fun K x qual st f fd) (S : FnScope N ps (defScope st)) (len : ∀ vs H Q E, sp vs H Q E → vs.length = ps.length)
    (hbody : ∀ (cdv : Value) (A : Around) (outer : List Env) (s : Shared) (H : Hp) (vs : List V) (Q : VK) (E : XK), Room k (A.deeper (envOfC qual (defScope st) s.heap.objs.size f cdv)) → sp vs H Q E →
      ∃ t, PSs (cxOf CX0 P w K mg base N qual (defScope st) f cdv A outer s H E).nox (defBody st) t ∧ t { nx := fun _ H' => Q .non H', rt := Q } (start N vs) H) : FnOk P w K mg base CX0 (k + 1) f fd ps sp := by
  obtain ⟨oc, od, kV, doc, pm, an, cdv, ct, osl, rfl, lk, hcd⟩ := F.ex
  refine fn_of lk hcd S len fun A outer s H vs Q E hr hsp => ?_
  obtain ⟨t, h, q⟩ := hbody cdv A outer s H vs Q E hr hsp
  exact ⟨t, h.nox, q⟩
theorem Fun.binds {x qual : Str} {st : Stmt} {f : Addr} {fd : FuncData} {ps : List Str} (F : Fun K x qual st f fd)
    (h : ∀ (kV doc pm : Value) (an : Option Addr) (cdv ct : Value) (us : List Value), us.length = ps.length → bindArgs (PySem.W.fnOf x qual (defArgs st) (defBody st) (defScope st) .none kV doc pm an cdv ct) ⟨us, []⟩ = pure (ps.zip us)) : Binds K fd ps [] := by
  obtain ⟨oc, od, kV, doc, pm, an, cdv, ct, osl, rfl, lk, hcd⟩ := F.ex
  exact .all (h kV doc pm an cdv ct)
theorem fun_mk {x qual : Str} {st : Stmt} {f : Addr} {oc : Value} {od an : Option Addr} {osl : Array (Option Value)} {kV doc pm cdv ct : Value} (l : K.lookup f = some ⟨oc, od, .func (PySem.W.fnOf x qual (defArgs st) (defBody st) (defScope st) .none kV doc pm an cdv ct), osl⟩)
    (c : PySem.W.codeIn K cdv qual = true) (k : PySem.W.keepIn K (.ref f) = true) : Fun K x qual st f (PySem.W.fnOf x qual (defArgs st) (defBody st) (defScope st) .none kV doc pm an cdv ct) := ⟨⟨oc, od, kV, doc, pm, an, cdv, ct, osl, rfl, l, c⟩, k⟩
end
section
variable {X : Cx}
end
end L2
set_option Elab.async false
set_option linter.all false
set_option maxRecDepth 100000
namespace L2
open PySem PySem.Spec PyProof.Rows
section
variable {κ : Type} [DecidableEq κ]
def valV (kvs : List (κ × V)) (k : κ) : Option V := (kvs.find? fun kv => decide (kv.1 = k)).map (·.2)
def putK (kvs : List (κ × V)) (k : κ) (v : V) : List (κ × V) :=
  if (kvs.any fun kv => decide (kv.1 = k)) = true then kvs.map (fun kv => if kv.1 = k then (kv.1, v) else kv) else kvs ++ [(k, v)]
theorem valV_pos {p : κ × V} {r : List (κ × V)} {k : κ} (e : p.1 = k) : valV (p :: r) k = some p.2 := by simp [valV, List.find?_cons, e]
theorem valV_neg {p : κ × V} {r : List (κ × V)} {k : κ} (e : ¬ p.1 = k) : valV (p :: r) k = valV r k := by simp [valV, List.find?_cons, e]
theorem valV_any (k : κ) : ∀ kvs : List (κ × V), (kvs.any fun kv => decide (kv.1 = k)) = (valV kvs k).isSome
  | [] => rfl
  | p :: r => by
    rw [List.any_cons]
    by_cases e : p.1 = k
    · simp only [valV_pos e, decide_eq_true e, Bool.true_or, Option.isSome_some]
    · rw [valV_neg e, decide_eq_false e, Bool.false_or]; exact valV_any k r
theorem length_putK (kvs : List (κ × V)) (k : κ) (v : V) : (putK kvs k v).length ≤ kvs.length + 1 := by
  unfold putK
  split
  · rw [List.length_map]; lia
  · rw [List.length_append, List.length_cons, List.length_nil]; lia
theorem RelO.isSome_eq {o : Option V} {u : Option Value} (r : RelO o u) : o.isSome = u.isSome := by
  cases o with
  | none => cases u with
    | none => rfl
    | some _ => exact (show False from r).elim
  | some _ => cases u with
    | none => exact (show False from r).elim
    | some _ => rfl
theorem KV.val {kvs : List (κ × V)} {vs : List (κ × Value)} (r : KV kvs vs) (k : κ) : RelO (valV kvs k) (valueAt vs k) := by
  unfold KV at r
  induction r with
  | nil => exact True.intro
  | @cons p q ps qs h t ih =>
    obtain ⟨h1, h2⟩ := h
    by_cases e : p.1 = k
    · have e' : q.1 = k := h1.symm.trans e
      have b : valueAt (q :: qs) k = some q.2 := by simp [valueAt, List.find?_cons, e']
      rw [valV_pos e, b]; exact h2
    · have e' : ¬ q.1 = k := fun z => e (h1.trans z)
      have b : valueAt (q :: qs) k = valueAt qs k := by simp [valueAt, List.find?_cons, e']
      rw [valV_neg e, b]; exact ih
theorem KV.any {kvs : List (κ × V)} {vs : List (κ × Value)} (r : KV kvs vs) (k : κ) : (kvs.any fun kv => decide (kv.1 = k)) = vs.any fun kv => decide (kv.1 = k) := by
  unfold KV at r
  induction r with
  | nil => rfl
  | cons h t ih => rw [List.any_cons, List.any_cons, ih, h.1]
theorem KV.repl {kvs : List (κ × V)} {vs : List (κ × Value)} (r : KV kvs vs) (k : κ) {y : V} {u : Value} (ry : RelV y u) :
    KV (kvs.map fun kv => if kv.1 = k then (kv.1, y) else kv) (vs.map fun kv => if kv.1 = k then (kv.1, u) else kv) := by
  unfold KV at r ⊢
  induction r with
  | nil => exact .nil
  | @cons p q ps qs h t ih =>
    rw [List.map_cons, List.map_cons]
    refine .cons ?_ ih
    obtain ⟨h1, h2⟩ := h
    by_cases e : p.1 = k
    · rw [if_pos e, if_pos (h1.symm.trans e)]; exact ⟨h1, ry⟩
    · rw [if_neg e, if_neg (fun z => e (h1.trans z))]; exact ⟨h1, h2⟩
theorem KV.put {kvs : List (κ × V)} {vs : List (κ × Value)} (r : KV kvs vs) (k : κ) {y : V} {u : Value} (ry : RelV y u) : KV (putK kvs k y) (stored vs k u) := by
  unfold putK stored
  rw [r.any k]
  by_cases e : (vs.any fun kv => decide (kv.1 = k)) = true
  · rw [if_pos e, if_pos e]; exact r.repl k ry
  · rw [if_neg e, if_neg e]; exact Paired.snoc r ⟨rfl, ry⟩
theorem KV.length {kvs : List (κ × V)} {vs : List (κ × Value)} (r : KV kvs vs) : kvs.length = vs.length := Paired.length r
end
theorem kV_is {P : Program} {w : World} {k : Key} {u : Value} (r : RelV (kV k) u) : (mixKind P w).is k u = true := by
  cases k with
  | inl i => obtain ⟨t, e⟩ := (show ∃ t, u = Value.int i t from r); subst e; exact mixKind_int P w i t
  | inr x => obtain ⟨t, e⟩ := (show ∃ t, u = Value.str x t from r); subst e; exact mixKind_str P w x t
theorem items_are {P : Program} {w : World} : ∀ {ks : List Key} {us : List Value}, Vals (ks.map kV) us → ItemsAre (mixKind P w) ks us
  | [], _, r => by rw [List.map_nil] at r; cases r; exact .nil
  | k :: ks, _, r => by
    rw [List.map_cons] at r
    cases r with
    | cons h t => exact .cons (kV_is h) (items_are t)
abbrev KT (H : Hp) : List (List Key × V) → List (List Key × Addr × Value) → Prop := Paired fun p q => p.1 = q.1 ∧ H q.2.1 = some (.tup (p.1.map kV)) ∧ RelV p.2 q.2.2
theorem KT.val {H : Hp} {kvs : List (List Key × V)} {xs : List (List Key × Addr × Value)} (r : KT H kvs xs) (k : List Key) : RelO (valV kvs k) ((atKey xs k).map (·.2)) := by
  induction r with
  | nil => exact True.intro
  | @cons p q ps qs h t ih =>
    obtain ⟨h1, _, h2⟩ := h
    by_cases e : p.1 = k
    · have e' : q.1 = k := h1.symm.trans e
      have b : atKey (q :: qs) k = some q.2 := by simp [atKey, List.find?_cons, e']
      rw [valV_pos e, b]; exact h2
    · have e' : ¬ q.1 = k := fun z => e (h1.trans z)
      have b : atKey (q :: qs) k = atKey qs k := by simp [atKey, List.find?_cons, e']
      rw [valV_neg e, b]; exact ih
theorem KT.repl {H : Hp} {kvs : List (List Key × V)} {xs : List (List Key × Addr × Value)} (r : KT H kvs xs) (k : List Key) {y : V} {u : Value} (ry : RelV y u) :
    KT H (kvs.map fun kv => if kv.1 = k then (kv.1, y) else kv) (xs.map (putAt k u)) := by
  induction r with
  | nil => exact .nil
  | @cons p q ps qs h t ih =>
    rw [List.map_cons, List.map_cons]
    refine .cons ?_ ih
    obtain ⟨h1, h2, h3⟩ := h
    unfold putAt
    by_cases e : p.1 = k
    · rw [if_pos e, if_pos (h1.symm.trans e)]; exact ⟨h1, h2, ry⟩
    · rw [if_neg e, if_neg (fun z => e (h1.trans z))]; exact ⟨h1, h2, h3⟩
theorem KT.put {H : Hp} {kvs : List (List Key × V)} {xs : List (List Key × Addr × Value)} (r : KT H kvs xs) (k : List Key) {b : Addr} {y : V} {u : Value} (hb : H b = some (.tup (k.map kV))) (ry : RelV y u) :
    KT H (putK kvs k y) (storedH xs k b u) := by
  have e : (kvs.any fun kv => decide (kv.1 = k)) = (atKey xs k).isSome := by
    rw [valV_any, (r.val k).isSome_eq, Option.isSome_map]
  unfold putK storedH
  rw [e]
  by_cases q : (atKey xs k).isSome = true
  · rw [if_pos q, if_pos q]; exact r.repl k ry
  · rw [if_neg q, if_neg q]; exact Paired.snoc r ⟨rfl, hb, ry⟩
theorem KT.keeps {H H' : Hp} {kvs : List (List Key × V)} {xs : List (List Key × Addr × Value)} (r : KT H kvs xs) (ht : ∀ b ys, H b = some (.tup ys) → H' b = some (.tup ys)) : KT H' kvs xs :=
  Paired.mapP r fun _ _ z => ⟨z.1, ht _ _ z.2.1, z.2.2⟩
section
variable {P : Program} {w : World} {H : Hp} {h : Heap} {a : Addr}
theorem rd_of {u : HO} (ok : HOk P w H h) (e : Rd H a u) : ObjOk P w H h a u := e.ok ok
theorem dk_rd {kvs : List (Key × V)} (ok : HOk P w H h) (e : Rd H a (.dK kvs)) : kvs.length ≤ sizeLine ∧ (a == sysModules) = false ∧ ∃ vs, KV kvs vs ∧ h.DictOf (mixKind P w) a vs :=
  show ObjOk P w H h a (.dK kvs) from rd_of ok e
theorem dk_of {kvs : List (Key × V)} (ok : HOk P w H h) (e : H a = some (.dK kvs)) : kvs.length ≤ sizeLine ∧ (a == sysModules) = false ∧ ∃ vs, KV kvs vs ∧ h.DictOf (mixKind P w) a vs := dk_rd ok (.inl e)
theorem key_of {ks : List Key} (ok : HOk P w H h) (e : H a = some (.tup (ks.map kV))) : (tupleKind (mixKind P w)).is h ks a := by
  obtain ⟨_, its, r, o, h1, h2, n, h3⟩ := (show ObjOk P w H h a (.tup (ks.map kV)) from ok a _ e)
  exact ⟨o, its.toArray, n, h1, h2, h3, by simpa using items_are r⟩
theorem dt_rd {kvs : List (List Key × V)} (ok : HOk P w H h) (e : Rd H a (.dT kvs)) : kvs.length ≤ sizeLine ∧ (a == sysModules) = false ∧
    ∃ xs, KT H kvs xs ∧ h.DictOfH (tupleKind (mixKind P w)) a xs := by
  obtain ⟨z, y, xs, r, o, es, ep, h1, h2, h3, h4, h5⟩ := (show ObjOk P w H h a (.dT kvs) from rd_of ok e)
  refine ⟨z, y, xs, r, o, es, ep, h1, h2, h3, h4, fun x hx => ?_, h5⟩
  have all : ∀ {l : List (List Key × V)} {m : List (List Key × Addr × Value)}, KT H l m → ∀ x ∈ m, (tupleKind (mixKind P w)).is h x.1 x.2.1 := by
    intro l m q
    induction q with
    | nil => intro x hx; exact nomatch hx
    | @cons p q ps qs hq t ih =>
      intro x hx
      rcases List.mem_cons.mp hx with e | hx
      · subst e
        exact key_of ok (by rw [← hq.1]; exact hq.2.1)
      · exact ih x hx
  exact all r x hx
theorem dt_of {kvs : List (List Key × V)} (ok : HOk P w H h) (e : H a = some (.dT kvs)) : kvs.length ≤ sizeLine ∧ (a == sysModules) = false ∧
    ∃ xs, KT H kvs xs ∧ h.DictOfH (tupleKind (mixKind P w)) a xs := dt_rd ok (.inl e)
end
def DGet (H : Hp) (a : Addr) (y : V) (r : Option V) : Prop :=
  (∃ kvs k, Rd H a (.dK kvs) ∧ y = kV k ∧ r = valV kvs k) ∨ ∃ kvs k b, Rd H a (.dT kvs) ∧ y = .ref b ∧ H b = some (.tup (k.map kV)) ∧ r = valV kvs k
def DPut (H : Hp) (a : Addr) (y v : V) (H' : Hp) : Prop :=
  (∃ kvs k, H a = some (.dK kvs) ∧ y = kV k ∧ kvs.length < sizeLine ∧ H' = upd H a (.dK (putK kvs k v))) ∨
  ∃ kvs k b, H a = some (.dT kvs) ∧ y = .ref b ∧ H b = some (.tup (k.map kV)) ∧ kvs.length < sizeLine ∧ H' = upd H a (.dT (putK kvs k v))
section
variable {X : Cx} {pins : List (Addr × Obj)} {σ : St} {H : Hp} {s : Shared} {a : Addr} {y v : V} {u r : Value} {o : Option V} {A : Around} {E : Value → Shared → Prop}
theorem Inv.big (I : Inv X pins σ H s) : sysModules < s.heap.objs.size := by
  have h : mainGlobals < s.heap.objs.size := (I.mod.glob.keeps I.bk).lt
  exact Nat.lt_trans (by decide) h
theorem d_getItem {Q : Value → Shared → Prop} (hu : A.units + 1 < cLine) (I : Inv X pins σ H s) (g : DGet H a y (some v)) (ry : RelV y u) (h : ∀ w' s', Inv X pins σ H s' → RelV v w' → Q w' s') :
    wpAny (model X.prog X.w) A (getItem (.ref a) u) Q E s := by
  rcases g with ⟨kvs, k, e, ey, l⟩ | ⟨kvs, k, b, e, ey, eb, l⟩
  · subst ey
    obtain ⟨z, hd, vs, rel, dd⟩ := dk_rd I.hok e
    obtain ⟨w', hw, rw'⟩ := RelO.some_of (v := v) (o := valueAt vs k) (by rw [l]; exact rel.val k)
    exact wpAny_getItem_of (kV_is ry) dd.mapOf hw (h w' _ (I.tok _) rw')
  · subst ey
    cases (show u = Value.ref b from ry)
    obtain ⟨z, hd, xs, rel, dd⟩ := dt_rd I.hok e
    obtain ⟨w', hw, rw'⟩ := RelO.some_of (v := v) (o := (atKey xs k).map (·.2)) (by rw [l]; exact rel.val k)
    obtain ⟨p, hp, hp2⟩ := Option.map_eq_some_iff.mp hw
    refine wpAny_getItem_heap (tupleKind_room_in1 hu) (key_of I.hok eb) dd hp ?_
    rw [hp2]
    exact h w' _ (I.tok _) rw'
theorem d_write {h' : Heap} {t' : Nat} {ob : HO} (I : Inv X pins σ H s) (mu : Mut (H a)) (hs : Heap.SameBut a s.heap h') (he : ∃ q, h'.get? a = some q) (new : ObjOk X.prog X.w (upd H a ob) h' a ob) :
    Inv X pins σ (upd H a ob) { s with heap := h', toks := t' } :=
  I.write (x := a) (e := a) mu (.inl rfl) (fun b q hb z => (hs.2 b hb).trans z) he new
theorem dk_new {P : Program} {w : World} {H' : Hp} {h' : Heap} {kvs : List (Key × V)} {vs : List (Key × Value)} (z : kvs.length ≤ sizeLine) (hd : (a == sysModules) = false) (rel : KV kvs vs) (dd : h'.DictOf (mixKind P w) a vs) :
    ObjOk P w H' h' a (.dK kvs) := ⟨z, hd, vs, rel, dd⟩
theorem d_setItem {H' : Hp} {Q : Unit → Shared → Prop} (hu : A.units + 1 < cLine) (I : Inv X pins σ H s) (g : DPut H a y v H') (ry : RelV y u) (rv : RelV v r) (h : ∀ s', Inv X pins σ H' s' → Q () s') :
    wpAny (model X.prog X.w) A (setItem (.ref a) u r) Q E s := by
  rcases g with ⟨kvs, k, e, ey, l, eH⟩ | ⟨kvs, k, b, e, ey, eb, l, eH⟩
  · subst ey eH
    obtain ⟨z, hd, vs, rel, dd⟩ := dk_of I.hok e
    have hz : vs.length ≤ sizeLine := by rw [← rel.length]; exact z
    have hl : (putK kvs k v).length ≤ sizeLine := by have := length_putK kvs k v; lia
    refine wpAny_setItem_pairs (hsz := hz) (kV_is ry) dd fun h' dd' hs => h _ ?_
    have he : ∃ q, h'.get? a = some q := let ⟨q, _, _, hq, _⟩ := dd'; ⟨q, hq⟩
    exact d_write I (by rw [e]; exact True.intro) hs he (dk_new hl hd (rel.put k rv) dd')
  · subst ey eH
    cases (show u = Value.ref b from ry)
    obtain ⟨z, hd, xs, rel, dd⟩ := dt_of I.hok e
    have hz : xs.length ≤ sizeLine := by rw [← Paired.length rel]; exact z
    have hl : (putK kvs k v).length ≤ sizeLine := by have := length_putK kvs k v; lia
    refine wpAny_setItem_heap (hsz := hz) (tupleKind_room_in1 hu) (key_of I.hok eb) dd fun h' dd' hs => h _ ?_
    obtain ⟨q, es, ep, hq, h2, h3, h4, _, h5⟩ := dd'
    refine d_write I (by rw [e]; exact True.intro) hs ⟨q, hq⟩ ⟨hl, hd, _, (rel.put k eb rv).keeps fun c ys ec => ?_, q, es, ep, hq, h2, h3, h4, h5⟩
    rw [upd_ne (ne_of ec e (fun z => nomatch z))]
    exact ec
end
section
variable {X : Cx} {pins : List (Addr × Obj)} {σ : St} {H : Hp} {s : Shared} {a : Addr} {kvs : List (Key × V)} {k : Key} {u : Value} {A : Around} {E : Value → Shared → Prop}
end
def NoSl (i : Expr) : Prop := ∀ ov iv, subscripted i false ov iv = operate [ov, iv] (getItem ov iv)
theorem subD_of {prog : Program} {w : World} {A : Around} {E : Value → Shared → Prop} {s : Shared} {env : Env} {value slice : Expr} {pos : Pos} {T id : String} {Q : Value → Shared → Prop}
    (hl : typeLookup (.type T) "__getitem__" = pure (some (.builtin id))) (hs : NoSl slice)
    (h : wpAny (model prog w) A (eval value env) (fun o s₁ => wpAny (model prog w) A (eval slice env) (fun i s₂ => s₂.TypeIs o T ∧ wpAny (model prog w) A (getItem o i) Q E s₂) E s₁) E s) :
    wpAny (model prog w) A (eval (.Subscript value slice pos) env) Q E s := by
  refine Subscript_ (wpAny_mono h (fun o s₁ h₁ => wpAny_mono h₁ (fun i s₂ h₂ => ?_) fun _ _ x => x) fun _ _ x => x)
  obtain ⟨hT, h₂⟩ := h₂
  unfold subscriptTail
  refine wpAny_bind ?_
  rw [getitemInPython_of_ne hT.not_modules]
  refine wpAny_bind (wpAny_specialOf hT hl ?_)
  have fin : wpAny (model prog w) A (subscripted slice false o i) (fun r s₃ => wpAny (model prog w) A (letTemporaryGo value o r >>= fun _ => pure r) Q E s₃) E s₂ := by
    rw [hs o i]
    exact wpAny_operating (wpAny_mono h₂ (fun r s₃ h₃ => wpAny_bind (wpAny_letTemporaryGo (wpAny_pure h₃))) fun _ _ x => x)
  first
    | exact wpAny_pure (wpAny_bind fin)
    | exact wpAny_bind (wpAny_pure (wpAny_bind fin))
    | exact wpAny_bind fin
theorem dict_typeIs {X : Cx} {pins : List (Addr × Obj)} {σ : St} {H : Hp} {s : Shared} {a : Addr} {y : V} {o : Option V} (I : Inv X pins σ H s) (g : DGet H a y o) : s.TypeIs (.ref a) "dict" := by
  rcases g with ⟨kvs, k, e, _, _⟩ | ⟨kvs, k, b, e, _, _, _⟩
  · obtain ⟨_, _, vs, _, dd⟩ := dk_rd I.hok e
    exact dd.typeIs
  · obtain ⟨_, _, xs, _, dd⟩ := dt_rd I.hok e
    exact dd.typeIs
def tDGet (td ty : TE) : TE := fun σ H Q => td σ H fun x H1 => ty σ H1 fun y H2 => ∃ a v, x = .ref a ∧ DGet H2 a y (some v) ∧ Q v H2
def sDPut (td ty tv : TE) : TS := fun D σ H => tv σ H fun v H1 => td σ H1 fun x H2 => ty σ H2 fun y H3 => ∃ a H4, x = .ref a ∧ DPut H3 a y v H4 ∧ D.nx σ H4
section
variable {X : Cx} {o i e value : Expr} {pos pos' tpos : Pos} {td ty tv : TE}
theorem pe_dget (hu : X.A.units + 1 < cLine) (ho : PE X o td) (hi : PE X i ty) (hs : NoSl i) : PE X (.Subscript o i pos) (tDGet td ty) := by
  intro pins s σ H Q I h
  refine subD_of PySem.F.slot_dict_getitem.lookup hs (thn (ho pins s σ H _ I h) fun u s1 ⟨x, H1, I1, rx, q1⟩ => thn (hi pins s1 σ H1 _ I1 q1) fun iv s2 ⟨y, H2, I2, ry, a, v, ex, g, q2⟩ => ?_)
  subst ex
  obtain rfl : u = Value.ref a := rx
  exact ⟨dict_typeIs I2 g, d_getItem hu I2 g ry fun w' s3 I3 rw' => ⟨v, H2, I3, rw', q2⟩⟩
theorem ps_dput (hu : X.A.units + 1 < cLine) (ho : PE X o td) (hi : PE X i ty) (hv : PE X value tv) (hs : swapsWith value (some (.Subscript o i pos')) pos.line X.env = pure false) :
    PS X (.Assign [.Subscript o i pos'] value pos) (sDPut td ty tv) := by
  intro pins s σ H D I h
  refine wpAny_Assign_Subscript (thn (hv pins s σ H _ I h) fun r s1 ⟨v, H1, I1, rv, q1⟩ => thn (ho pins s1 σ H1 _ I1 q1) fun u s2 ⟨x, H2, I2, rx, q2⟩ => thn (hi pins s2 σ H2 _ I2 q2) fun iv s3 ⟨y, H3, I3, ry, a, H4, ex, g, q3⟩ => ?_) hs
  subst ex
  obtain rfl : u = Value.ref a := rx
  exact d_setItem hu I3 g ry rv fun s4 I4 => ⟨σ, H4, I4, q3⟩
end
theorem dk_empty {P : Program} {w : World} {H : Hp} (h : Heap) (hb : sysModules < h.objs.size) : ObjOk P w H (h.push { cls := .type "dict", data := .dict #[] }) h.objs.size (.dK []) :=
  ⟨Nat.zero_le _, beq_eq_false_iff_ne.mpr (Ne.symm (Nat.ne_of_lt hb)), [], .nil, Heap.DictOf.new h⟩
def tDNewK : TE := fun _ H Q => ∀ p, H p = none → Q (.ref p) (upd H p (.dK []))
section
variable {X : Cx} {pos : Pos}
theorem pe_dnewK : PE X (.Dict [] [] pos) tDNewK := fun pins s σ H Q I h =>
  wpAny_Dict_empty ⟨.ref s.heap.objs.size, _, I.laid (a := s.heap.objs.size) (o := .dK []) (t' := s.toks) (fun _ _ q => Heap.get?_push_of_some _ q) (Nat.le_refl _) (dk_empty s.heap I.big), rfl, h _ (I.hok.fresh (Nat.le_refl _))⟩
end
def tPairs : List (TE × TE) → St → Hp → (List (V × V) → Hp → Prop) → Prop
  | [], _, H, Q => Q [] H
  | (tk, tv) :: r, σ, H, Q => tk σ H fun x H1 => tv σ H1 fun y H2 => tPairs r σ H2 fun ps H3 => Q ((x, y) :: ps) H3
abbrev VV : List (V × V) → List (Value × Value) → Prop := Paired fun p q => RelV p.1 q.1 ∧ RelV p.2 q.2
def PPs (X : Cx) (pos : Pos) (keys : List (Option Expr)) (values : List Expr) (trs : List (TE × TE)) : Prop :=
  ∀ (pins : List (Addr × Obj)) (s : Shared) (σ : St) (H : Hp) (Q : List (V × V) → Hp → Prop), Inv X pins σ H s → tPairs trs σ H Q →
    wpAny (model X.prog X.w) X.A (evalPairs (pairTrees keys values X.env pos)) (fun vs s' => ∃ ps H', Inv X pins σ H' s' ∧ VV ps vs ∧ Q ps H') X.xe s
theorem pps_nil {X : Cx} {pos : Pos} : PPs X pos [] [] [] := fun pins s σ H Q I h => pairTrees_nil_walk ⟨[], H, I, .nil, h⟩
theorem pps_cons {X : Cx} {pos : Pos} {k v : Expr} {ks : List (Option Expr)} {vs : List Expr} {tk tv : TE} {trs : List (TE × TE)} (hk : PE X k tk) (hv : PE X v tv) (hr : PPs X pos ks vs trs) :
    PPs X pos (some k :: ks) (v :: vs) ((tk, tv) :: trs) := fun pins s σ H Q I h =>
  pairTrees_cons_walk (thn (hk pins s σ H _ I h) fun u s1 ⟨x, H1, I1, rx, q1⟩ => thn (hv pins s1 σ H1 _ I1 q1) fun w2 s2 ⟨y, H2, I2, ry, q2⟩ =>
    thn (hr pins s2 σ H2 _ I2 q2) fun ws s3 ⟨ps, H3, I3, rel, q3⟩ => ⟨(x, y) :: ps, H3, I3, .cons ⟨rx, ry⟩ rel, q3⟩)
def mergeK (kvs more : List (Key × V)) : List (Key × V) := more.foldl (fun acc kv => putK acc kv.1 kv.2) kvs
theorem KV.merge : ∀ {more : List (Key × V)} {rs : List (Key × Value)} {kvs : List (Key × V)} {vs : List (Key × Value)}, KV more rs → KV kvs vs → KV (mergeK kvs more) (merged vs rs) := by
  intro more rs kvs vs r
  unfold KV at r
  induction r generalizing kvs vs with
  | nil => intro q; exact q
  | @cons p q ps qs h t ih =>
    intro r0
    have e : KV (putK kvs p.1 p.2) (stored vs q.1 q.2) := by
      have := r0.put p.1 h.2
      rw [← h.1]; exact this
    exact ih e
theorem length_mergeK : ∀ (more kvs : List (Key × V)), (mergeK kvs more).length ≤ kvs.length + more.length
  | [], kvs => by show kvs.length ≤ kvs.length + 0; lia
  | p :: r, kvs => by
    have h1 := length_mergeK r (putK kvs p.1 p.2)
    have h2 := length_putK kvs p.1 p.2
    show (mergeK (putK kvs p.1 p.2) r).length ≤ _
    rw [List.length_cons]; lia
theorem carries_of {P : Program} {w : World} : ∀ {kvs : List (Key × V)} {ws : List (Value × Value)}, VV (kvs.map fun kv => (kV kv.1, kv.2)) ws → ∃ rs, Carries (mixKind P w) ws rs ∧ KV kvs rs
  | [], _, r => by rw [List.map_nil] at r; cases r; exact ⟨[], True.intro, .nil⟩
  | p :: kvs, _, r => by
    rw [List.map_cons] at r
    cases r with
    | @cons a b as bs h t =>
      obtain ⟨rs, c, q⟩ := carries_of (P := P) (w := w) t
      obtain ⟨b1, b2⟩ := b
      exact ⟨(p.1, b2) :: rs, ⟨kV_is h.1, rfl, c⟩, .cons ⟨rfl, h.2⟩ q⟩
def tDisp (trs : List (TE × TE)) : TE := fun σ H Q => ∀ p, H p = none → tPairs trs σ (upd H p (.dK [])) fun ps H2 => H2 p = some (.dK []) ∧ ∃ kvs : List (Key × V), ps = kvs.map (fun kv => (kV kv.1, kv.2)) ∧ kvs.length ≤ 15 ∧ Q (.ref p) (upd H2 p (.dK (mergeK [] kvs)))
theorem pe_disp {X : Cx} {pos : Pos} {keys : List (Option Expr)} {values : List Expr} {trs : List (TE × TE)} (h : PPs X pos keys values trs) (hall : keys.all (·.isSome) = true) (hl : keys.length = values.length) (h0 : keys ≠ [])
    (h15 : keys.length ≤ 15) : PE X (.Dict keys values pos) (tDisp trs) := by
  intro pins s σ H Q I q
  have hn := I.hok.fresh (Nat.le_refl s.heap.objs.size)
  have I1 := I.laid (a := s.heap.objs.size) (o := .dK []) (h' := s.heap.push { cls := .type "dict", data := .dict #[] }) (t' := s.toks) (fun _ _ q => Heap.get?_push_of_some _ q) (Nat.le_refl _) (dk_empty s.heap I.big)
  refine wpAny_Dict_walk (knd := mixKind X.prog X.w) hall hl h0 h15 (thn (h pins _ σ _ _ I1 (q _ hn)) fun ws s2 ⟨ps, H2, I2, rel, e, kvs, ep, lk, q2⟩ => ?_)
  subst ep
  obtain ⟨rs, c, rk⟩ := carries_of (P := X.prog) (w := X.w) rel
  obtain ⟨z, hd, vs0, r0, dd⟩ := dk_of I2.hok e
  cases r0
  refine ⟨rs, c, dd, fun h' dd' hs => ⟨.ref s.heap.objs.size, _, ?_, rfl, q2⟩⟩
  have hz : (mergeK [] kvs).length ≤ sizeLine := by
    have h1 := length_mergeK kvs []
    rw [List.length_nil] at h1
    rw [sizeLine_eq]; lia
  have he : ∃ q, h'.get? s.heap.objs.size = some q := let ⟨q, _, _, hq, _⟩ := dd'; ⟨q, hq⟩
  exact d_write I2 (by rw [e]; exact True.intro) hs he (dk_new hz hd (rk.merge .nil) dd')
section
variable {X : Cx} {pins : List (Addr × Obj)} {σ : St} {H : Hp} {s : Shared} {a : Addr} {y d : V} {u r : Value} {o : Option V} {A : Around} {E : Value → Shared → Prop}
end
section
variable {X : Cx} {o e f : Expr} {apos cpos : Pos} {td ty tx : TE}
end
section
variable {X : Cx} {pins : List (Addr × Obj)} {σ : St} {H : Hp} {s : Shared} {a : Addr} {kvs : List (Key × V)} {A : Around} {E : Value → Shared → Prop}
end
section
variable {X : Cx} {pins : List (Addr × Obj)} {σ : St} {H : Hp} {s : Shared} {a : Addr} {y : V} {u : Value} {A : Around} {E : Value → Shared → Prop}
end
end L2
namespace L2
open PySem PySem.Spec PyProof.Rows
section
variable {X : Cx}
end
section
variable {κ : Type} [DecidableEq κ]
end
end L2
set_option Elab.async false
set_option linter.all false
set_option maxRecDepth 100000
namespace L3
open PySem PySem.Spec PyProof.Rows L2
inductive D where
  | non | bl (b : Bool) | int (i : Int) | str (x : Str) | ty (n : String) | ref (a : Addr)
  | tup (xs : List D) | lst (xs : List D) | dct (kvs : List (Key × D))
inductive MO where
  | lst (xs : List D) | dct (kvs : List (Key × D)) | dt (kvs : List (List Int × D))
abbrev Mem := Addr → Option MO
def mput (M : Mem) (a : Addr) (o : MO) : Mem := fun b => if b = a then some o else M b
def mdel (M : Mem) (a : Addr) : Mem := fun b => if b = a then none else M b
theorem mput_same {M : Mem} {a : Addr} {o : MO} : mput M a o a = some o := by unfold mput; rw [if_pos rfl]
theorem mput_ne {M : Mem} {a b : Addr} {o : MO} (h : b ≠ a) : mput M a o b = M b := by unfold mput; rw [if_neg h]
theorem mput_mput {M : Mem} {a : Addr} {o u : MO} : mput (mput M a o) a u = mput M a u := by
  funext b; unfold mput; split <;> rfl
def KLst (K : PySem.W.Frag) (a : Addr) (xs : List V) : Prop :=
  ∃ (o : Obj) (its : Array Value) (n : Nat), K.lookup a = some o ∧ o.cls = .type "list" ∧ o.dict = none ∧ o.data = .seq its n ∧ its.size ≤ sizeLine ∧ Vals xs its.toList
def KTup (K : PySem.W.Frag) (a : Addr) (xs : List V) : Prop :=
  ∃ (o : Obj) (its : Array Value) (n : Nat), K.lookup a = some o ∧ o.cls = .type "tuple" ∧ o.data = .seq its n ∧ its.size ≤ sizeLine ∧ Vals xs its.toList
def Fix (M : Mem) (H : Hp) (a : Addr) (o : HO) : Prop := Rd H a o ∧ M a = none
mutual
inductive Rep (K : PySem.W.Frag) (M : Mem) (H : Hp) : D → V → Prop
  | non : Rep K M H .non .non
  | bl {b : Bool} : Rep K M H (.bl b) (.bl b)
  | int {i : Int} : Rep K M H (.int i) (.int i)
  | str {x : Str} : Rep K M H (.str x) (.str x)
  | ty {n : String} : Rep K M H (.ty n) (.ty n)
  | ref {a : Addr} : Rep K M H (.ref a) (.ref a)
  | tup {a : Addr} {ds : List D} {vs : List V} : (Fix M H a (.tup vs) ∨ KTup K a vs) → Reps K M H ds vs → Rep K M H (.tup ds) (.ref a)
  | lst {a : Addr} {ds : List D} {vs : List V} : (Fix M H a (.lst vs) ∨ KLst K a vs) → Reps K M H ds vs → Rep K M H (.lst ds) (.ref a)
  | dct {a : Addr} {ds : List (Key × D)} {vs : List (Key × V)} : Fix M H a (.dK vs) → RepK K M H ds vs → Rep K M H (.dct ds) (.ref a)
inductive Reps (K : PySem.W.Frag) (M : Mem) (H : Hp) : List D → List V → Prop
  | nil : Reps K M H [] []
  | cons {d : D} {v : V} {ds : List D} {vs : List V} : Rep K M H d v → Reps K M H ds vs → Reps K M H (d :: ds) (v :: vs)
inductive RepK (K : PySem.W.Frag) (M : Mem) (H : Hp) : List (Key × D) → List (Key × V) → Prop
  | nil : RepK K M H [] []
  | cons {k : Key} {d : D} {v : V} {ds : List (Key × D)} {vs : List (Key × V)} : Rep K M H d v → RepK K M H ds vs → RepK K M H ((k, d) :: ds) ((k, v) :: vs)
end
def entD (x : List Int × Addr × Value) : DictEntry := ⟨reduceHash (Builtin.Tuple.tupleHashOf (x.1.map hashInt)), .ref x.2.1, x.2.2⟩
def dtφ (a : Addr) (xs : List (List Int × Addr × Value)) : Heap → Prop := fun h => (a == sysModules) = false ∧ ∃ o es ep, h.get? a = some o ∧ o.ExactDict ∧ o.data = .dict es ep ∧ es.toList = xs.map entD ∧ (xs.map (·.1)).Nodup
inductive RepT (K : PySem.W.Frag) (M : Mem) (H : Hp) : List (List Int × D) → List (List Int × Addr × Value) → Prop
  | nil : RepT K M H [] []
  | cons {k : List Int} {b : Addr} {d : D} {v : V} {u : Value} {ds : List (List Int × D)} {xs : List (List Int × Addr × Value)} : Rep K M H (.tup (k.map D.int)) (.ref b) → Rep K M H d v → RelV v u → RepT K M H ds xs → RepT K M H ((k, d) :: ds) ((k, b, u) :: xs)
def RepO (K : PySem.W.Frag) (M : Mem) (H : Hp) (a : Addr) : MO → HO → Prop
  | .lst ds, .lst vs => Reps K M H ds vs
  | .dct ds, .dK vs => RepK K M H ds vs
  | .dt ds, .ext φ => ∃ xs, φ = dtφ a xs ∧ RepT K M H ds xs
  | _, _ => False
def MRel (K : PySem.W.Frag) (M : Mem) (H : Hp) : Prop := ∀ a o, M a = some o → ∃ ho, H a = some ho ∧ RepO K M H a o ho
structure Step (M : Mem) (H : Hp) (M' : Mem) (H' : Hp) : Prop where
  keep : ∀ a o, H a = some o → M a = none → H' a = some o
  dom : ∀ a, M' a ≠ none → M a ≠ none ∨ H a = none
theorem Step.refl {M : Mem} {H : Hp} : Step M H M H := ⟨fun _ _ h _ => h, fun _ h => .inl h⟩
theorem Step.gone {M M' : Mem} {H H' : Hp} (s : Step M H M' H') {a : Addr} {o : HO} (h : H a = some o) (hm : M a = none) : M' a = none := by
  cases e : M' a with
  | none => rfl
  | some u =>
    rcases s.dom a (by rw [e]; intro z; cases z) with z | z
    · exact absurd hm z
    · rw [h] at z; cases z
theorem Step.trans {M M1 M2 : Mem} {H H1 H2 : Hp} (a : Step M H M1 H1) (b : Step M1 H1 M2 H2) : Step M H M2 H2 where
  keep := fun c o h hm => b.keep c o (a.keep c o h hm) (a.gone h hm)
  dom := fun c h => by
    rcases b.dom c h with z | z
    · exact a.dom c z
    · cases e : H c with
      | none => exact .inr rfl
      | some o =>
        refine .inl fun hm => ?_
        rw [a.keep c o e hm] at z; cases z
theorem Fix.mono {M M' : Mem} {H H' : Hp} {a : Addr} {o : HO} (s : Step M H M' H') (f : Fix M H a o) : Fix M' H' a o := by
  obtain ⟨r, hm⟩ := f
  rcases r with r | ⟨ob, r⟩
  · exact ⟨.inl (s.keep _ _ r hm), s.gone r hm⟩
  · exact ⟨.inr ⟨ob, s.keep _ _ r hm⟩, s.gone r hm⟩
section
variable {K : PySem.W.Frag} {M M' : Mem} {H H' : Hp}
theorem Rep.mono {d : D} {v : V} (s : Step M H M' H') (r : Rep K M H d v) : Rep K M' H' d v :=
  Rep.rec (motive_1 := fun d v _ => Rep K M' H' d v) (motive_2 := fun ds vs _ => Reps K M' H' ds vs) (motive_3 := fun ds vs _ => RepK K M' H' ds vs)
    .non .bl .int .str .ty .ref (fun h _ ih => .tup (h.imp (Fix.mono s) id) ih) (fun h _ ih => .lst (h.imp (Fix.mono s) id) ih) (fun h _ ih => .dct (h.mono s) ih)
    .nil (fun _ _ a b => .cons a b) .nil (fun _ _ a b => .cons a b) r
theorem Reps.mono {ds : List D} {vs : List V} (s : Step M H M' H') (r : Reps K M H ds vs) : Reps K M' H' ds vs := by
  induction ds generalizing vs with
  | nil => cases r; exact .nil
  | cons d ds ih => cases r with | cons a b => exact .cons (a.mono s) (ih b)
theorem RepK.mono {ds : List (Key × D)} {vs : List (Key × V)} (s : Step M H M' H') (r : RepK K M H ds vs) : RepK K M' H' ds vs := by
  induction ds generalizing vs with
  | nil => cases r; exact .nil
  | cons d ds ih => cases r with | cons a b => exact .cons (a.mono s) (ih b)
theorem RepT.mono {ds : List (List Int × D)} {xs : List (List Int × Addr × Value)} (s : Step M H M' H') (r : RepT K M H ds xs) : RepT K M' H' ds xs := by
  induction r with
  | nil => exact .nil
  | cons a b c _ ih => exact .cons (a.mono s) (b.mono s) c ih
theorem Reps.length {ds : List D} {vs : List V} (r : Reps K M H ds vs) : ds.length = vs.length := by
  induction ds generalizing vs with
  | nil => cases r; rfl
  | cons d ds ih => cases r with | cons a b => rw [List.length_cons, List.length_cons, ih b]
theorem Reps.get {ds : List D} {vs : List V} (r : Reps K M H ds vs) {i : Nat} {d : D} (h : ds[i]? = some d) : ∃ v, vs[i]? = some v ∧ Rep K M H d v := by
  induction ds generalizing vs i with
  | nil => simp at h
  | cons d' ds ih =>
    cases r with
    | cons a b =>
      cases i with
      | zero => simp at h; subst h; exact ⟨_, rfl, a⟩
      | succ i => simpa using ih b (by simpa using h)
theorem Reps.append {ds es : List D} {vs us : List V} (r : Reps K M H ds vs) (q : Reps K M H es us) : Reps K M H (ds ++ es) (vs ++ us) := by
  induction ds generalizing vs with
  | nil => cases r; exact q
  | cons d ds ih => cases r with | cons a b => exact .cons a (ih b)
theorem Reps.take {ds : List D} {vs : List V} (r : Reps K M H ds vs) (n : Nat) : Reps K M H (ds.take n) (vs.take n) := by
  induction ds generalizing vs n with
  | nil => cases r; simp; exact .nil
  | cons d ds ih => cases r with | cons a b => cases n with
    | zero => simp; exact .nil
    | succ n => simpa using Reps.cons a (ih b n)
theorem Reps.drop {ds : List D} {vs : List V} (r : Reps K M H ds vs) (n : Nat) : Reps K M H (ds.drop n) (vs.drop n) := by
  induction ds generalizing vs n with
  | nil => cases r; simp; exact .nil
  | cons d ds ih => cases r with | cons a b => cases n with
    | zero => exact .cons a b
    | succ n => simpa using ih b n
theorem Reps.ints {ns : List Int} : Reps K M H (ns.map D.int) (ns.map V.int) := by
  induction ns with
  | nil => exact .nil
  | cons n ns ih => exact .cons .int ih
theorem MRel.free (m : MRel K M H) {a : Addr} (h : H a = none) : M a = none := by
  cases e : M a with
  | none => rfl
  | some o => obtain ⟨ho, z, _⟩ := m a o e; rw [h] at z; cases z
end
abbrev Lo := List (Option D)
structure SRel (K : PySem.W.Frag) (M : Mem) (H : Hp) (σ : Lo) (σv : L2.St) : Prop where
  len : σ.length = σv.length
  get : ∀ (i : Nat) (d : D), σ[i]? = some (some d) → ∃ v, σv[i]? = some (some v) ∧ Rep K M H d v
theorem SRel.mono {K : PySem.W.Frag} {M M' : Mem} {H H' : Hp} {σ : Lo} {σv : L2.St} (s : Step M H M' H') (r : SRel K M H σ σv) : SRel K M' H' σ σv :=
  ⟨r.len, fun i d h => let ⟨v, e, q⟩ := r.get i d h; ⟨v, e, q.mono s⟩⟩
theorem SRel.set {K : PySem.W.Frag} {M : Mem} {H : Hp} {σ : Lo} {σv : L2.St} (r : SRel K M H σ σv) {d : D} {v : V} (q : Rep K M H d v) (i : Nat) : SRel K M H (σ.set i (some d)) (σv.set i (some v)) := by
  refine ⟨by simp [r.len], fun j e h => ?_⟩
  rw [List.getElem?_set] at h
  rw [List.getElem?_set, ← r.len]
  by_cases hij : i = j
  · rw [if_pos hij] at h ⊢
    by_cases hl : j < σ.length
    · rw [hij, if_pos hl] at h
      rw [hij, if_pos hl]
      cases h
      exact ⟨v, rfl, q⟩
    · rw [hij, if_neg hl] at h; cases h
  · rw [if_neg hij] at h ⊢
    exact r.get j e h
abbrev DK := D → Mem → Prop
abbrev TE3 := Lo → Mem → DK → Prop
abbrev TT3 := Lo → Mem → (Bool → Mem → Prop) → Prop
abbrev TA3 := Lo → Mem → (List D → Mem → Prop) → Prop
structure Ends3 where
  nx : Lo → Mem → Prop
  rt : DK
  bk : Lo → Mem → Prop := fun _ _ => False
  ct : Lo → Mem → Prop := fun _ _ => False
abbrev TS3 := Ends3 → Lo → Mem → Prop
def EP3 (X : Cx) (pins : List (Addr × Obj)) (σv : L2.St) (M : Mem) (H : Hp) (Q : DK) (u : Value) (s' : Shared) : Prop :=
  ∃ d v M' H', Inv X pins σv H' s' ∧ Step M H M' H' ∧ MRel X.K M' H' ∧ RelV v u ∧ Rep X.K M' H' d v ∧ Q d M'
def TP3 (X : Cx) (pins : List (Addr × Obj)) (σv : L2.St) (M : Mem) (H : Hp) (Q : Bool → Mem → Prop) (b : Bool) (s' : Shared) : Prop :=
  ∃ M' H', Inv X pins σv H' s' ∧ Step M H M' H' ∧ MRel X.K M' H' ∧ Q b M'
def AP3 (X : Cx) (pins : List (Addr × Obj)) (σv : L2.St) (M : Mem) (H : Hp) (Q : List D → Mem → Prop) (us : List Value) (s' : Shared) : Prop :=
  ∃ ds vs M' H', Inv X pins σv H' s' ∧ Step M H M' H' ∧ MRel X.K M' H' ∧ Vals vs us ∧ Reps X.K M' H' ds vs ∧ Q ds M'
def SP3 (X : Cx) (pins : List (Addr × Obj)) (M : Mem) (H : Hp) (T : Ends3) (f : Flow) (s' : Shared) : Prop :=
  match f with
  | .next => ∃ σ' σv' M' H', Inv X pins σv' H' s' ∧ Step M H M' H' ∧ MRel X.K M' H' ∧ SRel X.K M' H' σ' σv' ∧ T.nx σ' M'
  | .brk => ∃ σ' σv' M' H', Inv X pins σv' H' s' ∧ Step M H M' H' ∧ MRel X.K M' H' ∧ SRel X.K M' H' σ' σv' ∧ T.bk σ' M'
  | .cont => ∃ σ' σv' M' H', Inv X pins σv' H' s' ∧ Step M H M' H' ∧ MRel X.K M' H' ∧ SRel X.K M' H' σ' σv' ∧ T.ct σ' M'
  | .ret u => ∃ d v σv' M' H', Inv X pins σv' H' s' ∧ Step M H M' H' ∧ MRel X.K M' H' ∧ RelV v u ∧ Rep X.K M' H' d v ∧ T.rt d M'
def PE3 (X : Cx) (e : Expr) (t : TE3) : Prop :=
  ∀ (pins : List (Addr × Obj)) (s : Shared) (σv : L2.St) (H : Hp) (σ : Lo) (M : Mem) (Q : DK), Inv X pins σv H s → SRel X.K M H σ σv → MRel X.K M H → t σ M Q →
    wpAny (model X.prog X.w) X.A (eval e X.env) (EP3 X pins σv M H Q) X.xe s
def PT3 (X : Cx) (e : Expr) (t : TT3) : Prop :=
  ∀ (pins : List (Addr × Obj)) (s : Shared) (σv : L2.St) (H : Hp) (σ : Lo) (M : Mem) (Q : Bool → Mem → Prop), Inv X pins σv H s → SRel X.K M H σ σv → MRel X.K M H → t σ M Q →
    wpAny (model X.prog X.w) X.A (isTrue e X.env (eval e X.env)) (TP3 X pins σv M H Q) X.xe s
def PA3 (X : Cx) (es : List Expr) (t : TA3) : Prop :=
  ∀ (pos : Pos) (pins : List (Addr × Obj)) (s : Shared) (σv : L2.St) (H : Hp) (σ : Lo) (M : Mem) (Q : List D → Mem → Prop), Inv X pins σv H s → SRel X.K M H σ σv → MRel X.K M H → t σ M Q →
    wpAny (model X.prog X.w) X.A (spliced (backTo pos (starEach es X.env))) (AP3 X pins σv M H Q) X.xe s
def PS3 (X : Cx) (st : Stmt) (t : TS3) : Prop :=
  ∀ (pins : List (Addr × Obj)) (s : Shared) (σv : L2.St) (H : Hp) (σ : Lo) (M : Mem) (T : Ends3), Inv X pins σv H s → SRel X.K M H σ σv → MRel X.K M H → t T σ M →
    wpAny (model X.prog X.w) X.A (exec st X.env) (SP3 X pins M H T) X.xe s
def PSs3 (X : Cx) (st : List Stmt) (t : TS3) : Prop :=
  ∀ (pins : List (Addr × Obj)) (s : Shared) (σv : L2.St) (H : Hp) (σ : Lo) (M : Mem) (T : Ends3), Inv X pins σv H s → SRel X.K M H σ σv → MRel X.K M H → t T σ M →
    wpAny (model X.prog X.w) X.A (execs st X.env) (SP3 X pins M H T) X.xe s
def dnE (K : PySem.W.Frag) (t : TE3) : TE := fun σv H Q2 => ∃ σ M Q, SRel K M H σ σv ∧ MRel K M H ∧ t σ M Q ∧ ∀ d v M' H', Step M H M' H' → MRel K M' H' → Rep K M' H' d v → Q d M' → Q2 v H'
def dnA (K : PySem.W.Frag) (t : TA3) : TA := fun σv H Q2 => ∃ σ M Q, SRel K M H σ σv ∧ MRel K M H ∧ t σ M Q ∧ ∀ ds vs M' H', Step M H M' H' → MRel K M' H' → Reps K M' H' ds vs → Q ds M' → Q2 vs H'
structure EndsDn (K : PySem.W.Frag) (M : Mem) (H : Hp) (T : Ends3) (D2 : Ends) : Prop where
  nx : ∀ σ' σv' M' H', Step M H M' H' → MRel K M' H' → SRel K M' H' σ' σv' → T.nx σ' M' → D2.nx σv' H'
  bk : ∀ σ' σv' M' H', Step M H M' H' → MRel K M' H' → SRel K M' H' σ' σv' → T.bk σ' M' → D2.bk σv' H'
  ct : ∀ σ' σv' M' H', Step M H M' H' → MRel K M' H' → SRel K M' H' σ' σv' → T.ct σ' M' → D2.ct σv' H'
  rt : ∀ d v M' H', Step M H M' H' → MRel K M' H' → Rep K M' H' d v → T.rt d M' → D2.rt v H'
def dnS (K : PySem.W.Frag) (t : TS3) : TS := fun D2 σv H => ∃ σ M T, SRel K M H σ σv ∧ MRel K M H ∧ t T σ M ∧ EndsDn K M H T D2
section
variable {X : Cx} {e : Expr} {es : List Expr} {st : Stmt} {sts : List Stmt}
theorem PE3.dn {t : TE3} (h : PE3 X e t) : PE X e (dnE X.K t) := by
  rintro pins s σv H Q2 I ⟨σ, M, Q, hS, hM, ht, hq⟩
  exact thn (h pins s σv H σ M Q I hS hM ht) fun u s' ⟨d, v, M', H', I', st, m', r, rep, q⟩ => ⟨v, H', I', r, hq d v M' H' st m' rep q⟩
theorem PA3.dn {t : TA3} (h : PA3 X es t) : PA X es (dnA X.K t) := by
  rintro pos pins s σv H Q2 I ⟨σ, M, Q, hS, hM, ht, hq⟩
  exact thn (h pos pins s σv H σ M Q I hS hM ht) fun u s' ⟨d, v, M', H', I', st, m', r, rep, q⟩ => ⟨v, H', I', r, hq d v M' H' st m' rep q⟩
theorem sp_dn {pins : List (Addr × Obj)} {M : Mem} {H : Hp} {T : Ends3} {D2 : Ends} (h : EndsDn X.K M H T D2) {f : Flow} {s' : Shared} (q : SP3 X pins M H T f s') : SP X pins D2 f s' := by
  cases f with
  | next => obtain ⟨σ', σv', M', H', I, st, m, r, q⟩ := q; exact ⟨σv', H', I, h.nx _ _ _ _ st m r q⟩
  | brk => obtain ⟨σ', σv', M', H', I, st, m, r, q⟩ := q; exact ⟨σv', H', I, h.bk _ _ _ _ st m r q⟩
  | cont => obtain ⟨σ', σv', M', H', I, st, m, r, q⟩ := q; exact ⟨σv', H', I, h.ct _ _ _ _ st m r q⟩
  | ret u => obtain ⟨d, v, σv', M', H', I, st, m, rv, r, q⟩ := q; exact ⟨v, σv', H', I, rv, h.rt _ _ _ _ st m r q⟩
theorem PSs3.dn {t : TS3} (h : PSs3 X sts t) : PSs X sts (dnS X.K t) := by
  rintro pins s σv H D2 I ⟨σ, M, T, hS, hM, ht, hq⟩
  exact thn (h pins s σv H σ M T I hS hM ht) fun f s' q => sp_dn hq q
abbrev Up (K : PySem.W.Frag) (M : Mem) (H : Hp) (Q : DK) : VK := fun v H' => ∃ d M', Step M H M' H' ∧ MRel K M' H' ∧ Rep K M' H' d v ∧ Q d M'
theorem PE3.of {t : TE3} {t2 : TE} (h : PE X e t2) (hr : ∀ pins s σv H σ M Q, Inv X pins σv H s → SRel X.K M H σ σv → MRel X.K M H → t σ M Q → t2 σv H (Up X.K M H Q)) : PE3 X e t := by
  intro pins s σv H σ M Q I hS hM ht
  exact thn (h pins s σv H _ I (hr pins s σv H σ M Q I hS hM ht)) fun u s' ⟨v, H', I', r, d, M', st, m', rep, q⟩ => ⟨d, v, M', H', I', st, m', r, rep, q⟩
abbrev UpE (K : PySem.W.Frag) (M : Mem) (H : Hp) (T : Ends3) : Ends where
  nx := fun σv' H' => ∃ σ' M', Step M H M' H' ∧ MRel K M' H' ∧ SRel K M' H' σ' σv' ∧ T.nx σ' M'
  rt := fun v H' => ∃ d M', Step M H M' H' ∧ MRel K M' H' ∧ Rep K M' H' d v ∧ T.rt d M'
  bk := fun σv' H' => ∃ σ' M', Step M H M' H' ∧ MRel K M' H' ∧ SRel K M' H' σ' σv' ∧ T.bk σ' M'
  ct := fun σv' H' => ∃ σ' M', Step M H M' H' ∧ MRel K M' H' ∧ SRel K M' H' σ' σv' ∧ T.ct σ' M'
theorem PS3.of {t : TS3} {t2 : TS} (h : PS X st t2) (hr : ∀ pins s σv H σ M T, Inv X pins σv H s → SRel X.K M H σ σv → MRel X.K M H → t T σ M → t2 (UpE X.K M H T) σv H) : PS3 X st t := by
  intro pins s σv H σ M T I hS hM ht
  refine thn (h pins s σv H _ I (hr pins s σv H σ M T I hS hM ht)) fun f s' q => ?_
  cases f with
  | next => obtain ⟨σv', H', I, σ', M', st, m, r, q⟩ := q; exact ⟨σ', σv', M', H', I, st, m, r, q⟩
  | brk => obtain ⟨σv', H', I, σ', M', st, m, r, q⟩ := q; exact ⟨σ', σv', M', H', I, st, m, r, q⟩
  | cont => obtain ⟨σv', H', I, σ', M', st, m, r, q⟩ := q; exact ⟨σ', σv', M', H', I, st, m, r, q⟩
  | ret u => obtain ⟨v, σv', H', I, rv, d, M', st, m, r, q⟩ := q; exact ⟨d, v, σv', M', H', I, st, m, rv, r, q⟩
end
end L3
set_option Elab.async false
set_option linter.all false
set_option maxRecDepth 100000
namespace L3
open PySem PySem.Spec PyProof.Rows L2
section
variable {K : PySem.W.Frag} {M : Mem} {H : Hp} {p : Addr} {ho : HO} {o : MO}
theorem Step.lay (hp : H p = none) : Step M H M (upd H p ho) :=
  ⟨fun a u h _ => by rw [upd_ne (ne_of_none h hp)]; exact h, fun _ h => .inl h⟩
theorem MRel.lay (m : MRel K M H) (hp : H p = none) : MRel K M (upd H p ho) := fun a u e => by
  obtain ⟨hu, e1, r⟩ := m a u e
  refine ⟨hu, by rw [upd_ne (ne_of_none e1 hp)]; exact e1, ?_⟩
  cases u <;> cases hu <;> first | exact r.elim | exact Reps.mono (Step.lay hp) r | exact RepK.mono (Step.lay hp) r | (obtain ⟨xs, e, r⟩ := r; exact ⟨xs, e, r.mono (Step.lay hp)⟩)
theorem Step.put (h : H p = none ∨ M p ≠ none) : Step M H (mput M p o) (upd H p ho) := by
  refine ⟨fun a u e hm => ?_, fun a e => ?_⟩
  · have : a ≠ p := by
      rintro rfl
      rcases h with h | h
      · rw [h] at e; cases e
      · exact h hm
    rw [upd_ne this]; exact e
  · by_cases ha : a = p
    · subst ha; exact h.elim .inr .inl
    · rw [mput_ne ha] at e; exact .inl e
theorem RepO.mono {M' : Mem} {H' : Hp} (s : Step M H M' H') (r : RepO K M H p o ho) : RepO K M' H' p o ho := by
  cases o <;> cases ho <;> first | exact r.elim | exact Reps.mono s r | exact RepK.mono s r | (obtain ⟨xs, e, r⟩ := r; exact ⟨xs, e, r.mono s⟩)
theorem MRel.put (m : MRel K M H) (h : H p = none ∨ M p ≠ none) (r : RepO K M H p o ho) : MRel K (mput M p o) (upd H p ho) := fun a u e => by
  by_cases ha : a = p
  · subst ha
    rw [mput_same] at e; cases e
    exact ⟨ho, upd_same, r.mono (Step.put h)⟩
  · rw [mput_ne ha] at e
    obtain ⟨hu, e1, r1⟩ := m a u e
    exact ⟨hu, by rw [upd_ne ha]; exact e1, r1.mono (Step.put h)⟩
end
mutual
def pyD : D → PyData
  | .non => .none | .bl b => .bool b | .int i => .int i | .str x => .str x
  | .tup xs => .tuple (pyDs xs) | .lst xs => .list (pyDs xs)
  | .dct _ => .none | .ty _ => .none | .ref _ => .none
def pyDs : List D → List PyData
  | [] => [] | d :: ds => pyD d :: pyDs ds
end
mutual
def plain : D → Bool
  | .non | .bl _ | .int _ | .str _ => true
  | .tup xs | .lst xs => plains xs
  | .dct _ | .ty _ | .ref _ => false
def plains : List D → Bool
  | [] => true | d :: ds => plain d && plains ds
end
section
variable {X : Cx} {pins : List (Addr × Obj)} {σv : L2.St} {M : Mem} {H : Hp} {s : Shared}
theorem SqT.of3 {K : PySem.W.Frag} {a : Addr} {vs : List V} (h : Fix M H a (.tup vs) ∨ KTup K a vs) : SqT K H a vs := h.imp (·.1) id
theorem SqL.of3 {K : PySem.W.Frag} {a : Addr} {vs : List V} (h : Fix M H a (.lst vs) ∨ KLst K a vs) : SqL K H a vs := h.imp (·.1) id
mutual
theorem rep_readsX (I : Inv X pins σv H s) (d : D) {v : V} {u : Value} (hp : plain d = true) (p : Rep X.K M H d v) (r : RelV v u) : ∃ as, Reads s.heap u (pyD d) as := by
  cases d with
  | non => cases p; cases r; exact ⟨[], .none⟩
  | bl b => cases p; cases r; exact ⟨[], .bool b⟩
  | int i => cases p; obtain ⟨t, rfl⟩ := r; exact ⟨[], .int i t⟩
  | str x => cases p; obtain ⟨t, rfl⟩ := r; exact ⟨[], .str x t⟩
  | tup xs =>
    cases p with
    | tup h q =>
    cases r
    obtain ⟨its, rv, ⟨o, e1, e2, n, e3⟩, _⟩ := I.tuple (SqT.of3 h)
    obtain ⟨as, ra⟩ := rep_readsAll I xs (by simpa [plain] using hp) q rv
    exact ⟨as, by rw [pyD]; exact .tuple e1 e2 e3 (by simpa using ra)⟩
  | lst xs =>
    cases p with
    | @lst a _ _ h q =>
    cases r
    obtain ⟨its, rv, ⟨o, n, e1, e2, _, e3⟩, _⟩ := I.list (SqL.of3 h)
    obtain ⟨as, ra⟩ := rep_readsAll I xs (by simpa [plain] using hp) q rv
    exact ⟨a :: as, by rw [pyD]; exact .list e1 e2 e3 (by simpa using ra)⟩
  | dct _ => cases hp
  | ty _ => cases hp
  | ref _ => cases hp
theorem rep_readsAll (I : Inv X pins σv H s) (ds : List D) {vs : List V} {us : List Value} (hp : plains ds = true) (p : Reps X.K M H ds vs) (r : Vals vs us) : ∃ as, ReadsAll s.heap us (pyDs ds) as := by
  cases ds with
  | nil => cases p; cases r; exact ⟨[], .nil⟩
  | cons d ds =>
    cases p with
    | cons q qs =>
    cases r with
    | cons r rs =>
      have hp' : plain d = true ∧ plains ds = true := by simpa [plains] using hp
      obtain ⟨as, h1⟩ := rep_readsX I d hp'.1 q r
      obtain ⟨bs, h2⟩ := rep_readsAll I ds hp'.2 qs rs
      exact ⟨as ++ bs, by rw [pyDs]; exact .cons h1 h2⟩
end
end
theorem rep_reads {X : Cx} {pins : List (Addr × Obj)} {σv : L2.St} {M : Mem} {H : Hp} {s : Shared} (I : Inv X pins σv H s) {d : D} {v : V} {u : Value} (hp : plain d = true) (p : Rep X.K M H d v) (r : RelV v u) : ∃ as, Reads s.heap u (pyD d) as := rep_readsX I d hp p r
abbrev R3 := D → D → Mem → DK → Prop
abbrev C3 := List D → Mem → DK → Prop
def OpR3 (X : Cx) (f : Value → Value → Sem Value) (r : R3) : Prop :=
  ∀ (pins : List (Addr × Obj)) (s : Shared) (σv : L2.St) (H : Hp) (M : Mem) (x y : D) (xv yv : V) (v u : Value) (Q : DK), Inv X pins σv H s → MRel X.K M H → RelV xv v → RelV yv u → Rep X.K M H x xv → Rep X.K M H y yv → r x y M Q →
    wpAny (model X.prog X.w) X.A (f v u) (EP3 X pins σv M H Q) X.xe s
def CallR3 (X : Cx) (f : Value) (r : C3) : Prop :=
  ∀ (pins : List (Addr × Obj)) (s : Shared) (σv : L2.St) (H : Hp) (M : Mem) (xs : List D) (xvs : List V) (us : List Value) (Q : DK), Inv X pins σv H s → MRel X.K M H → Vals xvs us → Reps X.K M H xs xvs → r xs M Q →
    wpAny (model X.prog X.w) X.A (call f us) (EP3 X pins σv M H Q) X.xe s
section
variable {X : Cx}
theorem ep_up {pins : List (Addr × Obj)} {σv : L2.St} {M : Mem} {H : Hp} {Q : DK} {u : Value} {s' : Shared} (h : EP X pins σv (Up X.K M H Q) u s') : EP3 X pins σv M H Q u s' := by
  obtain ⟨v, H', I', r, d, M', st, m', rep, q⟩ := h
  exact ⟨d, v, M', H', I', st, m', r, rep, q⟩
theorem OpR3.of {f : Value → Value → Sem Value} {r : R2} {r3 : R3} (h : OpR X f r)
    (hr : ∀ (H : Hp) (M : Mem) (x y : D) (xv yv : V) (Q : DK), MRel X.K M H → Rep X.K M H x xv → Rep X.K M H y yv → r3 x y M Q → r xv yv H (Up X.K M H Q)) : OpR3 X f r3 :=
  fun pins s σv H M x y xv yv v u Q I m rx ry px py q => thn (h pins s σv H xv yv v u _ I rx ry (hr H M x y xv yv Q m px py q)) fun _ _ z => ep_up z
theorem CallR3.of {f : Value} {r : List V → Hp → VK → Prop} {r3 : C3} (h : CallR X f r)
    (hr : ∀ (H : Hp) (M : Mem) (xs : List D) (xvs : List V) (Q : DK), MRel X.K M H → Reps X.K M H xs xvs → r3 xs M Q → r xvs H (Up X.K M H Q)) : CallR3 X f r3 :=
  fun pins s σv H M xs xvs us Q I m rv px q => thn (h pins s σv H xvs us _ I rv (hr H M xs xvs Q m px q)) fun _ _ z => ep_up z
theorem up0 {K : PySem.W.Frag} {M : Mem} {H : Hp} {Q : DK} {d : D} {v : V} (m : MRel K M H) (r : Rep K M H d v) (q : Q d M) : Up K M H Q v H := ⟨d, M, .refl, m, r, q⟩
def tOp3 (r : R3) (ta tb : TE3) : TE3 := fun σ M Q => ta σ M fun x M1 => tb σ M1 fun y M2 => r x y M2 Q
variable {a b c e : Expr} {es : List Expr} {ta tb tc te : TE3} {t : TA3} {pos : Pos}
theorem EP3.trans {pins : List (Addr × Obj)} {σv : L2.St} {M M1 : Mem} {H H1 : Hp} {Q : DK} {u : Value} {s' : Shared} (st : Step M H M1 H1) (h : EP3 X pins σv M1 H1 Q u s') : EP3 X pins σv M H Q u s' := by
  obtain ⟨d, v, M', H', I', st', m', r, rep, q⟩ := h
  exact ⟨d, v, M', H', I', st.trans st', m', r, rep, q⟩
theorem bin3 (ha : PE3 X a ta) (hb : PE3 X b tb) {f : Value → Value → Sem Value} {r : R3} (ho : OpR3 X f r) {pins : List (Addr × Obj)} {s : Shared} {σv : L2.St} {H : Hp} {σ : Lo} {M : Mem} {Q : DK}
    (I : Inv X pins σv H s) (hS : SRel X.K M H σ σv) (hM : MRel X.K M H) (h : tOp3 r ta tb σ M Q) :
    wpAny (model X.prog X.w) X.A (eval a X.env) (fun v s₁ => wpAny (model X.prog X.w) X.A (eval b X.env) (fun u s₂ => wpAny (model X.prog X.w) X.A (f v u) (EP3 X pins σv M H Q) X.xe s₂) X.xe s₁) X.xe s := by
  refine thn (ha pins s σv H σ M _ I hS hM h) fun v s1 hx0 => ?_
  obtain ⟨x, xv, M1, H1, I1, st1, m1, rv1, p1, q1⟩ := hx0
  refine thn (hb pins s1 σv H1 σ M1 _ I1 (hS.mono st1) m1 q1) fun u s2 hx0 => ?_
  obtain ⟨y, yv, M2, H2, I2, st2, m2, rv2, p2, q2⟩ := hx0
  exact thn (ho pins s2 σv H2 M2 x y xv yv v u Q I2 m2 rv1 rv2 (p1.mono st2) p2 q2) fun _ _ z => z.trans (st1.trans st2)
theorem pe3_op {op : Operator} {r : R3} (ho : OpR3 X (binaryOp op) r) (ha : PE3 X a ta) (hb : PE3 X b tb) : PE3 X (.BinOp a op b pos) (tOp3 r ta tb) :=
  fun pins s σv H σ M Q I hS hM h => wpAny_BinOp (bin3 ha hb ho I hS hM h)
theorem pe3_cmp {op : CmpOp} {r : R3} (ho : OpR3 X (compareOp op) r) (ha : PE3 X a ta) (hb : PE3 X b tb) (hm : behindInMarks op b = false) : PE3 X (.Compare a [op] [b] pos) (tOp3 r ta tb) :=
  fun pins s σv H σ M Q I hS hM h => wpAny_Compare1 (bin3 ha hb ho I hS hM h) hm
def tTest3 (t : TE3) : TT3 := fun σ M Q => t σ M fun x M' => ∃ k, x = .bl k ∧ Q k M'
theorem pt3_cmp {op : CmpOp} {r : R3} (ho : OpR3 X (compareOp op) r) (ha : PE3 X a ta) (hb : PE3 X b tb) (hm : behindInMarks op b = false) : PT3 X (.Compare a [op] [b] pos) (tTest3 (tOp3 r ta tb)) := by
  intro pins s σv H σ M Q I hS hM h
  refine wpAny_isTrue_Compare1 (thn (bin3 (Q := fun x M' => ∃ k, x = .bl k ∧ Q k M') ha hb ho I hS hM h) fun v s1 h1 => thn h1 fun u s2 h2 => thn h2 fun d s3 ⟨x, xv, M1, H1, I1, st1, m1, rv1, p1, k, e, q1⟩ => ?_) hm
  subst e
  cases p1
  cases rv1
  exact wpAny_truthy_bool ⟨M1, H1, I1, st1, m1, q1⟩
theorem pt3_val (h : PE3 X e te) (he : ∀ whole, isTrue e X.env whole = (do let v ← whole; standAt e.pos; holding [v] (truthy v)) := by intro _; rfl) : PT3 X e (tTest3 te) := by
  intro pins s σv H σ M Q I hS hM hw
  refine isTrue_plain (thn (h pins s σv H σ M _ I hS hM hw) fun v s1 ⟨x, xv, M1, H1, I1, st1, m1, rv1, p1, k, e, q1⟩ => ?_) (he _)
  subst e
  cases p1
  cases rv1
  exact wpAny_truthy_bool ⟨M1, H1, I1, st1, m1, q1⟩
def tChain3 (r r' : R3) (ta tb tc : TE3) : TE3 := fun σ M Q => ta σ M fun x M1 => tb σ M1 fun y M2 => r x y M2 fun z M3 => ∃ k, z = .bl k ∧ if k = true then tc σ M3 fun w M4 => r' y w M4 Q else Q (.bl false) M3
theorem pt3_chain {op op' : CmpOp} {r r' : R3} (ho : OpR3 X (compareOp op) r) (ho' : OpR3 X (compareOp op') r') (ha : PE3 X a ta) (hb : PE3 X b tb) (hc : PE3 X c tc)
    (hm : lastMarks [op, op'] [b, c] = false := by with_unfolding_all rfl) : PT3 X (.Compare a [op, op'] [b, c] pos) (tTest3 (tChain3 r r' ta tb tc)) := by
  intro pins s σv H σ M Q I hS hM h
  refine isTrue_chain (thn (ha pins s σv H σ M _ I hS hM h) fun v s1 ⟨x, xv, M1, H1, I1, st1, m1, rv1, p1, q1⟩ => test_link (thn (hb pins s1 σv H1 σ M1 _ I1 (hS.mono st1) m1 q1) fun u s2 ⟨y, yv, M2, H2, I2, st2, m2, rv2, p2, q2⟩ =>
    thn (ho pins s2 σv H2 M2 x y xv yv v u _ I2 m2 rv1 rv2 (p1.mono st2) p2 q2) fun d s3 ⟨z, zv, M3, H3, I3, st3, m3, rv3, p3, k, e, q3⟩ => ?_)) hm
  subst e
  cases p3
  cases rv3
  refine wpAny_truthy_bool ?_
  have st := (st1.trans st2).trans st3
  cases k with
  | false =>
    obtain ⟨k', e', q'⟩ := q3
    cases e'
    exact ite_ff ⟨M3, H3, I3, st, m3, q'⟩
  | true =>
    refine ite_tt (test_last (thn (hc pins s3 σv H3 σ M3 _ I3 (hS.mono st) m3 q3) fun w' s4 ⟨z', zv', M4, H4, I4, st4, m4, rv4, p4, q4⟩ =>
      thn (ho' pins s4 σv H4 M4 y z' yv zv' u w' _ I4 m4 rv2 rv4 (p2.mono (st3.trans st4)) p4 q4) fun d' s5 ⟨z2, zv2, M5, H5, I5, st5, m5, rv5, p5, k2, e2, q5⟩ => ?_))
    subst e2
    cases p5
    cases rv5
    exact wpAny_truthy_bool ⟨M5, H5, I5, (st.trans st4).trans st5, m5, q5⟩
def PW3 (X : Cx) (e : Expr) (t : TT3) : Prop :=
  ∀ (whole : Sem Value) (pins : List (Addr × Obj)) (s : Shared) (σv : L2.St) (H : Hp) (σ : Lo) (M : Mem) (Q : Bool → Mem → Prop), Inv X pins σv H s → SRel X.K M H σ σv → MRel X.K M H → t σ M Q →
    wpAny (model X.prog X.w) X.A (isTrue e X.env whole) (TP3 X pins σv M H Q) X.xe s
theorem PW3.pt {t : TT3} (h : PW3 X e t) : PT3 X e t := h _
variable {tA tB' : TT3} {rest : List Expr}
def tAnd3 (t u : TT3) : TT3 := fun σ M Q => t σ M fun c M1 => if c = true then u σ M1 Q else Q false M1
def tOr3 (t u : TT3) : TT3 := fun σ M Q => t σ M fun c M1 => if c = true then Q true M1 else u σ M1 Q
def tNot3 (t : TT3) : TT3 := fun σ M Q => t σ M fun c M1 => Q (!c) M1
theorem TP3.trans {pins : List (Addr × Obj)} {σv : L2.St} {M M1 : Mem} {H H1 : Hp} {Q : Bool → Mem → Prop} {u : Bool} {s' : Shared} (st : Step M H M1 H1) (h : TP3 X pins σv M1 H1 Q u s') : TP3 X pins σv M H Q u s' := by
  obtain ⟨M', H', I', st', m', q⟩ := h
  exact ⟨M', H', I', st.trans st', m', q⟩
theorem pw3_and1 (ha : PT3 X a tA) : PW3 X (.BoolOp .And [a] pos) tA := by
  intro wh pins s σv H σ M Q I hS hM h
  refine isTrue_and (thn (ha pins s σv H σ M Q I hS hM h) fun c s1 e => ?_)
  cases c with
  | true => exact isTrue_and_nil e
  | false => exact e
theorem pw3_or1 (ha : PT3 X a tA) : PW3 X (.BoolOp .Or [a] pos) tA := by
  intro wh pins s σv H σ M Q I hS hM h
  refine isTrue_or (thn (ha pins s σv H σ M Q I hS hM h) fun c s1 e => ?_)
  cases c with
  | false => exact isTrue_or_nil e
  | true => exact e
theorem pw3_and (ha : PT3 X a tA) (hb : PW3 X (.BoolOp .And (b :: rest) pos) tB') : PW3 X (.BoolOp .And (a :: b :: rest) pos) (tAnd3 tA tB') := by
  intro wh pins s σv H σ M Q I hS hM h
  refine isTrue_and (thn (ha pins s σv H σ M _ I hS hM h) fun c s1 ⟨M1, H1, I1, st1, m1, q1⟩ => ?_)
  cases c with
  | true => exact thn (hb wh pins s1 σv H1 σ M1 Q I1 (hS.mono st1) m1 q1) fun _ _ z => z.trans st1
  | false => exact ⟨M1, H1, I1, st1, m1, q1⟩
theorem pw3_or (ha : PT3 X a tA) (hb : PW3 X (.BoolOp .Or (b :: rest) pos) tB') : PW3 X (.BoolOp .Or (a :: b :: rest) pos) (tOr3 tA tB') := by
  intro wh pins s σv H σ M Q I hS hM h
  refine isTrue_or (thn (ha pins s σv H σ M _ I hS hM h) fun c s1 ⟨M1, H1, I1, st1, m1, q1⟩ => ?_)
  cases c with
  | false => exact thn (hb wh pins s1 σv H1 σ M1 Q I1 (hS.mono st1) m1 q1) fun _ _ z => z.trans st1
  | true => exact ⟨M1, H1, I1, st1, m1, q1⟩
theorem pt3_not (ha : PT3 X a tA) : PT3 X (.UnaryOp .Not a pos) (tNot3 tA) := fun pins s σv H σ M Q I hS hM h =>
  isTrue_not (ha pins s σv H σ M (fun c M1 => Q (!c) M1) I hS hM h)
def tAndV3 (ta tb : TE3) : TE3 := fun σ M Q => ta σ M fun x M1 => ∃ c, x = .bl c ∧ if c = true then tb σ M1 Q else Q (.bl false) M1
def tOrV3 (ta tb : TE3) : TE3 := fun σ M Q => ta σ M fun x M1 => ∃ c, x = .bl c ∧ if c = true then Q (.bl true) M1 else tb σ M1 Q
theorem pe3_one {op} (h : PE3 X a ta) : PE3 X (.BoolOp op [a] pos) ta := fun pins s σv H σ M Q I hS hM hw => BoolOp_one (h pins s σv H σ M Q I hS hM hw)
theorem pe3_and (ha : PE3 X a ta) (hb : PE3 X (.BoolOp .And (b :: rest) pos) tb) : PE3 X (.BoolOp .And (a :: b :: rest) pos) (tAndV3 ta tb) := by
  intro pins s σv H σ M Q I hS hM h
  refine BoolOp_and (thn (ha pins s σv H σ M _ I hS hM h) fun v s1 ⟨x, xv, M1, H1, I1, st1, m1, rv1, p1, c, e, q1⟩ => ?_)
  subst e
  cases p1
  cases rv1
  refine wpAny_truthy_bool ?_
  cases c with
  | true => exact thn (hb pins s1 σv H1 σ M1 Q I1 (hS.mono st1) m1 q1) fun _ _ z => z.trans st1
  | false => exact ⟨.bl false, .bl false, M1, H1, I1, st1, m1, rfl, .bl, q1⟩
theorem pe3_or (ha : PE3 X a ta) (hb : PE3 X (.BoolOp .Or (b :: rest) pos) tb) : PE3 X (.BoolOp .Or (a :: b :: rest) pos) (tOrV3 ta tb) := by
  intro pins s σv H σ M Q I hS hM h
  refine BoolOp_or (thn (ha pins s σv H σ M _ I hS hM h) fun v s1 ⟨x, xv, M1, H1, I1, st1, m1, rv1, p1, c, e, q1⟩ => ?_)
  subst e
  cases p1
  cases rv1
  refine wpAny_truthy_bool ?_
  cases c with
  | false => exact thn (hb pins s1 σv H1 σ M1 Q I1 (hS.mono st1) m1 q1) fun _ _ z => z.trans st1
  | true => exact ⟨.bl true, .bl true, M1, H1, I1, st1, m1, rfl, .bl, q1⟩
def tVar3 (i : Nat) : TE3 := fun σ M Q => match σ[i]? with
  | some (some d) => Q d M
  | _ => False
def tC3 (d : D) : TE3 := fun _ M Q => Q d M
theorem pe3_var {i : Nat} (h : PE X e (tVar i)) : PE3 X e (tVar3 i) := PE3.of h fun pins s σv H σ M Q I hS hM q => by
  unfold tVar3 at q
  cases e : σ[i]? with
  | none => rw [e] at q; exact q.elim
  | some od =>
    rw [e] at q
    cases od with
    | none => exact q.elim
    | some d =>
      obtain ⟨v, hv, r⟩ := hS.get i d e
      exact ⟨v, hv, up0 hM r q⟩
theorem pv3 (i : Nat) {x : Str} {pos : Pos} (hN : X.N[i]? = some x := by rfl) (hv : Vis X.env.scope x := by first | exact Or.inl rfl | exact Or.inr (Or.inl rfl) | exact Or.inr (Or.inr rfl)) (hd : (x == ("__debug__" : Str)) = false := by decide)
    (hcd : (x == ("__classdict__" : Str)) = false := by decide) : PE3 X (.Name x pos) (tVar3 i) := pe3_var (pe_var hN hv hd hcd)
theorem pe3_c {v : V} {d : D} (h : PE X e (tC v)) (hr : ∀ K M H, Rep K M H d v) : PE3 X e (tC3 d) := PE3.of h fun pins s σv H σ M Q I hS hM q => up0 hM (hr _ _ _) q
theorem pe3_int {i j pos} : PE3 X (.Constant (.int i) j pos) (tC3 (.int i)) := pe3_c pe_int fun _ _ _ => .int
theorem pe3_bl {b j pos} : PE3 X (.Constant (.bool b) j pos) (tC3 (.bl b)) := pe3_c pe_bl fun _ _ _ => .bl
theorem pe3_non {j pos} : PE3 X (.Constant .none j pos) (tC3 .non) := pe3_c pe_non fun _ _ _ => .non
theorem pe3_str {x j pos} : PE3 X (.Constant (.str x) j pos) (tC3 (.str x)) := pe3_c pe_str fun _ _ _ => .str
theorem pe3_glob {x : Str} {d : D} {v : V} {u : Value} {pos : Pos} (hg : Gl X x) (hm : X.mg x = some u) (r : RelV v u) (hr : ∀ M H, Rep X.K M H d v) (hd : (x == ("__debug__" : Str)) = false := by decide) : PE3 X (.Name x pos) (tC3 d) :=
  PE3.of (pe_glob hg hm r hd) fun pins s σv H σ M Q I hS hM q => up0 hM (hr _ _) q
def tNil3 : TA3 := fun _ M Q => Q [] M
def tCons3 (ta : TE3) (tr : TA3) : TA3 := fun σ M Q => ta σ M fun x M1 => tr σ M1 fun xs M2 => Q (x :: xs) M2
theorem pa3_nil : PA3 X [] tNil3 := fun pos pins s σv H σ M Q I hS hM h => Calls.spliced_nil ⟨[], [], M, H, I, .refl, hM, .nil, .nil, h⟩
theorem pa3_cons (ha : PE3 X e te) (hr : PA3 X es t) (hs : starEach (e :: es) X.env = (false, eval e X.env) :: starEach es X.env := by rfl) : PA3 X (e :: es) (tCons3 te t) := by
  intro pos pins s σv H σ M Q I hS hM h
  rw [hs]
  show wpAny _ _ (spliced ((false, eval e X.env) :: backTo pos (starEach es X.env))) _ _ s
  refine Calls.spliced_cons (thn (ha pins s σv H σ M _ I hS hM h) fun u s1 ⟨x, xv, M1, H1, I1, st1, m1, rv1, p1, q1⟩ => ?_)
  exact thn (hr pos pins s1 σv H1 σ M1 _ I1 (hS.mono st1) m1 q1) fun us s2 ⟨xs, xvs, M2, H2, I2, st2, m2, rv2, p2, q2⟩ => ⟨x :: xs, xv :: xvs, M2, H2, I2, st1.trans st2, m2, .cons rv1 rv2, .cons (p1.mono st2) p2, q2⟩
def tTup3 (t : TA3) : TE3 := fun σ M Q => t σ M fun xs M1 => xs.length ≤ sizeLine ∧ Q (.tup xs) M1
def tLst3 (t : TA3) : TE3 := fun σ M Q => t σ M fun xs M1 => xs.length ≤ sizeLine ∧ Q (.lst xs) M1
theorem pe3_tup {x1} (h : PA3 X es t) : PE3 X (.Tuple es x1 pos) (tTup3 t) := PE3.of (pe_tup h.dn) fun pins s σv H σ M Q I hS hM h => by
  refine ⟨σ, M, _, hS, hM, h, fun ds vs M' H' st m r ⟨hl, q⟩ => ⟨by rw [← r.length]; exact hl, fun p hp => ?_⟩⟩
  exact ⟨.tup ds, M', st.trans (Step.lay hp), m.lay hp, .tup (.inl ⟨.inl upd_same, m.free hp⟩) (r.mono (Step.lay hp)), q⟩
theorem pe3_lst (h : PA3 X es t) : PE3 X (.List es pos) (tLst3 t) := PE3.of (pe_lst h.dn) fun pins s σv H σ M Q I hS hM h => by
  refine ⟨σ, M, _, hS, hM, h, fun ds vs M' H' st m r ⟨hl, q⟩ => ⟨by rw [← r.length]; exact hl, fun p hp => ?_⟩⟩
  exact ⟨.lst ds, M', st.trans (Step.lay hp), m.lay hp, .lst (.inl ⟨.inl upd_same, m.free hp⟩) (r.mono (Step.lay hp)), q⟩
end
end L3
set_option Elab.async false
set_option linter.all false
set_option maxRecDepth 100000
namespace L3
open PySem PySem.Spec PyProof.Rows L2
section
variable {X : Cx}
def rI3 (C : Int → Int → Prop) (g : Int → Int → D) : R3 := fun x y M Q => match x, y with
  | .int i, .int j => C i j ∧ Q (g i j) M
  | _, _ => False
def rI30 (g : Int → Int → D) : R3 := fun x y M Q => match x, y with
  | .int i, .int j => Q (g i j) M
  | _, _ => False
theorem op3_I {f : Value → Value → Sem Value} {C : Int → Int → Prop} {g : Int → Int → Int} (h : OpR X f (rI C fun i j => .int (g i j))) : OpR3 X f (rI3 C fun i j => .int (g i j)) :=
  OpR3.of h fun H M x y xv yv Q m px py q => by
    cases x <;> cases y <;> first | exact q.elim | skip
    cases px; cases py
    exact ⟨_, _, rfl, rfl, q.1, up0 m .int q.2⟩
theorem op3_B0 {f : Value → Value → Sem Value} {g : Int → Int → Bool} (h : OpR X f (rI0 fun i j => .bl (g i j))) : OpR3 X f (rI30 fun i j => .bl (g i j)) :=
  OpR3.of h fun H M x y xv yv Q m px py q => by
    cases x <;> cases y <;> first | exact q.elim | skip
    cases px; cases py
    exact ⟨_, _, rfl, rfl, up0 m .bl q⟩
def CMulB (i j : Int) : Prop := CMul i j ∨ (i.natAbs < 2 ^ 4096 ∧ j.natAbs < 2 ^ 4096)
theorem bits_le {i : Int} (h : i.natAbs < 2 ^ 4096) : Builtin.Int.intBits i ≤ 4096 := by
  unfold Builtin.Int.intBits
  split
  · lia
  · rename_i hi
    have h0 : i.natAbs ≠ 0 := by intro z; apply hi; have : i = 0 := by lia
                                 subst this; rfl
    have := (Nat.log2_lt h0).mpr h
    lia
theorem mul_ok {i j : Int} (h : CMulB i j) : IntMulOk i j := by
  rcases h with h | ⟨h1, h2⟩
  · exact h.ok
  · have b1 := bits_le h1
    have b2 := bits_le h2
    unfold IntMulOk Builtin.Int.intTooBig
    have : decide (((Builtin.Int.intBits i + Builtin.Int.intBits j : Nat) : Int) > ((bitsLine : Nat) : Int)) = false := by
      refine decide_eq_false ?_
      have : bitsLine = 134217728 := rfl
      lia
    intro z
    simp only [Bool.and_eq_true] at z
    have z2 := z.2
    simp only [Int.natCast_add] at this
    rw [this] at z2; cases z2
theorem op_mulB : OpR X (binaryOp .Mult) (rI CMulB fun i j => .int (i * j)) := opI fun _ _ _ _ _ _ _ hc q => mul_int q (mul_ok hc)
def CDivB (i j : Int) : Prop := 0 < j ∧ j.natAbs < 2 ^ 4096
theorem op_fdivB : OpR X (binaryOp .FloorDiv) (rI CDivB fun i j => .int (i / j)) := opI fun i j _ _ _ _ _ hc q => by
  have h1 : (0 : Int) < j := hc.1
  refine floordiv_int (by lia) (by rw [Int.fdiv_eq_ediv_of_nonneg i (by lia)]; exact q) (.inl (PyProof.noPylong_of_log2 ?_))
  have h0 : j.natAbs ≠ 0 := by lia
  have := (Nat.log2_lt h0).mpr hc.2
  lia
theorem o3_mul : OpR3 X (binaryOp .Mult) (rI3 CMulB fun i j => .int (i * j)) := op3_I op_mulB
theorem o3_fdiv : OpR3 X (binaryOp .FloorDiv) (rI3 CDivB fun i j => .int (i / j)) := op3_I op_fdivB
theorem o3_mod : OpR3 X (binaryOp .Mod) (rI3 (fun _ j => 0 < j) fun i j => .int (i % j)) := op3_I op_mod
theorem o3_pow : OpR3 X (binaryOp .Pow) (rI3 CPow fun i j => .int (i ^ j.toNat)) := op3_I op_pow
theorem o3_lt : OpR3 X (compareOp .Lt) (rI30 fun i j => .bl (decide (i < j))) := op3_B0 op_lt
theorem o3_le : OpR3 X (compareOp .LtE) (rI30 fun i j => .bl (decide (i ≤ j))) := op3_B0 op_le
theorem o3_gt : OpR3 X (compareOp .Gt) (rI30 fun i j => .bl (decide (j < i))) := op3_B0 op_gt
theorem o3_ge : OpR3 X (compareOp .GtE) (rI30 fun i j => .bl (decide (j ≤ i))) := op3_B0 op_ge
def rAdd3 : R3 := fun x y M Q => match x, y with
  | .int i, .int j => Q (.int (i + j)) M
  | .str a, .str b => a.length + b.length ≤ sizeLine ∧ Q (.str (a ++ b)) M
  | .lst a, .lst b => a.length + b.length ≤ sizeLine ∧ Q (.lst (a ++ b)) M
  | .tup a, .tup b => a.length + b.length ≤ sizeLine ∧ Q (.tup (a ++ b)) M
  | _, _ => False
theorem o3_add : OpR3 X (binaryOp .Add) rAdd3 := by
  intro pins s σv H M x y xv yv v u Q I m rx ry px py q
  cases x <;> cases y <;> first | exact q.elim | skip
  · cases px; cases py
    exact thn (op_add pins s σv H _ _ v u _ I rx ry ⟨_, _, rfl, rfl, up0 m .int q⟩) fun _ _ z => ep_up z
  · cases px; cases py
    exact thn (op_add_str pins s σv H _ _ v u _ I rx ry ⟨_, _, rfl, rfl, q.1, up0 m .str q.2⟩) fun _ _ z => ep_up z
  · cases px with | tup h1 r1 => cases py with | tup h2 r2 =>
    cases rx; cases ry
    obtain ⟨its, e1, p1, z1⟩ := I.tuple (SqT.of3 h1)
    obtain ⟨its2, e2, p2, z2⟩ := I.tuple (SqT.of3 h2)
    obtain ⟨⟨cls, dd, data, sl⟩, ho, hc, n, hd⟩ := id p1
    obtain ⟨⟨cls2, dd2, data2, sl2⟩, ho2, hc2, n2, hd2⟩ := id p2
    simp only at hc hd hc2 hd2
    subst hc hd hc2 hd2
    have l1 := r1.length
    have l2 := r2.length
    have l3 := e1.length
    have l4 := e2.length
    obtain ⟨hz, q⟩ := q
    by_cases hA : its.toArray.isEmpty = true
    · refine concat_meets ⟨_, ho, rfl⟩ ⟨_, ho2, rfl⟩ noFill_tuple_add seq_tuple_add PySem.F.slot_tuple_add PySem.F.entry_tuple_add (PySem.F.args_tuple_add_2 _ _) (tuple_addW0 _ _ _ _ n n2 dd dd2 sl sl2 hA) ⟨ho, ho2, ?_⟩
      have h0 : its = [] := by simpa using hA
      subst h0
      cases e1
      cases r1
      exact ⟨_, .ref _, M, H, I, .refl, m, rfl, .tup h2 r2, q⟩
    · by_cases hB : its2.toArray.isEmpty = true
      · refine concat_meets ⟨_, ho, rfl⟩ ⟨_, ho2, rfl⟩ noFill_tuple_add seq_tuple_add PySem.F.slot_tuple_add PySem.F.entry_tuple_add (PySem.F.args_tuple_add_2 _ _) (tuple_addW1 _ _ _ _ n n2 dd dd2 sl sl2 hA hB) ⟨ho, ho2, ?_⟩
        have h0 : its2 = [] := by simpa using hB
        subst h0
        cases e2
        cases r2
        rw [List.append_nil] at q
        exact ⟨_, .ref _, M, H, I, .refl, m, rfl, .tup h1 r1, q⟩
      · refine concat_meets ⟨_, ho, rfl⟩ ⟨_, ho2, rfl⟩ noFill_tuple_add seq_tuple_add PySem.F.slot_tuple_add PySem.F.entry_tuple_add (PySem.F.args_tuple_add_2 _ _) (tuple_addW2 _ _ _ _ n n2 dd dd2 sl sl2 hA hB (by simp; lia)) ⟨ho, ho2, ?_⟩
        have ea : its.toArray ++ its2.toArray = (its ++ its2).toArray := by simp
        rw [ea]
        have hf := I.fresh
        have rr := r1.append r2
        refine ⟨_, .ref s.heap.objs.size, M, _, I.laid (t' := s.toks) (o := .tup _) (fun b ob q => Heap.get?_push_of_some _ q) (Nat.le_refl _) ⟨by rw [List.length_append]; lia, _, e1.append e2, IsTup.new _ _⟩, Step.lay hf, m.lay hf, rfl, .tup (.inl ⟨.inl upd_same, m.free hf⟩) (rr.mono (Step.lay hf)), q⟩
  · cases px with | lst h1 r1 => cases py with | lst h2 r2 =>
    cases rx; cases ry
    obtain ⟨its, e1, p1, z1⟩ := I.list (SqL.of3 h1)
    obtain ⟨its2, e2, p2, z2⟩ := I.list (SqL.of3 h2)
    obtain ⟨⟨cls, dd, data, sl⟩, ho, hc, n, hd⟩ := p1.isList
    obtain ⟨⟨cls2, dd2, data2, sl2⟩, ho2, hc2, n2, hd2⟩ := p2.isList
    simp only at hc hd hc2 hd2
    subst hc hd hc2 hd2
    have l1 := r1.length
    have l2 := r2.length
    have l3 := e1.length
    have l4 := e2.length
    obtain ⟨hz, q⟩ := q
    refine concat_meets ⟨_, ho, rfl⟩ ⟨_, ho2, rfl⟩ noFill_list_add seq_list_add PySem.F.slot_list_add PySem.F.entry_list_add (PySem.F.args_list_add_2 _ _) (list_addW _ _ _ _ n n2 dd dd2 sl sl2 (by simp; lia)) ⟨ho, ho2, ?_⟩
    have ea : its.toArray ++ its2.toArray = (its ++ its2).toArray := by simp
    rw [ea]
    have hf := I.fresh
    have rr := r1.append r2
    exact ⟨_, .ref s.heap.objs.size, M, _, I.lnew (t' := s.toks) (e1.append e2) (by rw [List.length_append]; lia), Step.lay hf, m.lay hf, rfl, .lst (.inl ⟨.inl upd_same, m.free hf⟩) (rr.mono (Step.lay hf)), q⟩
def dOk (d : D) : Prop := plain d = true ∧ (pyD d).canLay0 = true ∧ (pyD d).depth ≤ 60
def rEq3 : R3 := fun x y M Q => (dOk x ∧ dOk y ∧ Q (.bl (PyData.eqv (pyD x) (pyD y))) M) ∨ ∃ a b, x = .str a ∧ y = .str b ∧ Q (.bl (a == b)) M
def rNe3 : R3 := fun x y M Q => (dOk x ∧ dOk y ∧ Q (.bl (!PyData.eqv (pyD x) (pyD y))) M) ∨ ∃ a b, x = .str a ∧ y = .str b ∧ Q (.bl (!(a == b))) M
theorem o3_eq {k : Nat} (hr : Room k X.A) : OpR3 X (compareOp .Eq) rEq3 := by
  intro pins s σv H M x y xv yv v u Q I m rx ry px py h
  rcases h with ⟨dx, dy, q⟩ | ⟨a, b, rfl, rfl, q⟩
  rotate_left
  · cases px; cases py
    exact thn (op_eq pins s σv H _ _ v u _ I rx ry ⟨rfl, up0 m .bl (by rw [dec_str]; exact q)⟩) fun _ _ z => ep_up z
  obtain ⟨as, r1⟩ := rep_reads I dx.1 px rx
  obtain ⟨bs, r2⟩ := rep_reads I dy.1 py ry
  exact SeqAt.compareEq_reads r1 r2 dx.2.1 dy.2.1 (by have := hr.units; have := dx.2.2; lia) ⟨_, .bl _, M, H, I, .refl, m, rfl, .bl, q⟩
theorem o3_ne {k : Nat} (hr : Room k X.A) : OpR3 X (compareOp .NotEq) rNe3 := by
  intro pins s σv H M x y xv yv v u Q I m rx ry px py h
  rcases h with ⟨dx, dy, q⟩ | ⟨a, b, rfl, rfl, q⟩
  rotate_left
  · cases px; cases py
    exact thn (op_ne pins s σv H _ _ v u _ I rx ry ⟨rfl, up0 m .bl (by rw [dec_str]; exact q)⟩) fun _ _ z => ep_up z
  obtain ⟨as, r1⟩ := rep_reads I dx.1 px rx
  obtain ⟨bs, r2⟩ := rep_reads I dy.1 py ry
  exact SeqAt.compareNe_reads r1 r2 dx.2.1 dy.2.1 (by have := hr.units; have := dx.2.2; lia) ⟨_, .bl _, M, H, I, .refl, m, rfl, .bl, q⟩
def rIs3 : R3 := fun x y M Q => y = .non ∧ Q (.bl (match x with | .non => true | _ => false)) M
theorem o3_is : OpR3 X (compareOp .Is) rIs3 := OpR3.of op_isN fun H M x y xv yv Q m px py hx0 => by
  obtain ⟨e, q⟩ := hx0
  subst e; cases py
  refine ⟨rfl, ?_⟩
  cases px <;> exact up0 m .bl (by simpa using q)
variable {a b e : Expr} {ta tb te : TE3} {pos : Pos}
def rIx3 : R3 := fun x y M Q => match x, y with
  | .lst ds, .int i => ∃ d, atI ds i = some d ∧ Q d M
  | .tup ds, .int i => ∃ d, atI ds i = some d ∧ Q d M
  | .ref a, .int i => ∃ ds d, M a = some (.lst ds) ∧ atI ds i = some d ∧ Q d M
  | .str z, .int i => z.length ≤ sizeLine ∧ ∃ c, atI z.cps.toList i = some c ∧ Q (.str ⟨#[c]⟩) M
  | _, _ => False
theorem Reps.atI {K : PySem.W.Frag} {M : Mem} {H : Hp} {ds : List D} {vs : List V} (r : Reps K M H ds vs) {i : Int} {d : D} (h : L2.atI ds i = some d) : ∃ v, L2.atI vs i = some v ∧ Rep K M H d v := by
  unfold L2.atI at h ⊢
  rw [← r.length]
  cases e : ixN ds.length i with
  | none => rw [e] at h; cases h
  | some j =>
    rw [e] at h
    exact r.get (show ds[j]? = some d from h)
theorem pe3_ix (ha : PE3 X a ta) (hb : PE3 X b tb) (hs : PlainIx b) : PE3 X (.Subscript a b pos) (tOp3 rIx3 ta tb) := by
  intro pins s σv H σ M Q I hS hM h
  refine Subscript_ (thn (ha pins s σv H σ M _ I hS hM h) fun v s1 ⟨x, xv, M1, H1, I1, st1, m1, rv1, p1, q1⟩ =>
    thn (hb pins s1 σv H1 σ M1 _ I1 (hS.mono st1) m1 q1) fun u s2 ⟨y, yv, M2, H2, I2, st2, m2, rv2, p2, q2⟩ => ?_)
  have fin : rIx X.K xv yv H2 (Up X.K M2 H2 Q) := by
    have p1' := p1.mono st2
    cases x <;> cases y <;> first | exact q2.elim | skip
    · cases p1'; cases p2
      obtain ⟨hz, c, hc, q⟩ := q2
      exact .inr (.inr ⟨_, _, c, rfl, rfl, hz, hc, up0 m2 .str q⟩)
    · cases p1'; cases p2
      obtain ⟨ds, d, hm, hd, q⟩ := q2
      obtain ⟨ho, e1, r⟩ := m2 _ _ hm
      cases ho <;> first | exact r.elim | skip
      obtain ⟨v', hv, rv⟩ := Reps.atI r hd
      exact .inl ⟨_, _, _, v', rfl, rfl, .inl (.inl e1), hv, up0 m2 rv q⟩
    · cases p1' with | tup h1 r => cases p2; obtain ⟨d, hd, q⟩ := q2; obtain ⟨v', hv, rv⟩ := Reps.atI r hd; exact .inr (.inl ⟨_, _, _, v', rfl, rfl, SqT.of3 h1, hv, up0 m2 rv q⟩)
    · cases p1' with | lst h1 r => cases p2; obtain ⟨d, hd, q⟩ := q2; obtain ⟨v', hv, rv⟩ := Reps.atI r hd; exact .inl ⟨_, _, _, v', rfl, rfl, SqL.of3 h1, hv, up0 m2 rv q⟩
  exact thn (ix_seq a b pins s2 σv H2 xv yv v u _ I2 rv1 rv2 fin (hs _ _)) fun _ _ z => (ep_up z).trans (st1.trans st2)
def tNoPart3 : Lo → Mem → (Option Int → Mem → Prop) → Prop := fun _ M Q => Q none M
def tPart3 (t : TE3) : Lo → Mem → (Option Int → Mem → Prop) → Prop := fun σ M Q => t σ M fun x M1 => match x with
  | .int i => Q (some i) M1
  | _ => False
abbrev TO3 := Lo → Mem → (Option Int → Mem → Prop) → Prop
def PO3 (X : Cx) (e : Option Expr) (t : TO3) : Prop :=
  ∀ (pins : List (Addr × Obj)) (s : Shared) (σv : L2.St) (H : Hp) (σ : Lo) (M : Mem) (Q : Option Int → Mem → Prop), Inv X pins σv H s → SRel X.K M H σ σv → MRel X.K M H → t σ M Q →
    wpAny (model X.prog X.w) X.A (evalPart e X.env) (fun v s' => ∃ o M' H', Inv X pins σv H' s' ∧ Step M H M' H' ∧ MRel X.K M' H' ∧ IsPart v o ∧ Q o M') X.xe s
theorem po3_none : PO3 X none tNoPart3 := by
  intro pins s σv H σ M Q I hS hM h
  rw [evalPart_none]
  exact wpAny_pure ⟨none, M, H, I, .refl, hM, .none, h⟩
theorem po3_some (h : PE3 X e te) : PO3 X (some e) (tPart3 te) := by
  intro pins s σv H σ M Q I hS hM hw
  rw [evalPart_some]
  refine thn (h pins s σv H σ M _ I hS hM hw) fun u s1 hx0 => ?_
  obtain ⟨x, xv, M1, H1, I1, st1, m1, rv1, p1, q1⟩ := hx0
  cases x <;> first | exact q1.elim | skip
  cases p1
  obtain ⟨t, rfl⟩ := rv1
  exact ⟨some _, M1, H1, I1, st1, m1, .int _ t, q1⟩
def cutD (xs : List D) (lo hi : Option Int) : List D := (xs.drop (HT.sIx xs.length 0 lo)).take (HT.sIx xs.length xs.length hi - HT.sIx xs.length 0 lo)
theorem Reps.cut {K : PySem.W.Frag} {M : Mem} {H : Hp} {ds : List D} {vs : List V} (r : Reps K M H ds vs) (lo hi : Option Int) : Reps K M H (cutD ds lo hi) (cutV vs lo hi) := by
  unfold cutD cutV
  rw [r.length]
  exact (r.drop _).take _
def rSl3 : D → Option Int → Option Int → Mem → DK → Prop := fun x lo hi M Q => match x with
  | .lst ds => Q (.lst (cutD ds lo hi)) M
  | .tup ds => ¬ (HT.sIx ds.length 0 lo = 0 ∧ HT.sIx ds.length ds.length hi = ds.length) ∧ Q (.tup (cutD ds lo hi)) M
  | _ => False
theorem pe3_slice {lo hi : Option Expr} {tl th : TO3} {p2 : Pos} (he : PE3 X e te) (hl : PO3 X lo tl) (hu : PO3 X hi th) :
    PE3 X (.Subscript e (.Slice lo hi none p2) pos) (fun σ M Q => te σ M fun x M1 => tl σ M1 fun l M2 => th σ M2 fun u M3 => rSl3 x l u M3 Q) := by
  intro pins s σv H σ M Q I hS hM h
  refine Subscript_ (thn (he pins s σv H σ M _ I hS hM h) fun v s1 ⟨x, xv, M1, H1, I1, st1, m1, rv1, p1, q1⟩ => ?_)
  refine wpAny_Slice (thn (hl pins s1 σv H1 σ M1 _ I1 (hS.mono st1) m1 q1) fun vl s2 ⟨l, M2, H2, I2, st2, m2, pl, q2⟩ => thn (hu pins s2 σv H2 σ M2 _ I2 (hS.mono (st1.trans st2)) m2 q2) fun vu s3 ⟨u, M3, H3, I3, st3, m3, pu, q3⟩ => ?_)
  rw [evalPart_none]
  refine wpAny_pure ?_
  have I4 : Inv X pins σv H3 { s3 with heap := s3.heap.push { cls := .type "slice", data := .fields #[vl, vu, .none] } } := I3.kept (t' := s3.toks) fun b ob q => Heap.get?_push_of_some _ q
  have p3 := p1.mono (st2.trans st3)
  have fin : rSlL X.K xv l u H3 (Up X.K M3 H3 Q) ∨ rSlT X.K xv l u H3 (Up X.K M3 H3 Q) := by
    cases x <;> first | exact q3.elim | skip
    · cases p3 with | tup h1 r =>
      obtain ⟨hw, q⟩ := q3
      rw [r.length] at hw
      exact .inr ⟨_, _, rfl, SqT.of3 h1, hw, fun p hp => ⟨_, M3, Step.lay hp, m3.lay hp, .tup (.inl ⟨.inl upd_same, m3.free hp⟩) ((r.cut l u).mono (Step.lay hp)), q⟩⟩
    · cases p3 with | lst h1 r =>
      refine .inl ⟨_, _, rfl, SqL.of3 h1, fun p hp => ?_⟩
      exact ⟨_, M3, Step.lay hp, m3.lay hp, .lst (.inl ⟨.inl upd_same, m3.free hp⟩) ((r.cut l u).mono (Step.lay hp)), q3⟩
  obtain ⟨T, id, hT, ht, hg⟩ := (sl_list.or sl_tup) pins { s3 with heap := s3.heap.push { cls := .type "slice", data := .fields #[vl, vu, .none] } } σv H3 xv v vl vu l u s3.heap.objs.size _ I4 rv1 (Heap.IsSliceOf.new ..) pl pu fin
  show wpAny (model X.prog X.w) X.A (subscriptTail e (.Slice lo hi none p2) v (.ref s3.heap.objs.size)) (EP3 X pins σv M H Q) X.xe { s3 with heap := s3.heap.push { cls := .type "slice", data := .fields #[vl, vu, .none] } }
  exact tail_any (ops := [.ref s3.heap.objs.size, v]) ht hT (thn hg fun _ _ z => (ep_up z).trans ((st1.trans st2).trans st3)) (by with_unfolding_all rfl)
end
end L3
set_option Elab.async false
set_option linter.all false
set_option maxRecDepth 100000
namespace L3
open PySem PySem.Spec PyProof.Rows L2
section
variable {X : Cx} {a b e o i value : Expr} {es : List Expr} {ta tb te td ty tv : TE3} {t : TA3} {pos p pos' : Pos} {x : Str} {id T : String} {r : C3}
def tCB3 (r : C3) (t : TA3) : TE3 := fun σ M Q => t σ M fun ds M1 => r ds M1 Q
theorem pe3_callB (hc : CallR3 X (.builtin id) r) (hg : Gl X x) (hm : X.mg x = none) (hv : bootBuiltins x = some (.builtin id)) (ha : PA3 X (e :: es) t) (hn : x ≠ "__name__" := by decide) (hdb : (x == ("__debug__" : Str)) = false := by decide)
    (he : starEach (e :: es) X.env = (false, eval e X.env) :: starEach es X.env := by rfl) (hpl : (backTo pos (starEach es X.env)).any (·.1) = false := by rfl) : PE3 X (.Call (.Name x p) (e :: es) [] pos) (tCB3 r t) := by
  intro pins s σv H σ M Q I hS hM h
  refine wpAny_Call_Name_kw (ld_blt I hg hm hv ?_ hn hdb)
  exact PyProof.Rows.callWith_builtin1 (thn (ha pos pins s σv H σ M _ I hS hM h) fun us s1 ⟨ds, vs, M1, H1, I1, st1, m1, rv1, p1, q1⟩ => thn (hc pins s1 σv H1 M1 ds vs us Q I1 m1 rv1 p1 q1) fun _ _ z => z.trans st1) he hpl
theorem pe3_callTy (hc : CallR3 X (.type T) r) (hg : Gl X x) (hm : X.mg x = none) (hv : bootBuiltins x = some (.type T)) (ha : PA3 X (e :: es) t) (hn : x ≠ "__name__" := by decide) (hdb : (x == ("__debug__" : Str)) = false := by decide)
    (he : starEach (e :: es) X.env = (false, eval e X.env) :: starEach es X.env := by rfl) (hpl : (backTo pos (starEach es X.env)).any (·.1) = false := by rfl) : PE3 X (.Call (.Name x p) (e :: es) [] pos) (tCB3 r t) := by
  intro pins s σv H σ M Q I hS hM h
  refine wpAny_Call_Name_kw (ld_blt I hg hm hv ?_ hn hdb)
  exact PyProof.Rows.callWith_type1 (thn (ha pos pins s σv H σ M _ I hS hM h) fun us s1 ⟨ds, vs, M1, H1, I1, st1, m1, rv1, p1, q1⟩ => thn (hc pins s1 σv H1 M1 ds vs us Q I1 m1 rv1 p1 q1) fun _ _ z => z.trans st1) he hpl
theorem pe3_bltn {v : V} {d : D} {u : Value} (hg : Gl X x) (hm : X.mg x = none) (hv : bootBuiltins x = some u) (r : RelV v u) (hr : ∀ K M H, Rep K M H d v) (hn : x ≠ "__name__" := by decide) (hd : (x == ("__debug__" : Str)) = false := by decide) : PE3 X (.Name x pos) (tC3 d) :=
  pe3_c (pe_bltn hg hm hv r hn hd) hr
def rLen3 : C3 := fun ds M Q => match ds with
  | [.lst xs] => Q (.int xs.length) M
  | [.tup xs] => Q (.int xs.length) M
  | [.str z] => z.length ≤ sizeLine ∧ Q (.int z.length) M
  | [.ref a] => ∃ xs, M a = some (.lst xs) ∧ Q (.int xs.length) M
  | _ => False
theorem c3_len : CallR3 X (.builtin "len") rLen3 := CallR3.of (call_len_seq.or call_len_str) fun H M xs xvs Q m px q => by
  rcases px with _ | ⟨pd, ps⟩; (exact (q : False).elim); rcases ps with _ | ⟨p2, ps2⟩; rotate_left; (first | exact (q : False).elim | (cases pd <;> exact (q : False).elim))
  cases pd with
  | lst h r => exact .inl ⟨_, _, rfl, .inl (SqL.of3 h), by rw [← r.length]; exact up0 m .int q⟩
  | tup h r => exact .inl ⟨_, _, rfl, .inr (SqT.of3 h), by rw [← r.length]; exact up0 m .int q⟩
  | str => exact .inr ⟨_, rfl, q.1, up0 m .int q.2⟩
  | ref =>
    obtain ⟨ds, hm, q⟩ := q
    obtain ⟨ho, e1, r⟩ := m _ _ hm
    cases ho <;> first | exact r.elim | skip
    have r' : Reps X.K M H ds _ := r
    exact .inl ⟨_, _, rfl, .inl (.inl (.inl e1)), by rw [← r'.length]; exact up0 m .int q⟩
  | _ => exact (q : False).elim
def rAbs3 : C3 := fun ds M Q => match ds with
  | [.int i] => Q (.int (if i < 0 then -i else i)) M
  | _ => False
theorem c3_abs : CallR3 X (.builtin "abs") rAbs3 := CallR3.of call_abs fun H M xs xvs Q m px q => by
  rcases px with _ | ⟨pd, ps⟩; (exact (q : False).elim); rcases ps with _ | ⟨p2, ps2⟩; rotate_left; (first | exact (q : False).elim | (cases pd <;> exact (q : False).elim))
  cases pd with
  | int => exact ⟨_, rfl, up0 m .int q⟩
  | _ => exact (q : False).elim
def rInt3 : C3 := fun ds M Q => match ds with
  | [.int i] => Q (.int i) M
  | [.bl k] => Q (.int (if k then 1 else 0)) M
  | _ => False
theorem c3_int : CallR3 X (.type "int") rInt3 := CallR3.of call_int1 fun H M xs xvs Q m px q => by
  rcases px with _ | ⟨pd, ps⟩; (exact (q : False).elim); rcases ps with _ | ⟨p2, ps2⟩; rotate_left; (first | exact (q : False).elim | (cases pd <;> exact (q : False).elim))
  cases pd with
  | int => exact .inl ⟨_, rfl, up0 m .int q⟩
  | bl => exact .inr ⟨_, rfl, up0 m .int q⟩
  | _ => exact (q : False).elim
def rList3 : C3 := fun ds M Q => match ds with
  | [.lst xs] => Q (.lst xs) M
  | [.tup xs] => Q (.lst xs) M
  | _ => False
theorem c3_list : CallR3 X (.type "list") rList3 := CallR3.of call_list_of fun H M xs xvs Q m px q => by
  rcases px with _ | ⟨pd, ps⟩; (exact (q : False).elim); rcases ps with _ | ⟨p2, ps2⟩; rotate_left; (first | exact (q : False).elim | (cases pd <;> exact (q : False).elim))
  cases pd with
  | lst h r => exact ⟨_, _, rfl, .inl (SqL.of3 h), fun l hl => ⟨_, M, Step.lay hl, m.lay hl, .lst (.inl ⟨.inl upd_same, m.free hl⟩) (r.mono (Step.lay hl)), q⟩⟩
  | tup h r => exact ⟨_, _, rfl, .inr (SqT.of3 h), fun l hl => ⟨_, M, Step.lay hl, m.lay hl, .lst (.inl ⟨.inl upd_same, m.free hl⟩) (r.mono (Step.lay hl)), q⟩⟩
  | _ => exact (q : False).elim
def tyN : D → String
  | .non => "NoneType" | .bl _ => "bool" | .int _ => "int" | .str _ => "str" | .tup _ => "tuple" | .lst _ => "list" | .dct _ => "dict" | .ty _ => "type" | .ref _ => ""
def isIn (n T : String) : Bool := n == T || (n == "bool" && T == "int")
def okTy : D → Prop
  | .ref _ => False
  | .ty _ => False
  | _ => True
def rIsi3 : C3 := fun ds M Q => match ds with
  | [d, .ty T] => okTy d ∧ (T = "bool" ∨ T = "int" ∨ T = "str" ∨ T = "tuple" ∨ T = "list") ∧ Q (.bl (isIn (tyN d) T)) M
  | _ => False
theorem kit_ok {K : PySem.W.Frag} {n T : String} (hn : n = "NoneType" ∨ n = "bool" ∨ n = "int" ∨ n = "str" ∨ n = "tuple" ∨ n = "list" ∨ n = "dict") (hT : T = "bool" ∨ T = "int" ∨ T = "str" ∨ T = "tuple" ∨ T = "list") :
    PySem.W.kitOne K (.type n) (.type T) = some (isIn n T) := by
  rcases hn with rfl | rfl | rfl | rfl | rfl | rfl | rfl <;> rcases hT with rfl | rfl | rfl | rfl | rfl <;> kernel_rfl
end
end L3
set_option Elab.async false
set_option linter.all false
set_option maxRecDepth 100000
namespace L3
open PySem PySem.Spec PyProof.Rows L2
section
variable {X : Cx} {a b e o i value : Expr} {es : List Expr} {ta tb te td ty tv : TE3} {t : TA3} {pos p pos' : Pos} {x : Str}
theorem c3_isi : CallR3 X (.builtin "isinstance") rIsi3 := by
  intro pins s σv H M xs xvs us Q I m rv px q
  have fin : ∀ (d : D) (T : String) (v : V) (u : Value) (n : String) (hn : n = "NoneType" ∨ n = "bool" ∨ n = "int" ∨ n = "str" ∨ n = "tuple" ∨ n = "list" ∨ n = "dict") (G : Heap → Prop), tyN d = n →
      PySem.W.KitX X.K u (.type n) G → G s.heap → u ≠ .builtin "__main__.__loader__#opaque" → (T = "bool" ∨ T = "int" ∨ T = "str" ∨ T = "tuple" ∨ T = "list") ∧ Q (.bl (isIn (tyN d) T)) M →
      wpAny (model X.prog X.w) X.A (call (.builtin "isinstance") [u, .type T]) (EP3 X pins σv M H Q) X.xe s := by
    intro d T v u n hn G e1 kx g hu ⟨hT, q⟩
    subst e1
    exact PySem.W.kia_one kx I.kIn g (kit_ok hn hT) hu fun tk => ⟨_, .bl _, M, H, I.tok tk, .refl, m, rfl, .bl, q⟩
  match xs, px, q with
  | [d, .ty T], .cons pd (.cons .ty .nil), q =>
    obtain ⟨u, u', rfl, ru, ru'⟩ := vals2 rv
    cases ru'
    obtain ⟨hd, q⟩ := q
    cases pd with
    | non => cases ru; exact fin .non T .non _ _ (.inl rfl) _ rfl PySem.W.kitx_none True.intro (fun z => nomatch z) q
    | @bl k => cases ru; exact fin (.bl k) T .non _ _ (.inr (.inl rfl)) _ rfl PySem.W.kitx_bool True.intro (fun z => nomatch z) q
    | @int k => obtain ⟨t, rfl⟩ := ru; exact fin (.int k) T .non _ _ (.inr (.inr (.inl rfl))) _ rfl PySem.W.kitx_int True.intro (fun z => nomatch z) q
    | @str k => obtain ⟨t, rfl⟩ := ru; exact fin (.str k) T .non _ _ (.inr (.inr (.inr (.inl rfl)))) _ rfl PySem.W.kitx_str True.intro (fun z => nomatch z) q
    | @tup a k vs h r =>
      cases ru
      obtain ⟨its, _, ⟨ob, h1, h2, _⟩, _⟩ := I.tuple (SqT.of3 h)
      exact fin (.tup k) T .non _ _ (.inr (.inr (.inr (.inr (.inl rfl))))) _ rfl PySem.W.kitx_tuple ⟨ob, h1, h2⟩ (fun z => nomatch z) q
    | @lst a k vs h r =>
      cases ru
      obtain ⟨its, _, ⟨ob, n, h1, h2, _⟩, _⟩ := I.list (SqL.of3 h)
      exact fin (.lst k) T .non _ _ (.inr (.inr (.inr (.inr (.inr (.inl rfl)))))) _ rfl PySem.W.kitx_list ⟨ob, h1, h2⟩ (fun z => nomatch z) q
    | @dct a k vs h r =>
      cases ru
      obtain ⟨_, _, vs, _, ob, es, ep, h1, h2, _⟩ := dk_rd I.hok h.1
      exact fin (.dct k) T .non _ _ (.inr (.inr (.inr (.inr (.inr (.inr rfl)))))) _ rfl PySem.W.kitx_dict ⟨ob, h1, h2.1⟩ (fun z => nomatch z) q
    | ty => exact hd.elim
    | ref => exact hd.elim
def valD (kds : List (Key × D)) (k : Key) : Option D := (kds.find? fun kv => decide (kv.1 = k)).map (·.2)
def putD (kds : List (Key × D)) (k : Key) (d : D) : List (Key × D) :=
  if (kds.any fun kv => decide (kv.1 = k)) = true then kds.map (fun kv => if kv.1 = k then (kv.1, d) else kv) else kds ++ [(k, d)]
def mergeD (kds more : List (Key × D)) : List (Key × D) := more.foldl (fun acc kv => putD acc kv.1 kv.2) kds
def kD : Key → D
  | .inl i => .int i
  | .inr x => .str x
def dK? : D → Option Key
  | .int i => some (.inl i)
  | .str x => some (.inr x)
  | _ => none
section
variable {K : PySem.W.Frag} {M : Mem} {H : Hp}
theorem RepK.length {kds : List (Key × D)} {kvs : List (Key × V)} (r : RepK K M H kds kvs) : kds.length = kvs.length := by
  induction kds generalizing kvs with
  | nil => cases r; rfl
  | cons d ds ih => cases r with | cons a b => rw [List.length_cons, List.length_cons, ih b]
theorem RepK.val {kds : List (Key × D)} {kvs : List (Key × V)} (r : RepK K M H kds kvs) (k : Key) : (∃ d v, valD kds k = some d ∧ valV kvs k = some v ∧ Rep K M H d v) ∨ (valD kds k = none ∧ valV kvs k = none) := by
  induction kds generalizing kvs with
  | nil => cases r; exact .inr ⟨rfl, rfl⟩
  | cons d ds ih =>
    cases r with
    | @cons k' d v ds vs a b =>
      by_cases e : k' = k
      · exact .inl ⟨d, v, by simp [valD, e], by simp [valV, e], a⟩
      · have e1 : valD ((k', d) :: ds) k = valD ds k := by simp [valD, e]
        have e2 : valV ((k', v) :: vs) k = valV vs k := by simp [valV, e]
        rw [e1, e2]; exact ih b
theorem RepK.some {kds : List (Key × D)} {kvs : List (Key × V)} (r : RepK K M H kds kvs) {k : Key} {d : D} (h : valD kds k = Option.some d) : ∃ v, valV kvs k = Option.some v ∧ Rep K M H d v := by
  rcases r.val k with ⟨d', v, e1, e2, q⟩ | ⟨e1, _⟩
  · rw [h] at e1; cases e1; exact ⟨v, e2, q⟩
  · rw [h] at e1; cases e1
theorem RepK.anyK {kds : List (Key × D)} {kvs : List (Key × V)} (r : RepK K M H kds kvs) (k : Key) : (kds.any fun kv => decide (kv.1 = k)) = kvs.any fun kv => decide (kv.1 = k) := by
  induction kds generalizing kvs with
  | nil => cases r; rfl
  | cons d ds ih => cases r with | cons a b => rw [List.any_cons, List.any_cons, ih b]
theorem RepK.repl {kds : List (Key × D)} {kvs : List (Key × V)} (r : RepK K M H kds kvs) (k : Key) {d : D} {v : V} (q : Rep K M H d v) : RepK K M H (kds.map (fun kv => if kv.1 = k then (kv.1, d) else kv)) (kvs.map (fun kv => if kv.1 = k then (kv.1, v) else kv)) := by
  induction kds generalizing kvs with
  | nil => cases r; exact .nil
  | cons d' ds ih =>
    cases r with
    | @cons k' d' v' ds vs a b =>
      rw [List.map_cons, List.map_cons]
      by_cases e : k' = k
      · simp only [e, if_true]; exact .cons q (ih b)
      · simp only [e, if_false]; exact .cons a (ih b)
theorem RepK.snoc {kds : List (Key × D)} {kvs : List (Key × V)} (r : RepK K M H kds kvs) (k : Key) {d : D} {v : V} (q : Rep K M H d v) : RepK K M H (kds ++ [(k, d)]) (kvs ++ [(k, v)]) := by
  induction kds generalizing kvs with
  | nil => cases r; exact .cons q .nil
  | cons d' ds ih => cases r with | cons a b => exact .cons a (ih b)
theorem RepK.put {kds : List (Key × D)} {kvs : List (Key × V)} (r : RepK K M H kds kvs) (k : Key) {d : D} {v : V} (q : Rep K M H d v) : RepK K M H (putD kds k d) (putK kvs k v) := by
  unfold putD putK
  rw [r.anyK]
  split
  · exact r.repl k q
  · exact r.snoc k q
theorem RepK.merge {more : List (Key × D)} {mv : List (Key × V)} (q : RepK K M H more mv) : ∀ {kds : List (Key × D)} {kvs : List (Key × V)}, RepK K M H kds kvs → RepK K M H (mergeD kds more) (mergeK kvs mv) := by
  induction more generalizing mv with
  | nil => cases q; exact fun r => r
  | cons d ds ih => cases q with | cons a b => exact fun r => ih b (r.put _ a)
theorem rep_key {k : Key} {v : V} (r : Rep K M H (kD k) v) : v = kV k := by
  cases k <;> (cases r; rfl)
theorem dK_of {d : D} {k : Key} (h : dK? d = Option.some k) : d = kD k := by
  cases d <;> first | (cases h; rfl) | cases h
end
def rDGet3 : R3 := fun x y M Q => ∃ k d, dK? y = some k ∧ (match x with
  | .dct kds => valD kds k = some d
  | .ref a => ∃ kds, M a = some (.dct kds) ∧ valD kds k = some d
  | _ => False) ∧ Q d M
theorem pe3_dget (hu : X.A.units + 1 < cLine) (ho : PE3 X o td) (hi : PE3 X i ty) (hs : NoSl i) : PE3 X (.Subscript o i pos) (tOp3 rDGet3 td ty) := PE3.of (pe_dget hu ho.dn hi.dn hs) fun pins s σv H σ M Q I hS hM h => by
  refine ⟨σ, M, _, hS, hM, h, fun x xv M1 H1 st1 m1 p1 q1 => ⟨σ, M1, _, hS.mono st1, m1, q1, fun y yv M2 H2 st2 m2 p2 q2 => ?_⟩⟩
  obtain ⟨k, d, hk, hx, q⟩ := q2
  have hy := dK_of hk
  subst hy
  have ey := rep_key p2
  subst ey
  have p1' := p1.mono st2
  cases x <;> first | exact hx.elim | skip
  · cases p1'
    obtain ⟨kds, hm, hv⟩ := hx
    obtain ⟨ho, e1, r⟩ := m2 _ _ hm
    cases ho <;> first | exact r.elim | skip
    obtain ⟨v, hv', rv⟩ := RepK.some r hv
    exact ⟨_, v, rfl, .inl ⟨_, k, .inl e1, rfl, hv'.symm⟩, d, M2, st1.trans st2, m2, rv, q⟩
  · cases p1' with
    | dct hf r =>
      obtain ⟨v, hv', rv⟩ := RepK.some r hx
      exact ⟨_, v, rfl, .inl ⟨_, k, hf.1, rfl, hv'.symm⟩, d, M2, st1.trans st2, m2, rv, q⟩
def tDPut3 (td ty tv : TE3) : TS3 := fun T σ M => tv σ M fun d M1 => td σ M1 fun x M2 => ty σ M2 fun y M3 => ∃ k a kds, dK? y = some k ∧ x = .ref a ∧ M3 a = some (.dct kds) ∧ kds.length < sizeLine ∧ T.nx σ (mput M3 a (.dct (putD kds k d)))
theorem ps3_dput (hu : X.A.units + 1 < cLine) (ho : PE3 X o td) (hi : PE3 X i ty) (hv : PE3 X value tv) (hs : swapsWith value (some (.Subscript o i pos')) pos.line X.env = pure false) :
    PS3 X (.Assign [.Subscript o i pos'] value pos) (tDPut3 td ty tv) := PS3.of (ps_dput hu ho.dn hi.dn hv.dn hs) fun pins s σv H σ M T I hS hM h => by
  refine ⟨σ, M, _, hS, hM, h, fun d v M1 H1 st1 m1 p1 q1 => ⟨σ, M1, _, hS.mono st1, m1, q1, fun x xv M2 H2 st2 m2 p2 q2 => ⟨σ, M2, _, hS.mono (st1.trans st2), m2, q2, fun y yv M3 H3 st3 m3 p3 q3 => ?_⟩⟩⟩
  obtain ⟨k, a, kds, hk, rfl, hm, hl, q⟩ := q3
  have hy := dK_of hk
  subst hy
  have ey := rep_key p3
  subst ey
  cases p2
  obtain ⟨ho, e1, r⟩ := m3 _ _ hm
  cases ho <;> first | exact r.elim | skip
  have r' : RepK X.K M3 H3 kds _ := r
  have hne : H3 a = none ∨ M3 a ≠ none := .inr (by rw [hm]; intro z; cases z)
  have pd := p1.mono (st2.trans st3)
  refine ⟨a, _, rfl, .inl ⟨_, k, e1, rfl, by rw [← r'.length]; exact hl, rfl⟩, σ, mput M3 a (.dct (putD kds k d)), ((st1.trans st2).trans st3).trans (Step.put hne), m3.put hne (r'.put k pd), ?_, q⟩
  exact hS.mono (((st1.trans st2).trans st3).trans (Step.put hne))
def tPairs3 : List (TE3 × TE3) → Lo → Mem → (List (D × D) → Mem → Prop) → Prop
  | [], _, M, Q => Q [] M
  | (tk, tv) :: r, σ, M, Q => tk σ M fun x M1 => tv σ M1 fun y M2 => tPairs3 r σ M2 fun ps M3 => Q ((x, y) :: ps) M3
def PPs3 (X : Cx) (pos : Pos) (keys : List (Option Expr)) (values : List Expr) (trs : List (TE3 × TE3)) : Prop := PPs X pos keys values (trs.map fun z => (dnE X.K z.1, dnE X.K z.2))
theorem pps3_nil : PPs3 X pos [] [] [] := pps_nil
theorem pps3_cons {k v : Expr} {ks : List (Option Expr)} {vs : List Expr} {tk tv : TE3} {trs : List (TE3 × TE3)} (hk : PE3 X k tk) (hv : PE3 X v tv) (hr : PPs3 X pos ks vs trs) : PPs3 X pos (some k :: ks) (v :: vs) ((tk, tv) :: trs) := pps_cons hk.dn hv.dn hr
inductive RepP (K : PySem.W.Frag) (M : Mem) (H : Hp) : List (D × D) → List (V × V) → Prop
  | nil : RepP K M H [] []
  | cons {d1 d2 : D} {v1 v2 : V} {ds : List (D × D)} {vs : List (V × V)} : Rep K M H d1 v1 → Rep K M H d2 v2 → RepP K M H ds vs → RepP K M H ((d1, d2) :: ds) ((v1, v2) :: vs)
theorem tPairs_dn {K : PySem.W.Frag} : ∀ (trs : List (TE3 × TE3)) {σ : Lo} {σv : L2.St} {M : Mem} {H : Hp} {Q : List (D × D) → Mem → Prop} {Q2 : List (V × V) → Hp → Prop}, SRel K M H σ σv → MRel K M H → tPairs3 trs σ M Q →
    (∀ ps vs M' H', Step M H M' H' → MRel K M' H' → RepP K M' H' ps vs → Q ps M' → Q2 vs H') → tPairs (trs.map fun z => (dnE K z.1, dnE K z.2)) σv H Q2
  | [], σ, σv, M, H, Q, Q2, hS, hM, h, hq => hq [] [] M H .refl hM .nil h
  | (tk, tv) :: r, σ, σv, M, H, Q, Q2, hS, hM, h, hq => by
    refine ⟨σ, M, _, hS, hM, h, fun x xv M1 H1 st1 m1 p1 q1 => ⟨σ, M1, _, hS.mono st1, m1, q1, fun y yv M2 H2 st2 m2 p2 q2 => ?_⟩⟩
    refine tPairs_dn r (hS.mono (st1.trans st2)) m2 q2 fun ps vs M3 H3 st3 m3 p3 q3 => ?_
    exact hq _ _ M3 H3 ((st1.trans st2).trans st3) m3 (.cons (p1.mono (st2.trans st3)) (p2.mono st3) p3) q3
def tDispM3 (trs : List (TE3 × TE3)) : TE3 := fun σ M Q => ∀ p, M p = none → tPairs3 trs σ (mput M p (.dct [])) fun ps M1 => M1 p = some (.dct []) ∧
  ∃ kds : List (Key × D), ps = kds.map (fun kd => (kD kd.1, kd.2)) ∧ kds.length ≤ 15 ∧ Q (.ref p) (mput M1 p (.dct (mergeD [] kds)))
theorem repP_keys {K : PySem.W.Frag} {M : Mem} {H : Hp} : ∀ (kds : List (Key × D)) {vs : List (V × V)}, RepP K M H (kds.map (fun kd => (kD kd.1, kd.2))) vs → ∃ kvs : List (Key × V), vs = kvs.map (fun kv => (kV kv.1, kv.2)) ∧ RepK K M H kds kvs
  | [], vs, r => by cases r; exact ⟨[], rfl, .nil⟩
  | (k, d) :: kds, vs, r => by
    cases r with
    | cons a b c =>
      obtain ⟨kvs, e, q⟩ := repP_keys kds c
      have ek := rep_key a
      subst ek e
      exact ⟨(k, _) :: kvs, rfl, .cons b q⟩
theorem pe3_dispM {keys : List (Option Expr)} {values : List Expr} {trs : List (TE3 × TE3)} (h : PPs3 X pos keys values trs) (hall : keys.all (·.isSome) = true) (hl : keys.length = values.length) (h0 : keys ≠ []) (h15 : keys.length ≤ 15) :
    PE3 X (.Dict keys values pos) (tDispM3 trs) := PE3.of (pe_disp h hall hl h0 h15) fun pins s σv H σ M Q I hS hM h => by
  intro p hp
  have st0 : Step M H (mput M p (.dct [])) (upd H p (.dK [])) := Step.put (.inl hp)
  refine tPairs_dn trs (hS.mono st0) (hM.put (.inl hp) (show RepK _ _ _ _ _ from .nil)) (h p (hM.free hp)) fun ps vs M1 H1 st1 m1 r1 hx0 => ?_
  obtain ⟨hm, kds, e, hl, q⟩ := hx0
  subst e
  obtain ⟨kvs, rfl, rk⟩ := repP_keys kds r1
  obtain ⟨ho, e1, r⟩ := m1 _ _ hm
  cases ho <;> first | exact r.elim | skip
  have r' : RepK X.K M1 H1 [] _ := r
  cases r'
  have hne : H1 p = none ∨ M1 p ≠ none := .inr (by rw [hm]; intro z; cases z)
  exact ⟨e1, kvs, rfl, by rw [← rk.length]; exact hl, .ref p, mput M1 p (.dct (mergeD [] kds)), (st0.trans st1).trans (Step.put hne), m1.put hne (rk.merge .nil), .ref, q⟩
end
def Vs (M : Mem) (d : D) (M' : Mem) (d' : D) : Prop := ∀ (K : PySem.W.Frag) (H : Hp) (v : V), MRel K M H → Rep K M H d v → MRel K M' H ∧ Rep K M' H d' v ∧ ∀ a, M' a ≠ none → M a ≠ none
section
variable {K : PySem.W.Frag} {M M' : Mem} {H : Hp}
theorem Rep.shrink {d : D} {v : V} (s : ∀ a, M a = none → M' a = none) (r : Rep K M H d v) : Rep K M' H d v :=
  Rep.rec (motive_1 := fun d v _ => Rep K M' H d v) (motive_2 := fun ds vs _ => Reps K M' H ds vs) (motive_3 := fun ds vs _ => RepK K M' H ds vs)
    .non .bl .int .str .ty .ref (fun h _ ih => .tup (h.imp (fun z => ⟨z.1, s _ z.2⟩) id) ih) (fun h _ ih => .lst (h.imp (fun z => ⟨z.1, s _ z.2⟩) id) ih) (fun h _ ih => .dct ⟨h.1, s _ h.2⟩ ih)
    .nil (fun _ _ a b => .cons a b) .nil (fun _ _ a b => .cons a b) r
theorem Reps.shrink {ds : List D} {vs : List V} (s : ∀ a, M a = none → M' a = none) (r : Reps K M H ds vs) : Reps K M' H ds vs := by
  induction ds generalizing vs with
  | nil => cases r; exact .nil
  | cons d ds ih => cases r with | cons a b => exact .cons (a.shrink s) (ih b)
theorem RepK.shrink {ds : List (Key × D)} {vs : List (Key × V)} (s : ∀ a, M a = none → M' a = none) (r : RepK K M H ds vs) : RepK K M' H ds vs := by
  induction ds generalizing vs with
  | nil => cases r; exact .nil
  | cons d ds ih => cases r with | cons a b => exact .cons (a.shrink s) (ih b)
theorem RepT.shrink {ds : List (List Int × D)} {xs : List (List Int × Addr × Value)} (s : ∀ a, M a = none → M' a = none) (r : RepT K M H ds xs) : RepT K M' H ds xs := by
  induction r with
  | nil => exact .nil
  | cons a b c _ ih => exact .cons (a.shrink s) (b.shrink s) c ih
def Sub (M' M : Mem) : Prop := ∀ a o, M' a = some o → M a = some o
theorem Sub.refl : Sub M M := fun _ _ h => h
theorem Sub.none {a : Addr} (s : Sub M' M) (h : M a = Option.none) : M' a = Option.none := by
  cases e : M' a with
  | none => rfl
  | some o => rw [s a o e] at h; cases h
theorem MRel.sub (s : Sub M' M) (m : MRel K M H) : MRel K M' H := fun a o e => by
  obtain ⟨ho, e1, r⟩ := m a o (s a o e)
  refine ⟨ho, e1, ?_⟩
  cases o <;> cases ho <;> first | exact r.elim | exact Reps.shrink (fun _ z => s.none z) r | exact RepK.shrink (fun _ z => s.none z) r | (obtain ⟨xs, e, r⟩ := r; exact ⟨xs, e, r.shrink fun _ z => s.none z⟩)
theorem Vs.sub (s : Sub M' M) (d : D) : Vs M d M' d := fun K H v m r => ⟨m.sub s, r.shrink fun _ z => s.none z, fun a h z => h (s.none z)⟩
theorem Vs.refl (d : D) : Vs M d M d := Vs.sub .refl d
theorem mdel_sub {a : Addr} : Sub (mdel M a) M := fun b o h => by
  unfold mdel at h
  split at h
  · cases h
  · exact h
theorem mdel_self {a : Addr} : mdel M a a = none := by unfold mdel; rw [if_pos rfl]
theorem mdel_put {a : Addr} {o : MO} (h : M a = none) : mdel (mput M a o) a = M := by
  funext b
  unfold mdel mput
  by_cases e : b = a
  · rw [if_pos e, e, h]
  · rw [if_neg e, if_neg e]
theorem Vs.frzL {a : Addr} {ds : List D} (h : M a = some (.lst ds)) : Vs M (.ref a) (mdel M a) (.lst ds) := fun K H v m r => by
  cases r
  obtain ⟨ho, e1, q⟩ := m a _ h
  cases ho <;> first | exact q.elim | skip
  exact ⟨m.sub mdel_sub, .lst (.inl ⟨.inl e1, mdel_self⟩) (Reps.shrink (fun _ z => mdel_sub.none z) q), fun b hb z => hb (mdel_sub.none z)⟩
theorem Vs.frzD {a : Addr} {ds : List (Key × D)} (h : M a = some (.dct ds)) : Vs M (.ref a) (mdel M a) (.dct ds) := fun K H v m r => by
  cases r
  obtain ⟨ho, e1, q⟩ := m a _ h
  cases ho <;> first | exact q.elim | skip
  exact ⟨m.sub mdel_sub, .dct ⟨.inl e1, mdel_self⟩ (RepK.shrink (fun _ z => mdel_sub.none z) q), fun b hb z => hb (mdel_sub.none z)⟩
theorem Step.less {M0 : Mem} {H0 : Hp} (s : Step M0 H0 M H) (h : ∀ a, M' a ≠ none → M a ≠ none) : Step M0 H0 M' H := ⟨s.keep, fun a z => s.dom a (h a z)⟩
end
end L3
set_option Elab.async false
set_option linter.all false
set_option maxRecDepth 100000
namespace L3
open PySem PySem.Spec PyProof.Rows L2
section
variable {X : Cx} {a b e o i value : Expr} {es : List Expr} {ta tb te td ty tv : TE3} {t : TA3} {pos p pos' : Pos} {x : Str} {st : Stmt} {rest : List Stmt} {t1 t2 : TS3}
theorem SP3.trans {pins : List (Addr × Obj)} {M M1 : Mem} {H H1 : Hp} {T : Ends3} {f : Flow} {s' : Shared} (s : Step M H M1 H1) (h : SP3 X pins M1 H1 T f s') : SP3 X pins M H T f s' := by
  cases f with
  | next => obtain ⟨σ', σv', M', H', I, st, r⟩ := h; exact ⟨σ', σv', M', H', I, s.trans st, r⟩
  | brk => obtain ⟨σ', σv', M', H', I, st, r⟩ := h; exact ⟨σ', σv', M', H', I, s.trans st, r⟩
  | cont => obtain ⟨σ', σv', M', H', I, st, r⟩ := h; exact ⟨σ', σv', M', H', I, s.trans st, r⟩
  | ret u => obtain ⟨d, v, σv', M', H', I, st, r⟩ := h; exact ⟨d, v, σv', M', H', I, s.trans st, r⟩
def tNext3 : TS3 := fun T σ M => T.nx σ M
def tSeq3 (t u : TS3) : TS3 := fun T σ M => t { T with nx := u T } σ M
theorem pss3_nil : PSs3 X [] tNext3 := fun _ _ σv H σ M T I hS hM h => wpAny_execs_nil ⟨σ, σv, M, H, I, .refl, hM, hS, h⟩
theorem pss3_cons (h1 : PS3 X st t1) (h2 : PSs3 X rest t2) : PSs3 X (st :: rest) (tSeq3 t1 t2) := by
  intro pins s σv H σ M T I hS hM h
  refine wpAny_execs_cons (thn (h1 pins s σv H σ M { T with nx := t2 T } I hS hM h) fun f s1 q => ?_)
  cases f with
  | next =>
    obtain ⟨σ', σv', M', H', I', st, m', r', q⟩ := q
    exact thn (h2 pins s1 σv' H' σ' M' T I' r' m' q) fun _ _ z => z.trans st
  | ret v => exact q
  | brk => exact q
  | cont => exact q
theorem pss3_one (h1 : PS3 X st t1) : PSs3 X [st] t1 := by
  intro pins s σv H σ M T I hS hM h
  refine wpAny_execs_cons (thn (h1 pins s σv H σ M T I hS hM h) fun f s1 q => ?_)
  cases f with
  | next => exact wpAny_execs_nil q
  | ret v => exact q
  | brk => exact q
  | cont => exact q
def tRet3 (te : TE3) : TS3 := fun T σ M => te σ M T.rt
theorem ps3_ret (he : PE3 X e te) : PS3 X (.Return (some e) pos) (tRet3 te) := by
  intro pins s σv H σ M T I hS hM h
  exact wpAny_Return_some (thn (he pins s σv H σ M _ I hS hM h) fun v s1 ⟨d, xv, M1, H1, I1, st1, m1, r1, p1, q1⟩ => ⟨d, xv, σv, M1, H1, I1, st1, m1, r1, p1, q1⟩)
def tIfS3 (c : TT3) (t u : TS3) : TS3 := fun T σ M => c σ M fun b M1 => if b = true then t T σ M1 else u T σ M1
theorem ps3_if {c : Expr} {a b : List Stmt} {tc : TT3} (hc : PT3 X c tc) (ha : PSs3 X a t1) (hb : PSs3 X b t2) : PS3 X (.If c a b pos) (tIfS3 tc t1 t2) := by
  intro pins s σv H σ M T I hS hM h
  refine wpAny_If (thn (hc pins s σv H σ M _ I hS hM h) fun d s1 ⟨M1, H1, I1, st1, m1, q1⟩ => ?_)
  cases d with
  | true => exact thn (ha pins s1 σv H1 σ M1 T I1 (hS.mono st1) m1 q1) fun _ _ z => z.trans st1
  | false => exact thn (hb pins s1 σv H1 σ M1 T I1 (hS.mono st1) m1 q1) fun _ _ z => z.trans st1
def tSet3 (i : Nat) (te : TE3) : TS3 := fun T σ M => te σ M fun d M1 => T.nx (σ.set i (some d)) M1
theorem ps3_set {i : Nat} (hN : X.N.Nodup) (hi : X.N[i]? = some x) (hx : Loc X.env.scope x) (he : PE3 X e te) (hs : swapsWith e (some (.Name x pos')) pos.line X.env = pure false := by rfl) (hf : X.fn x = true ∨ X.env.scope.names.lookup x = some .local := by first | exact .inl rfl | exact .inr rfl | assumption) :
    PS3 X (.Assign [.Name x pos'] e pos) (tSet3 i te) := PS3.of (ps_set hN hi hx he.dn hs hf) fun pins s σv H σ M T I hS hM h =>
  ⟨σ, M, _, hS, hM, h, fun d v M' H' st m r q => ⟨σ.set i (some d), M', st, m, (hS.mono st).set r i, q⟩⟩
def Wk (K : PySem.W.Frag) (J : It) (ds : List D) (M : Mem) (H : Hp) : Prop := ∀ M' H', Step M H M' H' →
  (∀ i, i < ds.length → J.go i H') ∧ (∀ i d x H'', ds[i]? = some d → J.yld i H' x H'' → H'' = H' ∧ Rep K M' H' d x) ∧ ∀ i, ds.length ≤ i → J.stop i H'
abbrev TI3 := Lo → Mem → (List D → Mem → Prop) → Prop
def dnI (K : PySem.W.Frag) (t : TI3) : TI := fun σv H R2 => ∃ σ M R, SRel K M H σ σv ∧ MRel K M H ∧ t σ M R ∧ ∀ ds J M' H', Step M H M' H' → MRel K M' H' → Wk K J ds M' H' → R ds M' → R2 J H'
def PI3 (X : Cx) (tg iter : Expr) (t : TI3) : Prop := PI X tg iter (dnI X.K t)
theorem PI.weak {tg iter : Expr} {w1 w2 : TI} (h : PI X tg iter w1) (hw : ∀ σ H R, w2 σ H R → w1 σ H R) : PI X tg iter w2 := fun pins s σ H R I q => h pins s σ H R I (hw _ _ _ q)
def tFor3 (ti : TI3) (i : Nat) (tb : TS3) : TS3 := fun T σ M => ti σ M fun ds M1 => ∃ Pv : Nat → Lo → Mem → Prop, Pv 0 σ M1 ∧
  (∀ k d σ M, ds[k]? = some d → Pv k σ M → tb { T with nx := Pv (k + 1), ct := Pv (k + 1), bk := T.nx } (σ.set i (some d)) M) ∧ ∀ σ M, Pv ds.length σ M → T.nx σ M
theorem ps3_for {iter : Expr} {body : List Stmt} {ti : TI3} {tb : TS3} {i : Nat} {px : Pos} (hp : PassesOwn (model X.prog X.w) X.A X.env X.xe) (hc : X.calm = true) (hi : PI3 X (.Name x px) iter ti)
    (hN : X.N.Nodup) (hix : X.N[i]? = some x) (hx : Loc X.env.scope x) (hb : PSs3 X body tb)
    (hs : ∀ y, foldedSetIterable iter X.env y = pure y := by intro _; rfl) (hf : X.fn x = true ∨ X.env.scope.names.lookup x = some .local := by first | exact .inl rfl | exact .inr rfl | assumption) :
    PS3 X (.For (.Name x px) iter body [] pos) (tFor3 ti i tb) := PS3.of (ps_for hp hc hi (pg_name hN hix hx hf) hb.dn hs) fun pins s σv H σ M T I hS hM h => by
  refine ⟨σ, M, _, hS, hM, h, fun ds J M1 H1 st1 m1 wk ⟨Pv, p0, turn, done⟩ => ?_⟩
  refine ⟨fun k m σv' H' => m = ds.length - k ∧ k ≤ ds.length ∧ ∃ σ' M', Step M1 H1 M' H' ∧ MRel X.K M' H' ∧ SRel X.K M' H' σ' σv' ∧ Pv k σ' M', ⟨_, rfl, Nat.zero_le _, σ, M1, .refl, m1, hS.mono st1, p0⟩, ?_⟩
  rintro k m σv' H' ⟨rfl, hk, σ', M', st', m', hS', pk⟩
  obtain ⟨go, yld, stop⟩ := wk M' H' st'
  by_cases hlt : k < ds.length
  · refine .inr ⟨go k hlt, fun σ2 H2 => ∃ σ'' M'', Step M1 H1 M'' H2 ∧ MRel X.K M'' H2 ∧ SRel X.K M'' H2 σ'' σ2 ∧ Pv (k + 1) σ'' M'', ?_, ?_⟩
    · rintro σ2 H2 ⟨σ'', M'', q⟩
      exact ⟨ds.length - (k + 1), by lia, rfl, hlt, σ'', M'', q⟩
    · intro y H'' hy
      obtain ⟨rfl, ry⟩ := yld k ds[k] y H'' (by simp [hlt]) hy
      refine ⟨σ'.set i (some ds[k]), M', _, hS'.set ry i, m', turn k ds[k] σ' M' (by simp [hlt]) pk, ?_⟩
      exact ⟨fun σ2 v2 M2 H2 s2 m2 r2 q2 => ⟨σ2, M2, st'.trans s2, m2, r2, q2⟩, fun σ2 v2 M2 H2 s2 m2 r2 q2 => ⟨σ2, M2, (st1.trans st').trans s2, m2, r2, q2⟩,
        fun σ2 v2 M2 H2 s2 m2 r2 q2 => ⟨σ2, M2, st'.trans s2, m2, r2, q2⟩, fun d v2 M2 H2 s2 m2 r2 q2 => ⟨d, M2, (st1.trans st').trans s2, m2, r2, q2⟩⟩
  · have e : k = ds.length := by lia
    subst e
    exact .inl ⟨stop _ (Nat.le_refl _), σ', M', st1.trans st', m', hS', done σ' M' pk⟩
def iRng3 (ta : TA3) : TI3 := fun σ M R => ta σ M fun ds M1 => match ds with
  | [.int j] => -(2 ^ 62) ≤ j ∧ j < 2 ^ 62 ∧ R ((List.range j.toNat).map fun k => D.int (k : Nat)) M1
  | _ => False
theorem pi3_range1 {tg : Expr} (hg : Gl X "range") (hm : X.mg "range" = none) (ha : PA3 X [a] t) (hs : starEach [a] X.env = [(false, eval a X.env)] := by rfl) : PI3 X tg (.Call (.Name "range" p) [a] [] pos) (iRng3 t) :=
  PI.weak (pi_range1 hg hm ha.dn hs) fun σv H R2 hx0 => by
    obtain ⟨σ, M, R, hS, hM, h, k⟩ := hx0
    refine ⟨σ, M, _, hS, hM, h, fun ds vs M' H' st m r q => ?_⟩
    have px := r
    clear r
    rcases px with _ | ⟨pd, ps⟩; (exact (q : False).elim); rcases ps with _ | ⟨p2, ps2⟩; rotate_left; (first | exact (q : False).elim | (cases pd <;> exact (q : False).elim))
    cases pd with
    | @int j =>
      obtain ⟨h1, h2, q⟩ := q
      refine ⟨j, rfl, h1, h2, k _ _ M' H' st m (fun M2 H2 s2 => ⟨fun i hi => ?_, fun i d x H3 hd hy => ?_, fun i hi => ?_⟩) q⟩
      · show i < j.toNat
        simpa using hi
      · obtain ⟨rfl, rfl⟩ := hy
        refine ⟨rfl, ?_⟩
        rw [List.getElem?_map] at hd
        cases e : (List.range j.toNat)[i]? with
        | none => rw [e] at hd; cases hd
        | some n =>
          rw [e] at hd
          have en : n = i := by
            rw [List.getElem?_range] at e
            · exact (Option.some.inj e).symm
            · have := (List.getElem?_eq_some_iff.mp e).1; simpa using this
          subst en
          cases hd
          have z : (0 : Int) + (n : Int) = (n : Int) := by lia
          rw [z]; exact .int
      · show j.toNat ≤ i
        simpa using hi
    | _ => exact (q : False).elim
theorem pi3_list {tg : Expr} {te' : TE3} (ha : PE3 X a te') (hte : te' = te) : PI3 X tg a (fun σ M R => te σ M fun d M1 => match d with | .lst ds => R ds M1 | _ => False) := by
  subst hte
  refine PI.weak (pi_list ha.dn) fun σv H R2 hx0 => ?_
  obtain ⟨σ, M, R, hS, hM, h, k⟩ := hx0
  refine ⟨σ, M, _, hS, hM, h, fun d v M' H' st m r q => ?_⟩
  cases r <;> first | exact q.elim | skip
  rename_i a' ds vs h1 rs
  refine ⟨a', rfl, ⟨vs, SqL.of3 h1⟩, k ds _ M' H' st m (fun M2 H2 s2 => ?_) q⟩
  have h2 : SqL X.K H2 a' vs := SqL.of3 (h1.imp (Fix.mono s2) id)
  have r2 := rs.mono s2
  refine ⟨fun i hi => ?_, fun i d x H3 hd hy => ?_, fun i hi => ?_⟩
  · obtain ⟨v, hv, _⟩ := r2.get (i := i) (d := ds[i]) (by simp [hi])
    exact ⟨vs, v, h2, hv⟩
  · obtain ⟨rfl, hy⟩ := hy
    obtain ⟨v, hv, rv⟩ := r2.get hd
    rw [hy vs h2] at hv
    cases hv
    exact ⟨rfl, rv⟩
  · exact ⟨vs, h2, by rw [← r2.length]; exact hi⟩
theorem pi3_tup {tg : Expr} (ha : PE3 X a te) : PI3 X tg a (fun σ M R => te σ M fun d M1 => match d with | .tup ds => R ds M1 | _ => False) := by
  refine PI.weak (pi_tup ha.dn) fun σv H R2 hx0 => ?_
  obtain ⟨σ, M, R, hS, hM, h, k⟩ := hx0
  refine ⟨σ, M, _, hS, hM, h, fun d v M' H' st m r q => ?_⟩
  cases r <;> first | exact q.elim | skip
  rename_i a' ds vs h1 rs
  refine ⟨a', rfl, ⟨vs, SqT.of3 h1⟩, k ds _ M' H' st m (fun M2 H2 s2 => ?_) q⟩
  have h2 : SqT X.K H2 a' vs := SqT.of3 (h1.imp (Fix.mono s2) id)
  have r2 := rs.mono s2
  refine ⟨fun i hi => ?_, fun i d x H3 hd hy => ?_, fun i hi => ?_⟩
  · obtain ⟨v, hv, _⟩ := r2.get (i := i) (d := ds[i]) (by simp [hi])
    exact ⟨vs, v, h2, hv⟩
  · obtain ⟨rfl, hy⟩ := hy
    obtain ⟨v, hv, rv⟩ := r2.get hd
    rw [hy vs h2] at hv
    cases hv
    exact ⟨rfl, rv⟩
  · exact ⟨vs, h2, by rw [← r2.length]; exact hi⟩
def Its (z : Str) : It := ⟨fun i _ => i < z.cps.size, fun i H x H' => H' = H ∧ ∃ c, z.cps[i]? = some c ∧ x = .str ⟨#[c]⟩, fun i _ => z.cps.size ≤ i⟩
theorem turn_str {P : Program} {w : World} {K : PySem.W.Frag} {tg : Expr} (z : Str) (tk : Tok) (it : Addr) (wide : Bool) : Turn P w K tg (Its z) [it] it (fun i h => h.IsStrIter it (if wide then "str_iterator" else "str_ascii_iterator") z tk i) where
  mem := by simp
  obj := fun i h st b hb => by
    have e : b = it := by simpa using hb
    subst e
    obtain ⟨o, e, c, d⟩ := st
    exact ⟨o, e, fun v z => by rw [d] at z; cases z⟩
  keep := fun i h h' st k => let ⟨o, ho, r⟩ := st; ⟨o, k it (by simp) o ho, r⟩
  item := by
    intro X hP hw hK hc i pins s σ H E I hf st hg
    subst hP hw hK
    obtain ⟨f0, f1, f2, f3, f4, f5⟩ := hf it (by simp)
    have hg' : i < z.cps.size := hg
    have fin : ∀ (h' : Heap), h'.IsStrIter it (if wide then "str_iterator" else "str_ascii_iterator") z tk (i + 1) → Heap.SameBut it s.heap h' → ∃ u, some (Value.str ⟨#[z.cps[i]]⟩ s.toks) = some u ∧
        wpAny (model X.prog X.w) X.A (letOwnedTupleGo tg (.ref it) u) (fun _ s2 => ∃ x H', Inv X pins σ H' s2 ∧ RelV x u ∧ (Its z).yld i H x H' ∧ s2.heap.IsStrIter it (if wide then "str_iterator" else "str_ascii_iterator") z tk (i + 1) ∧ ∀ b ∈ [it], H' b = none) E { s with heap := h', toks := s.toks + 1 } := by
      intro h' st' sb
      have I1 : Inv X pins σ H { s with heap := h', toks := s.toks + 1 } := I.turned (t' := s.toks + 1) (fun b o hb e => (sb.2 b hb).trans e) f0 f1 f3 f4 f5
      obtain ⟨o, e, c, d⟩ := id st'
      refine ⟨_, rfl, go_of (s := { s with heap := h', toks := s.toks + 1 }) e c d (by cases wide <;> decide) ⟨.str ⟨#[z.cps[i]]⟩, H, I1, ⟨_, rfl⟩, ⟨rfl, _, by simp [hg'], rfl⟩, st', fun b hb => (hf b hb).1⟩⟩
    cases wide with
    | false => exact wpAny_pyNext_ascii_item st (c := z.cps[i]) (by simp [hg']) fun h' a b => fin h' a b
    | true => exact wpAny_pyNext_wide_item st (c := z.cps[i]) (by simp [hg']) fun h' a b => fin h' a b
  done := by
    intro X hP hw hK hc i pins s σ H E I hf st hg
    subst hP hw hK
    obtain ⟨f0, f1, f2, f3, f4, f5⟩ := hf it (by simp)
    have hg' : z.cps.size ≤ i := hg
    cases wide with
    | false => exact wpAny_pyNext_ascii_end (I.ok.hd hc) st (by simp [hg']) fun h' eb => ⟨rfl, I.turned (t' := s.toks) (fun b o hb e => eb b o hb e) f0 f1 f3 f4 f5⟩
    | true => exact wpAny_pyNext_wide_end (I.ok.hd hc) st (by simp [hg']) fun h' eb => ⟨rfl, I.turned (t' := s.toks) (fun b o hb e => eb b o hb e) f0 f1 f3 f4 f5⟩
  self := fun A i s Q E st h => by
    cases wide with
    | false => exact wpAny_pyIter_striter_ascii st h
    | true => exact wpAny_pyIter_striter_wide st h
theorem pi_str {tg l : Expr} {tl : TE} (hl : PE X l tl) : PI X tg l (fun σ H R => tl σ H fun x H1 => ∃ z, x = .str z ∧ R (Its z) H1) := by
  intro pins s σ H R I h
  refine thn (hl pins s σ H _ I h) fun v s1 hx0 => ?_
  obtain ⟨x, H1, I1, r1, q1⟩ := hx0
  obtain ⟨z, e, q⟩ := q1
  subst e
  obtain ⟨tk, rfl⟩ := r1
  have fin : ∀ wide : Bool, PIE X pins σ tg R (.ref s1.heap.objs.size) { s1 with heap := s1.heap.push { cls := .type (if wide then "str_iterator" else "str_ascii_iterator"), data := .fields #[.str z tk, .int 0 0] } } := fun wide => by
    refine ⟨s1.heap.objs.size, [s1.heap.objs.size], _, _, H1, rfl, I1.kept (t' := s1.toks) fun b o e => Heap.get?_push_of_some _ e, turn_str z tk _ wide, ⟨_, Heap.get?_push_size _ rfl, rfl, rfl⟩, fun b hb => ?_, q⟩
    have e : b = s1.heap.objs.size := by simpa using hb
    subst e
    exact I1.fpOk (Nat.le_refl _) (I1.hok.fresh (Nat.le_refl _))
  cases ha : z.cps.all (· < 128)
  · exact wpAny_pyIter_wide ha (fin true)
  · exact wpAny_pyIter_ascii ha (fin false)
theorem pi3_str {tg : Expr} (ha : PE3 X a te) : PI3 X tg a (fun σ M R => te σ M fun d M1 => match d with | .str z => R (z.cps.toList.map fun c => D.str ⟨#[c]⟩) M1 | _ => False) := by
  refine PI.weak (pi_str ha.dn) fun σv H R2 hx0 => ?_
  obtain ⟨σ, M, R, hS, hM, h, k⟩ := hx0
  refine ⟨σ, M, _, hS, hM, h, fun d v M' H' st m r q => ?_⟩
  cases r <;> first | exact q.elim | skip
  rename_i z
  refine ⟨z, rfl, k _ _ M' H' st m (fun M2 H2 s2 => ⟨fun i hi => ?_, fun i d x H3 hd hy => ?_, fun i hi => ?_⟩) q⟩
  · show i < z.cps.size
    simpa using hi
  · obtain ⟨rfl, c, hc, rfl⟩ := hy
    rw [List.getElem?_map] at hd
    have : z.cps.toList[i]? = some c := by simpa using hc
    rw [this] at hd
    cases hd
    exact ⟨rfl, .str⟩
  · show z.cps.size ≤ i
    simpa using hi
end
abbrev Sp3 := List D → Mem → DK → Prop
def dnSp (K : PySem.W.Frag) (sp : Sp3) : Sp := fun vs H Q _ => ∃ ds M Q3, Reps K M H ds vs ∧ MRel K M H ∧ sp ds M Q3 ∧ ∀ d v M' H', Step M H M' H' → MRel K M' H' → Rep K M' H' d v → Q3 d M' → Q v H'
def View (Q : DK) : DK := fun d M => ∃ d' M', Vs M d M' d' ∧ Q d' M'
theorem View.of {Q : DK} {d : D} {M : Mem} (q : Q d M) : View Q d M := ⟨d, M, .refl d, q⟩
def start3 (N : List Str) (ds : List D) : Lo := ds.map some ++ List.replicate (N.length - ds.length) none
theorem start_rel {K : PySem.W.Frag} {M : Mem} {H : Hp} {N : List Str} {ds : List D} {vs : List V} (r : Reps K M H ds vs) : SRel K M H (start3 N ds) (L2.start N vs) := by
  refine ⟨by simp [start3, L2.start, r.length], fun i d h => ?_⟩
  unfold start3 at h
  unfold L2.start
  by_cases hi : i < ds.length
  · rw [List.getElem?_append_left (by simpa using hi), List.getElem?_map] at h
    rw [List.getElem?_append_left (by simpa [← r.length] using hi), List.getElem?_map]
    cases e : ds[i]? with
    | none => rw [e] at h; cases h
    | some d' =>
      rw [e] at h; cases h
      obtain ⟨v, hv, rv⟩ := r.get e
      exact ⟨v, by rw [hv]; rfl, rv⟩
  · rw [List.getElem?_append_right (by simpa using hi), List.getElem?_replicate] at h
    split at h <;> cases h
section
variable {P : Program} {w : World} {K : PySem.W.Frag} {mg : Str → Option Value} {base : Heap}
theorem Fun.ok3 {x qual : Str} {st : Stmt} {f : Addr} {fd : FuncData} {N ps : List Str} {k : Nat} {sp : Sp3} (F : Fun K x qual st f fd) (S : FnScope N ps (defScope st)) (len : ∀ ds M Q, sp ds M Q → ds.length = ps.length)
    (hbody : ∀ (cdv : Value) (A : Around) (outer : List Env) (s : Shared) (H : Hp) (E : XK), Room k (A.deeper (envOfC qual (defScope st) s.heap.objs.size f cdv)) →
      ∃ t, PSs3 (cxOf CX0 P w K mg base N qual (defScope st) f cdv A outer s H E).nox (defBody st) t ∧ ∀ ds M Q, sp ds M Q → t { nx := fun _ M' => View Q .non M', rt := View Q } (start3 N ds) M) :
    FnOk P w K mg base CX0 (k + 1) f fd ps (dnSp K sp) := by
  refine F.ok S (fun vs H Q E ⟨ds, M, Q3, r, _, h, _⟩ => by rw [← r.length]; exact len _ _ _ h) fun cdv A outer s H vs Q E hr hx0 => ?_
  obtain ⟨ds, M, Q3, r, m, h, q⟩ := hx0
  obtain ⟨t, ht, hs⟩ := hbody cdv A outer s H E hr
  have fin : ∀ d v M' H', Step M H M' H' → MRel K M' H' → Rep K M' H' d v → View Q3 d M' → Q v H' := fun d v M' H' st m' r' hx0 => by
    obtain ⟨d2, M2, vs2, q2⟩ := hx0
    obtain ⟨m2, r2, s2⟩ := vs2 K H' v m' r'
    exact q d2 v M2 H' (st.less s2) m2 r2 q2
  refine ⟨_, ht.dn, start3 N ds, M, _, start_rel r, m, hs ds M Q3 h, ?_⟩
  exact ⟨fun σ' σv' M' H' st m' _ z => fin .non .non M' H' st m' .non z, fun _ _ _ _ _ _ _ z => z.elim, fun _ _ _ _ _ _ _ z => z.elim, fin⟩
end
section
variable {X : Cx} {e : Expr} {es : List Expr} {t : TA3} {x : Str} {p pos : Pos} {k : Nat} {f : Addr} {fd : FuncData} {ps : List Str} {sp : Sp3}
def tCall3 (sp : Sp3) (t : TA3) : TE3 := fun σ M Q => t σ M fun ds M1 => sp ds M1 Q
theorem pe3_call (F : FnOk X.prog X.w X.K X.mg X.base CX0 k f fd ps (dnSp X.K sp)) (hr : Room k X.A) (hg : Gl X x) (hm : X.mg x = some (.ref f)) (hk : PySem.W.keepIn X.K (.ref f) = true) (hb : Binds X.K fd ps [])
    (ha : PA3 X (e :: es) t) (hdb : (x == ("__debug__" : Str)) = false := by decide) (he : starEach (e :: es) X.env = (false, eval e X.env) :: starEach es X.env := by rfl) (hpl : (backTo pos (starEach es X.env)).any (·.1) = false := by rfl) :
    PE3 X (.Call (.Name x p) (e :: es) [] pos) (tCall3 sp t) :=
  PE3.of (pe_call F hr hg hm hk hb .nil pass0 ha.dn hdb he hpl) fun pins s σv H σ M Q I hS hM h => by
    refine ⟨σ, M, _, hS, hM, h, fun ds vs M1 H1 st1 m1 r1 q1 => ?_⟩
    show dnSp X.K sp (vs ++ []) H1 _ _
    rw [List.append_nil]
    exact ⟨ds, M1, Q, r1, m1, q1, fun d v M' H' st m r q => ⟨d, M', st1.trans st, m, r, q⟩⟩
end
end L3
set_option Elab.async false
set_option linter.all false
set_option maxRecDepth 100000
namespace L3
open PySem PySem.Spec PyProof.Rows L2
abbrev rMul3 : R3 := rI3 CMulB fun i j => .int (i * j)
abbrev rFdiv3 : R3 := rI3 CDivB fun i j => .int (i / j)
abbrev rMod3 : R3 := rI3 (fun _ j => 0 < j) fun i j => .int (i % j)
abbrev rPow3 : R3 := rI3 CPow fun i j => .int (i ^ j.toNat)
abbrev rLt3 : R3 := rI30 fun i j => .bl (decide (i < j))
abbrev rLe3 : R3 := rI30 fun i j => .bl (decide (i ≤ j))
abbrev rGt3 : R3 := rI30 fun i j => .bl (decide (j < i))
abbrev rGe3 : R3 := rI30 fun i j => .bl (decide (j ≤ i))
def tSl3 (te : TE3) (tl th : TO3) : TE3 := fun σ M Q => te σ M fun x M1 => tl σ M1 fun l M2 => th σ M2 fun u M3 => rSl3 x l u M3 Q
def iList3 (te : TE3) : TI3 := fun σ M R => te σ M fun d M1 => match d with | .lst ds => R ds M1 | _ => False
def iTup3 (te : TE3) : TI3 := fun σ M R => te σ M fun d M1 => match d with | .tup ds => R ds M1 | _ => False
def iStr3 (te : TE3) : TI3 := fun σ M R => te σ M fun d M1 => match d with | .str z => R (z.cps.toList.map fun c => D.str ⟨#[c]⟩) M1 | _ => False
section
variable {X : Cx} {a e : Expr} {te : TE3} {pos : Pos} {lo hi : Option Expr} {tl th : TO3} {p2 : Pos} {tg : Expr}
theorem pe3_sl (he : PE3 X e te) (hl : PO3 X lo tl) (hu : PO3 X hi th) : PE3 X (.Subscript e (.Slice lo hi none p2) pos) (tSl3 te tl th) := pe3_slice he hl hu
theorem pi3_l (ha : PE3 X a te) : PI3 X tg a (iList3 te) := pi3_list ha rfl
theorem pi3_t (ha : PE3 X a te) : PI3 X tg a (iTup3 te) := pi3_tup ha
theorem pi3_s (ha : PE3 X a te) : PI3 X tg a (iStr3 te) := pi3_str ha
theorem pe3_globI {x : Str} {i : Int} (hg : Gl X x) (hm : ∃ tk, X.mg x = some (.int i tk)) (hd : (x == ("__debug__" : Str)) = false := by decide) : PE3 X (.Name x pos) (tC3 (.int i)) := by
  obtain ⟨tk, hm⟩ := hm
  exact pe3_glob (v := .int i) hg hm ⟨tk, rfl⟩ (fun _ _ => .int) hd
theorem pe3_globS {x z : Str} (hg : Gl X x) (hm : ∃ tk, X.mg x = some (.str z tk)) (hd : (x == ("__debug__" : Str)) = false := by decide) : PE3 X (.Name x pos) (tC3 (.str z)) := by
  obtain ⟨tk, hm⟩ := hm
  exact pe3_glob (v := .str z) hg hm ⟨tk, rfl⟩ (fun _ _ => .str) hd
theorem hu3 {k : Nat} (hr : Room k X.A) : X.A.units + 1 < cLine := by have := hr.units; lia
end
theorem b3_len : bootBuiltins "len" = some (.builtin "len") := by decide +kernel
theorem b3_abs : bootBuiltins "abs" = some (.builtin "abs") := by decide +kernel
theorem b3_repr : bootBuiltins "repr" = some (.builtin "repr") := by decide +kernel
theorem b3_isinstance : bootBuiltins "isinstance" = some (.builtin "isinstance") := by decide +kernel
theorem b3_int : bootBuiltins "int" = some (.type "int") := by decide +kernel
theorem b3_str : bootBuiltins "str" = some (.type "str") := by decide +kernel
theorem b3_list : bootBuiltins "list" = some (.type "list") := by decide +kernel
structure FnAt (K : PySem.W.Frag) (mg : Str → Option Value) (x : Str) (st : Stmt) (ps : List Str) (f : Addr) (fd : FuncData) : Prop where
  fn : Fun K x x st f fd
  bd : Binds K fd ps []
  gl : mg x = some (.ref f)
theorem us0 {us : List Value} (h : us.length = 0) : us = [] := List.length_eq_zero_iff.mp h
theorem us1 {us : List Value} (h : us.length = 1) : ∃ a, us = [a] := by
  cases us with
  | nil => cases h
  | cons a r => exact ⟨a, by rw [us0 (Nat.succ.inj h)]⟩
theorem us2 {us : List Value} (h : us.length = 2) : ∃ a b, us = [a, b] := by
  cases us with
  | nil => cases h
  | cons a r => obtain ⟨b, e⟩ := us1 (Nat.succ.inj h); exact ⟨a, b, by rw [e]⟩
theorem fnAt_mk {K : PySem.W.Frag} {h : Heap} {mg : Str → Option Value} {x : Str} {st : Stmt} {ps : List Str} {f : Addr} {oc : Value} {od an : Option Addr} {osl : Array (Option Value)} {kV doc pm cdv ct : Value} (X : K.In h) (G : h.Ns mainGlobals mg)
    (a : PySem.W.nsIn K mainGlobals x = some (some (.ref f))) (l : K.lookup f = some ⟨oc, od, .func (PySem.W.fnOf x x (defArgs st) (defBody st) (defScope st) .none kV doc pm an cdv ct), osl⟩)
    (c : PySem.W.codeIn K cdv x = true) (k : PySem.W.keepIn K (.ref f) = true)
    (hb : ∀ (kV doc pm : Value) (an : Option Addr) (cdv ct : Value) (us : List Value), us.length = ps.length → bindArgs (PySem.W.fnOf x x (defArgs st) (defBody st) (defScope st) .none kV doc pm an cdv ct) ⟨us, []⟩ = pure (ps.zip us)) :
    FnAt K mg x st ps f (PySem.W.fnOf x x (defArgs st) (defBody st) (defScope st) .none kV doc pm an cdv ct) :=
  ⟨fun_mk l c k, (fun_mk l c k).binds hb, PySem.W.mg_of X G a⟩
def spLaw3 : Sp3 := fun ds M Q => ∃ ns : List Int, ds = [.lst (ns.map D.int)] ∧ ns.length ≤ 63 ∧ (∀ a, M a = none) ∧ ∀ M', Q (.bl true) M'
theorem walk3 {l : PySem.W.OpenLaw} {q : Program} {loose : List Str} {XP : (Str → Option Value) → Heap → Prop} {YP : World → Heap → Prop} {d : DefRec} {K : Params → PySem.W.Frag} {k : Nat} {x : Str} (hn : l.most = some 63) (hdf : d.params.defaults = []) (hr : Room k callerA)
    (hY : ∀ (w : World) (h : Heap), YP w h → (K w.params).In h)
    (F : ∀ (w : World) (mg : Str → Option Value) (fa : Addr) (h : Heap), (K w.params).In h → h.Ns mainGlobals mg → mg d.name = some (.ref fa) →
      ∃ fd : FuncData, (∀ (s : Shared) (u : Value), BindsTo s fd ⟨[u], []⟩ [(x, u)]) ∧ ∀ base : Heap, (K w.params).In base → base.Ns mainGlobals mg → FnOk l.prog w (K w.params) mg base CX0 k fa fd [x] (dnSp (K w.params) spLaw3)) :
    PySem.W.WalkO q loose XP YP l.row.toRowW d [] (fun f vs => PySem.call f vs) :=
  L2.walk_of (n := 63) (k := k) (x := x) (CX := fun _ => CX0) (sp := fun w => dnSp (K w.params) spLaw3) hn (by decide) hdf hr hY F
    (fun w H a ns hl _ hS => ⟨[.lst (ns.map D.int)], fun _ => none, fun d _ => d = .bl true, .cons (.lst (hS.imp (fun z => ⟨z, rfl⟩) id) .ints) .nil, (fun _ _ z => nomatch z), ⟨ns, rfl, hl, fun _ => rfl, fun _ => rfl⟩,
      fun d v M' H' _ _ r e => by subst e; cases r; rfl⟩) fun _ _ _ _ _ z => z
def penO (ns : List Int) (a l : Int) : MO := .dct [(.inr "cells", .lst (ns.map D.int)), (.inr "at", .int a), (.inr "left", .int l)]
def Pen (M : Mem) (p : Addr) (b : Nat) : Prop := ∃ ns a l, M p = some (penO ns a l) ∧ ns.length ≤ 63 ∧ 0 ≤ a ∧ a ≤ (b : Int) ∧ 0 ≤ l
def Same3 (p : Addr) (M M' : Mem) : Prop := ∀ q, q ≠ p → M' q = M q
def spPen : Sp3 := fun ds M Q => ∃ ns : List Int, ds = [.lst (ns.map D.int)] ∧ ns.length ≤ 63 ∧ ∀ p M', M p = none → Pen M' p 0 → Same3 p M M' → Q (.ref p) M'
def spDraw : Sp3 := fun ds M Q => ∃ p many b, ds = [.ref p, .int many] ∧ Pen M p b ∧ b < 2 ^ 30 ∧ 0 < many ∧ many < 2 ^ 200 ∧ ∀ n M', 0 ≤ n → n < many → Pen M' p (b + 1) → Same3 p M M' → Q (.int n) M'
end L3
set_option Elab.async false
set_option linter.all false
set_option maxRecDepth 100000
namespace L3
open PySem PySem.Spec PyProof.Rows L2
def closN (c : Str → Addr) : List (Str × NameKind) → List (Str × Addr) → List (Str × Addr)
  | [], acc => acc
  | (n, k) :: r, acc => closN c r (if (k == .free) = true then (n, c n) :: acc else acc)
theorem closureFor_of {scope : Scope} {env : Env} {c : Str → Addr} (h : ∀ p ∈ scope.names, p.2 = .free → env.cells.lookup p.1 = some (c p.1)) : closureFor scope env = pure (closN c scope.names []) := by
  unfold closureFor
  have key : ∀ (l : List (Str × NameKind)) (acc : List (Str × Addr)), (∀ p ∈ l, p.2 = .free → env.cells.lookup p.1 = some (c p.1)) →
      (forIn l acc fun (x : Str × NameKind) (r : List (Str × Addr)) => match x with
        | (name, kind) => if (kind == NameKind.free) = true then do let y ← cellOf env name; pure (ForInStep.yield ((name, y) :: r)) else pure (ForInStep.yield r) : Sem (List (Str × Addr))) = pure (closN c l acc) := by
    intro l
    induction l with
    | nil => intro acc _; rfl
    | cons p l ih =>
      intro acc hp
      obtain ⟨n, k⟩ := p
      rw [List.forIn_cons]
      by_cases hk : (k == NameKind.free) = true
      · have hkf : k = .free := by simpa using hk
        have hc := hp (n, k) List.mem_cons_self hkf
        have e : cellOf env n = pure (c n) := by unfold cellOf; rw [show env.cells.lookup n = some (c n) from hc]
        simp only [hk, if_true, e]
        have := ih ((n, c n) :: acc) fun q hq => hp q (List.mem_cons_of_mem _ hq)
        unfold closN
        rw [if_pos hk, ← this]
        rfl
      · simp only [hk, if_false]
        have := ih acc fun q hq => hp q (List.mem_cons_of_mem _ hq)
        unfold closN
        rw [if_neg hk, ← this]
        rfl
  have k2 := key scope.names [] h
  first
    | exact k2
    | (refine Eq.trans ?_ k2; rfl)
    | (simp only [bind_pure]; exact k2)
theorem closN_acc (c : Str → Addr) : ∀ (l : List (Str × NameKind)) (acc : List (Str × Addr)) (p : Str × Addr), p ∈ closN c l acc → p ∈ acc ∨ (p.2 = c p.1 ∧ (p.1, NameKind.free) ∈ l)
  | [], acc, p, h => .inl h
  | (n, k) :: r, acc, p, h => by
    unfold closN at h
    rcases closN_acc c r _ p h with h | ⟨h1, h2⟩
    · by_cases hk : (k == NameKind.free) = true
      · rw [if_pos hk] at h
        rcases List.mem_cons.mp h with rfl | h
        · have hkf : k = .free := by simpa using hk
          exact .inr ⟨rfl, by rw [hkf]; exact List.mem_cons_self⟩
        · exact .inl h
      · rw [if_neg hk] at h; exact .inl h
    · exact .inr ⟨h1, List.mem_cons_of_mem _ h2⟩
theorem closN_has (c : Str → Addr) : ∀ (l : List (Str × NameKind)) (acc : List (Str × Addr)) (n : Str), ((n, NameKind.free) ∈ l ∨ (n, c n) ∈ acc) → (n, c n) ∈ closN c l acc
  | [], acc, n, h => by
    rcases h with h | h
    · exact absurd h (by simp)
    · exact h
  | (m, k) :: r, acc, n, h => by
    unfold closN
    refine closN_has c r _ n ?_
    rcases h with h | h
    · rcases List.mem_cons.mp h with e | h
      · cases e
        exact .inr (by rw [if_pos (by decide)]; exact List.mem_cons_self)
      · exact .inl h
    · by_cases hk : (k == NameKind.free) = true
      · rw [if_pos hk]; exact .inr (List.mem_cons_of_mem _ h)
      · rw [if_neg hk]; exact .inr h
theorem lookup_of_all {l : List (Str × Addr)} {c : Str → Addr} (h : ∀ p ∈ l, p.2 = c p.1) {n : Str} (hm : (n, c n) ∈ l) : l.lookup n = some (c n) := by
  induction l with
  | nil => exact absurd hm (by simp)
  | cons p r ih =>
    obtain ⟨m, a⟩ := p
    by_cases e : n = m
    · subst e
      have : a = c n := h (n, a) List.mem_cons_self
      simp [List.lookup_cons, this]
    · have e' : (n == m) = false := by simpa using e
      simp only [List.lookup_cons, e']
      refine ih (fun q hq => h q (List.mem_cons_of_mem _ hq)) ?_
      rcases List.mem_cons.mp hm with z | z
      · cases z; exact absurd rfl e
      · exact z
theorem closN_all (c : Str → Addr) (l : List (Str × NameKind)) : ∀ p ∈ closN c l [], p.2 = c p.1 := fun p hp => by
  rcases closN_acc c l [] p hp with h | h
  · exact absurd h (by simp)
  · exact h.1
theorem closN_lookup {c : Str → Addr} {l : List (Str × NameKind)} {n : Str} (h : (n, NameKind.free) ∈ l) : (closN c l []).lookup n = some (c n) :=
  lookup_of_all (closN_all c l) (closN_has c l [] n (.inl h))
theorem of_closN {c : Str → Addr} {l : List (Str × NameKind)} {n : Str} {a : Addr} (h : (closN c l []).lookup n = some a) : a = c n ∧ (n, NameKind.free) ∈ l := by
  have hm := PySem.mem_of_lookup h
  rcases closN_acc c l [] (n, a) hm with z | z
  · exact absurd z (by simp)
  · exact z
theorem comp_loop {prog : Program} {w : World} {A : Around} {R : Result → Shared → Prop} {s : Shared} {elt target iter : Expr} {ifs : List Expr} {scope : Scope} {pos : Pos} {it acc : Value} {env : Env} (I : Nat → Shared → Prop)
    (turn : ∀ n s, I n s → wpAny (model prog w) A (pyNext it) (fun r s₁ => match r with
      | none => R (.ok .next) s₁
      | some v => wpAny (model prog w) A (letOwnedTupleGo target it v) (fun _ s₁' => wpAny (model prog w) A (assign target env v) (fun _ s₂ =>
          wpAny (model prog w) A (forIn ifs true fun c r => if r = true then do let ok ← isTrue c env (eval c env); pure (ForInStep.yield ok) else pure (ForInStep.yield r)) (fun ok s₃ =>
            if ok = true then wpAny (model prog w) A (eval elt env) (fun x s₄ =>
              wpAny (model prog w) A (call (.builtin "list.append") [acc, x]) (fun _ s₅ => ∃ m, m < n ∧ I m s₅) (fun _ _ => False) s₄) (fun _ _ => False) s₃
            else ∃ m, m < n ∧ I m s₃) (fun _ _ => False) s₂) (fun _ _ => False) s₁') (fun _ _ => False) s₁) (fun _ _ => False) s)
    (n : Nat) (h : I n s) : codeAny (model prog w) A (.compLoop (.ListComp elt [⟨target, iter, ifs, 0⟩] scope pos) 0 it acc env) R s := by
  refine codeAny_loop rfl I (fun n s hI => ?_) n h
  show wpAny _ A ((compTurn (.ListComp elt [⟨target, iter, ifs, 0⟩] scope pos) 0 it acc env).onRaise (fun x => do noteFrame x env; theTreesLotGoes x)) _ _ s
  refine wpAny_noted ?_
  rw [compTurn_list]
  refine wpAny_bind (wpAny_standAt (wpAny_bind (wpAny_mono (turn n s hI) (fun r s₁ h₁ => ?_) fun _ _ h' => h'.elim)))
  cases r with
  | none => exact wpAny_pure h₁
  | some v =>
    refine wpAny_bind (wpAny_mono h₁ (fun _ s₁' h₁' => ?_) fun _ _ h' => h'.elim)
    refine wpAny_bind (wpAny_mono h₁' (fun _ s₂ h₂ => wpAny_bind (wpAny_mono h₂ (fun ok s₃ h₃ => ?_) fun _ _ h' => h'.elim)) fun _ _ h' => h'.elim)
    cases ok with
    | false => exact wpAny_pure ⟨rfl, h₃⟩
    | true =>
      exact wpAny_bind (wpAny_bind (wpAny_mono h₃ (fun x s₄ h₄ => wpAny_bind (wpAny_mono h₄ (fun _ s₅ h₅ => wpAny_pure (wpAny_pure ⟨rfl, h₅⟩)) fun _ _ h' => h'.elim)) fun _ _ h' => h'.elim))
def compCx (X : Cx) (scope : Scope) (cl : List (Str × Addr)) (s₀ : Shared) (H₀ : Hp) (ex : List Addr) (N' : List Str) : Cx :=
  { X with N := N', s₀ := s₀, H₀ := H₀, env := compEnvC scope cl s₀.heap.objs.size X.env, outer := X.stack, stack := X.stack, ex := ex, fn := fun _ => false, pn := [], xe := fun _ _ => False }
theorem relabel_free {scope : Scope} {env : Env} (hcell : ∀ y ∈ scope.names, y.2 ≠ .cell) {x : Str} (h : (relabel scope env).names.lookup x = some .cell ∨ (relabel scope env).names.lookup x = some .free) : (x, NameKind.free) ∈ scope.names := by
  have key : ∀ k', (k' = .cell ∨ k' = .free) → (relabel scope env).names.lookup x = some k' → (x, NameKind.free) ∈ scope.names := fun k' hk h => by
    have hm := PySem.mem_of_lookup h
    obtain ⟨⟨n, k⟩, hn, e⟩ := List.mem_map.mp hm
    by_cases hc : (k == NameKind.free && env.scope.kind == .function && env.kindOf n == some .cell) = true
    · dsimp only at e
      rw [if_pos hc] at e
      cases e
      have : k = .free := by
        simp only [Bool.and_eq_true] at hc
        simpa using hc.1.1
      rw [this] at hn; exact hn
    · dsimp only at e
      rw [if_neg hc] at e
      cases e
      rcases hk with rfl | rfl
      · exact absurd rfl (hcell _ hn)
      · exact hn
  rcases h with h | h
  · exact key _ (.inl rfl) h
  · exact key _ (.inr rfl) h
def PIfs (X : Cx) (ifs : List Expr) (t : TT3) : Prop :=
  ∀ (pins : List (Addr × Obj)) (s : Shared) (σv : L2.St) (H : Hp) (σ : Lo) (M : Mem) (Q : Bool → Mem → Prop), Inv X pins σv H s → SRel X.K M H σ σv → MRel X.K M H → t σ M Q →
    wpAny (model X.prog X.w) X.A (forIn ifs true fun c r => if r = true then do let ok ← isTrue c X.env (eval c X.env); pure (ForInStep.yield ok) else pure (ForInStep.yield r)) (TP3 X pins σv M H Q) X.xe s
def tTrue3 : TT3 := fun _ M Q => Q true M
theorem pifs_nil {X : Cx} : PIfs X [] tTrue3 := fun pins s σv H σ M Q I hS hM h => by
  rw [List.forIn_nil]
  exact wpAny_pure ⟨M, H, I, .refl, hM, h⟩
theorem pifs_one {X : Cx} {c : Expr} {t : TT3} (hc : PT3 X c t) : PIfs X [c] t := fun pins s σv H σ M Q I hS hM h => by
  rw [List.forIn_cons]
  simp only [if_true]
  refine wpAny_bind (wpAny_bind (thn (hc pins s σv H σ M Q I hS hM h) fun b s1 q => wpAny_pure ?_))
  show wpAny _ _ (forIn [] b _) _ _ _
  rw [List.forIn_nil]
  exact wpAny_pure q
abbrev TG3 := D → Lo → Mem → (Lo → Mem → Prop) → Prop
def dnG (K : PySem.W.Frag) (g : TG3) : TG := fun v σv H Q2 => ∃ d σ M Q, Rep K M H d v ∧ SRel K M H σ σv ∧ MRel K M H ∧ g d σ M Q ∧ ∀ σ' σv' M' H', Step M H M' H' → MRel K M' H' → SRel K M' H' σ' σv' → Q σ' M' → Q2 σv' H'
def PG3 (X : Cx) (tg : Expr) (g : TG3) : Prop := PG X tg (dnG X.K g)
theorem PG.weak {X : Cx} {tg : Expr} {g1 g2 : TG} (h : PG X tg g1) (hw : ∀ v σ H Q, g2 v σ H Q → g1 v σ H Q) : PG X tg g2 := fun pins s σ H v u Q I r q => h pins s σ H v u Q I r (hw _ _ _ _ q)
def gName3 (i : Nat) : TG3 := fun d σ M Q => Q (σ.set i (some d)) M
theorem pg3_name {X : Cx} {i : Nat} {x : Str} {pos : Pos} (hN : X.N.Nodup) (hi : X.N[i]? = some x) (hx : Loc X.env.scope x) (hf : X.fn x = true ∨ X.env.scope.names.lookup x = some .local := by first | exact .inl rfl | exact .inr rfl | assumption) : PG3 X (.Name x pos) (gName3 i) :=
  PG.weak (pg_name hN hi hx hf) fun v σv H Q2 ⟨d, σ, M, Q, r, hS, hM, h, k⟩ => k (σ.set i (some d)) _ M H .refl hM (hS.set r i) h
end L3
set_option Elab.async false
set_option linter.all false
set_option maxRecDepth 100000
namespace L3
open PySem PySem.Spec PyProof.Rows L2
theorem lookup_mapk {f : Str × NameKind → Str × NameKind} (hf : ∀ p, (f p).1 = p.1) {x : Str} : ∀ {l : List (Str × NameKind)}, (l.map f).lookup x = (l.lookup x).map fun k => (f (x, k)).2
  | [] => rfl
  | (n, k) :: r => by
    have h1 := hf (n, k)
    rw [List.map_cons]
    generalize hq : f (n, k) = q at h1 ⊢
    obtain ⟨q1, q2⟩ := q
    cases h1
    rw [List.lookup_cons, List.lookup_cons]
    by_cases e : x = n
    · subst e
      simp [hq]
    · have e' : (x == n) = false := by simpa using e
      rw [e']
      exact lookup_mapk hf
theorem relabel_lookup {scope : Scope} {env : Env} {x : Str} : (relabel scope env).names.lookup x = (scope.names.lookup x).map fun k => if (k == NameKind.free && env.scope.kind == .function && env.kindOf x == some .cell) = true then NameKind.cell else k := by
  have := lookup_mapk (f := fun p => if (p.2 == NameKind.free && env.scope.kind == .function && env.kindOf p.1 == some .cell) = true then (p.1, NameKind.cell) else (p.1, p.2)) (fun p => by split <;> rfl) (x := x) (l := scope.names)
  refine this.trans ?_
  congr 1
  funext k
  split <;> rfl
theorem relabel_free' {scope : Scope} {env : Env} {x : Str} (h : scope.names.lookup x = some .free) : (relabel scope env).names.lookup x = some .cell ∨ (relabel scope env).names.lookup x = some .free := by
  rw [relabel_lookup, h, Option.map_some]
  split
  · exact .inl rfl
  · exact .inr rfl
def tComp3 (ti : TI3) (n : Nat) (slots : List Nat) (g : TG3) (tt : TT3) (te : TE3) : TE3 := fun σ M Q => ti σ M fun ds M1 => ∀ p, M1 p = none → ∃ Pv : Nat → List D → Mem → Prop, Pv 0 [] (mput M1 p (.lst [])) ∧
  (∀ k d acc M, ds[k]? = some d → Pv k acc M → g d (List.replicate n none ++ slots.map fun j => (σ[j]?).getD none) M fun σ' M0 => tt σ' M0 fun b M' =>
    if b = true then te σ' M' fun e M'' => M'' p = some (.lst acc) ∧ acc.length < sizeLine ∧ Pv (k + 1) (acc ++ [e]) (mput M'' p (.lst (acc ++ [e]))) else Pv (k + 1) acc M') ∧
  ∀ acc M, Pv ds.length acc M → M p = some (.lst acc) ∧ Q (.lst acc) (mdel M p)
def WkE (K : PySem.W.Frag) (J : It) (ds : List D) (M : Mem) (H : Hp) : Prop := ∀ M' H', Step M H M' H' → MRel K M' H' →
  (∀ i, i < ds.length → J.go i H') ∧ (∀ i d x H'', ds[i]? = some d → J.yld i H' x H'' → Step M' H' M' H'' ∧ MRel K M' H'' ∧ Rep K M' H'' d x) ∧ J.stop ds.length H'
def dnIE (K : PySem.W.Frag) (t : TI3) : TI := fun σv H R2 => ∃ σ M R, SRel K M H σ σv ∧ MRel K M H ∧ t σ M R ∧ ∀ ds J M' H', Step M H M' H' → MRel K M' H' → WkE K J ds M' H' → R ds M' → R2 J H'
def PI3E (X : Cx) (tg iter : Expr) (t : TI3) : Prop := PI X tg iter (dnIE X.K t)
theorem PI3.toE {X : Cx} {tg iter : Expr} {t : TI3} (h : PI3 X tg iter t) : PI3E X tg iter t := PI.weak h fun σv H R2 ⟨σ, M, R, hS, hM, ht, k⟩ => ⟨σ, M, R, hS, hM, ht, fun ds J M' H' st m wk => k ds J M' H' st m fun M2 H2 st2 m2 =>
  let ⟨go, yld, stop⟩ := wk M2 H2 st2
  ⟨go, fun i d x H'' e y => by obtain ⟨rfl, r⟩ := yld i d x H'' e y; exact ⟨.refl, m2, r⟩, stop _ (Nat.le_refl _)⟩⟩
def tCompF (ti : TI3) (n : Nat) (slots : List Nat) (g : TG3) (tt : TT3) (te : TE3) (F : Addr → List D → Mem → Prop) (σ : Lo) (M : Mem) : Prop := ti σ M fun ds M1 => ∀ p, M1 p = none → ∃ Pv : Nat → List D → Mem → Prop, Pv 0 [] (mput M1 p (.lst [])) ∧
  (∀ k d acc M, ds[k]? = some d → Pv k acc M → g d (List.replicate n none ++ slots.map fun j => (σ[j]?).getD none) M fun σ' M0 => tt σ' M0 fun b M' =>
    if b = true then te σ' M' fun e M'' => M'' p = some (.lst acc) ∧ acc.length < sizeLine ∧ Pv (k + 1) (acc ++ [e]) (mput M'' p (.lst (acc ++ [e]))) else Pv (k + 1) acc M') ∧
  ∀ acc M, Pv ds.length acc M → M p = some (.lst acc) ∧ F p acc M
set_option maxHeartbeats 2000000 in
theorem comp_core {X : Cx} {elt tg iter : Expr} {pos : Pos} {ifs : List Expr} {scope : Scope} {tns caps : List Str} {slots : List Nat} {ti : TI3} {g : TG3} {tt : TT3} {te : TE3}
    (hc : X.calm = true) (hi : PI3E X tg iter ti) (hkind : scope.kind = .function) (hcell : ∀ y ∈ scope.names, y.2 ≠ .cell)
    (hnames : ∀ y ∈ scope.names, y.2 = .local → scope.names.lookup y.1 = some .local)
    (hfree : ∀ y ∈ scope.names, y.2 = .free → X.env.kindOf y.1 = some .cell ∨ X.env.kindOf y.1 = some .free)
    (hcf : ∀ y ∈ caps, scope.names.lookup y = some .free) (hcaps : slots.map (fun j => X.N[j]?) = caps.map some)
    (hgk : ∀ d M Q (cs : Lo), g d (List.replicate tns.length none ++ cs) M Q → g d (List.replicate tns.length none ++ cs) M (fun σ' M' => σ'.drop tns.length = cs ∧ Q σ' M'))
    (hg : ∀ cl s₀ H₀ ex, PG3 (compCx X scope cl s₀ H₀ ex (tns ++ caps)) tg g)
    (ht : ∀ cl s₀ H₀ ex, PIfs (compCx X scope cl s₀ H₀ ex (tns ++ caps)) ifs tt) (he : ∀ cl s₀ H₀ ex, PE3 (compCx X scope cl s₀ H₀ ex (tns ++ caps)) elt te)
    (hs : ∀ y, foldedSetIterable iter X.env y = pure y)
    {use : Option (Value → Sem Unit)} {Post : Value → Shared → Prop} {pins : List (Addr × Obj)} {s : Shared} {σv : L2.St} {H : Hp} {σ : Lo} {M : Mem} {F : Addr → List L3.D → Mem → Prop} (I : Inv X pins σv H s) (hS : SRel X.K M H σ σv) (hM : MRel X.K M H) (h : tCompF ti tns.length slots g tt te F σ M)
    (fin : ∀ (D C : Addr) (acc : List L3.D) (H5 : Hp) (M5 : Mem) (s6 : Shared) (m : Str → Option Value), s6.heap.Ns C m → Inv X pins σv H5 s6 → H5 C = none → C ≠ X.env.locals → C ∉ X.fs → X.s₀.heap.objs.size ≤ C → (∀ x c, X.env.cells.lookup x = some c → c ≠ C) → (∀ p ∈ X.pn ++ pins, p.1 ≠ C) →
      Step M H M5 H5 → MRel X.K M5 H5 → M5 D = some (.lst acc) → F D acc M5 → compPost (model X.prog X.w) X.A X.xe use Post (.ref D) C (.ok .next) s6) :
    wpAny (model X.prog X.w) X.A (comprehension (.ListComp elt [⟨tg, iter, ifs, 0⟩] scope pos) scope X.env (firstIterPos [⟨tg, iter, ifs, 0⟩] pos) (newList []) false (firstIter [⟨tg, iter, ifs, 0⟩] X.env) use) Post X.xe s := by
  have hclos : closureFor scope X.env = pure (closN (fun n => (X.env.cells.lookup n).getD 0) scope.names []) := closureFor_of fun p hp hk => by
    obtain ⟨a, e⟩ := I.ok.has p.1 (hfree p hp hk)
    rw [e]; rfl
  have cellsOf : ∀ x c, (closN (fun n => (X.env.cells.lookup n).getD 0) scope.names []).lookup x = some c → X.env.cells.lookup x = some c := fun x c e => by
    obtain ⟨e1, e2⟩ := of_closN e
    obtain ⟨a, e3⟩ := I.ok.has x (hfree _ e2 rfl)
    rw [e3] at e1
    rw [e3, e1]; rfl
  have clHas : ∀ n, (n, NameKind.free) ∈ scope.names → ∃ c, (closN (fun n => (X.env.cells.lookup n).getD 0) scope.names []).lookup n = some c := fun n hn => ⟨_, closN_lookup hn⟩
  generalize closN (fun n => (X.env.cells.lookup n).getD 0) scope.names [] = cl at hclos cellsOf clHas
  refine wpAny_comprehension_free rfl hs hclos hkind hnames ?_
  refine thn (hi pins s σv H (fun J H2 => ∃ ds M1, Step M H M1 H2 ∧ MRel X.K M1 H2 ∧ WkE X.K J ds M1 H2 ∧ _) I ⟨σ, M, _, hS, hM, h, fun ds J M1 H1 st m wk q => ⟨ds, M1, st, m, wk, q⟩⟩) fun v s1 h1 => thn h1 fun itv s2 h2 => ?_
  obtain ⟨it, fp, tn, J, H2, e0, I2, T, st2, f2, ds, M1, stp, m1, wk, cont⟩ := h2
  subst e0
  refine wpAny_newObj_type ?_
  have I3 := I2.lnew (its := []) (ys := []) (t' := s2.toks) .nil (Nat.zero_le _)
  have hget : ∀ b o, s2.heap.get? b = some o → ({ s2 with heap := s2.heap.push { cls := .type "list", data := .seq #[] }, toks := s2.toks } : Shared).heap.get? b = some o := fun b o e => Heap.get?_push_of_some _ e
  have hsz : s2.heap.objs.size < ({ s2 with heap := s2.heap.push { cls := .type "list", data := .seq #[] }, toks := s2.toks } : Shared).heap.objs.size := Heap.lt_size (Heap.get?_push_size _ rfl)
  change wpAny _ _ _ _ _ ({ s2 with heap := s2.heap.push { cls := .type "list", data := .seq #[] }, toks := s2.toks } : Shared)
  change Inv X pins σv _ ({ s2 with heap := s2.heap.push { cls := .type "list", data := .seq #[] }, toks := s2.toks } : Shared) at I3
  have hos3 : ({ s2 with heap := s2.heap.push { cls := .type "list", data := .seq #[] }, toks := s2.toks } : Shared).os = s2.os := rfl
  generalize ({ s2 with heap := s2.heap.push { cls := .type "list", data := .seq #[] }, toks := s2.toks } : Shared) = s3 at I3 hget hsz hos3 ⊢
  refine wpAny_newFunctionEnv hcell (fun _ hx => absurd hx (by simp)) (fun h4 hns hsb => ?_) hkind
  have hDn : H2 s2.heap.objs.size = none := I2.fresh
  have hD : upd H2 s2.heap.objs.size (.lst []) s2.heap.objs.size = some (.lst []) := upd_same
  have fpne : ∀ b ∈ fp, b ≠ s2.heap.objs.size := fun b hb => by
    obtain ⟨o, e, _⟩ := T.obj _ _ st2 b hb
    exact Nat.ne_of_lt (Heap.lt_size e)
  generalize s2.heap.objs.size = D at hDn hD hsz I3 fpne ⊢
  have stD : Step M1 H2 (mput M1 D (.lst [])) (upd H2 D (.lst [])) := Step.put (.inl hDn)
  have mD : MRel X.K (mput M1 D (.lst [])) (upd H2 D (.lst [])) := m1.put (.inl hDn) .nil
  have k4 : ∀ b o, s3.heap.get? b = some o → h4.get? b = some o := fun b o e => (hsb.2 b (Nat.ne_of_lt (Heap.lt_size e))).trans (Heap.get?_push_of_some _ e)
  have fpold : ∀ b ∈ fp, b < s3.heap.objs.size := fun b hb => by
    obtain ⟨o, e, _⟩ := T.obj _ _ st2 b hb
    exact Heap.lt_size (hget b o e)
  have fpD : ∀ b ∈ fp, upd H2 D (.lst []) b = none := fun b hb => by
    rw [upd_ne (fpne b hb)]; exact (f2 b hb).1
  have xok : (compCx X scope cl s3 (upd H2 D (.lst [])) fp (tns ++ caps)).Ok := {
    mod := I.ok.mod
    kind := hkind
    glob := I.ok.glob
    blt := I.ok.blt
    above := Nat.le_refl _
    inj := fun x y c e1 e2 => I.ok.inj x y c (cellsOf x c e1) (cellsOf y c e2)
    has := fun x hx => clHas x (relabel_free hcell hx)
    cab := fun x c hf => by cases hf
    hd := I.ok.hd
    frames := I.ok.frames
    stk := .inl rfl
    exf := fun b hb => ⟨Nat.ne_of_lt (fpold b hb), fun x c e => (f2 b hb).2.2.2.2.1 x c (cellsOf x c e)⟩
    bs := I3.bs
    bsz := Nat.le_trans I3.ok.bsz I3.sz
    noex := fun b o e hb => by
      rcases (f2 b hb).2.2.2.1 with z | z
      · exact I.ok.noex b o e z
      · exact absurd (Nat.lt_of_lt_of_le (Heap.lt_size e) (Nat.le_trans I.ok.bsz z)) (Nat.lt_irrefl _)
    exfs := fun b hb z => by
      rcases List.mem_cons.mp (I2.stkSub b z) with z | z
      · exact (f2 b hb).2.1 z
      · exact (f2 b hb).2.2.1 z
    funs := I3.stack
    frf := I3.stkFree }
  have I4 : Inv (compCx X scope cl s3 (upd H2 D (.lst [])) fp (tns ++ caps)) [] (List.replicate tns.length none ++ slots.map fun j => (σv[j]?).getD none) (upd H2 D (.lst [])) { s3 with heap := h4, toks := s3.toks + ([] : List (Str × Value)).length } := {
    ok := xok
    os := rfl
    bare := I3.bare
    base := Un.kept k4
    loc := by
      refine ⟨_, hns, fun i x v e1 e2 vis => ?_⟩
      have hlen : caps.length = slots.length := by
        have := congrArg List.length hcaps
        simpa using this.symm
      have hi : tns.length ≤ i := by
        rcases Nat.lt_or_ge i tns.length with z | z
        · rw [List.getElem?_append_left (by simpa using z), List.getElem?_replicate] at e2
          split at e2 <;> cases e2
        · exact z
      change (tns ++ caps)[i]? = some x at e1
      rw [List.getElem?_append_right hi] at e1
      rw [List.getElem?_append_right (by simpa using hi), List.length_replicate, List.getElem?_map] at e2
      cases e3 : slots[i - tns.length]? with
      | none => rw [e3] at e2; cases e2
      | some j =>
        rw [e3, Option.map_some] at e2
        have e2' : (σv[j]?).getD none = some v := Option.some.inj e2
        have e5 : σv[j]? = some (some v) := by
          cases q : σv[j]? with
          | none => rw [q] at e2'; cases e2'
          | some z => rw [q] at e2'; simp only [Option.getD_some] at e2'; rw [e2']
        have e4 : X.N[j]? = some x := by
          have := congrArg (fun l => l[i - tns.length]?) hcaps
          simp only [List.getElem?_map, e3, e1, Option.map_some] at this
          exact Option.some.inj this
        have hxf := hcf x (List.mem_of_getElem? e1)
        have hk := hfree (x, .free) (PySem.mem_of_lookup hxf) rfl
        obtain ⟨m, hm, hl⟩ := I3.loc
        obtain ⟨u, ru, lk⟩ := hl j x v e4 e5 (hk.elim (fun z => .inr (.inl z)) fun z => .inr (.inr z))
        refine ⟨u, ru, .inr ⟨relabel_free' hxf, ?_⟩⟩
        rcases lk with ⟨z, _⟩ | ⟨_, c, ec, ic⟩
        · rcases hk with y | y <;> (rw [show X.env.kindOf x = _ from z] at y; cases y)
        · obtain ⟨c', ec'⟩ := clHas x (PySem.mem_of_lookup hxf)
          have := cellsOf x c' ec'
          rw [ec] at this
          cases this
          obtain ⟨o, ho, r⟩ := ic
          exact ⟨c, ec', o, k4 _ _ ho, r⟩
    cell := fun x c e => by
      obtain ⟨v, o, ho, r⟩ := I3.cell x c (cellsOf x c e)
      exact ⟨v, o, k4 _ _ ho, r⟩
    free := I3.fresh
    freeC := fun x c e => I3.freeC x c (cellsOf x c e)
    pin := fun p hp => absurd hp (by simp [compCx])
    hok := I3.hok.kept k4
    len := by
      have := congrArg List.length hcaps
      simp at this
      simp [compCx, this] }
  have hlen : caps.length = slots.length := by
    have := congrArg List.length hcaps
    simpa using this.symm
  have stat : ∀ {H' : Hp}, (∀ b ∈ fp, H' b = none) → ∀ b ∈ fp, FpOk (compCx X scope cl s3 (upd H2 D (.lst [])) fp (tns ++ caps)) [] H' b := fun hn b hb =>
    ⟨hn b hb, (xok.exf b hb).1, xok.exfs b hb, .inl hb, (xok.exf b hb).2, fun p hp => absurd hp (by simp [compCx])⟩
  have hMD : M1 D = none := m1.free hDn
  obtain ⟨Pv, p0, turn, done⟩ := cont D hMD
  have hS0 : SRel X.K (mput M1 D (.lst [])) (upd H2 D (.lst [])) (List.replicate tns.length none ++ slots.map fun j => (σ[j]?).getD none) (List.replicate tns.length none ++ slots.map fun j => (σv[j]?).getD none) := by
    refine ⟨by simp, fun i d e => ?_⟩
    rcases Nat.lt_or_ge i tns.length with z | z
    · rw [List.getElem?_append_left (by simpa using z), List.getElem?_replicate] at e
      split at e <;> cases e
    · rw [List.getElem?_append_right (by simpa using z), List.length_replicate, List.getElem?_map] at e ⊢
      cases e3 : slots[i - tns.length]? with
      | none => rw [e3] at e; cases e
      | some j =>
        rw [e3, Option.map_some] at e
        have e2' : (σ[j]?).getD none = some d := Option.some.inj e
        have e5 : σ[j]? = some (some d) := by
          cases q : σ[j]? with
          | none => rw [q] at e2'; cases e2'
          | some z => rw [q] at e2'; simp only [Option.getD_some] at e2'; rw [e2']
        obtain ⟨v, ev, rv⟩ := hS.get j d e5
        exact ⟨v, by rw [Option.map_some, ev]; rfl, rv.mono (stp.trans stD)⟩
  generalize hcs : (slots.map fun j => (σ[j]?).getD none) = cs at turn hS0
  have hcsl : cs.length = caps.length := by rw [← hcs, hlen]; simp
  have loop : codeAny (model X.prog X.w) X.A (.compLoop (.ListComp elt [⟨tg, iter, ifs, 0⟩] scope pos) 0 (.ref it) (.ref D) (compEnvC scope cl s3.heap.objs.size X.env)) (compPost (model X.prog X.w) X.A X.xe use Post (.ref D) s3.heap.objs.size) { s3 with heap := h4, toks := s3.toks + ([] : List (Str × Value)).length } := by
    refine comp_loop (fun n s' => ∃ k acc σv' H' M', n = ds.length - k ∧ k ≤ ds.length ∧ Inv (compCx X scope cl s3 (upd H2 D (.lst [])) fp (tns ++ caps)) [] σv' H' s' ∧ tn k s'.heap ∧ (∀ b ∈ fp, H' b = none) ∧
      Step (mput M1 D (.lst [])) (upd H2 D (.lst [])) M' H' ∧ MRel X.K M' H' ∧ SRel X.K M' H' (List.replicate tns.length none ++ cs) σv' ∧ Pv k acc M') ?_ _ ⟨0, [], _, _, _, rfl, Nat.zero_le _, I4, T.keep _ _ _ st2 fun b hb o e => k4 _ _ (hget _ _ e), fpD, .refl, mD, hS0, p0⟩
    rintro n s5 ⟨k, acc, σv5, H5, M5, rfl, hk, I5, tn5, fr5, st5, m5, hS5, pk⟩
    obtain ⟨go, yld, stop⟩ := wk M5 H5 (stD.trans st5) m5
    by_cases hlt : k < ds.length
    · refine thn (T.item (compCx X scope cl s3 (upd H2 D (.lst [])) fp (tns ++ caps)) rfl rfl rfl hc k [] s5 σv5 H5 (fun _ _ => False) I5 (stat fr5) tn5 (go k hlt)) fun r s6 hx0 => ?_
      obtain ⟨u, hr, h6⟩ := hx0
      subst hr
      refine thn h6 fun _ s7 hx0 => ?_
      obtain ⟨x, H7, I7, r7, y7, tn7, fr7⟩ := hx0
      obtain ⟨sy, my, ry⟩ := yld k ds[k] x H7 (by simp [hlt]) y7
      have I7' := I7.pinned (stat fr7) (T.obj _ _ tn7)
      refine thn (hg cl s3 (upd H2 D (.lst [])) fp _ s7 σv5 _ x u (fun σv' H' => ∃ σ' M', Step M5 H7 M' H' ∧ MRel X.K M' H' ∧ SRel X.K M' H' σ' σv' ∧ _) I7' r7 ⟨ds[k], _, M5, _, ry, hS5.mono sy, my, hgk _ _ _ _ (turn k ds[k] acc M5 (by simp [hlt]) pk), fun σ' σv' M' H' st m r q => ⟨σ', M', st, m, r, q⟩⟩) fun _ s8 hx0 => ?_
      obtain ⟨σ8, H8, I8, σ', M8, st8, m8, hS8, hdr, q8⟩ := hx0
      have again : ∀ (sF : Shared) (HF : Hp) (MF : Mem) (accF : List L3.D), Inv (compCx X scope cl s3 (upd H2 D (.lst [])) fp (tns ++ caps)) ([] ++ pinsAt fp s7.heap) σ8 HF sF → Step M8 H8 MF HF → MRel X.K MF HF → Pv (k + 1) accF MF →
          ∃ m, m < ds.length - k ∧ ∃ k acc σv' H' M', m = ds.length - k ∧ k ≤ ds.length ∧ Inv (compCx X scope cl s3 (upd H2 D (.lst [])) fp (tns ++ caps)) [] σv' H' sF ∧ tn k sF.heap ∧ (∀ b ∈ fp, H' b = none) ∧
            Step (mput M1 D (.lst [])) (upd H2 D (.lst [])) M' H' ∧ MRel X.K M' H' ∧ SRel X.K M' H' (List.replicate tns.length none ++ cs) σv' ∧ Pv k acc M' := by
        intro sF HF MF accF IF stF mF pF
        refine ⟨ds.length - (k + 1), by lia, k + 1, accF, σ8, HF, MF, rfl, hlt, IF.unpinned, T.keep _ _ _ tn7 fun b hb o e => (IF.pin (b, o) (List.mem_append_right _ (List.mem_append_right _ (mem_pinsAt hb e)))).1, fun b hb => ?_, ((st5.trans sy).trans st8).trans stF, mF, ?_, pF⟩
        · obtain ⟨o, e, d⟩ := T.obj _ _ tn7 b hb
          exact (IF.pin (b, o) (List.mem_append_right _ (List.mem_append_right _ (mem_pinsAt hb e)))).2.1
        · refine SRel.mono stF ⟨?_, fun i d e => ?_⟩
          · have := I8.len
            rw [this, List.length_append, List.length_replicate, hcsl]
            simp [compCx]
          · rcases Nat.lt_or_ge i tns.length with z | z
            · rw [List.getElem?_append_left (by simpa using z), List.getElem?_replicate] at e
              split at e <;> cases e
            · rw [List.getElem?_append_right (by simpa using z), List.length_replicate, ← hdr, List.getElem?_drop] at e
              have : tns.length + (i - tns.length) = i := by lia
              rw [this] at e
              exact hS8.get i d e
      refine thn (ht cl s3 (upd H2 D (.lst [])) fp _ s8 σ8 H8 σ' M8 _ I8 hS8 m8 q8) fun ok s9 hx0 => ?_
      obtain ⟨M9, H9, I9, st9, m9, q9⟩ := hx0
      cases ok with
      | false => exact again s9 H9 M9 acc I9 st9 m9 q9
      | true =>
        refine thn (he cl s3 (upd H2 D (.lst [])) fp _ s9 σ8 H9 σ' M9 _ I9 (hS8.mono st9) m9 q9) fun xv s10 hx0 => ?_
        obtain ⟨e, v, M10, H10, I10, st10, m10, r10, rep10, hMp, hlt2, q10⟩ := hx0
        obtain ⟨ho, hHo, rO⟩ := m10 D _ hMp
        cases ho <;> first | exact (rO : False).elim | skip
        rename_i vs
        have rO' : Reps X.K M10 H10 acc vs := rO
        refine thn (mt_append _ s10 σ8 H10 (.ref D) [v] (.ref D) [xv] (fun w H' => H' = upd H10 D (.lst (vs ++ [v]))) I10 rfl (.cons r10 .nil) ⟨D, vs, v, rfl, rfl, hHo, by rw [← rO'.length]; exact hlt2, rfl⟩) fun _ s11 hx0 => ?_
        obtain ⟨w, H11, I11, _, e11⟩ := hx0
        subst e11
        exact again s11 _ _ _ I11 (st9.trans (st10.trans (Step.put (.inr (by rw [hMp]; simp))))) (m10.put (.inr (by rw [hMp]; simp)) (o := .lst (acc ++ [e])) (Reps.append rO' (.cons rep10 .nil))) q10
    · have e : k = ds.length := by lia
      subst e
      refine thn (T.done (compCx X scope cl s3 (upd H2 D (.lst [])) fp (tns ++ caps)) rfl rfl rfl hc _ [] s5 σv5 H5 (fun _ _ => False) I5 (stat fr5) tn5 stop) fun r s6 hx0 => ?_
      obtain ⟨hr, I6⟩ := hx0
      subst hr
      obtain ⟨m, hn, _⟩ := I6.loc
      obtain ⟨hp, hq⟩ := done acc M5 pk
      refine fin D s3.heap.objs.size acc H5 M5 s6 m hn (I3.call' (ch := fp) I6.os I6.base I6.hok I6.bare (fun b hb => ⟨(f2 b hb).2.2.2.1, (f2 b hb).2.1, (f2 b hb).2.2.2.2.1, (f2 b hb).2.2.2.2.2⟩)) I6.free (Nat.ne_of_gt I3.lt) (I3.nofs (Nat.le_refl _)) I3.sz (fun x c e z => ?_) (fun p hp z => absurd (Heap.lt_size (I3.pin p hp).1) (by rw [z]; exact Nat.lt_irrefl _)) ((stp.trans stD).trans st5) m5 hp hq
      obtain ⟨v, q⟩ := I3.cell x c e
      exact absurd q.lt (by rw [z]; exact Nat.lt_irrefl _)
  exact codeAny_compStart_list loop (T.self _ _ _ _ _ (T.keep _ _ _ st2 fun b hb o e => k4 _ _ (hget _ _ e)) loop)
theorem pe3_compE {X : Cx} {elt tg iter : Expr} {pos : Pos} {ifs : List Expr} {scope : Scope} {tns caps : List Str} {slots : List Nat} {ti : TI3} {g : TG3} {tt : TT3} {te : TE3}
    (hc : X.calm = true) (hi : PI3E X tg iter ti) (hkind : scope.kind = .function) (hcell : ∀ y ∈ scope.names, y.2 ≠ .cell)
    (hnames : ∀ y ∈ scope.names, y.2 = .local → scope.names.lookup y.1 = some .local)
    (hfree : ∀ y ∈ scope.names, y.2 = .free → X.env.kindOf y.1 = some .cell ∨ X.env.kindOf y.1 = some .free)
    (hcf : ∀ y ∈ caps, scope.names.lookup y = some .free) (hcaps : slots.map (fun j => X.N[j]?) = caps.map some)
    (hgk : ∀ d M Q (cs : Lo), g d (List.replicate tns.length none ++ cs) M Q → g d (List.replicate tns.length none ++ cs) M (fun σ' M' => σ'.drop tns.length = cs ∧ Q σ' M'))
    (hg : ∀ cl s₀ H₀ ex, PG3 (compCx X scope cl s₀ H₀ ex (tns ++ caps)) tg g)
    (ht : ∀ cl s₀ H₀ ex, PIfs (compCx X scope cl s₀ H₀ ex (tns ++ caps)) ifs tt) (he : ∀ cl s₀ H₀ ex, PE3 (compCx X scope cl s₀ H₀ ex (tns ++ caps)) elt te)
    (hs : ∀ y, foldedSetIterable iter X.env y = pure y := by intro _; rfl) :
    PE3 X (.ListComp elt [⟨tg, iter, ifs, 0⟩] scope pos) (tComp3 ti tns.length slots g tt te) := by
  intro pins s σv H σ M Q I hS hM h
  rw [eval_ListComp]
  refine comp_core hc hi hkind hcell hnames hfree hcf hcaps hgk hg ht he hs (use := none) (F := fun p acc M => Q (.lst acc) (mdel M p)) I hS hM h fun D C acc H5 M5 s6 m hn I7 c1 c2 c3 c4 c5 c6 st m5 hp hq => ?_
  obtain ⟨mF, rF, sF⟩ := Vs.frzL hp X.K H5 (.ref D) m5 .ref
  exact ⟨m, hn, fun h' sb => ⟨.lst acc, .ref D, mdel M5 D, H5, I7.turned (t' := s6.toks) (it := C) (fun b o hb e => (sb.2 b hb).trans e) c1 c2 (.inr c4) c5 c6, st.less sF, mF, rfl, rF, hq⟩⟩
theorem pe3_comp {X : Cx} {elt tg iter : Expr} {pos : Pos} {ifs : List Expr} {scope : Scope} {tns caps : List Str} {slots : List Nat} {ti : TI3} {g : TG3} {tt : TT3} {te : TE3}
    (hc : X.calm = true) (hi : PI3 X tg iter ti) (hkind : scope.kind = .function) (hcell : ∀ y ∈ scope.names, y.2 ≠ .cell)
    (hnames : ∀ y ∈ scope.names, y.2 = .local → scope.names.lookup y.1 = some .local)
    (hfree : ∀ y ∈ scope.names, y.2 = .free → X.env.kindOf y.1 = some .cell ∨ X.env.kindOf y.1 = some .free)
    (hcf : ∀ y ∈ caps, scope.names.lookup y = some .free) (hcaps : slots.map (fun j => X.N[j]?) = caps.map some)
    (hgk : ∀ d M Q (cs : Lo), g d (List.replicate tns.length none ++ cs) M Q → g d (List.replicate tns.length none ++ cs) M (fun σ' M' => σ'.drop tns.length = cs ∧ Q σ' M'))
    (hg : ∀ cl s₀ H₀ ex, PG3 (compCx X scope cl s₀ H₀ ex (tns ++ caps)) tg g)
    (ht : ∀ cl s₀ H₀ ex, PIfs (compCx X scope cl s₀ H₀ ex (tns ++ caps)) ifs tt) (he : ∀ cl s₀ H₀ ex, PE3 (compCx X scope cl s₀ H₀ ex (tns ++ caps)) elt te)
    (hs : ∀ y, foldedSetIterable iter X.env y = pure y := by intro _; rfl) :
    PE3 X (.ListComp elt [⟨tg, iter, ifs, 0⟩] scope pos) (tComp3 ti tns.length slots g tt te) := pe3_compE hc hi.toE hkind hcell hnames hfree hcf hcaps hgk hg ht he hs
end L3
set_option Elab.async false
set_option linter.all false
set_option maxRecDepth 100000
namespace L3
open PySem PySem.Spec PyProof.Rows L2
theorem gk_name {i n : Nat} (hi : i < n) (d : D) (M : Mem) (Q : Lo → Mem → Prop) (cs : Lo) (h : gName3 i d (List.replicate n none ++ cs) M Q) : gName3 i d (List.replicate n none ++ cs) M (fun σ' M' => σ'.drop n = cs ∧ Q σ' M') := by
  refine ⟨?_, h⟩
  rw [List.drop_set_of_lt hi, List.drop_left' (by simp)]
abbrev M3 := D → List D → Mem → DK → Prop
def MtR3 (X : Cx) (id : String) (r : M3) : Prop :=
  ∀ (pins : List (Addr × Obj)) (s : Shared) (σv : L2.St) (H : Hp) (M : Mem) (x : D) (xs : List D) (xv : V) (xvs : List V) (v : Value) (us : List Value) (Q : DK), Inv X pins σv H s → MRel X.K M H → RelV xv v → Vals xvs us → Rep X.K M H x xv → Reps X.K M H xs xvs → r x xs M Q →
    wpAny (model X.prog X.w) X.A (call (.builtin id) (v :: us)) (EP3 X pins σv M H Q) X.xe s
def tyD (T : String) (M : Mem) : D → Prop
  | .str _ => T = "str"
  | .lst _ => T = "list"
  | .ref a => (T = "list" ∧ ∃ ds, M a = some (.lst ds)) ∨ (T = "dict" ∧ ∃ ds, M a = some (.dct ds))
  | _ => False
theorem tyD_V {X : Cx} {T : String} {M : Mem} {H : Hp} {d : D} {v : V} (m : MRel X.K M H) (r : Rep X.K M H d v) (h : tyD T M d) : tyV X.K T v H := by
  cases r with
  | str => exact h
  | lst h1 _ => exact .inl ⟨h, _, SqL.of3 h1⟩
  | ref =>
    rcases h with ⟨rfl, ds, e⟩ | ⟨rfl, ds, e⟩
    · obtain ⟨ho, e1, r⟩ := m _ _ e
      cases ho <;> first | exact (r : False).elim | skip
      exact .inl ⟨rfl, _, .inl (.inl e1)⟩
    · obtain ⟨ho, e1, r⟩ := m _ _ e
      cases ho <;> first | exact (r : False).elim | skip
      exact .inr (.inr (.inl ⟨rfl, .inl ⟨_, e1⟩⟩))
  | dct h1 _ => exact h.elim
  | _ => exact h.elim
def tBM3 (T : String) (r : M3) (to : TE3) (t : TA3) : TE3 := fun σ M Q => to σ M fun x M1 => tyD T M1 x ∧ t σ M1 fun xs M2 => r x xs M2 Q
section
variable {X : Cx} {o e : Expr} {es : List Expr} {to : TE3} {t : TA3} {name : Str} {apos cpos : Pos} {T id : String} {r : M3}
theorem pe3_bm (pa : PlainAttrs T) (slot : Slot T name id) (hty : typeOf (.builtin id) = pure (.type "method_descriptor")) (hm : MtR3 X id r) (ho : PE3 X o to) (ha : PA3 X (e :: es) t)
    (hbase : attributeBase o name X.env (eval o X.env) = eval o X.env := by rfl)
    (hfew : ((backTo cpos (starEach (e :: es) X.env)).all (fun x => !x.1) && (backToKw cpos (keywordEach [] X.env)).all (fun x => x.1.isSome)
      && decide ((e :: es).length + ([] : List Keyword).length + (if ([] : List Keyword).isEmpty then 0 else 1) < 30)) = true := by rfl)
    (hline : (apos.endLine == cpos.line) = true := by rfl) (hs : starEach (e :: es) X.env = (false, eval e X.env) :: starEach es X.env := by rfl) (hplain : (backTo cpos (starEach es X.env)).any (·.1) = false := by rfl) :
    PE3 X (.Call (.Attribute o name apos) (e :: es) [] cpos) (tBM3 T r to t) := by
  intro pins s σv H σ M Q I hS hM h
  refine wpAny_Call_method_late hbase hfew hline rfl (thn (ho pins s σv H σ M _ I hS hM h) fun v s1 ⟨d, xv, M1, H1, I1, st1, m1, r1, p1, ty, q1⟩ => ?_)
  obtain ⟨h1, h2⟩ := tyV_is I1 r1 (tyD_V m1 p1 ty)
  refine ⟨T, id, pa, slot, hty, h1, h2, ?_⟩
  have hA := ha cpos pins s1 σv H1 σ M1 _ I1 (hS.mono st1) m1 q1
  rw [hs] at hA ⊢
  refine Calls.callWith_builtin (by show (false || (backTo cpos (starEach es X.env)).any (·.1)) = false; rw [hplain] <;> rfl) (Calls.evalArgs_plain ?_)
  exact thn hA fun us s2 ⟨ds, vs, M2, H2, I2, st2, m2, rv2, p2, q2⟩ => thn (hm pins s2 σv H2 M2 d ds xv vs v us Q I2 m2 r1 rv2 (p1.mono st2) p2 q2) fun _ _ z => z.trans (st1.trans st2)
theorem reps1 {K : PySem.W.Frag} {M : Mem} {H : Hp} {d : D} {vs : List V} (r : Reps K M H [d] vs) : ∃ v, vs = [v] ∧ Rep K M H d v := by
  cases r with
  | cons a b => cases b; exact ⟨_, rfl, a⟩
end
def compOk (env : Env) (scope : Scope) (caps : List Str) : Bool :=
  (scope.names.all fun y => match y.2 with
    | .free => (match env.kindOf y.1 with | some .cell => true | some .free => true | _ => false)
    | .cell => false
    | .local => (match scope.names.lookup y.1 with | some .local => true | _ => false)
    | _ => true) && caps.all fun y => match scope.names.lookup y with | some .free => true | _ => false
theorem pe3_compB {X : Cx} {elt tg iter : Expr} {pos : Pos} {ifs : List Expr} {scope : Scope} (tns caps : List Str) (slots : List Nat) {ti : TI3} {g : TG3} {tt : TT3} {te : TE3}
    (hc : X.calm = true) (hi : PI3 X tg iter ti) (hkind : scope.kind = .function) (hok : compOk X.env scope caps = true) (hcaps : slots.map (fun j => X.N[j]?) = caps.map some)
    (hgk : ∀ d M Q (cs : Lo), g d (List.replicate tns.length none ++ cs) M Q → g d (List.replicate tns.length none ++ cs) M (fun σ' M' => σ'.drop tns.length = cs ∧ Q σ' M'))
    (hg : ∀ cl s₀ H₀ ex, PG3 (compCx X scope cl s₀ H₀ ex (tns ++ caps)) tg g)
    (ht : ∀ cl s₀ H₀ ex, PIfs (compCx X scope cl s₀ H₀ ex (tns ++ caps)) ifs tt) (he : ∀ cl s₀ H₀ ex, PE3 (compCx X scope cl s₀ H₀ ex (tns ++ caps)) elt te)
    (hs : ∀ y, foldedSetIterable iter X.env y = pure y := by intro _; rfl) :
    PE3 X (.ListComp elt [⟨tg, iter, ifs, 0⟩] scope pos) (tComp3 ti tns.length slots g tt te) := by
  unfold compOk at hok
  rw [Bool.and_eq_true, List.all_eq_true, List.all_eq_true] at hok
  obtain ⟨h1, h2⟩ := hok
  refine pe3_comp hc hi hkind (fun y hy e => ?_) (fun y hy e => ?_) (fun y hy e => ?_) (fun y hy => ?_) hcaps hgk hg ht he hs
  · have := h1 y hy; rw [e] at this; cases this
  · have := h1 y hy
    rw [e] at this
    dsimp only at this
    split at this
    · assumption
    · cases this
  · have := h1 y hy
    rw [e] at this
    dsimp only at this
    split at this
    · exact .inl (by assumption)
    · exact .inr (by assumption)
    · cases this
  · have := h2 y hy
    split at this
    · assumption
    · cases this
end L3
set_option Elab.async false
set_option linter.all false
set_option maxRecDepth 100000
namespace L3
open PySem L2
section
variable {t u : TS3} {T : Ends3} {σ : Lo} {M : Mem} {Q : DK} {QB : Bool → Mem → Prop} {QA : List D → Mem → Prop} {c tA tB : TT3} {te ta tb tc : TE3} {tas : TA3} {i : Nat} {d x y : D} {r r' : R3} {ru : U3} {rc : C3} {sp : Sp3}
theorem rd_seq (h : t { T with nx := u T } σ M) : tSeq3 t u T σ M := h
theorem rd_ifs (h : c σ M fun b M1 => if b = true then t T σ M1 else u T σ M1) : tIfS3 c t u T σ M := h
theorem rd_test (h : te σ M fun x M' => ∃ k, x = .bl k ∧ QB k M') : tTest3 te σ M QB := h
theorem rd_op (h : ta σ M fun x M1 => tb σ M1 fun y M2 => r x y M2 Q) : tOp3 r ta tb σ M Q := h
theorem rd_var {i : Nat} (e : σ[i]? = some (some d)) (h : Q d M) : tVar3 i σ M Q := by unfold tVar3; rw [e]; exact h
theorem rd_c (h : Q d M) : tC3 d σ M Q := h
theorem rd_ret (h : te σ M T.rt) : tRet3 te T σ M := h
theorem rd_set (h : te σ M fun d M1 => T.nx (σ.set i (some d)) M1) : tSet3 i te T σ M := h
theorem rd_next (h : T.nx σ M) : tNext3 T σ M := h
theorem rd_call (h : tas σ M fun ds M1 => sp ds M1 Q) : tCall3 sp tas σ M Q := h
theorem rd_cb (h : tas σ M fun ds M1 => rc ds M1 Q) : tCB3 rc tas σ M Q := h
theorem rd_nil (h : QA [] M) : tNil3 σ M QA := h
theorem rd_cons (h : te σ M fun x M1 => tas σ M1 fun xs M2 => QA (x :: xs) M2) : tCons3 te tas σ M QA := h
theorem rd_tupE (h : tas σ M fun xs M1 => xs.length ≤ sizeLine ∧ Q (.tup xs) M1) : tTup3 tas σ M Q := h
theorem rd_lstE (h : tas σ M fun xs M1 => xs.length ≤ sizeLine ∧ Q (.lst xs) M1) : tLst3 tas σ M Q := h
theorem rd_and (h : tA σ M fun c M1 => if c = true then tB σ M1 QB else QB false M1) : tAnd3 tA tB σ M QB := h
theorem rd_or (h : tA σ M fun c M1 => if c = true then QB true M1 else tB σ M1 QB) : tOr3 tA tB σ M QB := h
theorem rd_not (h : tA σ M fun c M1 => QB (!c) M1) : tNot3 tA σ M QB := h
theorem rd_andV (h : ta σ M fun x M1 => ∃ c, x = .bl c ∧ if c = true then tb σ M1 Q else Q (.bl false) M1) : tAndV3 ta tb σ M Q := h
theorem rd_orV (h : ta σ M fun x M1 => ∃ c, x = .bl c ∧ if c = true then Q (.bl true) M1 else tb σ M1 Q) : tOrV3 ta tb σ M Q := h
theorem rd_chain (h : ta σ M fun x M1 => tb σ M1 fun y M2 => r x y M2 fun z M3 => ∃ k, z = .bl k ∧ if k = true then tc σ M3 fun w M4 => r' y w M4 Q else Q (.bl false) M3) : tChain3 r r' ta tb tc σ M Q := h
theorem rd_sl {tl th : TO3} (h : te σ M fun x M1 => tl σ M1 fun l M2 => th σ M2 fun u M3 => rSl3 x l u M3 Q) : tSl3 te tl th σ M Q := h
theorem rd_np {QO : Option Int → Mem → Prop} (h : QO none M) : tNoPart3 σ M QO := h
theorem rd_part {QO : Option Int → Mem → Prop} (h : te σ M fun x M1 => match x with | .int i => QO (some i) M1 | _ => False) : tPart3 te σ M QO := h
theorem rd_bl {b : Bool} {P : Bool → Prop} (h : P b) : ∃ k, D.bl b = .bl k ∧ P k := ⟨b, rfl, h⟩
theorem rd_iteT {P R : Prop} (h : P) : if true = true then P else R := by rw [if_pos rfl]; exact h
theorem rd_iteF {P R : Prop} (h : R) : if false = true then P else R := by rw [if_neg Bool.false_ne_true]; exact h
theorem rd_dec {c P R : Prop} [Decidable c] (h1 : c → P) (h2 : ¬ c → R) : if decide c = true then P else R := by
  by_cases h : c
  · rw [decide_eq_true h, if_pos rfl]; exact h1 h
  · rw [decide_eq_false h, if_neg Bool.false_ne_true]; exact h2 h
theorem rd_I0 {g : Int → Int → D} {i j : Int} (h : Q (g i j) M) : rI30 g (.int i) (.int j) M Q := h
theorem rd_I {C : Int → Int → Prop} {g : Int → Int → D} {i j : Int} (hc : C i j) (h : Q (g i j) M) : rI3 C g (.int i) (.int j) M Q := ⟨hc, h⟩
theorem rd_addI {i j : Int} (h : Q (.int (i + j)) M) : rAdd3 (.int i) (.int j) M Q := h
theorem rd_addS {a b : Str} (hl : a.length + b.length ≤ sizeLine) (h : Q (.str (a ++ b)) M) : rAdd3 (.str a) (.str b) M Q := ⟨hl, h⟩
theorem rd_eqS {a b : Str} (h : Q (.bl (a == b)) M) : rEq3 (.str a) (.str b) M Q := .inr ⟨a, b, rfl, rfl, h⟩
theorem rd_neS {a b : Str} (h : Q (.bl (!(a == b))) M) : rNe3 (.str a) (.str b) M Q := .inr ⟨a, b, rfl, rfl, h⟩
theorem rd_ne (hx : dOk x) (hy : dOk y) (h : Q (.bl (!PyData.eqv (pyD x) (pyD y))) M) : rNe3 x y M Q := .inl ⟨hx, hy, h⟩
theorem rd_ixL {ds : List D} {i : Int} (e : atI ds i = some d) (h : Q d M) : rIx3 (.lst ds) (.int i) M Q := ⟨d, e, h⟩
theorem rd_ixS {z : Str} {i : Int} {c : Nat} (hl : z.length ≤ sizeLine) (e : atI z.cps.toList i = some c) (h : Q (.str ⟨#[c]⟩) M) : rIx3 (.str z) (.int i) M Q := ⟨hl, c, e, h⟩
theorem rd_lenL {ds : List D} (h : Q (.int ds.length) M) : rLen3 [.lst ds] M Q := h
theorem rd_lenS {z : Str} (hl : z.length ≤ sizeLine) (h : Q (.int z.length) M) : rLen3 [.str z] M Q := ⟨hl, h⟩
theorem rd_abs {i : Int} (h : Q (.int (if i < 0 then -i else i)) M) : rAbs3 [.int i] M Q := h
theorem rd_listL {ds : List D} (h : Q (.lst ds) M) : rList3 [.lst ds] M Q := h
theorem rd_isi {N : String} (ho : okTy d) (hN : N = "bool" ∨ N = "int" ∨ N = "str" ∨ N = "tuple" ∨ N = "list") (h : Q (.bl (isIn (tyN d) N)) M) : rIsi3 [d, .ty N] M Q := ⟨ho, hN, h⟩
theorem rd_slL {ds : List D} {l u : Option Int} (h : Q (.lst (cutD ds l u)) M) : rSl3 (.lst ds) l u M Q := h
theorem rd_isN (h : Q (.bl (match x with | .non => true | _ => false)) M) : rIs3 x .non M Q := ⟨rfl, h⟩
theorem rd_for {ti : TI3} {tb : TS3} (h : ti σ M fun ds M1 => ∃ Pv : Nat → Lo → Mem → Prop, Pv 0 σ M1 ∧
  (∀ k d σ M, ds[k]? = some d → Pv k σ M → tb { T with nx := Pv (k + 1), ct := Pv (k + 1), bk := T.nx } (σ.set i (some d)) M) ∧ ∀ σ M, Pv ds.length σ M → T.nx σ M) : tFor3 ti i tb T σ M := h
theorem rd_rng {R : List D → Mem → Prop} (h : tas σ M fun ds M1 => match ds with | [.int j] => -(2 ^ 62) ≤ j ∧ j < 2 ^ 62 ∧ R ((List.range j.toNat).map fun k => D.int (k : Nat)) M1 | _ => False) : iRng3 tas σ M R := h
end
theorem pen_mono {M : Mem} {p : Addr} {b c : Nat} (h : Pen M p b) (hc : b ≤ c) : Pen M p c := by
  obtain ⟨ns, a, l, h1, h2, h3, h4, h5⟩ := h
  exact ⟨ns, a, l, h1, h2, h3, by lia, h5⟩
theorem atI_mem {α : Type} {ds : List α} {n : Int} (h0 : 0 ≤ n) (h1 : n < (ds.length : Int)) : ∃ d, atI ds n = some d ∧ d ∈ ds := by
  obtain ⟨k, rfl⟩ : ∃ k : Nat, n = (k : Int) := ⟨n.toNat, by lia⟩
  have hk : k < ds.length := by lia
  exact ⟨ds[k], atI_nat (by simp [hk]), List.getElem_mem hk⟩
theorem draw {p : Addr} {many : Int} {b : Nat} {M : Mem} {Q : DK} (hP : Pen M p b) (hb : b < 2 ^ 30) (h0 : 0 < many) (h1 : many < 2 ^ 200) (h : ∀ n M', 0 ≤ n → n < many → Pen M' p (b + 1) → Same3 p M M' → Q (.int n) M') : spDraw [.ref p, .int many] M Q :=
  ⟨p, many, b, rfl, hP, hb, h0, h1, h⟩
theorem strOkD {x : Str} (h : PyData.strOk x = true) : dOk (.str x) := ⟨rfl, by simpa [pyD, PyData.canLay0] using h, by simp [pyD, PyData.depth]⟩
theorem intOkD {i : Int} : dOk (.int i) := ⟨rfl, rfl, by simp [pyD, PyData.depth]⟩
end L3
set_option Elab.async false
set_option linter.all false
set_option maxRecDepth 100000
namespace L3
open PySem L2
def tPenB : TS3 :=
    (tRet3 (tDispM3 [((tC3 (.str "cells")), (tCB3 rList3 (tCons3 (tSl3 (tVar3 0) tNoPart3 (tPart3 (tC3 (.int 63)))) tNil3))), ((tC3 (.str "at")), (tC3 (.int 0))), ((tC3 (.str "left")), (tC3 (.int 0)))]))
def tDrawB : TS3 :=
    (tSeq3 (tIfS3 (tTest3 (tOp3 rGt3 (tOp3 rDGet3 (tVar3 0) (tC3 (.str "left"))) (tC3 (.int 0)))) (tSeq3 (tSet3 2 (tOp3 rMod3 (tOp3 rDGet3 (tVar3 0) (tC3 (.str "left"))) (tVar3 1)))
    (tSeq3 (tDPut3 (tVar3 0) (tC3 (.str "left")) (tOp3 rFdiv3 (tOp3 rDGet3 (tVar3 0) (tC3 (.str "left"))) (tVar3 1)))
    (tRet3 (tVar3 2)))) tNext3)
    (tSeq3 (tSet3 3 (tOp3 rDGet3 (tVar3 0) (tC3 (.str "cells"))))
    (tSeq3 (tSet3 4 (tOp3 rDGet3 (tVar3 0) (tC3 (.str "at"))))
    (tSeq3 (tDPut3 (tVar3 0) (tC3 (.str "at")) (tOp3 rAdd3 (tVar3 4) (tC3 (.int 1))))
    (tSeq3 (tSet3 5 (tOp3 rAdd3 (tOp3 rMul3 (tC3 (.int 30011)) (tVar3 4)) (tC3 (.int 77))))
    (tSeq3 (tIfS3 (tTest3 (tOp3 rNe3 (tVar3 3) (tLst3 tNil3))) (tSet3 5 (tOp3 rIx3 (tVar3 3) (tOp3 rMod3 (tVar3 4) (tCB3 rLen3 (tCons3 (tVar3 3) tNil3))))) tNext3)
    (tSeq3 (tIfS3 (tAnd3 (tTest3 (tOp3 rLt3 (tVar3 4) (tCB3 rLen3 (tCons3 (tVar3 3) tNil3)))) (tTest3 (tOp3 rGe3 (tCB3 rAbs3 (tCons3 (tVar3 5) tNil3)) (tOp3 rPow3 (tC3 (.int 10)) (tC3 (.int 18)))))) (tSeq3 (tDPut3 (tVar3 0) (tC3 (.str "left")) (tOp3 rFdiv3 (tCB3 rAbs3 (tCons3 (tVar3 5) tNil3)) (tVar3 1)))
    (tRet3 (tOp3 rMod3 (tCB3 rAbs3 (tCons3 (tVar3 5) tNil3)) (tVar3 1)))) tNext3)
    (tSeq3 (tSet3 6 (tOp3 rMod3 (tOp3 rPow3 (tOp3 rAdd3 (tOp3 rAdd3 (tOp3 rMod3 (tVar3 5) (tC3 (.int 2147483587))) (tOp3 rMul3 (tC3 (.int 50021)) (tVar3 4))) (tC3 (.int 29))) (tC3 (.int 5))) (tC3 (.int 2147483629))))
    (tSeq3 (tSet3 6 (tOp3 rMod3 (tOp3 rPow3 (tOp3 rAdd3 (tOp3 rMul3 (tVar3 6) (tOp3 rAdd3 (tOp3 rMul3 (tC3 (.int 2)) (tVar3 4)) (tC3 (.int 5)))) (tC3 (.int 81799))) (tC3 (.int 3))) (tC3 (.int 2147483647))))
    (tRet3 (tOp3 rMod3 (tOp3 rFdiv3 (tVar3 6) (tC3 (.int 16))) (tVar3 1))))))))))))
local macro_rules | `(tactic| walk_at "rd") => `(tactic| repeat (first | with_reducible refine rd_seq ?_ | with_reducible refine rd_ifs ?_ | with_reducible refine rd_test ?_ | with_reducible refine rd_op ?_ | with_reducible refine rd_un ?_ | with_reducible refine rd_c ?_ | with_reducible refine rd_ret ?_ | with_reducible refine rd_set ?_ | with_reducible refine rd_drop ?_ | with_reducible refine rd_next ?_ | with_reducible refine rd_call ?_ | with_reducible refine rd_cb ?_ | with_reducible refine rd_nil ?_ | with_reducible refine rd_cons ?_ | with_reducible refine rd_tupE ?_ | with_reducible refine rd_lstE ?_ | with_reducible refine rd_and ?_ | with_reducible refine rd_or ?_ | with_reducible refine rd_not ?_ | with_reducible refine rd_andV ?_ | with_reducible refine rd_orV ?_ | with_reducible refine rd_notV ?_ | with_reducible refine rd_if3 ?_ | with_reducible refine rd_chain ?_ | with_reducible refine rd_sl ?_ | with_reducible refine rd_np ?_ | with_reducible refine rd_part ?_ | with_reducible refine rd_bl ?_ | with_reducible refine rd_iteT ?_ | with_reducible refine rd_iteF ?_ | with_reducible refine rd_I0 ?_ | with_reducible refine rd_U ?_ | with_reducible refine rd_addI ?_ | with_reducible refine rd_lenL ?_ | with_reducible refine rd_lenT ?_ | with_reducible refine rd_abs ?_ | with_reducible refine rd_intI ?_ | with_reducible refine rd_intB ?_ | with_reducible refine rd_listL ?_ | with_reducible refine rd_listT ?_ | with_reducible refine rd_slL ?_ | with_reducible refine rd_isN ?_ | with_reducible refine rd_isntN ?_ | with_reducible refine rd_for ?_ | with_reducible refine rd_rng ?_ | ((with_reducible show tVar3 _ _ _ _); refine rd_var rfl ?_) | ((with_reducible show _ ∧ _); refine ⟨(by first | decide | (simp only [List.length_cons, List.length_nil]; decide)), ?_⟩)))
theorem k_ca : ¬ (("cells" : Str) = "at") := by decide +kernel
theorem k_cl : ¬ (("cells" : Str) = "left") := by decide +kernel
theorem k_al : ¬ (("at" : Str) = "left") := by decide +kernel
theorem k_la : ¬ (("left" : Str) = "at") := by decide +kernel
theorem inr_ne {x y : Str} (h : ¬ x = y) : ¬ (Sum.inr x : Key) = Sum.inr y := fun z => h (Sum.inr.inj z)
theorem merge_pen (x y z : D) : mergeD [] [(.inr "cells", x), (.inr "at", y), (.inr "left", z)] = ([(.inr "cells", x), (.inr "at", y), (.inr "left", z)] : List (Key × D)) := by
  simp [mergeD, putD, inr_ne k_ca, inr_ne k_cl, inr_ne k_al]
theorem put_left (x y z d : D) : putD [(.inr "cells", x), (.inr "at", y), (.inr "left", z)] (.inr "left") d = ([(.inr "cells", x), (.inr "at", y), (.inr "left", d)] : List (Key × D)) := by
  simp [putD, inr_ne k_cl, inr_ne k_al]
theorem put_at (x y z d : D) : putD [(.inr "cells", x), (.inr "at", y), (.inr "left", z)] (.inr "at") d = ([(.inr "cells", x), (.inr "at", d), (.inr "left", z)] : List (Key × D)) := by
  simp [putD, inr_ne k_ca, inr_ne k_la]
theorem get_left {ns : List Int} {a l : Int} {M : Mem} {p : Addr} {Q : DK} (h : M p = some (penO ns a l)) : rDGet3 (.ref p) (.str "left") M Q ↔ Q (.int l) M := by
  constructor
  · rintro ⟨k, d, hk, ⟨kds, hm, hv⟩, q⟩
    cases hk
    rw [h] at hm
    cases hm
    simp [valD, inr_ne k_cl, inr_ne k_al] at hv
    subst hv; exact q
  · intro q
    exact ⟨_, .int l, rfl, ⟨_, h, by simp [valD, inr_ne k_cl, inr_ne k_al]⟩, q⟩
theorem get_at {ns : List Int} {a l : Int} {M : Mem} {p : Addr} {Q : DK} (h : M p = some (penO ns a l)) : rDGet3 (.ref p) (.str "at") M Q ↔ Q (.int a) M := by
  constructor
  · rintro ⟨k, d, hk, ⟨kds, hm, hv⟩, q⟩
    cases hk
    rw [h] at hm
    cases hm
    simp [valD, inr_ne k_ca] at hv
    subst hv; exact q
  · intro q
    exact ⟨_, .int a, rfl, ⟨_, h, by simp [valD, inr_ne k_ca]⟩, q⟩
theorem get_cells {ns : List Int} {a l : Int} {M : Mem} {p : Addr} {Q : DK} (h : M p = some (penO ns a l)) : rDGet3 (.ref p) (.str "cells") M Q ↔ Q (.lst (ns.map D.int)) M := by
  constructor
  · rintro ⟨k, d, hk, ⟨kds, hm, hv⟩, q⟩
    cases hk
    rw [h] at hm
    cases hm
    simp [valD] at hv
    subst hv; exact q
  · intro q
    exact ⟨_, .lst (ns.map D.int), rfl, ⟨_, h, by simp [valD]⟩, q⟩
theorem dput_left {ns : List Int} {a l l' : Int} {M : Mem} {p : Addr} {T : Lo → Mem → Prop} {σ : Lo} (h : M p = some (penO ns a l)) (q : T σ (mput M p (penO ns a l'))) :
    ∃ k a' kds, dK? (.str "left") = some k ∧ D.ref p = .ref a' ∧ M a' = some (.dct kds) ∧ kds.length < sizeLine ∧ T σ (mput M a' (.dct (putD kds k (.int l')))) :=
  ⟨_, p, _, rfl, rfl, h, by show 3 < sizeLine; decide, by rw [put_left]; exact q⟩
theorem dput_at {ns : List Int} {a a1 l : Int} {M : Mem} {p : Addr} {T : Lo → Mem → Prop} {σ : Lo} (h : M p = some (penO ns a l)) (q : T σ (mput M p (penO ns a1 l))) :
    ∃ k a' kds, dK? (.str "at") = some k ∧ D.ref p = .ref a' ∧ M a' = some (.dct kds) ∧ kds.length < sizeLine ∧ T σ (mput M a' (.dct (putD kds k (.int a1)))) :=
  ⟨_, p, _, rfl, rfl, h, by show 3 < sizeLine; decide, by rw [put_at]; exact q⟩
theorem cut_ints (ns : List Int) (lo hi : Option Int) : ∃ ms : List Int, cutD (ns.map D.int) lo hi = ms.map D.int ∧ ms.length ≤ ns.length := by
  unfold cutD
  refine ⟨(ns.drop (HT.sIx (ns.map D.int).length 0 lo)).take (HT.sIx (ns.map D.int).length (ns.map D.int).length hi - HT.sIx (ns.map D.int).length 0 lo), ?_, ?_⟩
  · rw [← List.map_drop, ← List.map_take]
  · rw [List.length_take, List.length_drop]; lia
theorem ints_ok : ∀ ns : List Int, plains (ns.map D.int) = true ∧ PyData.canLayAll0 (pyDs (ns.map D.int)) = true ∧ PyData.depthAll (pyDs (ns.map D.int)) = 0
  | [] => ⟨rfl, rfl, rfl⟩
  | n :: ns => by
    obtain ⟨h1, h2, h3⟩ := ints_ok ns
    simp [List.map_cons, plains, plain, pyDs, pyD, PyData.canLayAll0, PyData.canLay0, PyData.depthAll, PyData.depth, h1, h2, h3]
theorem dOk_ints (ns : List Int) : dOk (.lst (ns.map D.int)) := by
  obtain ⟨h1, h2, h3⟩ := ints_ok ns
  refine ⟨by simpa [plain] using h1, by simpa [pyD, PyData.canLay0] using h2, ?_⟩
  simp [pyD, PyData.depth, h3]
theorem rd_pen {Q : DK} {ds : List D} {M : Mem} (h : spPen ds M Q) (d : D) (e : ds = [d]) (T : Lo → Mem → Prop) : tPenB { nx := T, rt := View Q } [some d] M := by
  obtain ⟨ns, rfl, hl, q⟩ := h
  cases e
  unfold tPenB
  walk_at "rd"
  intro p hp
  unfold tPairs3
  walk_at "rd"
  unfold tPairs3
  walk_at "rd"
  unfold tPairs3
  walk_at "rd"
  unfold tPairs3
  refine ⟨mput_same, [(.inr "cells", _), (.inr "at", _), (.inr "left", _)], rfl, by simp, View.of ?_⟩
  rw [merge_pen, mput_mput]
  obtain ⟨ms, e, hms⟩ := cut_ints ns none (some 63)
  rw [e]
  exact q p _ hp ⟨ms, 0, 0, mput_same, by lia, by lia, by simp, by lia⟩ fun b hb => mput_ne hb
theorem mix1 {a c : Int} (h0 : 0 ≤ a) (h1 : a < 2 ^ 31) : CPow (c % 2147483587 + 50021 * a + 29) 5 := by
  have z1 := Int.emod_nonneg c (show (2147483587 : Int) ≠ 0 by decide)
  have z2 := Int.emod_lt_of_pos c (show (0 : Int) < 2147483587 by decide)
  refine ⟨by decide, by decide, ?_⟩
  lia
theorem mix2 {a n : Int} (h0 : 0 ≤ a) (h1 : a < 2 ^ 30) (h2 : 0 ≤ n) (h3 : n < 2147483629) : CPow (n * (2 * a + 5) + 81799) 3 := by
  refine ⟨by decide, by decide, ?_⟩
  have e : n * (2 * a + 5) ≤ 2147483629 * 2147483653 := Int.mul_le_mul (by lia) (by lia) (by lia) (by lia)
  have e0 : 0 ≤ n * (2 * a + 5) := Int.mul_nonneg h2 (by lia)
  lia
theorem rd_dp {td ty tv : TE3} {T : Ends3} {σ : Lo} {M : Mem} (h : tv σ M fun d M1 => td σ M1 fun x M2 => ty σ M2 fun y M3 => ∃ k a kds, dK? y = some k ∧ x = .ref a ∧ M3 a = some (.dct kds) ∧ kds.length < sizeLine ∧ T.nx σ (mput M3 a (.dct (putD kds k d)))) : tDPut3 td ty tv T σ M := h
theorem big200 {x : Int} (h0 : 0 < x) (h : x < 2 ^ 200) : CDivB 0 x := by
  refine ⟨h0, ?_⟩
  have h2 : x.natAbs < 2 ^ 200 := by lia
  exact Nat.lt_trans h2 (Nat.pow_lt_pow_right (by decide) (by decide))
theorem at_ints {ns : List Int} {a : Int} (h0 : 0 ≤ a) (h : a < (ns.length : Int)) : ∃ c, atI (ns.map D.int) a = some (D.int c) := by
  obtain ⟨k, rfl⟩ : ∃ k : Nat, a = (k : Int) := ⟨a.toNat, by lia⟩
  have hk : k < ns.length := by lia
  exact ⟨ns[k], atI_nat (by simp [hk])⟩
def tDrawTail : TS3 :=
    (tSeq3 (tSet3 6 (tOp3 rMod3 (tOp3 rPow3 (tOp3 rAdd3 (tOp3 rAdd3 (tOp3 rMod3 (tVar3 5) (tC3 (.int 2147483587))) (tOp3 rMul3 (tC3 (.int 50021)) (tVar3 4))) (tC3 (.int 29))) (tC3 (.int 5))) (tC3 (.int 2147483629))))
    (tSeq3 (tSet3 6 (tOp3 rMod3 (tOp3 rPow3 (tOp3 rAdd3 (tOp3 rMul3 (tVar3 6) (tOp3 rAdd3 (tOp3 rMul3 (tC3 (.int 2)) (tVar3 4)) (tC3 (.int 5)))) (tC3 (.int 81799))) (tC3 (.int 3))) (tC3 (.int 2147483647))))
    (tRet3 (tOp3 rMod3 (tOp3 rFdiv3 (tVar3 6) (tC3 (.int 16))) (tVar3 1)))))
def tDrawRest : TS3 :=
    tSeq3 (tIfS3 (tAnd3 (tTest3 (tOp3 rLt3 (tVar3 4) (tCB3 rLen3 (tCons3 (tVar3 3) tNil3)))) (tTest3 (tOp3 rGe3 (tCB3 rAbs3 (tCons3 (tVar3 5) tNil3)) (tOp3 rPow3 (tC3 (.int 10)) (tC3 (.int 18)))))) (tSeq3 (tDPut3 (tVar3 0) (tC3 (.str "left")) (tOp3 rFdiv3 (tCB3 rAbs3 (tCons3 (tVar3 5) tNil3)) (tVar3 1)))
    (tRet3 (tOp3 rMod3 (tCB3 rAbs3 (tCons3 (tVar3 5) tNil3)) (tVar3 1)))) tNext3)
    tDrawTail
theorem rd_draw {Q : DK} {ds : List D} {M : Mem} (h : spDraw ds M Q) (d0 d1 : D) (e : ds = [d0, d1]) (T : Lo → Mem → Prop) : tDrawB { nx := T, rt := View Q } [some d0, some d1, none, none, none, none, none] M := by
  obtain ⟨p, many, b, rfl, ⟨ns, a, l, hM, hl, ha0, hab, hl0⟩, hb, hm0, hm1, q⟩ := h
  cases e
  have hdv : ∀ i, CDivB i many := fun i => ⟨hm0, (big200 hm0 hm1).2⟩
  have hb' : (b : Int) < 2 ^ 30 := by
    have : ((2 ^ 30 : Nat) : Int) = (2 : Int) ^ 30 := by decide
    lia
  unfold tDrawB
  walk_at "rd"
  refine (get_left hM).mpr ?_
  walk_at "rd"
  refine rd_dec (fun hpos => ?_) (fun hneg => ?_)
  · walk_at "rd"
    refine (get_left hM).mpr ?_
    walk_at "rd"
    refine rd_I hm0 ?_
    walk_at "rd"
    refine rd_dp ?_
    walk_at "rd"
    refine (get_left hM).mpr ?_
    walk_at "rd"
    refine rd_I (hdv _) ?_
    walk_at "rd"
    refine dput_left hM ?_
    walk_at "rd"
    exact View.of (q _ _ (Int.emod_nonneg _ (by lia)) (Int.emod_lt_of_pos _ hm0) ⟨ns, a, _, mput_same, hl, ha0, by lia, Int.ediv_nonneg hl0 (by lia)⟩ fun _ h => mput_ne h)
  · walk_at "rd"
    refine (get_cells hM).mpr ?_
    walk_at "rd"
    refine (get_at hM).mpr ?_
    walk_at "rd"
    refine rd_dp ?_
    walk_at "rd"
    refine dput_at hM ?_
    have hM1 : mput M p (penO ns (a + 1) l) p = some (penO ns (a + 1) l) := mput_same
    walk_at "rd"
    refine rd_I (.inl (.inl ⟨by decide, by decide⟩)) ?_
    walk_at "rd"
    refine rd_ne (dOk_ints ns) ⟨rfl, rfl, by decide⟩ ?_
    have rest : ∀ c : Int, tDrawRest { nx := T, rt := View Q } [some (.ref p), some (.int many), none, some (.lst (ns.map D.int)), some (.int a), some (.int c), none] (mput M p (penO ns (a + 1) l)) := by
      intro c
      have abs0 : 0 ≤ (if c < 0 then -c else c) := by split <;> lia
      have tail : tDrawTail { nx := T, rt := View Q } [some (.ref p), some (.int many), none, some (.lst (ns.map D.int)), some (.int a), some (.int c), none] (mput M p (penO ns (a + 1) l)) := by
        unfold tDrawTail
        walk_at "rd"
        refine rd_I (by decide) ?_
        walk_at "rd"
        refine rd_I (.inl (.inl ⟨by decide, by decide⟩)) ?_
        walk_at "rd"
        refine rd_I (mix1 ha0 (by lia)) ?_
        walk_at "rd"
        refine rd_I (by decide) ?_
        walk_at "rd"
        refine rd_I (.inl (.inl ⟨by decide, by decide⟩)) ?_
        walk_at "rd"
        have z1 := Int.emod_nonneg ((c % 2147483587 + 50021 * a + 29) ^ Int.toNat 5) (show (2147483629 : Int) ≠ 0 by decide)
        have z2 := Int.emod_lt_of_pos ((c % 2147483587 + 50021 * a + 29) ^ Int.toNat 5) (show (0 : Int) < 2147483629 by decide)
        refine rd_I (.inl (.inl ⟨by lia, by lia⟩)) ?_
        walk_at "rd"
        refine rd_I (mix2 ha0 (by lia) z1 z2) ?_
        walk_at "rd"
        refine rd_I (by decide) ?_
        walk_at "rd"
        refine rd_I ⟨by decide, by decide +kernel⟩ ?_
        walk_at "rd"
        refine rd_I hm0 ?_
        walk_at "rd"
        exact View.of (q _ _ (Int.emod_nonneg _ (by lia)) (Int.emod_lt_of_pos _ hm0) ⟨ns, a + 1, _, mput_same, hl, by lia, by lia, hl0⟩ fun _ h => mput_ne h)
      unfold tDrawRest
      walk_at "rd"
      refine rd_dec (fun hlt => ?_) (fun hge => ?_)
      · walk_at "rd"
        refine rd_I ⟨by decide, by decide, by decide⟩ ?_
        walk_at "rd"
        refine rd_dec (fun h18 => ?_) (fun h18 => ?_)
        · walk_at "rd"
          refine rd_dp ?_
          walk_at "rd"
          refine rd_I (hdv _) ?_
          walk_at "rd"
          refine dput_left hM1 ?_
          walk_at "rd"
          refine rd_I hm0 ?_
          walk_at "rd"
          rw [mput_mput]
          exact View.of (q _ _ (Int.emod_nonneg _ (by lia)) (Int.emod_lt_of_pos _ hm0) ⟨ns, a + 1, _, mput_same, hl, by lia, by lia, Int.ediv_nonneg abs0 (by lia)⟩ fun _ h => mput_ne h)
        · exact tail
      · exact tail
    cases ns with
    | nil =>
      refine rd_bl (show if (!true) = true then _ else _ from ?_)
      exact rd_iteF (rest _)
    | cons n ns =>
      refine rd_bl (show if (!false) = true then _ else _ from ?_)
      refine rd_iteT ?_
      walk_at "rd"
      have hlen : (0 : Int) < ((List.map D.int (n :: ns)).length : Int) := by rw [List.length_map, List.length_cons]; lia
      refine rd_I hlen ?_
      obtain ⟨c, hc⟩ := at_ints (ns := n :: ns) (a := a % ((List.map D.int (n :: ns)).length : Int)) (Int.emod_nonneg _ (by lia)) (by have := Int.emod_lt_of_pos a hlen; simpa using this)
      refine rd_ixL hc ?_
      exact rest c
end L3
set_option Elab.async false
set_option linter.all false
set_option maxRecDepth 100000
namespace L3
open PySem L2
section
variable {t u : TS3} {T : Ends3} {σ : Lo} {M : Mem} {Q : DK} {QB : Bool → Mem → Prop} {QA : List D → Mem → Prop} {c tA tB : TT3} {te ta tb tc to : TE3} {tas : TA3} {i : Nat} {d x y : D} {r r' : R3} {g : TG3} {ti : TI3} {tt : TT3} {slots : List Nat} {n : Nat}
theorem rd_gName {QG : Lo → Mem → Prop} (h : QG (σ.set i (some d)) M) : gName3 i d σ M QG := h
theorem rd_true (h : QB true M) : tTrue3 σ M QB := h
theorem rd_bm {ty : String} {rm : M3} (h : to σ M fun x M1 => tyD ty M1 x ∧ tas σ M1 fun xs M2 => rm x xs M2 Q) : tBM3 ty rm to tas σ M Q := h
def CompB (g : TG3) (tt : TT3) (te : TE3) (σ0 : Lo) (ds : List D) (M1 : Mem) (Q : DK) : Prop := ∀ p, M1 p = none → ∃ Pv : Nat → List D → Mem → Prop, Pv 0 [] (mput M1 p (.lst [])) ∧
  (∀ k d acc M, ds[k]? = some d → Pv k acc M → g d σ0 M fun σ' M0 => tt σ' M0 fun b M' =>
    if b = true then te σ' M' fun e M'' => M'' p = some (.lst acc) ∧ acc.length < sizeLine ∧ Pv (k + 1) (acc ++ [e]) (mput M'' p (.lst (acc ++ [e]))) else Pv (k + 1) acc M') ∧
  ∀ acc M, Pv ds.length acc M → M p = some (.lst acc) ∧ Q (.lst acc) (mdel M p)
theorem rd_comp (h : ti σ M fun ds M1 => CompB g tt te (List.replicate n none ++ slots.map fun j => (σ[j]?).getD none) ds M1 Q) : tComp3 ti n slots g tt te σ M Q := h
def onStr (R : List D → Mem → Prop) : DK := fun d M1 => match d with | .str z => R (z.cps.toList.map fun c => D.str ⟨#[c]⟩) M1 | _ => False
def onTup (R : List D → Mem → Prop) : DK := fun d M1 => match d with | .tup ds => R ds M1 | _ => False
def onLst (R : List D → Mem → Prop) : DK := fun d M1 => match d with | .lst ds => R ds M1 | _ => False
theorem rd_iStr {R : List D → Mem → Prop} (h : te σ M (onStr R)) : iStr3 te σ M R := h
theorem rd_iTup {R : List D → Mem → Prop} (h : te σ M (onTup R)) : iTup3 te σ M R := h
theorem rd_iList {R : List D → Mem → Prop} (h : te σ M (onLst R)) : iList3 te σ M R := h
theorem rd_onStr {R : List D → Mem → Prop} {z : Str} (h : R (z.cps.toList.map fun c => D.str ⟨#[c]⟩) M) : onStr R (.str z) M := h
theorem rd_onTup {R : List D → Mem → Prop} {ds : List D} (h : R ds M) : onTup R (.tup ds) M := h
theorem rd_onLst {R : List D → Mem → Prop} {ds : List D} (h : R ds M) : onLst R (.lst ds) M := h
end
theorem rd_iteTe {b : Bool} {P R : Prop} (e : b = true) (h : P) : if b = true then P else R := by rw [if_pos e]; exact h
theorem rd_iteFe {b : Bool} {P R : Prop} (e : b = false) (h : R) : if b = true then P else R := by rw [if_neg (by rw [e]; exact Bool.false_ne_true)]; exact h
theorem rd_eqv {x y : D} {b : Bool} {M : Mem} {Q : DK} (hx : dOk x) (hy : dOk y) (e : PyData.eqv (pyD x) (pyD y) = b) (h : Q (.bl b) M) : rEq3 x y M Q := .inl ⟨hx, hy, by rw [e]; exact h⟩
theorem rd_nev {x y : D} {b : Bool} {M : Mem} {Q : DK} (hx : dOk x) (hy : dOk y) (e : PyData.eqv (pyD x) (pyD y) = b) (h : Q (.bl (!b)) M) : rNe3 x y M Q := .inl ⟨hx, hy, by rw [e]; exact h⟩
theorem eqvI (x y : Int) : PyData.eqv (pyD (.int x)) (pyD (.int y)) = (x == y) := by simp [pyD, PyData.eqv]
theorem rd_eqI {x y : Int} {M : Mem} {Q : DK} (h : Q (.bl (x == y)) M) : rEq3 (.int x) (.int y) M Q := rd_eqv intOkD intOkD (eqvI x y) h
theorem pen_same {M M' : Mem} {p q : Addr} {b : Nat} (h : Pen M q b) (s : Same3 p M M') (hn : q ≠ p) : Pen M' q b := by
  obtain ⟨ns, a, l, h1, h2⟩ := h
  exact ⟨ns, a, l, by rw [s q hn]; exact h1, h2⟩
theorem pen_put {M : Mem} {p q : Addr} {b : Nat} {o : MO} (h : Pen M q b) (hn : q ≠ p) : Pen (mput M p o) q b := pen_same h (fun a ha => mput_ne ha) hn
theorem pen_ne {M : Mem} {p q : Addr} {b : Nat} (h : Pen M q b) (hp : M p = none) : q ≠ p := by
  rintro rfl
  obtain ⟨ns, a, l, h1, _⟩ := h
  rw [hp] at h1; cases h1
theorem mdel_ne {M : Mem} {a b : Addr} (h : b ≠ a) : mdel M a b = M b := by unfold mdel; rw [if_neg h]
theorem mdel_same {M : Mem} {a : Addr} : mdel M a a = none := by unfold mdel; rw [if_pos rfl]
theorem comp_pen {g : TG3} {tt : TT3} {te : TE3} {σ0 : Lo} {M1 : Mem} {Q : DK} {ds : List D} {q : Addr} {b : Nat} (c : Nat) (P : Nat → D → D → Prop) (hP : Pen M1 q b) (hl : ds.length < sizeLine)
    (turn : ∀ k d p acc M2 (R : D → Mem → Prop) (F : Mem → Prop), ds[k]? = some d → Pen M2 q (b + c * k) → M2 p = some (.lst acc) → q ≠ p → (∀ a, a ≠ q → a ≠ p → M2 a = M1 a) → (∀ e M5, P k d e → Pen M5 q (b + c * (k + 1)) → Same3 q M2 M5 → R e M5) →
      g d σ0 M2 fun σ' M3 => tt σ' M3 fun bb M4 => if bb = true then te σ' M4 R else F M4)
    (done : ∀ acc M2, acc.length = ds.length → (∀ k d e, ds[k]? = some d → acc[k]? = some e → P k d e) → Pen M2 q (b + c * ds.length) → Same3 q M1 M2 → Q (.lst acc) M2) :
    CompB g tt te σ0 ds M1 Q := by
  intro p hp
  have hqp := pen_ne hP hp
  refine ⟨fun k acc M2 => acc.length = k ∧ (∀ j d e, ds[j]? = some d → acc[j]? = some e → P j d e) ∧ Pen M2 q (b + c * k) ∧ M2 p = some (.lst acc) ∧ ∀ a, a ≠ q → a ≠ p → M2 a = M1 a, ⟨rfl, fun j d e _ h => by simp at h, by rw [Nat.mul_zero, Nat.add_zero]; exact pen_put hP hqp, mput_same, fun a _ ha => mput_ne ha⟩, ?_, ?_⟩
  · rintro k d acc M2 hd ⟨hk, hall, hpen, hacc, hsame⟩
    have hkl : k < ds.length := (List.getElem?_eq_some_iff.mp hd).1
    refine turn k d p acc M2 _ _ hd hpen hacc hqp hsame fun e M5 he hp5 hs5 => ?_
    refine ⟨by rw [hs5 p (Ne.symm hqp)]; exact hacc, by lia, by simp [hk], fun j d' e' hd' he' => ?_, pen_put hp5 hqp, mput_same, fun a ha1 ha2 => ?_⟩
    · rcases Nat.lt_or_ge j acc.length with hj | hj
      · rw [List.getElem?_append_left hj] at he'
        exact hall j d' e' hd' he'
      · rw [List.getElem?_append_right hj] at he'
        have hj0 : j - acc.length = 0 := by
          rcases Nat.eq_zero_or_pos (j - acc.length) with z | z
          · exact z
          · rw [List.getElem?_eq_none (by simp; lia)] at he'; cases he'
        rw [hj0] at he'
        cases he'
        have : j = k := by lia
        subst this
        rw [hd] at hd'; cases hd'
        exact he
    · rw [mput_ne ha2, hs5 a ha1]; exact hsame a ha1 ha2
  · rintro acc M2 ⟨hk, hall, hpen, hacc, hsame⟩
    refine ⟨hacc, done acc (mdel M2 p) hk hall ?_ fun a ha => ?_⟩
    · exact pen_same hpen (p := p) (fun a ha => mdel_ne ha) hqp
    · by_cases hap : a = p
      · subst hap; rw [mdel_same, hp]
      · rw [mdel_ne hap]; exact hsame a ha hap
end L3
set_option Elab.async false
set_option linter.all false
set_option maxRecDepth 100000
namespace L3
open PySem PySem.Spec PyProof.Rows L2
section
variable {X : Cx} {a b e : Expr} {ta tb te : TE3} {pos : Pos}
def rMin3 : C3 := fun ds M Q => match ds with
  | [.int i, .int j] => Q (.int (if j < i then j else i)) M
  | _ => False
def rTuple3 : C3 := fun ds M Q => match ds with
  | [.lst xs] => Q (.tup xs) M
  | [.tup xs] => Q (.tup xs) M
  | [.ref a] => ∃ xs, M a = some (.lst xs) ∧ Q (.tup xs) M
  | _ => False
def rIntT3 : C3 := fun ds M Q => match ds with
  | [.int i] => Q (.int i) M
  | [.bl k] => Q (.int (if k then 1 else 0)) M
  | [.str z] => ∃ n, intText? z = some n ∧ z.length ≤ 640 ∧ Q (.int n) M
  | _ => False
theorem c3_intT : CallR3 X (.type "int") rIntT3 := by
  intro pins s σv H M xs xvs us Q I m rv px q
  have px0 := px
  rcases px with _ | ⟨pd, ps⟩; (exact (q : False).elim); rcases ps with _ | ⟨p2, ps2⟩; rotate_left; (first | exact (q : False).elim | (cases pd <;> exact (q : False).elim))
  cases pd with
  | int => exact c3_int pins s σv H M _ _ us Q I m rv px0 q
  | bl => exact c3_int pins s σv H M _ _ us Q I m rv px0 q
  | str =>
    obtain ⟨n, e, hl, q⟩ := q
    obtain ⟨u, rfl, t, rfl⟩ := vals1 rv
    exact W.KIN.call_text e hl ⟨_, .int _, M, H, I.tok _, .refl, m, ⟨_, rfl⟩, .int, q⟩
  | _ => exact (q : False).elim
def rAll3 : C3 := fun ds M Q => ∃ bs : List Bool, ds = [.lst (bs.map D.bl)] ∧ Q (.bl (bs.all id)) M
theorem bools_of {K : PySem.W.Frag} {M : Mem} {H : Hp} : ∀ {bs : List Bool} {vs : List V} {its : List Value}, Reps K M H (bs.map D.bl) vs → Vals vs its → its = bs.map Value.bool
  | [], _, _, r, v => by cases r; cases v; rfl
  | b :: bs, _, _, .cons p1 p2, v => by
    cases p1
    cases v with
    | cons i1 i2 =>
      cases i1
      rw [bools_of p2 i2]; rfl
theorem range_all (bs : List Bool) : (List.range (bs.map Value.bool).toArray.size).all (fun i => bs.getD i false) = bs.all id := by
  rw [List.size_toArray, List.length_map, Bool.eq_iff_iff, List.all_eq_true, List.all_eq_true]
  constructor
  · intro h x hx
    obtain ⟨i, hi, rfl⟩ := List.getElem_of_mem hx
    simpa [List.getD, hi] using h i (by simpa using hi)
  · intro h i hi
    have hi' : i < bs.length := by simpa using hi
    simpa [List.getD, hi'] using h bs[i] (List.getElem_mem hi')
theorem truth_bools {P : Program} {w : World} {A : Around} (bs : List Bool) : TruthOf P w A (fun i v => (bs.map Value.bool).toArray[i]? = some v) (fun i => bs.getD i false) := by
  intro i v s Q E hv hq
  simp only [List.getElem?_toArray, List.getElem?_map] at hv
  cases e : bs[i]? with
  | none => rw [e] at hv; cases hv
  | some b =>
    rw [e] at hv
    cases hv
    have e2 : bs.getD i false = b := by simp [List.getD, e]
    have hq' : Q (bs.getD i false) s := hq
    rw [e2] at hq'
    exact wpAny_truthy_bool hq'
theorem c3_all (hc : X.calm = true) : CallR3 X (.builtin "all") rAll3 := by
  rintro pins s σv H M xs xvs us Q I m rv px ⟨bs, rfl, q⟩
  obtain ⟨xv, rfl, p1⟩ := reps1 px
  obtain ⟨u, rfl, ru⟩ := vals1 rv
  cases p1 with
  | lst h1 r1 =>
    cases ru
    obtain ⟨its, ri, pl, hz⟩ := I.list (SqL.of3 h1)
    have key := bools_of r1 ri
    subst key
    obtain ⟨o, ho, hcl, n, hd⟩ := id pl.isList
    have hlt := Heap.lt_size ho
    refine call_all_walk (wpAny_pyIter_list pl.isList ?_)
    refine ⟨s.heap.objs.size, _, _, _, _, _, _, rfl, Walks.list (A := X.A.in1) (by exact I.ok.hd hc) s.heap.objs.size _ (Nat.ne_of_lt hlt) _, ⟨⟨_, Heap.get?_push_size _ rfl, rfl, rfl⟩, ⟨o, Heap.get?_push_of_some _ ho, hcl, n, hd⟩⟩, truth_bools bs, fun h' tk k => ?_⟩
    rw [range_all]
    exact ⟨_, .bl _, M, H, I.kept (t' := tk) fun b ob e => k b ob (by simp; exact Nat.ne_of_lt (Heap.lt_size e)) (Heap.get?_push_of_some _ e), .refl, m, rfl, .bl, q⟩
def rStarts3 : M3 := fun x xs M Q => ∃ z y, x = .str z ∧ xs = [.str y] ∧ Q (.bl (Txt.startswith z y)) M
theorem m3_startswith : MtR3 X "str.startswith" rStarts3 := by
  rintro pins s σv H M x xs xv xvs v us Q I m rv rvs px pxs ⟨z, y, rfl, rfl, q⟩
  obtain ⟨yv, rfl, py⟩ := reps1 pxs
  obtain ⟨u, rfl, ru⟩ := vals1 rvs
  cases px
  cases py
  obtain ⟨t, rfl⟩ := rv
  obtain ⟨t', rfl⟩ := ru
  exact SC.startswith ⟨_, .bl _, M, H, I, .refl, m, rfl, .bl, q⟩
def joinOk (x : Str) (ys : List Str) : Prop := (ys.map fun y => y.length).sum + ys.length * x.length ≤ 16777216
def rJoin3 : M3 := fun x xs M Q => ∃ z, ∃ ys : List Str, x = .str z ∧ xs = [.lst (ys.map D.str)] ∧ joinOk z ys ∧ Q (.str (Txt.join z ys)) M
theorem strs_of {K : PySem.W.Frag} {M : Mem} {H : Hp} : ∀ {ys : List Str} {vs : List V} {its : List Value}, Reps K M H (ys.map D.str) vs → Vals vs its → StrsAre its ys
  | [], _, _, r, v => by cases r; cases v; exact .nil
  | y :: ys, _, _, .cons p1 p2, v => by
    cases p1
    cases v with
    | cons i1 i2 =>
      obtain ⟨t, rfl⟩ := i1
      exact .cons y t (strs_of p2 i2)
theorem m3_join : MtR3 X "str.join" rJoin3 := by
  rintro pins s σv H M x xs xv xvs v us Q I m rv rvs px pxs ⟨z, ys, rfl, rfl, hj, q⟩
  obtain ⟨yv, rfl, py⟩ := reps1 pxs
  obtain ⟨u, rfl, ru⟩ := vals1 rvs
  cases px
  obtain ⟨t, rfl⟩ := rv
  cases py with
  | lst h1 r1 =>
    cases ru
    obtain ⟨its, ri, pl, hz⟩ := I.list (SqL.of3 h1)
    exact join_list pl.isList (by simpa using strs_of r1 ri) hj fun t' k => ⟨_, .str _, M, H, I.tok k, .refl, m, ⟨_, rfl⟩, .str, q⟩
def subIn (z w : Str) : Bool := !(Builtin.Str.occurrences w z 0 w.length 1).isEmpty
def seqD (M : Mem) : D → Option (List D)
  | .lst ds => some ds
  | .tup ds => some ds
  | .ref a => match M a with | some (.lst ds) => some ds | _ => none
  | _ => none
def rIn3 (neg : Bool) : R3 := fun x y M Q => (∃ z w, x = .str z ∧ y = .str w ∧ Q (.bl (neg ^^ subIn z w)) M) ∨ ∃ z, ∃ ys : List Str, x = .str z ∧ seqD M y = some (ys.map D.str) ∧ Q (.bl (neg ^^ ys.any (· == z))) M
theorem strsV_of {K : PySem.W.Frag} {M : Mem} {H : Hp} : ∀ {ys : List Str} {vs : List V}, Reps K M H (ys.map D.str) vs → vs = ys.map V.str
  | [], _, r => by cases r; rfl
  | y :: ys, _, .cons p1 p2 => by
    cases p1
    rw [strsV_of p2]; rfl
theorem seqD_sq {K : PySem.W.Frag} {M : Mem} {H : Hp} {y : D} {yv : V} {ds : List D} (m : MRel K M H) (r : Rep K M H y yv) (e : seqD M y = some ds) : ∃ p vs, yv = .ref p ∧ (SqL K H p vs ∨ SqT K H p vs) ∧ Reps K M H ds vs := by
  cases r with
  | tup h r => cases e; exact ⟨_, _, rfl, .inr (SqT.of3 h), r⟩
  | lst h r => cases e; exact ⟨_, _, rfl, .inl (SqL.of3 h), r⟩
  | @ref a =>
    unfold seqD at e
    dsimp only at e
    cases hm : M a with
    | none => rw [hm] at e; cases e
    | some o =>
      rw [hm] at e
      cases o with
      | dct _ => cases e
      | dt _ => cases e
      | lst xs =>
        cases e
        obtain ⟨ho, e1, r⟩ := m _ _ hm
        cases ho <;> first | exact (r : False).elim | skip
        exact ⟨_, _, rfl, .inl (.inl (.inl e1)), r⟩
  | _ => cases e
theorem in_strs {z : Str} {ys : List Str} : inV (.str z) (ys.map V.str) = ys.any (· == z) := by
  unfold inV
  rw [List.any_map]
  rfl
theorem flat_strs (ys : List Str) : (ys.map V.str).all flatV = true := by
  rw [List.all_map, List.all_eq_true]
  intro _ _; rfl
theorem o3_in : OpR3 X (compareOp .In) (rIn3 false) := by
  rintro pins s σv H M x y xv yv v u Q I m rx ry px py (⟨z, w, rfl, rfl, q⟩ | ⟨z, ys, rfl, hy, q⟩)
  · cases px; cases py
    exact thn (op_in_str pins s σv H _ _ v u _ I rx ry ⟨z, w, rfl, rfl, up0 m .bl (by rw [Bool.false_xor] at q; exact q)⟩) fun _ _ h => ep_up h
  · cases px
    obtain ⟨p, vs, rfl, sq, r⟩ := seqD_sq m py hy
    have e := strsV_of r
    subst e
    exact thn (op_in_seq pins s σv H _ _ v u _ I rx ry ⟨p, _, rfl, sq, rfl, flat_strs ys, up0 m .bl (by rw [in_strs]; rw [Bool.false_xor] at q; exact q)⟩) fun _ _ h => ep_up h
theorem o3_notin : OpR3 X (compareOp .NotIn) (rIn3 true) := by
  rintro pins s σv H M x y xv yv v u Q I m rx ry px py (⟨z, w, rfl, rfl, q⟩ | ⟨z, ys, rfl, hy, q⟩)
  · cases px; cases py
    exact thn (op_notin_str pins s σv H _ _ v u _ I rx ry ⟨z, w, rfl, rfl, up0 m .bl (by rw [Bool.true_xor] at q; exact q)⟩) fun _ _ h => ep_up h
  · cases px
    obtain ⟨p, vs, rfl, sq, r⟩ := seqD_sq m py hy
    have e := strsV_of r
    subst e
    exact thn (op_notIn_seq pins s σv H _ _ v u _ I rx ry ⟨p, _, rfl, sq, rfl, flat_strs ys, up0 m .bl (by rw [in_strs]; rw [Bool.true_xor] at q; exact q)⟩) fun _ _ h => ep_up h
def tFmt3 (te : TE3) : TE3 := fun σ M Q => te σ M fun d M1 => match d with
  | .str z => z.length ≤ sizeLine ∧ Q (.str z) M1
  | .int i => i.natAbs.log2 < 1920 ∧ Q (.str (toString i)) M1
  | _ => False
theorem pe3_fmt (he : PE3 X e te) : PE3 X (.FormattedValue e (-1) none pos) (tFmt3 te) := by
  intro pins s σv H σ M Q I hS hM h
  refine wpAny_FormattedValue_plain (thn (he pins s σv H σ M _ I hS hM h) fun v s1 ⟨d, xv, M1, H1, I1, st1, m1, r1, p1, q1⟩ => ?_)
  cases p1 <;> first | exact (q1 : False).elim | skip
  · rename_i i
    obtain ⟨t, rfl⟩ := r1
    exact wpAny_formatField_int q1.1 ⟨_, .str _, M1, H1, I1.tok _, st1, m1, ⟨_, rfl⟩, .str, q1.2⟩
  · rename_i z
    obtain ⟨t, rfl⟩ := r1
    exact wpAny_formatField_str ⟨_, .str _, M1, H1, I1, st1, m1, ⟨_, rfl⟩, .str, q1.2⟩ ⟨_, .str _, M1, H1, I1.tok _, st1, m1, ⟨_, rfl⟩, .str, q1.2⟩ q1.1
def tParts3 : List TE3 → Str → TE3
  | [], out => fun _ M Q => out.length ≤ sizeLine ∧ Q (.str out) M
  | te :: r, out => fun σ M Q => te σ M fun d M1 => match d with
    | .str y => (out ++ y).length ≤ sizeLine ∧ tParts3 r (out ++ y) σ M1 Q
    | _ => False
def PJ3 (X : Cx) (vs : List Expr) (ts : List TE3) : Prop :=
  ∀ (out : Str) (pins : List (Addr × Obj)) (s : Shared) (σv : L2.St) (H : Hp) (σ : Lo) (M : Mem) (Q : DK), Inv X pins σv H s → SRel X.K M H σ σv → MRel X.K M H → tParts3 ts out σ M Q →
    wpAny (model X.prog X.w) X.A (joinParts out (evalEach vs X.env)) (EP3 X pins σv M H Q) X.xe s
theorem pj3_nil : PJ3 X [] [] := fun out pins s σv H σ M Q I hS hM h => joinParts_nil ⟨_, .str _, M, H, I.tok _, .refl, hM, ⟨_, rfl⟩, .str, h.2⟩ h.1
theorem pj3_cons {vs : List Expr} {ts : List TE3} (he : PE3 X e te) (hr : PJ3 X vs ts) (hs : evalEach (e :: vs) X.env = eval e X.env :: evalEach vs X.env := by rfl) : PJ3 X (e :: vs) (te :: ts) := by
  intro out pins s σv H σ M Q I hS hM h
  rw [hs]
  refine joinParts_cons (thn (he pins s σv H σ M _ I hS hM h) fun v s1 ⟨d, xv, M1, H1, I1, st1, m1, r1, p1, q1⟩ => ?_)
  cases p1 <;> first | exact (q1 : False).elim | skip
  obtain ⟨t, rfl⟩ := r1
  exact ⟨q1.1, thn (hr _ pins s1 σv H1 σ M1 Q I1 (hS.mono st1) m1 q1.2) fun _ _ z => z.trans st1⟩
def tJoin3 (ts : List TE3) : TE3 := tParts3 ts Str.empty
theorem pe3_fstr {v1 v2 : Expr} {rest : List Expr} {ts : List TE3} (h : PJ3 X (v1 :: v2 :: rest) ts) (hs : evalEach (v1 :: v2 :: rest) X.env = eval v1 X.env :: eval v2 X.env :: evalEach rest X.env := by rfl) : PE3 X (.JoinedStr (v1 :: v2 :: rest) pos) (tJoin3 ts) := by
  intro pins s σv H σ M Q I hS hM q
  refine JoinedStr_many ?_
  have := h Str.empty pins s σv H σ M Q I hS hM q
  rw [hs] at this
  exact this
end
end L3
namespace L3
open PySem PySem.Spec PyProof.Rows L2
section
variable {X : Cx} {e : Expr} {te : TE3} {pos : Pos}
def rSlS : V → Option Int → Option Int → Hp → VK → Prop := fun x lo hi H Q => ∃ z, x = .str z ∧ z.length ≤ sizeLine ∧ Q (.str (Txt.slice z lo hi)) H
theorem sl_str : SlR X rSlS := by
  intro pins s σ H x v vl vu lo hi sl Q I rx hs pl pu h
  obtain ⟨z, rfl, hz, q⟩ := h
  obtain ⟨t, rfl⟩ := rx
  refine ⟨"str", _, PyProof.Rows.slot_str_getitem.lookup, typeIs_str _ _ _, ?_⟩
  obtain ⟨l, rfl, el⟩ : ∃ l : Option (Int × Tok), vl = partValue l ∧ lo = l.map (·.1) := by
    cases pl with
    | none => exact ⟨none, rfl, rfl⟩
    | int i t => exact ⟨some (i, t), rfl, rfl⟩
  obtain ⟨u, rfl, eu⟩ : ∃ u : Option (Int × Tok), vu = partValue u ∧ hi = u.map (·.1) := by
    cases pu with
    | none => exact ⟨none, rfl, rfl⟩
    | int i t => exact ⟨some (i, t), rfl, rfl⟩
  subst el eu
  refine wpAny_getItem_str_slice (st := none) (l := l) (u := u) hs rfl ?_
  have hle : (Txt.slice z (l.map (·.1)) (u.map (·.1))).length ≤ sizeLine := Nat.le_trans (Txt.slice_le _ _ _) hz
  unfold sliceMade slicePicked
  unfold Txt.slice at q hle
  split
  · rename_i hc
    split at q
    · exact ⟨.str _, H, I, ⟨_, rfl⟩, q⟩
    · rename_i hn
      exact absurd hc hn
  · rename_i hc
    split at hle
    · rename_i hn
      exact absurd hn hc
    · rename_i hn
      rw [if_neg hn] at q
      exact ⟨hle, .str _, H, I.tok _, ⟨_, rfl⟩, q⟩
end
theorem b3_all : bootBuiltins "all" = some (.builtin "all") := by decide +kernel
end L3
set_option Elab.async false
set_option linter.all false
set_option maxRecDepth 100000
namespace L3
open PySem PySem.Spec PyProof.Rows L2
def tI (n : Int) : Str := Str.ofString (toString n)
def dg (m : Nat) : List Nat := (Nat.toDigits 10 m).map Char.toNat
theorem cps_nat (m : Nat) : (tI (m : Int)).cps.toList = dg m := W.KIN.signs_num m
theorem dg_len {m k : Nat} (hk : 0 < k) (h : m < 10 ^ k) : (dg m).length ≤ k := by
  unfold dg
  rw [List.length_map]
  exact (Nat.length_toDigits_le_iff (by decide) hk).mpr h
theorem str_ext {x y : Str} (h : x.cps.toList = y.cps.toList) : x = y := by
  obtain ⟨⟨a⟩⟩ := x
  obtain ⟨⟨b⟩⟩ := y
  cases h
  rfl
theorem cps_app (x y : Str) : (x ++ y).cps.toList = x.cps.toList ++ y.cps.toList := by
  show (x.cps ++ y.cps).toList = _
  simp
theorem cps_neg (m : Nat) : (tI (Int.negSucc m)).cps.toList = 45 :: dg (m + 1) := by
  have e : toString (Int.negSucc m) = "-" ++ toString ((m + 1 : Nat) : Int) := rfl
  unfold tI
  rw [e, Str.ofString_eq_toList]
  have h := cps_nat (m + 1)
  unfold tI at h
  rw [Str.ofString_eq_toList] at h
  simp only [String.toList_append, List.map_append] at h ⊢
  rw [h]
  rfl
theorem len_cps (x : Str) : x.length = x.cps.toList.length := by
  show x.cps.size = _
  simp
theorem rd_iteNT {P R : Prop} (h : R) : if (!true) = true then P else R := h
theorem rd_iteNF {P R : Prop} (h : P) : if (!false) = true then P else R := h
theorem starts1 {z y : Str} {c d : Nat} {r : List Nat} (hz : z.cps.toList = c :: r) (hy : y.cps.toList = [d]) : Txt.startswith z y = (c == d) := by
  unfold Txt.startswith
  rw [StrLaws.subAt_eq, len_cps z, len_cps y, hz, hy]
  simp
theorem slice1 {z : Str} {c : Nat} {r : List Nat} (hz : z.cps.toList = c :: r) : (Txt.slice z (some 1) none).cps.toList = r := by
  have hl : z.length = r.length + 1 := by rw [len_cps, hz]; rfl
  rw [slice_from_eq (b := z.length) (by decide) (by rw [hl]; lia) rfl, hz, hl]
  simp
theorem str_eq_iff (x y : Str) : (x == y) = (x.cps.toList == y.cps.toList) := by
  rw [Bool.eq_iff_iff]
  simp only [beq_iff_eq]
  exact ⟨fun h => by rw [h], str_ext⟩
theorem rd_inS {z w : Str} {neg b : Bool} {M : Mem} {Q : DK} (e : subIn z w = b) (h : Q (.bl (neg ^^ b)) M) : rIn3 neg (.str z) (.str w) M Q := .inl ⟨z, w, rfl, rfl, by rw [e]; exact h⟩
theorem rd_starts {z y : Str} {M : Mem} {Q : DK} {b : Bool} (e : Txt.startswith z y = b) (h : Q (.bl b) M) : rStarts3 (.str z) [.str y] M Q := ⟨z, y, rfl, rfl, by rw [e]; exact h⟩
theorem rd_all {bs : List Bool} {M : Mem} {Q : DK} (h : Q (.bl (bs.all id)) M) : rAll3 [.lst (bs.map D.bl)] M Q := ⟨bs, rfl, h⟩
theorem rd_intTS {z : Str} {n : Int} {M : Mem} {Q : DK} (e : intText? z = some n) (hl : z.length ≤ 640) (h : Q (.int n) M) : rIntT3 [.str z] M Q := ⟨n, e, hl, h⟩
theorem rd_parts0 {out : Str} {σ : Lo} {M : Mem} {Q : DK} (hl : out.length ≤ sizeLine) (h : Q (.str out) M) : tParts3 [] out σ M Q := ⟨hl, h⟩
def onPart (r : List TE3) (out : Str) (σ : Lo) (Q : DK) : DK := fun d M1 => match d with
  | .str y => (out ++ y).length ≤ sizeLine ∧ tParts3 r (out ++ y) σ M1 Q
  | _ => False
theorem rd_parts {te : TE3} {r : List TE3} {out : Str} {σ : Lo} {M : Mem} {Q : DK} (h : te σ M (onPart r out σ Q)) : tParts3 (te :: r) out σ M Q := h
theorem rd_onPart {r : List TE3} {out y : Str} {σ : Lo} {M : Mem} {Q : DK} (hl : (out ++ y).length ≤ sizeLine) (h : tParts3 r (out ++ y) σ M Q) : onPart r out σ Q (.str y) M := ⟨hl, h⟩
theorem rd_join3 {ts : List TE3} {σ : Lo} {M : Mem} {Q : DK} (h : tParts3 ts Str.empty σ M Q) : tJoin3 ts σ M Q := h
def onFmt (Q : DK) : DK := fun d M1 => match d with
  | .str z => z.length ≤ sizeLine ∧ Q (.str z) M1
  | .int i => i.natAbs.log2 < 1920 ∧ Q (.str (toString i)) M1
  | _ => False
theorem rd_fmt {te : TE3} {σ : Lo} {M : Mem} {Q : DK} (h : te σ M (onFmt Q)) : tFmt3 te σ M Q := h
theorem rd_onFmtI {i : Int} {M : Mem} {Q : DK} (hz : i.natAbs.log2 < 1920) (h : Q (.str (tI i)) M) : onFmt Q (.int i) M := ⟨hz, h⟩
end L3
set_option Elab.async false
set_option linter.all false
set_option maxRecDepth 100000
namespace L3
open PySem PySem.Spec PyProof.Rows L2
section
variable {X : Cx} {a b e : Expr} {ta tb te : TE3} {t : TA3} {pos p : Pos}
theorem strs_reps {K : PySem.W.Frag} {M : Mem} {H : Hp} : ∀ l : List Str, Reps K M H (l.map D.str) (l.map V.str)
  | [] => .nil
  | x :: l => .cons .str (strs_reps l)
end
end L3
set_option Elab.async false
set_option linter.all false
set_option maxRecDepth 100000
namespace L3
open PySem PySem.Spec PyProof.Rows L2
section
variable {T : Ends3} {σ : Lo} {M : Mem} {Q : DK} {QB : Bool → Mem → Prop} {d x y : D}
end
theorem comp_all {ds acc : List D} {P : Nat → D → D → Prop} (hl : acc.length = ds.length) (h : ∀ (k : Nat) d e, ds[k]? = some d → acc[k]? = some e → P k d e) : ∀ e ∈ acc, ∃ (k : Nat) (d : D), ds[k]? = some d ∧ P k d e := fun e he => by
  obtain ⟨k, hk, rfl⟩ := List.getElem_of_mem he
  have hk' : k < ds.length := by rw [← hl]; exact hk
  exact ⟨k, ds[k], by simp, h k ds[k] _ (by simp) (by simp)⟩
theorem exists_map {α : Type} {f : α → D} {P : α → Prop} : ∀ {l : List D}, (∀ e ∈ l, ∃ c, e = f c ∧ P c) → ∃ cs : List α, l = cs.map f ∧ ∀ c ∈ cs, P c
  | [], _ => ⟨[], rfl, fun _ h => by cases h⟩
  | e :: l, h => by
    obtain ⟨c, rfl, hc⟩ := h e List.mem_cons_self
    obtain ⟨cs, rfl, hcs⟩ := exists_map fun x hx => h x (List.mem_cons_of_mem _ hx)
    exact ⟨c :: cs, rfl, fun x hx => by
      rcases List.mem_cons.mp hx with rfl | hx
      · exact hc
      · exact hcs x hx⟩
theorem rd_joinL {z : Str} {ys : List Str} {M : Mem} {Q : DK} (hj : joinOk z ys) (h : Q (.str (Txt.join z ys)) M) : rJoin3 (.str z) [.lst (ys.map D.str)] M Q := ⟨z, ys, rfl, rfl, hj, h⟩
theorem strs_ok : ∀ {ys : List Str}, (∀ y ∈ ys, PyData.strOk y = true) → plains (ys.map D.str) = true ∧ PyData.canLayAll0 (pyDs (ys.map D.str)) = true ∧ PyData.depthAll (pyDs (ys.map D.str)) = 0
  | [], _ => ⟨rfl, rfl, rfl⟩
  | y :: ys, h => by
    obtain ⟨h1, h2, h3⟩ := strs_ok fun x hx => h x (List.mem_cons_of_mem _ hx)
    refine ⟨by simpa [plains, plain] using h1, ?_, ?_⟩
    · simp only [List.map_cons, pyDs, pyD, PyData.canLayAll0, PyData.canLay0, Bool.and_eq_true]
      exact ⟨h y List.mem_cons_self, h2⟩
    · simp only [List.map_cons, pyDs, pyD, PyData.depthAll, PyData.depth, h3]; rfl
theorem dOk_strsL {ys : List Str} (h : ∀ y ∈ ys, PyData.strOk y = true) : dOk (.lst (ys.map D.str)) := by
  obtain ⟨h1, h2, h3⟩ := strs_ok h
  refine ⟨by simpa [plain] using h1, by simpa [pyD, PyData.canLay0] using h2, ?_⟩
  simp [pyD, PyData.depth, h3]
theorem eqv_nilL {ds : List D} : PyData.eqv (pyD (.lst ds)) (pyD (.lst [])) = ds.isEmpty := by
  cases ds <;> simp [pyD, pyDs, PyData.eqv, PyData.eqvAll]
theorem nilL_ok : dOk (.lst []) := ⟨rfl, rfl, by decide⟩
theorem comp_map {α : Type} {gt : TG3} {tt : TT3} {te : TE3} {σ0 : Lo} {M1 : Mem} {Q : DK} (l : List α) (f g : α → D) (hl : l.length < sizeLine)
    (turn : ∀ a ∈ l, ∀ M2 (R : D → Mem → Prop) (F : Mem → Prop), (∀ x, M1 x ≠ none → M2 x = M1 x) → R (g a) M2 → gt (f a) σ0 M2 fun σ' M3 => tt σ' M3 fun bb M4 => if bb = true then te σ' M4 R else F M4)
    (done : Q (.lst (l.map g)) M1) : CompB gt tt te σ0 (l.map f) M1 Q := by
  intro p hp
  refine ⟨fun k acc M2 => acc = (l.take k).map g ∧ M2 p = some (.lst acc) ∧ ∀ a, a ≠ p → M2 a = M1 a, ⟨rfl, mput_same, fun a ha => mput_ne ha⟩, ?_, ?_⟩
  · rintro k d acc M2 hd ⟨rfl, hacc, hsame⟩
    have hk : k < l.length := by simpa using (List.getElem?_eq_some_iff.mp hd).1
    have hdk : d = f l[k] := by
      rw [List.getElem?_map, List.getElem?_eq_getElem hk] at hd
      exact (Option.some.inj hd).symm
    subst hdk
    refine turn l[k] (List.getElem_mem hk) M2 _ _ (fun a ha => hsame a (by rintro rfl; exact ha hp)) ⟨hacc, by simp; lia, ?_, mput_same, fun a ha => by rw [mput_ne ha]; exact hsame a ha⟩
    rw [List.take_succ, List.getElem?_eq_getElem hk, List.map_append]
    rfl
  · rintro acc M2 ⟨rfl, hacc, hsame⟩
    have hlen : (l.map f).length = l.length := by simp
    rw [hlen, List.take_length] at hacc ⊢
    have : mdel M2 p = M1 := funext fun a => by
      by_cases ha : a = p
      · subst ha; rw [mdel_same, hp]
      · rw [mdel_ne ha]; exact hsame a ha
    rw [this]
    exact ⟨hacc, done⟩
end L3
set_option Elab.async false
set_option linter.all false
set_option maxRecDepth 100000
namespace L3
open PySem PySem.Spec PyProof.Rows L2
def isStar : Expr → Bool
  | .Starred .. => true
  | _ => false
theorem star_cons {e : Expr} (h : isStar e = false) (es : List Expr) (env : Env) : starEach (e :: es) env = (false, eval e env) :: starEach es env := by
  cases e <;> first | rfl | cases h
theorem pa3_k {X : Cx} {e : Expr} {es : List Expr} {te : TE3} {t : TA3} (ha : PE3 X e te) (hr : PA3 X es t) (hs : isStar e = false := by rfl) : PA3 X (e :: es) (tCons3 te t) := pa3_cons ha hr (star_cons hs es _)
theorem pa3_s {X : Cx} {x : Str} {j : Nat} {pos : Pos} {es : List Expr} {t : TA3} (hr : PA3 X es t) : PA3 X (.Constant (.str x) j pos :: es) (tCons3 (tC3 (.str x)) t) := pa3_k pe3_str hr
theorem pa3_i {X : Cx} {i : Int} {j : Nat} {pos : Pos} {es : List Expr} {t : TA3} (hr : PA3 X es t) : PA3 X (.Constant (.int i) j pos :: es) (tCons3 (tC3 (.int i)) t) := pa3_k pe3_int hr
end L3
set_option Elab.async false
set_option linter.all false
set_option maxRecDepth 100000
namespace L3
open PySem PySem.Spec PyProof.Rows L2
end L3
set_option Elab.async false
set_option linter.all false
set_option maxRecDepth 100000
namespace L3
open PySem PySem.Spec PyProof.Rows L2
end L3
set_option Elab.async false
set_option linter.all false
set_option maxRecDepth 100000
namespace L3
open PySem PySem.Spec PyProof.Rows L2
section
variable {X : Cx} {o i e : Expr} {to ti te : TE3} {pos p : Pos}
end
end L3
set_option Elab.async false
set_option linter.all false
set_option maxRecDepth 100000
namespace L3
open PySem PySem.Spec PyProof.Rows L2
end L3
set_option Elab.async false
set_option linter.all false
set_option maxRecDepth 100000
namespace L2
open PySem PySem.Spec PyProof.Rows
section
variable {X : Cx} {tg : Expr}
end
end L2
namespace L3
open PySem PySem.Spec PyProof.Rows L2
section
variable {X : Cx} {a b c e : Expr} {t : TA3} {te : TE3} {p pos : Pos}
end
end L3
set_option Elab.async false
set_option linter.all false
set_option maxRecDepth 100000
namespace L3
open PySem PySem.Spec PyProof.Rows L2
section
variable {X : Cx} {e i : Expr} {te ti : TE3} {pos : Pos}
theorem pe3_globT {x : Str} {xs : List Str} (hg : Gl X x) (hm : ∃ a, X.mg x = some (.ref a) ∧ KTup X.K a (xs.map V.str)) (hd : (x == ("__debug__" : Str)) = false := by decide) : PE3 X (.Name x pos) (tC3 (.tup (xs.map D.str))) := by
  obtain ⟨a, hm, k⟩ := hm
  exact pe3_glob (v := .ref a) hg hm rfl (fun _ _ => .tup (.inr k) (strs_reps xs)) hd
end
end L3
set_option Elab.async false
set_option linter.all false
set_option maxRecDepth 100000
namespace L3
open PySem PySem.Spec PyProof.Rows L2
end L3
set_option Elab.async false
set_option linter.all false
set_option maxRecDepth 100000
namespace HT
open PySem PySem.Spec PyProof.Rows
section
variable {prog : Program} {w : World} {A : Around} {E : Value → Shared → Prop} {s : Shared}
end
end HT
namespace L3
open PySem PySem.Spec PyProof.Rows L2
section
variable {X : Cx} {e st : Expr} {te : TE3} {ts : TO3} {pos p2 : Pos}
end
end L3
set_option Elab.async false
set_option linter.all false
set_option maxRecDepth 100000
namespace PySem.SeqAt
open AutoSeq1 (wpAny_loadPart')
open MeetsSeq
theorem dict_eq_declines_str (l : Addr) (es : Array DictEntry) (n : Nat) (dd : Option Addr) (sl : Array (Option Value)) (b : Str) (u : Tok) :
    Meets (Builtin.«dict.__eq__» ⟨[.ref l, .str b u], []⟩) (fun _ R s => s.heap.get? l = some { cls := .type "dict", dict := dd, data := .dict es n, slots := sl } ∧ R (.ok (.ret .notImplemented)) s) :=
  .of_wp fun prog w A R s h => by obtain ⟨hp, g, d, tk, os⟩ := s; obtain ⟨hl, h⟩ := h; have f1 := F.sub_str_dict; wp_walk using wpAny_loadPart' hl, wpAny_load hl; exact ⟨_, rfl, h⟩
theorem str_eq_declines_dict (b : Str) (u : Tok) (l : Addr) (es : Array DictEntry) (n : Nat) (dd : Option Addr) (sl : Array (Option Value)) :
    Meets (Builtin.«str.__eq__» ⟨[.str b u, .ref l], []⟩) (fun _ R s => s.heap.get? l = some { cls := .type "dict", dict := dd, data := .dict es n, slots := sl } ∧ R (.ok (.ret .notImplemented)) s) :=
  .of_wp fun prog w A R s h => by obtain ⟨hp, g, d, tk, os⟩ := s; obtain ⟨hl, h⟩ := h; wp_walk using wpAny_loadPart' hl, wpAny_load hl; exact ⟨_, rfl, h⟩
theorem RcAt.dict_str {A : Around} {s : Shared} {l : Addr} {o : Obj} {es : Array DictEntry} {n : Nat} (b : Str) (u : Tok) (ho : s.heap.get? l = some o) (hc : o.cls = .type "dict") (hd : o.data = .dict es n) (hu : A.units < cLine) : RcAt A s (.ref l) (.str b u) false := fun prog w E Q h => by
  obtain ⟨cls, dd, data, sl⟩ := o
  simp only at hc hd
  subst hc hd
  exact rc_eq_decline_or (k := false) ⟨_, ho, rfl⟩ (typeIs_str s b u) (by decide) F.sub_str_dict F.slot_dict_eq F.slot_str_eq_refl
    (fun _ hq => call_meets F.slot_dict_eq ⟨_, ho, rfl⟩ F.entry_dict_eq (F.args_dict_eq_2 _ _) (dict_eq_declines_str l es n dd sl b u) ⟨ho, hq⟩)
    (fun _ hq => call_meets F.slot_str_eq_refl (typeIs_str s b u) F.entry_str_eq (F.args_str_eq_2 _ _) (str_eq_declines_dict b u l es n dd sl) ⟨ho, hq⟩)
    (fun _ hq => wpAny_of_eq (rfl : isSame (.ref l) (.str b u) = pure false) hq) (.inr hu) h
end PySem.SeqAt
namespace HT
open PySem PySem.Spec PyProof.Rows L2
theorem getItem_tuple_whole {prog : Program} {w : World} {A : Around} {E : Value → Shared → Prop} {s : Shared} {t sl : Addr} {items : Array Value} {vl vu : Value} {lo hi : Option Int} {Q : Value → Shared → Prop} (ht : IsTup s.heap t items) (hs : s.heap.IsSliceOf sl vl vu .none) (pl : IsPart vl lo) (pu : IsPart vu hi)
    (hw : sIx items.size 0 lo = 0 ∧ sIx items.size items.size hi = items.size) (h : Q (.ref t) s) : wpAny (model prog w) A (getItem (.ref t) (.ref sl)) Q E s := by
  obtain ⟨os, hos, hcs, hds⟩ := id hs
  have hTs : s.TypeIs (.ref sl) "slice" := ⟨os, hos, hcs⟩
  obtain ⟨o, ho, hc, n, hd⟩ := id ht
  unfold getItem
  try with_reducible refine wpAny_holding ?_
  first | refine wpAny_bind (wpAny_pure ?_) | skip
  refine wpAny_bind (wpAny_sequenceKey ht.typeIs (by decide) ?_)
  refine wpAny_bind (wpAny_callSpecial?_slot (name := Str.ofString "__getitem__") ht.typeIs PyProof.Rows.slot_tuple_getitem
    (wpAny_call_entry PyProof.Rows.slot_tuple_getitem ht.typeIs entry_tuple_getitem ?_ (args_tuple_getitem _ _)))
  show wpAny _ _ (Builtin.Tuple.tupleItemsOf (.ref t) >>= _) _ _ s
  refine wpAny_bind (tupleItemsOf_ ht ?_)
  refine wpAny_bind (wpAny_typeOf hTs ?_)
  rw [if_pos (by decide)]
  refine wpAny_bind (sliceApplied_gen hs pl pu ?_)
  have hyes : (((sIx items.size 0 lo : Nat) : Int) == 0 && (1 : Int) == 1 && (sIx items.size items.size hi - sIx items.size 0 lo) == items.size) = true := by
    rw [hw.1, hw.2]; simp
  show wpAny _ _ (if (((sIx items.size 0 lo : Nat) : Int) == 0 && (1 : Int) == 1 && (sIx items.size items.size hi - sIx items.size 0 lo) == items.size) = true then _ else _) _ _ s
  rw [if_pos hyes]
  unfold Builtin.Tuple.tupleIsExact
  refine wpAny_bind ?_
  first
    | exact wpAny_typeOf ht.typeIs (by rw [if_pos (by decide)]; exact wpAny_bind (wpAny_rule (wpAny_pure ⟨_, rfl, wpAny_pure h⟩)))
    | exact wpAny_bind (wpAny_typeOf ht.typeIs (wpAny_pure (by rw [if_pos (by decide)]; exact wpAny_bind (wpAny_rule (wpAny_pure ⟨_, rfl, wpAny_pure h⟩)))))
end HT
namespace L3
open PySem PySem.Spec PyProof.Rows L2
def pyA : D → PyData
  | .non => .none | .bl b => .bool b | .int i => .int i | .str x => .str x | _ => .none
def atomD : D → Bool
  | .non | .bl _ | .int _ | .str _ => true
  | _ => false
def pyK (kvs : List (Key × D)) : List (PyData × PyData) := kvs.map fun kd => (pyA (kD kd.1), pyA kd.2)
mutual
def pyE : D → PyData
  | .non => .none | .bl b => .bool b | .int i => .int i | .str x => .str x
  | .tup xs => .tuple (pyEs xs) | .lst xs => .list (pyEs xs)
  | .dct kvs => .dict (pyK kvs) | .ty _ => .none | .ref _ => .none
def pyEs : List D → List PyData
  | [] => [] | d :: ds => pyE d :: pyEs ds
end
mutual
def plainE : D → Bool
  | .non | .bl _ | .int _ | .str _ => true
  | .tup xs | .lst xs => plainEs xs
  | .dct kvs => kvs.all fun kd => atomD kd.2
  | .ty _ | .ref _ => false
def plainEs : List D → Bool
  | [] => true | d :: ds => plainE d && plainEs ds
end
mutual
def noLst : D → Bool
  | .tup xs => noLsts xs
  | .lst _ => false
  | _ => true
def noLsts : List D → Bool
  | [] => true | d :: ds => noLst d && noLsts ds
end
section
variable {X : Cx} {pins : List (Addr × Obj)} {σv : L2.St} {M : Mem} {H : Hp} {s : Shared}
theorem reads_atom {h : Heap} {K : PySem.W.Frag} {d : D} {v : V} {u : Value} (ha : atomD d = true) (p : Rep K M H d v) (r : RelV v u) : Reads h u (pyA d) [] := by
  cases d with
  | non => cases p; cases r; exact .none
  | bl b => cases p; cases r; exact .bool b
  | int i => cases p; obtain ⟨t, rfl⟩ := r; exact .int i t
  | str x => cases p; obtain ⟨t, rfl⟩ := r; exact .str x t
  | _ => cases ha
theorem reads_key {h : Heap} {k : Key} {v : Value} (e : keyIs k v = true) : Reads h v (pyA (kD k)) [] := by
  rcases keyIs_shape e with ⟨i, t, rfl, rfl⟩ | ⟨x, t, rfl, rfl⟩
  · exact .int i t
  · exact .str x t
theorem reads_kvs {h : Heap} {P : Program} {w : World} {K : PySem.W.Frag} : ∀ {ds : List (Key × D)} {vs : List (Key × V)} {us : List (Key × Value)} {es : List DictEntry}, (ds.all fun kd => atomD kd.2) = true → RepK K M H ds vs → KV vs us → Pairs (mixKind P w) es us →
    ReadsAll h (es.map (·.key)) ((pyK ds).map (·.1)) [] ∧ ReadsAll h (es.map (·.val)) ((pyK ds).map (·.2)) []
  | [], _, _, _, _, .nil, kv, pr => by cases kv; cases pr; exact ⟨.nil, .nil⟩
  | (k, d) :: ds, _, _, _, ha, .cons p ps, kv, pr => by
    rw [List.all_cons, Bool.and_eq_true] at ha
    cases kv with
    | cons q qs =>
    cases pr with
    | cons e1 e2 prs =>
      obtain ⟨r1, r2⟩ := reads_kvs (h := h) ha.2 ps qs prs
      have hk := reads_key (h := h) e1
      rw [← q.1] at hk
      have hv := reads_atom (h := h) ha.1 p q.2
      rw [← e2] at hv
      exact ⟨.cons (as := []) (bs := []) hk r1, .cons (as := []) (bs := []) hv r2⟩
mutual
theorem rep_readsE (I : Inv X pins σv H s) (d : D) {v : V} {u : Value} (hp : plainE d = true) (p : Rep X.K M H d v) (r : RelV v u) : ∃ as, Reads s.heap u (pyE d) as ∧ (noLst d = true → sysModules ∉ as) := by
  cases d with
  | non => cases p; cases r; exact ⟨[], .none, fun _ => List.not_mem_nil⟩
  | bl b => cases p; cases r; exact ⟨[], .bool b, fun _ => List.not_mem_nil⟩
  | int i => cases p; obtain ⟨t, rfl⟩ := r; exact ⟨[], .int i t, fun _ => List.not_mem_nil⟩
  | str x => cases p; obtain ⟨t, rfl⟩ := r; exact ⟨[], .str x t, fun _ => List.not_mem_nil⟩
  | tup xs =>
    cases p with
    | tup h q =>
    cases r
    obtain ⟨its, rv, ⟨o, e1, e2, n, e3⟩, _⟩ := I.tuple (SqT.of3 h)
    obtain ⟨as, ra, hn⟩ := rep_readsEs I xs (by simpa [plainE] using hp) q rv
    exact ⟨as, by rw [pyE]; exact .tuple e1 e2 e3 (by simpa using ra), fun z => hn (by simpa [noLst] using z)⟩
  | lst xs =>
    cases p with
    | @lst a _ _ h q =>
    cases r
    obtain ⟨its, rv, ⟨o, n, e1, e2, _, e3⟩, _⟩ := I.list (SqL.of3 h)
    obtain ⟨as, ra, hn⟩ := rep_readsEs I xs (by simpa [plainE] using hp) q rv
    exact ⟨a :: as, by rw [pyE]; exact .list e1 e2 e3 (by simpa using ra), fun z => absurd z (by simp [noLst])⟩
  | dct kvs =>
    cases p with
    | @dct a _ _ h q =>
    cases r
    obtain ⟨_, hsys, us, kv, o, es, ep, h1, h2, h3, _, pr, _⟩ := dk_rd I.hok h.1
    obtain ⟨r1, r2⟩ := reads_kvs (h := s.heap) (by simpa [plainE] using hp) q kv pr
    refine ⟨a :: [] ++ [], by rw [pyE]; exact .dict h1 h2.1 h3 r1 r2, fun _ hm => ?_⟩
    have e : sysModules = a := by simpa using hm
    rw [e] at hsys
    simp at hsys
  | ty _ => cases hp
  | ref _ => cases hp
theorem rep_readsEs (I : Inv X pins σv H s) (ds : List D) {vs : List V} {us : List Value} (hp : plainEs ds = true) (p : Reps X.K M H ds vs) (r : Vals vs us) : ∃ as, ReadsAll s.heap us (pyEs ds) as ∧ (noLsts ds = true → sysModules ∉ as) := by
  cases ds with
  | nil => cases p; cases r; exact ⟨[], .nil, fun _ => List.not_mem_nil⟩
  | cons d ds =>
    cases p with
    | cons q qs =>
    cases r with
    | cons r rs =>
      have hp' : plainE d = true ∧ plainEs ds = true := by simpa [plainEs] using hp
      obtain ⟨as, h1, n1⟩ := rep_readsE I d hp'.1 q r
      obtain ⟨bs, h2, n2⟩ := rep_readsEs I ds hp'.2 qs rs
      refine ⟨as ++ bs, by rw [pyEs]; exact .cons h1 h2, fun z hm => ?_⟩
      have z' : noLst d = true ∧ noLsts ds = true := by simpa [noLsts] using z
      rcases List.mem_append.mp hm with hm | hm
      · exact n1 z'.1 hm
      · exact n2 z'.2 hm
end
end
section
variable {X : Cx} {e : Expr} {te : TE3} {pos : Pos}
def shE (d : D) : Prop := plainE d = true ∧ (pyE d).showable = true ∧ ((pyE d).hasDict = true → noLst d = true) ∧ (pyE d).depth ≤ 60 ∧ (pyE d).shown.length ≤ sizeLine
def rReprE3 : C3 := fun ds M Q => match ds with
  | [d] => shE d ∧ Q (.str (pyE d).shown) M
  | _ => False
theorem c3_reprE {k : Nat} (hr : Room k X.A) : CallR3 X (.builtin "repr") rReprE3 := by
  intro pins s σv H M xs xvs us Q I m rv px q
  rcases px with _ | ⟨pd, ps⟩; (exact (q : False).elim); rcases ps with _ | ⟨p2, ps2⟩; rotate_left; (first | exact (q : False).elim | (cases pd <;> exact (q : False).elim))
  · rename_i d _
    obtain ⟨⟨h1, h2, h3, h4, h5⟩, q⟩ := q
    obtain ⟨u, rfl, ru⟩ := vals1 rv
    have hz : sizeLine = 16777216 := sizeLine_eq
    have gen : ∀ (a : Addr), u = .ref a → (∃ as, Reads s.heap u (pyE d) as ∧ (noLst d = true → sysModules ∉ as)) → wpAny (model X.prog X.w) X.A (call (.builtin "repr") [u]) (EP3 X pins σv M H Q) X.xe s := by
      rintro a rfl ⟨as, rd, hn⟩
      refine PySem.repr_of_reads' rd h2 (fun z => hn (h3 z)) hr.gd (by have := hr.units; lia) (fun b o e => e) (fun h' u tk kp => ?_) h5
      exact ⟨_, .str _, M, H, I.kept (t' := tk) kp, .refl, m, ⟨_, rfl⟩, .str, q⟩
    cases pd with
    | non => cases ru; exact PySem.P.repr_of_none ⟨_, .str _, M, H, I.tok _, .refl, m, ⟨_, rfl⟩, .str, q⟩
    | bl => cases ru; exact PySem.P.repr_of_bool ⟨_, .str _, M, H, I.tok _, .refl, m, ⟨_, rfl⟩, .str, q⟩
    | @int i =>
      obtain ⟨t, rfl⟩ := ru
      exact PySem.P.repr_of_int (by simpa [pyE, PyData.showable] using h2) ⟨_, .str _, M, H, I.tok _, .refl, m, ⟨_, rfl⟩, .str, q⟩
    | @str z =>
      obtain ⟨t, rfl⟩ := ru
      exact PySem.P.repr_of_str ⟨_, .str _, M, H, I.tok _, .refl, m, ⟨_, rfl⟩, .str, q⟩ (by simpa [pyE, PyData.shown] using h5)
    | @tup a ds vs h r =>
      cases ru
      exact gen _ rfl (rep_readsE I _ h1 (.tup h r) rfl)
    | @lst a ds vs h r =>
      cases ru
      exact gen _ rfl (rep_readsE I _ h1 (.lst h r) rfl)
    | @dct a ds vs h r =>
      cases ru
      exact gen _ rfl (rep_readsE I _ h1 (.dct h r) rfl)
    | ty => exact absurd h1 (by simp [plainE])
    | ref => exact absurd h1 (by simp [plainE])
def rEqE3 : R3 := fun x y M Q => rEq3 x y M Q ∨ ∃ kvs z, x = .dct kvs ∧ y = .str z ∧ Q (.bl false) M
theorem o3_eqE {k : Nat} (hr : Room k X.A) : OpR3 X (compareOp .Eq) rEqE3 := by
  intro pins s σv H M x y xv yv v u Q I m rx ry px py h
  rcases h with h | ⟨kvs, z, rfl, rfl, q⟩
  · exact o3_eq hr pins s σv H M x y xv yv v u Q I m rx ry px py h
  · cases py
    obtain ⟨t, rfl⟩ := ry
    cases px with
    | dct hx r =>
      cases rx
      obtain ⟨_, _, us, _, o, es, ep, h1, h2, h3, _⟩ := dk_rd I.hok hx.1
      exact SeqAt.RcAt.dict_str z t h1 h2.1 h3 (by have := hr.units; lia) X.prog X.w X.xe _ ⟨_, .bl _, M, H, I, .refl, m, rfl, .bl, q⟩
theorem PE3.wk {t t' : TE3} (h : PE3 X e t) (hw : ∀ σ M Q, t' σ M Q → t σ M Q) : PE3 X e t' := fun pins s σv H σ M Q I hS hM ht => h pins s σv H σ M Q I hS hM (hw σ M Q ht)
theorem pe3_d0 : PE3 X (.Dict [] [] pos) (tC3 (.dct [])) := PE3.of pe_dnewK fun pins s σv H σ M Q I hS hM h => fun p hp =>
  ⟨.dct [], M, Step.lay hp, hM.lay hp, .dct ⟨.inl upd_same, hM.free hp⟩ .nil, h⟩
def tFrzD3 (te : TE3) : TE3 := fun σ M Q => te σ M fun d M1 => ∃ p xs, d = .ref p ∧ M1 p = some (.dct xs) ∧ Q (.dct xs) (mdel M1 p)
theorem pe3_frzD (h : PE3 X e te) : PE3 X e (tFrzD3 te) := by
  intro pins s σv H σ M Q I hS hM hw
  refine thn (h pins s σv H σ M _ I hS hM hw) fun u s1 hx0 => ?_
  obtain ⟨x, xv, M1, H1, I1, st1, m1, rv1, p1, q1⟩ := hx0
  obtain ⟨p, xs, rfl, hp, q⟩ := q1
  obtain ⟨mF, rF, sF⟩ := Vs.frzD hp X.K H1 xv m1 p1
  exact ⟨.dct xs, xv, mdel M1 p, H1, I1, st1.less sF, mF, rv1, rF, q⟩
theorem pe3_d1 {k v : Expr} {z : Str} {i : Int} (hk : PE3 X k (tC3 (.str z))) (hv : PE3 X v (tC3 (.int i))) : PE3 X (.Dict [some k] [v] pos) (tC3 (.dct [(.inr z, .int i)])) :=
  (pe3_frzD (pe3_dispM (pps3_cons hk hv pps3_nil) rfl rfl (by simp) (show (1 : Nat) ≤ 15 by decide))).wk fun σ M Q h p hp => by
    refine ⟨mput_same, [(.inr z, .int i)], rfl, (show (1 : Nat) ≤ 15 by decide), p, _, rfl, mput_same, ?_⟩
    rw [mput_mput, mdel_put hp]
    exact h
def rSlTW (K : PySem.W.Frag) : V → Option Int → Option Int → Hp → VK → Prop := fun x lo hi H Q => ∃ a xs, x = .ref a ∧ SqT K H a xs ∧
  (HT.sIx xs.length 0 lo = 0 ∧ HT.sIx xs.length xs.length hi = xs.length) ∧ Q (.ref a) H
theorem sl_tupW : SlR X (rSlTW X.K) := by
  intro pins s σ H x v vl vu lo hi sl Q I rx hs pl pu h
  obtain ⟨a, xs, rfl, hx, hw, q⟩ := h
  cases rx
  obtain ⟨its, r, ht, hz⟩ := I.tuple hx
  have hlen : its.toArray.size = xs.length := by rw [List.size_toArray]; exact r.length.symm
  refine ⟨"tuple", _, PyProof.Rows.slot_tuple_getitem.lookup, ht.typeIs, ?_⟩
  exact HT.getItem_tuple_whole ht hs pl pu (by rw [hlen]; exact hw) ⟨.ref a, H, I, rfl, q⟩
def rSlW3 : D → Option Int → Option Int → Mem → DK → Prop := fun x lo hi M Q => match x with
  | .lst ds => Q (.lst (cutD ds lo hi)) M
  | .tup ds => Q (.tup (cutD ds lo hi)) M
  | .str z => z.length ≤ sizeLine ∧ Q (.str (Txt.slice z lo hi)) M
  | _ => False
def tSlW3 (te : TE3) (tl th : TO3) : TE3 := fun σ M Q => te σ M fun x M1 => tl σ M1 fun l M2 => th σ M2 fun u M3 => rSlW3 x l u M3 Q
theorem cut_whole {ds : List D} {lo hi : Option Int} (h : HT.sIx ds.length 0 lo = 0 ∧ HT.sIx ds.length ds.length hi = ds.length) : cutD ds lo hi = ds := by
  unfold cutD
  rw [h.1, h.2]
  simp
theorem pe3_slW {lo hi : Option Expr} {tl th : TO3} {p2 : Pos} (he : PE3 X e te) (hl : PO3 X lo tl) (hu : PO3 X hi th) :
    PE3 X (.Subscript e (.Slice lo hi none p2) pos) (tSlW3 te tl th) := by
  intro pins s σv H σ M Q I hS hM h
  refine Subscript_ (thn (he pins s σv H σ M _ I hS hM h) fun v s1 ⟨x, xv, M1, H1, I1, st1, m1, rv1, p1, q1⟩ => ?_)
  refine wpAny_Slice (thn (hl pins s1 σv H1 σ M1 _ I1 (hS.mono st1) m1 q1) fun vl s2 ⟨l, M2, H2, I2, st2, m2, pl, q2⟩ => thn (hu pins s2 σv H2 σ M2 _ I2 (hS.mono (st1.trans st2)) m2 q2) fun vu s3 ⟨u, M3, H3, I3, st3, m3, pu, q3⟩ => ?_)
  rw [evalPart_none]
  refine wpAny_pure ?_
  have I4 : Inv X pins σv H3 { s3 with heap := s3.heap.push { cls := .type "slice", data := .fields #[vl, vu, .none] } } := I3.kept (t' := s3.toks) fun b ob q => Heap.get?_push_of_some _ q
  have p3 := p1.mono (st2.trans st3)
  have fin : ((rSlL X.K xv l u H3 (Up X.K M3 H3 Q) ∨ rSlT X.K xv l u H3 (Up X.K M3 H3 Q)) ∨ rSlS xv l u H3 (Up X.K M3 H3 Q)) ∨ rSlTW X.K xv l u H3 (Up X.K M3 H3 Q) := by
    cases x with
    | str z =>
      cases p3
      exact .inl (.inr ⟨_, rfl, q3.1, up0 m3 .str q3.2⟩)
    | tup ds =>
      cases p3 with | tup h1 r =>
      by_cases hw : HT.sIx ds.length 0 l = 0 ∧ HT.sIx ds.length ds.length u = ds.length
      · have q3 : Q (.tup (cutD ds l u)) M3 := q3
        rw [cut_whole hw] at q3
        exact .inr ⟨_, _, rfl, SqT.of3 h1, by rw [← r.length]; exact hw, up0 m3 (.tup h1 r) q3⟩
      · rw [r.length] at hw
        exact .inl (.inl (.inr ⟨_, _, rfl, SqT.of3 h1, hw, fun p hp => ⟨_, M3, Step.lay hp, m3.lay hp, .tup (.inl ⟨.inl upd_same, m3.free hp⟩) ((r.cut l u).mono (Step.lay hp)), q3⟩⟩))
    | lst ds =>
      cases p3 with | lst h1 r =>
      refine .inl (.inl (.inl ⟨_, _, rfl, SqL.of3 h1, fun p hp => ?_⟩))
      exact ⟨_, M3, Step.lay hp, m3.lay hp, .lst (.inl ⟨.inl upd_same, m3.free hp⟩) ((r.cut l u).mono (Step.lay hp)), q3⟩
    | _ => exact (q3 : False).elim
  obtain ⟨T, id, hT, ht, hg⟩ := (((sl_list.or sl_tup).or sl_str).or sl_tupW) pins { s3 with heap := s3.heap.push { cls := .type "slice", data := .fields #[vl, vu, .none] } } σv H3 xv v vl vu l u s3.heap.objs.size _ I4 rv1 (Heap.IsSliceOf.new ..) pl pu fin
  show wpAny (model X.prog X.w) X.A (subscriptTail e (.Slice lo hi none p2) v (.ref s3.heap.objs.size)) (EP3 X pins σv M H Q) X.xe { s3 with heap := s3.heap.push { cls := .type "slice", data := .fields #[vl, vu, .none] } }
  exact tail_any (ops := [.ref s3.heap.objs.size, v]) ht hT (thn hg fun _ _ z => (ep_up z).trans ((st1.trans st2).trans st3)) (by with_unfolding_all rfl)
end
end L3
set_option Elab.async false
set_option linter.all false
set_option maxRecDepth 100000
namespace L2
open PySem PySem.Spec PyProof.Rows
theorem frame_data {h base : Heap} {l : List Env} (f : h.FunFrames base l) {b : Addr} (hb : b ∈ frs l) : ∃ o, h.get? b = some o ∧ ∀ vs, o.data ≠ .fields vs := (f.mem hb).2
end L2
namespace L3
open PySem PySem.Spec PyProof.Rows L2
section
variable {X : Cx} {st : Stmt} {rest : List Stmt} {t u : TX3} {pos np cpos : Pos}
theorem SP3.unwish {E : Value → Shared → Prop} {pins : List (Addr × Obj)} {M : Mem} {H : Hp} {T : Ends3} {f : Flow} {s' : Shared} (h : SP3 (X.wish E) pins M H T f s') : SP3 X pins M H T f s' := by
  cases f with
  | next => obtain ⟨σ', σv', M', H', I, r⟩ := h; exact ⟨σ', σv', M', H', I.unwish, r⟩
  | brk => obtain ⟨σ', σv', M', H', I, r⟩ := h; exact ⟨σ', σv', M', H', I.unwish, r⟩
  | cont => obtain ⟨σ', σv', M', H', I, r⟩ := h; exact ⟨σ', σv', M', H', I.unwish, r⟩
  | ret u => obtain ⟨d, v, σv', M', H', I, r⟩ := h; exact ⟨d, v, σv', M', H', I.unwish, r⟩
theorem own_obj {K : PySem.W.Frag} {h : Heap} {C : Addr} {bmB : List Value} {newId : String} (X : K.In h) (q : PySem.W.excIn K C bmB newId = true) :
    ∃ bm N nm qn bs hdct sn sub ab col dd k0 k1 k2 k3 k5 mN, h.get? C = some (excClassObj nm qn C N bs bm hdct sn sub ab col dd k0 k1 k2 k3 k5 newId) ∧ h.Ns N mN ∧ mN "__init__" = none ∧ OwnTail h bmB bm := by
  unfold PySem.W.excIn at q
  split at q
  · rename_i dd cd sl ho
    split at q
    · rename_i C' bm k0 k1 k2 k3 n k5 hm hs
      simp only [Bool.and_eq_true, beq_iff_eq, Bool.not_eq_true'] at q
      obtain ⟨⟨⟨⟨⟨rfl, rfl⟩, hdel⟩, ht⟩, hok⟩, hni⟩ := q
      obtain ⟨nm, bs, mro, ns, qn, hd, sn, sub, ab, col, del⟩ := cd
      dsimp only at hm hdel hok hni
      subst hm hdel
      have hsl : sl = #[k0, k1, k2, k3, some (.builtin n), k5] := by
        obtain ⟨l⟩ := sl
        simp only at hs
        rw [hs]
      subst hsl
      exact ⟨bm, ns, nm, qn, bs, hd, sn, sub, ab, col, dd, k0, k1, k2, k3, k5, _, X _ _ ho, .of_isNs (PySem.W.isNs_of_in X hok), PySem.W.nsMap_none_of_in X hok hni, PySem.W.tail_of_in X ht⟩
    · cases q
  · cases q
def bmV : List Value := [.type "ValueError", .type "Exception", .type "BaseException", .type "object"]
end
section
variable {P : Program} {w : World} {K : PySem.W.Frag} {mg : Str → Option Value} {base : Heap}
end
end L3
set_option Elab.async false
set_option linter.all false
set_option maxRecDepth 100000
namespace L2
open PySem PySem.Spec PyProof.Rows
theorem ObjOk.get {P : Program} {w : World} {H : Hp} {h : Heap} {a : Addr} {o : HO} (x : ObjOk P w H h a o) : ∃ u, h.get? a = some u := by
  cases o with
  | lst xs => obtain ⟨_, _, _, _, e⟩ := x; exact ⟨_, e⟩
  | tup xs => obtain ⟨_, _, _, u, e, _⟩ := x; exact ⟨u, e⟩
  | dK kvs => obtain ⟨_, _, _, _, o, _, _, e, _⟩ := x; exact ⟨_, e⟩
  | dT kvs => obtain ⟨_, _, _, _, o, _, _, e, _⟩ := x; exact ⟨_, e⟩
  | set S n => obtain ⟨o, _, _, _, e, _⟩ := x; exact ⟨_, e⟩
  | ins C dx fs => obtain ⟨_, _, _, e, _⟩ := x; exact ⟨_, e⟩
  | own y => exact x
  | xd fs => obtain ⟨_, ⟨_, _, _, e, _⟩, _⟩ := x; exact ⟨_, e⟩
  | rng lo hi => obtain ⟨_, _, _, e⟩ := x; exact ⟨_, e⟩
  | frz ob u => obtain ⟨e, _⟩ := x; exact ⟨_, e⟩
  | tbl ps => exact ⟨_, (show h.get? a = some _ from x)⟩
  | met f y => exact ⟨_, (show h.get? a = some _ from x)⟩
  | ext φ => exact x.2.1
section
variable {X : Cx} {pins : List (Addr × Obj)} {σ : St} {H H2 : Hp} {s s1 : Shared} {ea : Addr} {cls a0 : Value} {B h6 : Heap}
theorem Inv.caught (I : Inv X pins σ H s) (ho : s1.os = s.os) (hg : AllBare s1.gens) (fl : Heap.FlyingW B X.stack ea cls a0 s1.heap) (un : Un (frs X.stack) [] H H2 s.heap s1.heap)
    (hB : ∀ b o, s.heap.get? b = some o → b ∉ frs X.stack → ∃ o', B.get? b = some o' ∧ (H b = none → o' = o)) (hok : HOk X.prog X.w H2 B) (st : B.StaysIn h6) (sm : s1.heap.UpToSlots h6) (t : Nat) : Inv X pins σ H2 { s1 with heap := h6, toks := t } := by
  have sl : ∀ b ∈ frs X.stack, ∀ o, s1.heap.get? b = some o → ∃ sl, h6.get? b = some { o with slots := sl } := fun b hb o e => by
    obtain ⟨o', e', hd⟩ := frame_data fl.2.2.1 hb
    rw [e] at e'; cases e'
    exact sm b o e hd
  have un' : Un (frs X.stack) [] H H2 s.heap h6 := by
    refine ⟨fun b o e n hb _ => ?_, fun b o e n hb hx => ?_, un.free, fun b o e hx => ?_, un.tups, un.frzs, un.tbls⟩
    · obtain ⟨o', e', q⟩ := hB b o e hb
      rw [q n] at e'
      exact st b o e'
    · obtain ⟨s0, e1⟩ := un.slot b o e n hb hx
      obtain ⟨s0', e2⟩ := sl b hb _ e1
      exact ⟨s0', e2⟩
    · by_cases hb : b ∈ frs X.stack
      · obtain ⟨o', e1⟩ := un.there b o e hx
        obtain ⟨s0, e2⟩ := sl b hb o' e1
        exact ⟨_, e2⟩
      · obtain ⟨o', e', _⟩ := hB b o e hb
        exact ⟨o', st b o' e'⟩
  exact I.call' (s' := { s1 with heap := h6, toks := t }) (ch := []) ho un' (hok.kept st) hg fun _ z => nomatch z
theorem free_of (hok : HOk X.prog X.w H2 B) (hn : B.get? ea = none) : H2 ea = none := by
  cases e : H2 ea with
  | none => rfl
  | some o =>
    obtain ⟨u, e'⟩ := (hok ea o e).get
    rw [hn] at e'; cases e'
theorem unbind_ok {M : Model} {A : Around} {E : Value → Shared → Prop} {i : Nat} {x : Str} {pos : Pos} {Q : Unit → Shared → Prop} (I : Inv X pins σ H s) (hN : X.N.Nodup) (hi : X.N[i]? = some x) (hk : X.env.scope.names.lookup x = some .local)
    (h : ∀ s', Inv X pins (σ.set i none) H s' → Q () s') : wpAny M A (do bindName X.env x .none; unbindBehindTheSuite X.env x pos) Q E s := by
  have hcls : (X.env.scope.kind == .class || (X.env.scope.kind == .module && X.env.locals != X.env.globals)) = false := by rw [I.ok.kind]; rfl
  refine wpAny_bind (wpAny_bindName (store_ok I hN hi (.inl hk) (v := .non) rfl (fun s1 I1 => ?_) (.inr hk)))
  unfold unbindBehindTheSuite
  refine wpAny_onRaise ?_
  obtain ⟨m, hn, hl⟩ := id I1.loc
  have hiσ : i < σ.length := by rw [I.len]; exact (List.getElem?_eq_some_iff.mp hi).1
  have hm : ∃ u, m x = some u := by
    obtain ⟨u, _, q⟩ := hl i x .non hi (by rw [List.getElem?_set_self hiσ]) (.inl hk)
    rcases q with ⟨_, q⟩ | ⟨q, _⟩
    · exact ⟨u, q⟩
    · exfalso
      have e1 : X.env.kindOf x = some .local := hk
      rcases q with q | q <;> rw [e1] at q <;> cases q
  obtain ⟨u0, hu⟩ := hm
  refine wpAny_unbindName_local hk hn hu hcls fun h' u hn' hs => ?_
  have cne := I1.cne
  obtain ⟨oL, _, _, hoL, _⟩ := id hn
  refine h _ ⟨I1.ok, I1.os, I1.bare, ⟨fun b o e n hb hx => ?_, fun b o e n hb hx => ?_, I1.base.free, fun b o e hx => ?_, I1.base.tups, I1.base.frzs, I1.base.tbls⟩, ⟨_, hn', fun j y v' e1 e2 e3 => ?_⟩, fun y c e => ?_, I1.free, I1.freeC, fun p hp => ?_, fun b ob e => ?_, by simpa using I.len⟩
  · exact (hs.2 b (Nat.ne_of_lt (Nat.lt_of_lt_of_le (Heap.lt_size e) I1.ok.above))).trans (I1.base.keep b o e n hb hx)
  · obtain ⟨sl, e1⟩ := I1.base.slot b o e n hb hx
    exact ⟨sl, (hs.2 b (Nat.ne_of_lt (Nat.lt_of_lt_of_le (Heap.lt_size e) I1.ok.above))).trans e1⟩
  · obtain ⟨o', e1⟩ := I1.base.there b o e hx
    exact ⟨o', (hs.2 b (Nat.ne_of_lt (Nat.lt_of_lt_of_le (Heap.lt_size e) I1.ok.above))).trans e1⟩
  · by_cases hj : j = i
    · subst hj
      rw [List.getElem?_set_self hiσ] at e2
      cases e2
    · rw [List.getElem?_set_ne (Ne.symm hj)] at e2
      obtain ⟨u', r', q⟩ := hl j y v' e1 (by rw [List.getElem?_set_ne (Ne.symm hj)]; exact e2) e3
      refine ⟨u', r', ?_⟩
      rcases q with ⟨k, e⟩ | ⟨k, c, e, z⟩
      · refine .inl ⟨k, ?_⟩
        have : y ≠ x := fun e => hj (nodup_ix hN e1 (e ▸ hi))
        simp [this, e]
      · exact .inr ⟨k, c, e, z.sameBut hs (cne y c e)⟩
  · obtain ⟨w', z⟩ := I1.cell y c e
    exact ⟨w', z.sameBut hs (cne y c e)⟩
  · obtain ⟨e, n, ne, nf, d⟩ := I1.pin p hp
    exact ⟨(hs.2 p.1 ne).trans e, n, ne, nf, d⟩
  · have hfree := I1.free
    refine (I1.hok b ob e).stay (fun c w' hc q => (hs.2 c ?_).trans q) (fun _ q => q) fun _ _ q => q
    rintro rfl
    rcases hc with rfl | hc
    · rw [hfree] at e; cases e
    · rw [hfree] at hc; cases hc
end
end L2
set_option Elab.async false
set_option linter.all false
set_option maxRecDepth 100000
namespace PySem.W
open PySem PySem.Spec PySem.Calls PyProof.Rows
section
variable {prog : Program} {w : World} {A : Around} {E : Value → Shared → Prop} {h : Heap} {g : Array GenState} {d : Drawn} {t : Nat} {os : OsState} {a C : Addr} {o : Obj} {K : Frag}
structure ExcK (K : Frag) (C : Addr) : Prop where
  ga : findIn K (.ref C) "__getattribute__" = some (some (.builtin "BaseException.__getattribute__"))
  gt : findIn K (.ref C) "__getattr__" = some none
  cl : findIn K (.ref C) "__class__" = some (some (.builtin "object.__class__"))
  sb : subIn K (.ref C) (.type "BaseException") = some true
  so : subIn K (.ref C) (.type "object") = some true
theorem class_get_exc {R : Result → Shared → Prop} (Z : ExcK K C) (X : K.In h) (hx : h.get? a = some o) (hc : o.cls = .ref C) (hq : R (.ok (.ret (.ref C))) ⟨h, g, d, t, os⟩) :
    codeAny (model prog w) A (.call (.builtin "getset_descriptor.__get__") ⟨[.builtin "object.__class__", .ref a, .ref C], []⟩) R ⟨h, g, d, t, os⟩ := by
  have hT5 : (⟨h, g, d, t, os⟩ : Shared).TypeIs (.builtin "object.__class__") "getset_descriptor" := F.typeOf_object_class
  have LS : Looks (model prog w) h (isSubtype (.ref C) (.type (".".intercalate ("object.__class__".cutAt '.').dropLast))) true := by
    rw [F.owner_object_class]; exact looks_subIn X Z.so
  refine codeAny_call_builtin F.slot_gs_get.plain F.entry_gs_get (F.slot_gs_get.check _ _ _ _ _ _ _ _ hT5 (F.args_gs_get _ _ _) ?_)
  repeat (any_goals (first | assumption | (with_reducible refine wpAny_loadPart_at hx ?_; rw [hc]) | with_reducible refine LS.at ?_ | wp_step))
  refine ⟨Code.quiet_builtin _ (by decide +kernel), codeAny_builtin F.entry_object_class ?_⟩
  repeat (any_goals (first | assumption | (with_reducible refine wpAny_loadPart_at hx ?_; rw [hc]) | wp_step))
theorem check_ga_exc {M : Model} {nameV : Value} {Q : Unit → Shared → Prop} (Z : ExcK K C) (X : K.In h) (hx : h.get? a = some o) (hc : o.cls = .ref C) (hq : Q () ⟨h, g, d, t, os⟩) : wpAny M A (checkBuiltinCall "BaseException.__getattribute__" ⟨[.ref a, nameV], []⟩) Q E ⟨h, g, d, t, os⟩ := by
  have hk : builtinKind "BaseException.__getattribute__" = some .slot := by decide +kernel
  have hsplit : splitId "BaseException.__getattribute__" = some ("BaseException", "__getattribute__") := by decide +kernel
  have LS : Looks M h (isSubtype (.ref C) (.type "BaseException")) true := looks_subIn X Z.sb
  have ha := F.args_bexc_ga (.ref a) nameV
  simp only [checkBuiltinCall, hk, hsplit]
  refine wpAny_bind ?_
  · unfold isInstance
    repeat (first | (with_reducible refine wpAny_loadPart_at hx ?_; rw [hc]) | with_reducible refine LS.at ?_ | wp_step)
    exact hq
theorem class_entry_exc {tk : Tok} {Q : Fin → Shared → Prop} (Z : ExcK K C) (X : K.In h) (hx : h.get? a = some o) (hc : o.cls = .ref C) (hq : Q (.done (.ret (.ref C))) ⟨h, g, d, t, os⟩) :
    wpAny (model prog w) A (Builtin.«object.__getattribute__» ⟨[.ref a, .str "__class__" tk], []⟩) Q E ⟨h, g, d, t, os⟩ := by
  have hT5 : (⟨h, g, d, t, os⟩ : Shared).TypeIs (.builtin "object.__class__") "getset_descriptor" := F.typeOf_object_class
  have f5 := F.typeOf_object_class
  have f6 := F.slot_gs_get.lookup
  have f7 := F.slot_gs_set.lookup
  have LC : Looks (model prog w) h (typeLookup (.ref C) "__class__") (some (.builtin "object.__class__")) := looks_findIn X Z.cl
  repeat (any_goals (first | assumption | (with_reducible refine wpAny_loadPart_at hx ?_; rw [hc]) | with_reducible refine LC.at ?_ | wp_step))
  refine class_get_exc Z X hx hc ?_
  repeat (any_goals (first | assumption | wp_step))
theorem class_call_exc {tk : Tok} {R : Result → Shared → Prop} (Z : ExcK K C) (X : K.In h) (hx : h.get? a = some o) (hc : o.cls = .ref C) (hq : R (.ok (.ret (.ref C))) ⟨h, g, d, t, os⟩) :
    codeAny (model prog w) A (.call (.builtin "BaseException.__getattribute__") ⟨[.ref a, .str "__class__" tk], []⟩) R ⟨h, g, d, t, os⟩ :=
  codeAny_call_builtin (by decide +kernel) F.entry_bexc_ga (check_ga_exc Z X hx hc (class_entry_exc Z X hx hc hq))
theorem class_by_exc {tk : Tok} {Q : Value → Shared → Prop} (Z : ExcK K C) (X : K.In h) (hx : h.get? a = some o) (hc : o.cls = .ref C) (f3 : bindSpecial (.builtin "BaseException.__getattribute__") (.ref a) = pure (.builtin "BaseException.__getattribute__", [.ref a])) (hq : Q (.ref C) ⟨h, g, d, t, os⟩) : wpAny (model prog w) A (getAttrBy (.ref a) (.str "__class__" tk) false) Q E ⟨h, g, d, t, os⟩ := by
  have hx2 : (Value.builtin "BaseException.__getattribute__" == Value.builtin "object.__getattribute__") = false := by decide +kernel
  have hx1 : (onTheHeap (Value.ref C) && Value.builtin "BaseException.__getattribute__" == Value.builtin "object.__getattribute__") = false := by rw [hx2]; rfl
  have L1 : Looks (model prog w) h (typeLookup (.ref C) "__getattribute__") (some (.builtin "BaseException.__getattribute__")) := looks_findIn X Z.ga
  have L2 : Looks (model prog w) h (typeLookup (.ref C) "__getattr__") none := looks_findIn X Z.gt
  repeat (any_goals (first | assumption | (with_reducible refine wpAny_loadPart_at hx ?_; rw [hc]) | with_reducible refine L1.at ?_ | with_reducible refine L2.at ?_ | wp_step))
  refine class_call_exc Z X hx hc ?_
  repeat (any_goals (first | assumption | wp_step))
theorem class_attr_exc {Q : Option Value → Shared → Prop} (Z : ExcK K C) (X : K.In h) (hx : h.get? a = some o) (hc : o.cls = .ref C) (hq : Q (some (.ref C)) ⟨h, g, d, t + 1, os⟩) : wpAny (model prog w) A (getAttr? (.ref a) "__class__") Q E ⟨h, g, d, t, os⟩ := by
  have f3 : bindSpecial (.builtin "BaseException.__getattribute__") (.ref a) = pure (.builtin "BaseException.__getattribute__", [.ref a]) := PySem.F.attr_ValueError.ga.bind (.ref a)
  unfold getAttr? getAttrBy?
  repeat (any_goals (first | assumption | with_reducible apply class_by_exc Z X hx hc f3 | wp_step))
theorem kitx_exc (Z : ExcK K C) (hcl : (clsIn K C).isSome = true) : KitX K (.ref a) (.ref C) (fun h => ∃ o, h.get? a = some o ∧ o.cls = .ref C) where
  ty := fun M h _ p => by obtain ⟨o, h1, h2⟩ := p; exact h2 ▸ (Looks.ld h1).andThen .now
  it := fun _ _ X _ => by
    unfold clsIn at hcl
    split at hcl
    · rename_i c' d' cd' sl' ho
      intro A' Q' E' s' k q
      unfold isType loadHead
      exact wpAny_bind (wpAny_loadPart (k _ _ (X _ _ ho)) (wpAny_pure q))
    · cases hcl
  ne := fun h tp dd its n sl X htp => by
    refine Bool.eq_false_iff.mpr fun q => ?_
    have e : C = tp := Value.ref.inj (beq_iff_eq.mp q)
    subst e
    unfold clsIn at hcl
    split at hcl
    · rename_i c' d' cd' sl' ho
      have z := (X _ _ ho).symm.trans htp
      cases z
    · cases hcl
  ca := fun {prog w A E Q s} X p k => by
    obtain ⟨o, h1, h2⟩ := p
    obtain ⟨h, g, d, t, os⟩ := s
    exact class_attr_exc Z X h1 h2 k
end
end PySem.W
set_option Elab.async false
set_option linter.all false
set_option maxRecDepth 100000
namespace L2
open PySem PySem.Spec PyProof.Rows
abbrev Cx.pin1 (X : Cx) (p : Addr × Obj) : Cx := { X with pn := p :: X.pn }
section
variable {X : Cx} {pins : List (Addr × Obj)} {σ : St} {H : Hp} {s : Shared} {p : Addr × Obj}
theorem Cx.Ok.pin1 (ok : X.Ok) (p : Addr × Obj) : (X.pin1 p).Ok := ⟨ok.mod, ok.kind, ok.glob, ok.blt, ok.above, ok.inj, ok.has, ok.cab, ok.hd, ok.frames, ok.stk, ok.exf, ok.bs, ok.bsz, ok.noex, ok.exfs, ok.funs, ok.frf⟩
theorem Cx.Ok.unpin (ok : (X.pin1 p).Ok) : X.Ok := ⟨ok.mod, ok.kind, ok.glob, ok.blt, ok.above, ok.inj, ok.has, ok.cab, ok.hd, ok.frames, ok.stk, ok.exf, ok.bs, ok.bsz, ok.noex, ok.exfs, ok.funs, ok.frf⟩
theorem Inv.pin1 (I : Inv X pins σ H s) (hp : s.heap.get? p.1 = some p.2 ∧ H p.1 = none ∧ p.1 ≠ X.env.locals ∧ p.1 ∉ X.fs ∧ ∀ v, p.2.data ≠ .cell v) : Inv (X.pin1 p) pins σ H s :=
  ⟨I.ok.pin1 p, I.os, I.bare, I.base, I.loc, I.cell, I.free, I.freeC, fun q hq => by
    rcases List.mem_cons.mp (show q ∈ p :: (X.pn ++ pins) from hq) with rfl | hq
    · exact hp
    · exact I.pin q hq, I.hok, I.len⟩
theorem Inv.unpin (I : Inv (X.pin1 p) pins σ H s) : Inv X pins σ H s := ⟨I.ok.unpin, I.os, I.bare, I.base, I.loc, I.cell, I.free, I.freeC, fun q hq => I.pin q (List.mem_cons_of_mem _ hq), I.hok, I.len⟩
end
theorem ld_local {X : Cx} {A : Around} {pins : List (Addr × Obj)} {σ : St} {H : Hp} {s : Shared} {E : Value → Shared → Prop} {Q : Value → Shared → Prop} {i : Nat} {x : Str} {pos : Pos} {v : V} (I : Inv X pins σ H s) (hN : X.N[i]? = some x) (hk : X.env.scope.names.lookup x = some .local)
    (e : σ[i]? = some (some v)) (h : ∀ u, RelV v u → Q u s) (hd : (x == ("__debug__" : Str)) = false := by decide) : wpAny (model X.prog X.w) A (eval (.Name x pos) X.env) Q E s := by
  obtain ⟨m, hn, hl⟩ := I.loc
  obtain ⟨u, r, l⟩ := hl i x v hN e (.inl hk)
  rcases l with ⟨hk', hm⟩ | ⟨q, _⟩
  · exact wpAny_Name (wpAny_loadName_local I.ok.kind hk' hn hm (h u r)) hd
  · exfalso
    have e1 : X.env.kindOf x = some .local := hk
    rcases q with q | q <;> rw [e1] at q <;> cases q
theorem ld_globA {X : Cx} {A : Around} {E : Value → Shared → Prop} {pins : List (Addr × Obj)} {s : Shared} {σ : St} {H : Hp} {x : Str} {u : Value} {pos : Pos} {Q : Value → Shared → Prop} (I : Inv X pins σ H s) (hg : Gl X x) (hm : X.mg x = some u) (h : Q u s)
    (hd : (x == ("__debug__" : Str)) = false := by decide) : wpAny (model X.prog X.w) A (eval (.Name x pos) X.env) Q E s :=
  Calls.Name_function_global I.ok.kind hg (Calls.loadGlobal_global (by rw [I.ok.glob]; exact I.mod.glob.keeps I.bk) hm h) hd
end L2
namespace L3
open PySem PySem.Spec PyProof.Rows L2
theorem SRel.unset {K : PySem.W.Frag} {M : Mem} {H : Hp} {σ : Lo} {σv : L2.St} (r : SRel K M H σ σv) (i : Nat) : SRel K M H (σ.set i none) (σv.set i none) := by
  refine ⟨by simp [r.len], fun j d h => ?_⟩
  by_cases hij : i = j
  · subst hij
    rw [List.getElem?_set] at h
    rw [if_pos rfl] at h
    split at h <;> cases h
  · rw [List.getElem?_set_ne hij] at h ⊢
    exact r.get j d h
section
variable {X : Cx} {k : Nat} {f C : Addr} {fd : FuncData} {ps : List Str} {sp : SpX3} {fx cx xi xj xl : Str} {i j l : Nat} {e : Expr} {es : List Expr} {ta : TA3} {p cp ap tp np hp pi pj pl ap2 : Pos}
end
end L3
set_option Elab.async false
set_option linter.all false
set_option maxRecDepth 100000
namespace PySem.SeqAt
theorem RcAt.str_dict {A : Around} {s : Shared} {l : Addr} {o : Obj} {es : Array DictEntry} {n : Nat} (b : Str) (u : Tok) (ho : s.heap.get? l = some o) (hc : o.cls = .type "dict") (hd : o.data = .dict es n) (hu : A.units < cLine) : RcAt A s (.str b u) (.ref l) false := fun prog w E Q h => by
  obtain ⟨cls, dd, data, sl⟩ := o
  simp only at hc hd
  subst hc hd
  exact rc_eq_decline_or (k := false) (typeIs_str s b u) ⟨_, ho, rfl⟩ (by decide) F.sub_dict_str F.slot_str_eq F.slot_dict_eq_refl
    (fun _ hq => call_meets F.slot_str_eq (typeIs_str s b u) F.entry_str_eq (F.args_str_eq_2 _ _) (str_eq_declines_dict b u l es n dd sl) ⟨ho, hq⟩)
    (fun _ hq => call_meets F.slot_dict_eq_refl ⟨_, ho, rfl⟩ F.entry_dict_eq (F.args_dict_eq_2 _ _) (dict_eq_declines_str l es n dd sl b u) ⟨ho, hq⟩)
    (fun _ hq => wpAny_of_eq (rfl : isSame (.str b u) (.ref l) = pure false) hq) (.inr hu) h
end PySem.SeqAt
namespace L3
open PySem PySem.Spec PyProof.Rows L2
section
variable {X : Cx} {pos : Pos}
def rEqF3 : R3 := fun x y M Q => rEqE3 x y M Q ∨ ∃ kvs z, x = .str z ∧ y = .dct kvs ∧ Q (.bl false) M
theorem o3_eqF {k : Nat} (hr : Room k X.A) : OpR3 X (compareOp .Eq) rEqF3 := by
  intro pins s σv H M x y xv yv v u Q I m rx ry px py h
  rcases h with h | ⟨kvs, z, rfl, rfl, q⟩
  · exact o3_eqE hr pins s σv H M x y xv yv v u Q I m rx ry px py h
  · cases px
    obtain ⟨t, rfl⟩ := rx
    cases py with
    | dct hx r =>
      cases ry
      obtain ⟨_, _, us, _, o, es, ep, h1, h2, h3, _⟩ := dk_rd I.hok hx.1
      exact SeqAt.RcAt.str_dict z t h1 h2.1 h3 (by have := hr.units; lia) X.prog X.w X.xe _ ⟨_, .bl _, M, H, I, .refl, m, rfl, .bl, q⟩
def clsV : D → Option Value
  | .ref a => some (.ref a)
  | .ty n => some (.type n)
  | _ => none
theorem rep_cls {K : PySem.W.Frag} {M : Mem} {H : Hp} {d : D} {v : V} {u c : Value} (e : clsV d = some c) (p : Rep K M H d v) (r : RelV v u) : u = c := by
  cases d <;> first | cases e | skip
  · cases p; exact r
  · cases p; exact r
theorem reps_cls {K : PySem.W.Frag} {M : Mem} {H : Hp} : ∀ {ds : List D} {vs : List V} {us cs : List Value}, ds.map clsV = cs.map some → Reps K M H ds vs → Vals vs us → us = cs
  | [], _, _, cs, e, .nil, r => by cases r; cases cs with | nil => rfl | cons _ _ => cases e
  | d :: ds, _, _, cs, e, .cons p ps, r => by
    cases r with
    | cons r rs =>
      cases cs with
      | nil => cases e
      | cons c cs =>
        rw [List.map_cons, List.map_cons, List.cons.injEq] at e
        rw [rep_cls e.1 p r, reps_cls e.2 ps rs]
def rIsiP (K : PySem.W.Frag) (ea : Addr) (oe : Obj) : C3 := fun ds M Q => ∃ (C : Addr) (b : Bool), oe.cls = .ref C ∧ PySem.W.ExcK K C ∧ (PySem.W.clsIn K C).isSome = true ∧
  ((∃ c u, ds = [.ref ea, c] ∧ clsV c = some u ∧ PySem.W.kitOne K (.ref C) u = some b) ∨ ∃ cs us, ds = [.ref ea, .tup cs] ∧ cs.map clsV = us.map some ∧ PySem.W.kitAny K (.ref C) us = some b) ∧ Q (.bl b) M
theorem c3_isiP {ea : Addr} {oe : Obj} (hp : (ea, oe) ∈ X.pn) : CallR3 X (.builtin "isinstance") (rIsiP X.K ea oe) := by
  rintro pins s σv H M xs xvs us Q I m rv px ⟨C, b, hc, Z, hcl, h, q⟩
  have pin := (I.pin (ea, oe) (List.mem_append_left _ hp)).1
  have kx : PySem.W.KitX X.K (.ref ea) (.ref C) (fun h => ∃ o, h.get? ea = some o ∧ o.cls = .ref C) := PySem.W.kitx_exc Z hcl
  rcases h with ⟨c, u, rfl, e, hk⟩ | ⟨cs, us', rfl, e, hk⟩
  · obtain ⟨u1, u2, rfl, r1, r2⟩ : ∃ u1 u2, us = [u1, u2] ∧ u1 = .ref ea ∧ u2 = u := by
      rcases px with _ | ⟨p1, ps⟩
      rcases ps with _ | ⟨p2, ps2⟩
      cases ps2
      obtain ⟨u1, u2, rfl, ra, rb⟩ := vals2 rv
      cases p1
      exact ⟨u1, u2, rfl, ra, rep_cls e p2 rb⟩
    subst r1 r2
    exact PySem.W.kia_one kx I.kIn ⟨oe, pin, hc⟩ hk (fun z => nomatch z) fun tk => ⟨_, .bl _, M, H, I.tok tk, .refl, m, rfl, .bl, q⟩
  · rcases px with _ | ⟨p1, ps⟩
    rcases ps with _ | ⟨p2, ps2⟩
    cases ps2
    obtain ⟨u1, u2, rfl, ra, rb⟩ := vals2 rv
    cases p1
    obtain rfl : u1 = .ref ea := ra
    cases p2 with
    | tup h1 r1 =>
      cases rb
      obtain ⟨its, ri, ⟨⟨c0, dd, dt, sl⟩, ho, hcls, n, hd⟩, hz⟩ := I.tuple (SqT.of3 h1)
      simp only at hcls hd
      subst hcls hd
      have e2 := reps_cls e r1 ri
      subst e2
      exact PySem.W.kia_tup kx I.kIn ⟨oe, pin, hc⟩ ho hk (fun z => nomatch z) fun tk => ⟨_, .bl _, M, H, I.tok tk, .refl, m, rfl, .bl, q⟩
theorem SP3.unpin {p : Addr × Obj} {pins : List (Addr × Obj)} {M : Mem} {H : Hp} {T : Ends3} {f : Flow} {s' : Shared} (h : SP3 (X.pin1 p) pins M H T f s') : SP3 X pins M H T f s' := by
  cases f with
  | next => obtain ⟨σ', σv', M', H', I, r⟩ := h; exact ⟨σ', σv', M', H', I.unpin, r⟩
  | brk => obtain ⟨σ', σv', M', H', I, r⟩ := h; exact ⟨σ', σv', M', H', I.unpin, r⟩
  | cont => obtain ⟨σ', σv', M', H', I, r⟩ := h; exact ⟨σ', σv', M', H', I.unpin, r⟩
  | ret u => obtain ⟨d, v, σv', M', H', I, r⟩ := h; exact ⟨d, v, σv', M', H', I.unpin, r⟩
def tStop3 : TS3 := fun _ _ _ => False
theorem pss3_stop {sts : List Stmt} : PSs3 X sts tStop3 := fun _ _ _ _ _ _ _ _ _ _ h => h.elim
theorem pe3_cls {x : Str} {C : Addr} (hg : Gl X x) (hm : X.mg x = some (.ref C)) (hd : (x == ("__debug__" : Str)) = false := by decide) : PE3 X (.Name x pos) (tC3 (.ref C)) := pe3_c (pe_glob hg hm (v := .ref C) rfl hd) fun _ _ _ => .ref
end
end L3
set_option Elab.async false
set_option linter.all false
set_option maxRecDepth 100000
namespace L2
open PySem PySem.Spec PyProof.Rows
def DictAt (h : Heap) (e : Addr) (dx : Option Addr) : Prop := ∃ o, h.get? e = some o ∧ o.dict = dx
section
variable {M : Model} {A : Around} {E : Value → Shared → Prop} {s : Shared} {base : Heap} {env : Env} {outer l : List Env} {L e : Addr} {cls a0 fl : Value} {dx : Option Addr} {Q : Unit → Shared → Prop}
theorem DictAt.of {h h' : Heap} (d : DictAt h e dx) (k : h'.get? e = h.get? e) : DictAt h' e dx := by
  obtain ⟨o, ho, r⟩ := d
  exact ⟨o, k.trans ho, r⟩
theorem nofields {h : Heap} {a : Addr} {o : Obj} {vs : Array Value} (ho : h.get? a = some o) (hd : o.data = .fields vs) : ∀ b u, h.get? b = some u → (∀ ws, u.data ≠ .fields ws) → b ≠ a := by
  rintro b u hb hn rfl
  rw [ho] at hb
  cases hb
  exact hn vs hd
theorem flightD (kb : base.StaysIn s.heap) (ff : s.heap.FunFrames base l) (tr : s.heap.TracedAtW base e cls a0 fl) (da : DictAt s.heap e dx)
    (q : ∀ h', base.StaysIn h' → h'.FunFrames base l → h'.TracedW base e cls a0 → DictAt h' e dx → s.heap.UpToSlots h' → Q () { s with heap := h' }) : wpAny M A (setFlight (.ref e) none) Q E s := by
  obtain ⟨oe, vs, T, oT, ts, he, hc, hd, h1, nT, ne, hT, dT, h3⟩ := tr
  have sz := (Array.getElem?_eq_some_iff.mp h3).1
  unfold setFlight
  refine wpAny_bind (wpAny_field he hd h1 ?_)
  rw [if_pos (by simp)]
  refine wpAny_setField hT dT sz ?_
  have self := Heap.get?_update_self (Obj.mapFields fun z => z.setIfInBounds 3 ((none : Option Addr).elim Value.none fun f => rawInt f)) hT (Obj.isFreed_of_fields (Obj.data_mapFields dT _))
  have oth : ∀ b, b ≠ T → (s.heap.update T (Obj.mapFields fun z => z.setIfInBounds 3 ((none : Option Addr).elim Value.none fun f => rawInt f))).get? b = s.heap.get? b := fun b hb => Heap.get?_update_other _ _ (Ne.symm hb)
  have nf := nofields hT dT
  generalize s.heap.update T (Obj.mapFields fun z => z.setIfInBounds 3 ((none : Option Addr).elim Value.none fun f => rawInt f)) = g at self oth ⊢
  refine q g (fun b o hb => ?_) (ff.of_keeps fun b o hb hn => ⟨o, (oth b (nf b o hb hn)).trans hb, rfl⟩) ⟨oe, vs, T, _, _, (oth e (Ne.symm ne)).trans he, hc, hd, h1, nT, ne, self, Obj.data_mapFields dT _, by simp [sz]⟩ (da.of (oth e (Ne.symm ne))) fun b o hb hn => ⟨o.slots, (oth b (nf b o hb hn)).trans hb⟩
  exact (oth b (by rintro rfl; rw [nT] at hb; cases hb)).trans (kb b o hb)
theorem entryD {oe : Obj} {vs : Array Value} {head : Value} {nx : Bool} (hfr : A.frames = some (env :: outer)) (ff : s.heap.FunFrames base (env :: outer)) (hf : env.frame = some L) (he : s.heap.get? e = some oe) (kb : base.StaysIn s.heap) (be : base.get? e = none) (hd : oe.data = .fields vs) (sz : 1 < vs.size) (h0 : vs[0]? = some a0)
    (q : ∀ h', base.StaysIn h' → h'.FunFrames base (env :: outer) → h'.TracedAtW base e oe.cls a0 (rawInt L) → DictAt h' e oe.dict → s.heap.UpToSlots h' → Q () { s with heap := h' }) :
    wpAny M A (do let a ← frameOf env; let pl ← entryPlaceOf L nx; let b ← EntryCells.newEntry head a .none (rawInt L) .none pl; setField (.ref e) 1 b) Q E s := by
  have nfr : e ∉ (env :: outer).filterMap (·.frame) := fun z => by
    obtain ⟨_, u, hu, hn⟩ := ff.mem z
    rw [he] at hu
    cases hu
    exact hn vs hd
  refine wpAny_bind (wpAny_frameOf_fun hfr ff hf fun g so => ?_)
  refine wpAny_bind (wpAny_entryPlaceOf fun pl hp => ?_)
  unfold EntryCells.newEntry newFields
  refine wpAny_bind (wpAny_newObj_type ?_ (hp.sizeOk5 _ _ _ _ _))
  have ge : g.get? e = some oe := (so.2.1 e nfr).trans he
  have gb : base.StaysIn g := fun b o hb => (so.2.1 b fun z => by rw [(ff.mem z).1] at hb; cases hb).trans (kb b o hb)
  have p1 : (([head, Value.ref L, .none, rawInt L, .none] ++ (if pl.isEmpty then List.replicate 6 Value.none else pl)).toArray)[3]? = some (rawInt L) := by rcases hp with rfl | ⟨_, _, _, _, _, _, _, rfl⟩ <;> simp
  dsimp only
  generalize ([head, Value.ref L, .none, rawInt L, .none] ++ (if pl.isEmpty then List.replicate 6 Value.none else pl)).toArray = fs at p1 ⊢
  have ge2 := Heap.get?_push_of_some (h := g) { cls := .type "traceback", dict := none, data := .fields fs } ge
  refine wpAny_setField ge2 hd sz ?_
  have ne : g.objs.size ≠ e := Nat.ne_of_gt (Heap.lt_size ge)
  have d3 := Obj.data_mapFields hd (fun z => z.setIfInBounds 1 (Value.ref g.objs.size))
  have self := Heap.get?_update_self (Obj.mapFields fun z => z.setIfInBounds 1 (Value.ref g.objs.size)) ge2 (Obj.isFreed_of_fields d3)
  have oth : ∀ b, b ≠ e → ((g.push { cls := .type "traceback", dict := none, data := .fields fs }).update e (Obj.mapFields fun z => z.setIfInBounds 1 (Value.ref g.objs.size))).get? b = (g.push { cls := .type "traceback", dict := none, data := .fields fs }).get? b := fun b hb => Heap.get?_update_other _ _ (Ne.symm hb)
  have new : ((g.push { cls := .type "traceback", dict := none, data := .fields fs }).update e (Obj.mapFields fun z => z.setIfInBounds 1 (Value.ref g.objs.size))).get? g.objs.size = some { cls := .type "traceback", dict := none, data := .fields fs } := (oth _ ne).trans (Heap.get?_push_size g rfl)
  have keep : ∀ b o, b ≠ e → g.get? b = some o → ((g.push { cls := .type "traceback", dict := none, data := .fields fs }).update e (Obj.mapFields fun z => z.setIfInBounds 1 (Value.ref g.objs.size))).get? b = some o := fun b o hb e => (oth b hb).trans (Heap.get?_push_of_some _ e)
  have nf := nofields he hd
  show Q () { s with heap := (g.push { cls := .type "traceback", dict := none, data := .fields fs }).update e (Obj.mapFields fun z => z.setIfInBounds 1 (Value.ref g.objs.size)) }
  generalize (g.push { cls := .type "traceback", dict := none, data := .fields fs }).update e (Obj.mapFields fun z => z.setIfInBounds 1 (Value.ref g.objs.size)) = g3 at self oth new keep ⊢
  refine q g3 (fun b o hb => keep b o (by rintro rfl; rw [be] at hb; cases hb) (gb b o hb)) (ff.of_keeps fun b o hb hn => ?_) ⟨_, _, g.objs.size, _, _, self, ⟨Obj.cls_mapFields _ _, by rw [Array.getElem?_setIfInBounds_ne (by decide)]; exact h0⟩, d3, by simp [sz], gb.fresh, ne, new, rfl, p1⟩ ⟨_, self, ?_⟩ fun b o hb hn => ?_
  · obtain ⟨sl, z⟩ := so.2.2 b o hb
    exact ⟨_, keep b _ (nf b o hb hn) z, rfl⟩
  · obtain ⟨c, dd, dt, sl⟩ := oe
    cases hd
    rfl
  · obtain ⟨sl, z⟩ := so.2.2 b o hb
    exact ⟨sl, keep b _ (nf b o hb hn) z⟩
theorem looksD (hfr : A.frames = some (env :: outer)) (hf : env.frame = some L) (x : Heap.FlyingW base (env :: outer) e cls a0 s.heap) (da : DictAt s.heap e dx)
    (q : ∀ h', Heap.HeldW base (env :: outer) e cls a0 L h' → DictAt h' e dx → s.heap.UpToSlots h' → Q () { s with heap := h' }) : wpAny M A (noteFrame (.ref e) env) Q E s := by
  obtain ⟨kb, be, ff, oe, vs, T, oT, ts, he, ⟨rfl, h0⟩, hd, h1, nT, ne, hT, dT, h3⟩ := x
  unfold noteFrame
  simp only [hf]
  refine wpAny_bind (wpAny_field he hd h1 ?_)
  rw [if_pos (by simp)]
  refine wpAny_bind (wpAny_field hT dT h3 ?_)
  rw [if_neg (by simp [rawInt])]
  refine wpAny_bind (wpAny_setField hT dT (Array.getElem?_eq_some_iff.mp h3).1 ?_)
  have oth : ∀ b, b ≠ T → (s.heap.update T (Obj.mapFields fun z => z.setIfInBounds 3 Value.none)).get? b = s.heap.get? b := fun b hb => Heap.get?_update_other _ _ (Ne.symm hb)
  have nf := nofields hT dT
  generalize s.heap.update T (Obj.mapFields fun z => z.setIfInBounds 3 Value.none) = g at oth ⊢
  have ge : g.get? e = some oe := (oth e (Ne.symm ne)).trans he
  obtain ⟨o', ho', rfl⟩ := da
  rw [he] at ho'
  cases ho'
  refine entryD (s := { s with heap := g }) hfr (ff.of_keeps fun b o hb hn => ⟨o, (oth b (nf b o hb hn)).trans hb, rfl⟩) hf ge (fun b o hb => (oth b (by rintro rfl; rw [nT] at hb; cases hb)).trans (kb b o hb)) be hd (Array.getElem?_eq_some_iff.mp h1).1 h0 fun h' k1 k2 k3 k4 k5 => q h' ⟨k1, be, k2, k3⟩ k4 fun b o hb hn => k5 b o ((oth b (nf b o hb hn)).trans hb) hn
theorem leavesD {oe : Obj} {vs : Array Value} (hfr : A.frames = some (env :: outer)) (ff : s.heap.FunFrames base (env :: outer)) (hf : env.frame = some L) (he : s.heap.get? e = some oe) (kb : base.StaysIn s.heap) (be : base.get? e = none) (hd : oe.data = .fields vs) (h1 : vs[1]? = some .none) (h0 : vs[0]? = some a0)
    (q : ∀ h', Heap.FlyingW base outer e oe.cls a0 h' → DictAt h' e oe.dict → s.heap.UpToSlots h' → Q () { s with heap := h' }) : wpAny M A (leaving env (.ref e)) Q E s := by
  unfold leaving noteFrame
  simp only [hf]
  refine wpAny_bind (wpAny_bind (wpAny_field he hd h1 ?_))
  rw [if_neg (by decide)]
  refine entryD hfr ff hf he kb be hd (Array.getElem?_eq_some_iff.mp h1).1 h0 fun g k1 k2 k3 k4 k5 => ?_
  refine flightD (s := { s with heap := g }) k1 k2 k3 k4 fun h' j1 j2 j3 j4 j5 => ?_
  obtain ⟨_, _, j2⟩ := j2
  exact q h' ⟨j1, be, j2, j3⟩ j4 (k5.trans j5)
theorem landsD (x : Heap.HeldW base l e cls a0 L s.heap) (da : DictAt s.heap e dx) (q : ∀ h', Heap.FlyingW base l e cls a0 h' → DictAt h' e dx → s.heap.UpToSlots h' → Q () { s with heap := h' }) : wpAny M A (setFlight (.ref e) none) Q E s := by
  obtain ⟨f1, f2, f3, f4⟩ := x
  exact flightD f1 f3 f4 da fun h' k1 k2 k3 k4 k5 => q h' ⟨k1, f2, k2, k3⟩ k4 k5
theorem againD (x : Heap.FlyingW base l e cls a0 s.heap) (da : DictAt s.heap e dx) (q : ∀ h', Heap.FlyingW base l e cls a0 h' → DictAt h' e dx → s.heap.UpToSlots h' → Q () { s with heap := h' }) : wpAny M A (setFlight (.ref e) none) Q E s := by
  obtain ⟨f1, f2, f3, f4⟩ := x
  exact flightD f1 f3 f4.at da fun h' k1 k2 k3 k4 k5 => q h' ⟨k1, f2, k2, k3⟩ k4 k5
end
end L2
set_option Elab.async false
set_option linter.all false
set_option maxRecDepth 100000
namespace PySem.W
open PySem PySem.Spec PySem.Calls PyProof.Rows L3 Builtin Builtin.ObjectAttr
section
variable {prog : Program} {w : World} {A : Around} {E : Value → Shared → Prop} {h : Heap} {g : Array GenState} {d : Drawn} {t : Nat} {os : OsState} {K : Frag}
variable {nm q : Str} {C N fI : Addr} {bs bm : List Value} {sn : List Str} {sub : List Value} {ab : Bool} {col : Option Bool} {dd : Option Addr} {k0 k1 k2 k3 k5 : Option Value} {rest : List Value}
theorem type_call_init {Q : Fin → Shared → Prop} (X : K.In h) (hC : h.get? C = some (excClassObj nm q C N bs bm true sn sub ab col dd k0 k1 k2 k3 k5 "ValueError.__new__")) (T : OwnTail h bmV bm)
    (fi : findIn K (.ref C) "__init__" = some (some (.ref fI))) (ft : typeIn K (.ref fI) = some (.type "function")) (hl : rest.length ≤ sizeLine)
    (hq : ∀ h' e, Heap.MadeExcOf h h' e (.ref C) rest → h.objs.size ≤ e → wpAny (model prog w) A (call (.ref fI) (.ref e :: rest)) (fun r s' => r = .none ∧ Q (.done (.ret (.ref e))) s') E ⟨h', g, d, t, os⟩) :
    wpAny (model prog w) A (Builtin.«type.__call__» ⟨.ref C :: rest, []⟩) Q E ⟨h, g, d, t, os⟩ := by
  have F := PySem.F.excBase_ValueError
  repeat (first | with_reducible refine wpAny_loadPart_at hC ?_ | with_reducible refine wpAny_madeBy_exc hC ?_ | wp_step)
  refine codeAny_call_builtin_code (Code.quiet_builtin _ F.quiet) (wpAny_check_new_subT F T hC ?_)
  refine codeAny_exc_new_subT F T hC ?_ hl
  show wpAny _ _ _ _ _ _
  have kp : ∀ b o, h.get? b = some o → ((h.push { cls := .type "tuple", data := .seq rest.toArray }).push { cls := .ref C, data := .fields #[.ref h.objs.size, .none, .none, .none, .bool false, .none] }).get? b = some o := fun b o e => Heap.get?_push_of_some _ (Heap.get?_push_of_some _ e)
  have new : ((h.push { cls := .type "tuple", data := .seq rest.toArray }).push { cls := .ref C, data := .fields #[.ref h.objs.size, .none, .none, .none, .bool false, .none] }).get? (h.objs.size + 1) = some { cls := .ref C, data := .fields #[.ref h.objs.size, .none, .none, .none, .bool false, .none] } := by heap_get
  have tup : ((h.push { cls := .type "tuple", data := .seq rest.toArray }).push { cls := .ref C, data := .fields #[.ref h.objs.size, .none, .none, .none, .bool false, .none] }).get? h.objs.size = some { cls := .type "tuple", data := .seq rest.toArray } := Heap.get?_push_of_some _ (Heap.get?_push_at rfl rfl)
  have X2 : K.In ((h.push { cls := .type "tuple", data := .seq rest.toArray }).push { cls := .ref C, data := .fields #[.ref h.objs.size, .none, .none, .none, .bool false, .none] }) := X.keeps kp
  have hC2 := kp _ _ hC
  have me : Heap.MadeExcOf h ((h.push { cls := .type "tuple", data := .seq rest.toArray }).push { cls := .ref C, data := .fields #[.ref h.objs.size, .none, .none, .none, .bool false, .none] }) (h.objs.size + 1) (.ref C) rest := ⟨kp, Heap.get?_none_of_le (Nat.le_succ _), h.objs.size, new, Heap.get?_none_of_le (Nat.le_refl _), tup⟩
  generalize (h.push { cls := .type "tuple", data := .seq rest.toArray }).push { cls := .ref C, data := .fields #[.ref h.objs.size, .none, .none, .none, .bool false, .none] } = h2 at *
  have self : (Value.ref C :: bm).contains (.ref C) = true := by simp
  unfold isInstance
  repeat (first | with_reducible refine wpAny_loadPart_at new ?_ | (with_reducible refine wpAny_isSubtype_exc hC2 ?_; rw [self]) | wp_step)
  show wpAny _ _ (typeLookup (.ref C) _) _ _ _
  refine (looks_findIn (M := model prog w) X2 fi).at ?_
  refine wpAny_holding (wpAny_bind ?_)
  unfold bindSpecial
  refine wpAny_bind ((looks_typeIn (M := model prog w) X2 ft).at ?_)
  rw [if_pos (by decide)]
  refine wpAny_pure (wpAny_bind (wpAny_mono (hq _ _ me (Nat.le_succ _)) (fun r s' hr => ?_) fun _ _ x => x))
  obtain ⟨rfl, hQ⟩ := hr
  wp_walk
  exact hQ
theorem call_init {Q : Value → Shared → Prop} (X : K.In h) (hC : h.get? C = some (excClassObj nm q C N bs bm true sn sub ab col dd k0 k1 k2 k3 k5 "ValueError.__new__")) (T : OwnTail h bmV bm)
    (fi : findIn K (.ref C) "__init__" = some (some (.ref fI))) (ft : typeIn K (.ref fI) = some (.type "function")) (hl : rest.length ≤ sizeLine)
    (hq : ∀ h' e, Heap.MadeExcOf h h' e (.ref C) rest → h.objs.size ≤ e → wpAny (model prog w) (A.under (.builtin "type.__call__" ⟨.ref C :: rest, []⟩)) (call (.ref fI) (.ref e :: rest)) (fun r s' => r = .none ∧ Q (.ref e) s') E ⟨h', g, d, t, os⟩) :
    wpAny (model prog w) A (call (.ref C) rest) Q E ⟨h, g, d, t, os⟩ := by
  have f1 := tc_lookup
  have f2 := tc_bind (.ref C)
  have hT : (⟨h, g, d, t, os⟩ : Shared).TypeIs (.ref C) "type" := ⟨_, hC, rfl⟩
  refine wpAny_call (codeAny_of_tree ?_)
  show wpAny _ _ (callAny (.ref C) _) _ _ _
  repeat (any_goals (first | assumption | with_reducible refine wpAny_loadPart_at hC ?_ | wp_step))
  refine ⟨rfl, codeAny_call_builtin_at (Code.quiet_builtin _ (by decide +kernel)) entry_typeCall (wpAny_check_type_call_sub hC (type_call_init X hC T fi ft hl fun h' e hm hs => ?_))⟩
  exact hq h' e hm hs
theorem base_init {e : Addr} {oe : Obj} {vs : Array Value} {Q : Value → Shared → Prop} (hC : h.get? C = some (excClassObj nm q C N bs bm true sn sub ab col dd k0 k1 k2 k3 k5 "ValueError.__new__")) (T : OwnTail h bmV bm) (he : h.get? e = some oe) (hc : oe.cls = .ref C) (hd : oe.data = .fields vs) (hs : 0 < vs.size) {a1 : Addr} (h0 : vs[0]? = some (.ref a1)) (hl : rest.length ≤ sizeLine)
    (hq : ∀ h' t', h'.get? e = some { oe with data := .fields (vs.setIfInBounds 0 (.ref h.objs.size)) } → (∀ b o, b ≠ e → h.get? b = some o → h'.get? b = some o) → Q .none ⟨h', g, d, t', os⟩) :
    wpAny (model prog w) A (call (.builtin "ValueError.__init__") (.ref e :: rest)) Q E ⟨h, g, d, t, os⟩ := by
  have F := PySem.F.excBase_ValueError
  obtain ⟨c0, d0, dt, sl⟩ := oe
  cases hc; cases hd
  refine wpAny_call (codeAny_call_builtin F.init.plain F.initEntry (wpAny_check_init_subT F T hC he rfl ?_))
  wp_walk
  rw [h0]
  refine wpAny_pure ?_
  have he2 : (h.push { cls := .type "tuple", data := .seq rest.toArray }).get? e = _ := Heap.get?_push_of_some _ he
  refine wpAny_bind (wpAny_setField he2 rfl hs ?_)
  refine wpAny_letGo ?_
  refine wpAny_pure (hq _ _ (Heap.get?_update_self _ he2 rfl) fun b o hb e => ?_)
  exact (Heap.get?_update_other _ _ (Ne.symm hb)).trans (Heap.get?_push_of_some _ e)
theorem store_at {e : Addr} {oe : Obj} {vs : Array Value} {name : Str} {v : Value} {Q : Unit → Shared → Prop} (X : K.In h) (hC : h.get? C = some (excClassObj nm q C N bs bm true sn sub ab col dd k0 k1 k2 k3 k5 "ValueError.__new__"))
    (sa : findIn K (.ref C) "__setattr__" = some (some (.builtin "object.__setattr__"))) (na : findIn K (.ref C) name = some none) (so : subIn K (.ref C) (.type "object") = some true)
    (hp : PySem.refuseLoop (.ref e) "__setattr__" bm = pure ()) (he : h.get? e = some oe) (hc : oe.cls = .ref C) (hd : oe.data = .fields vs) (hn : oe.dict = none)
    (hq : ∀ h' t', h'.get? e = some { oe with dict := some h.objs.size } → h'.Ns1 h.objs.size (fun y => if y = name then some v else none) → (∀ b o, b ≠ e → h.get? b = some o → h'.get? b = some o) → Q () ⟨h', g, d, t', os⟩) :
    wpAny (model prog w) A (setAttr (.ref e) name v) Q E ⟨h, g, d, t, os⟩ := by
  have SF := PySem.F.store_ValueError
  have f3 := SF.slot.bind (.ref e)
  have L1 : Looks (model prog w) h (typeLookup (.ref C) "__setattr__") (some (.builtin "object.__setattr__")) := looks_findIn X sa
  have L2 : Looks (model prog w) h (typeLookup (.ref C) name) none := looks_findIn X na
  have L3 : Looks (model prog w) h (isSubtype (.ref C) (.type "object")) true := looks_subIn X so
  unfold setAttr callSpecial? specialOf
  repeat (any_goals (first | assumption | (with_reducible refine wpAny_loadPart_at he ?_; rw [hc]) | with_reducible refine L1.at ?_ | wp_step))
  refine codeAny_call_builtin SF.slot.plain SF.entry ?_
  have ar := SF.args (.ref e) (.str name t) v
  show wpAny _ _ (checkBuiltinCall "object.__setattr__" ⟨[.ref e, .str name t, v], []⟩) _ _ _
  simp only [checkBuiltinCall, SF.kind, SF.split]
  refine wpAny_bind ?_
  unfold isInstance
  repeat (first | rw [PySem.refuse_eq] | (rw [PySem.refuseLoop_ref, hp]) | (with_reducible refine wpAny_loadPart_at he ?_; rw [hc]) | with_reducible refine wpAny_mroOf_exc hC ?_ | with_reducible refine L3.at ?_ | with_reducible refine L2.at ?_ | wp_step)
  rw [hn, if_neg (by simp [typeHasDict])]
  split
  · rename_i z
    cases z
  split
  · rename_i c z
    rw [hd] at z
    cases z
  have he1 : (h.push { cls := .type "dict", data := .dict #[] }).get? e = some oe := Heap.get?_push_of_some _ he
  have ne : e ≠ h.objs.size := Nat.ne_of_lt (Heap.lt_size he)
  refine wpAny_bind (wpAny_alloc' ?_)
  refine wpAny_bind (wpAny_update' he1 ?_)
  refine wpAny_pure ?_
  have gd : ((h.push { cls := .type "dict", data := .dict #[] }).update e fun o => { o with dict := some h.objs.size }).get? h.objs.size = some { cls := .type "dict", data := .dict #[] } := (Heap.get?_update_other _ _ ne).trans (Heap.get?_push_at rfl rfl)
  have ge : ((h.push { cls := .type "dict", data := .dict #[] }).update e fun o => { o with dict := some h.objs.size }).get? e = some { oe with dict := some h.objs.size } := Heap.get?_update_self _ he1 (Obj.isFreed_of_fields (vs := vs) hd)
  have gb : ∀ b o, b ≠ e → h.get? b = some o → ((h.push { cls := .type "dict", data := .dict #[] }).update e fun o => { o with dict := some h.objs.size }).get? b = some o := fun b o hb q => (Heap.get?_update_other _ _ (Ne.symm hb)).trans (Heap.get?_push_of_some _ q)
  show wpAny _ _ (storeInDict h.objs.size (.str name t) name v) _ _ ⟨(h.push { cls := .type "dict", data := .dict #[] }).update e fun o => { o with dict := some h.objs.size }, g, d, _, os⟩
  generalize ((h.push { cls := .type "dict", data := .dict #[] }).update e fun o => { o with dict := some h.objs.size }) = h1 at gd ge gb ⊢
  have em : h1.Ns h.objs.size (fun _ => none) := ⟨_, #[], _, gd, rfl, fun x hx => absurd hx (by simp), fun _ => rfl⟩
  unfold storeInDict newKeyGuard
  refine wpAny_bind (wpAny_pure (wpAny_bind (wpAny_nsSet1 (Heap.Ns1.of_empty em) fun h2 n2 sb => ?_)))
  obtain ⟨oD, es, ep, hoD, hdD, few⟩ := n2.count (Within.cons name v Within.nil)
  refine wpAny_bind (wpAny_lookBehind hoD (by rw [hdD]; exact pastItsLine_dict (Nat.le_trans few (by simp [sizeLine_eq]))) ?_)
  wp_walk
  refine hq h2 _ ((sb.2 e ne).trans ge) n2 fun b o hb q => (sb.2 b (Nat.ne_of_lt (Heap.lt_size q))).trans (gb b o hb q)
end
end PySem.W
set_option Elab.async false
set_option linter.all false
set_option maxRecDepth 100000
namespace PySem.W
open PySem PySem.Spec PySem.Calls PyProof.Rows L3 Builtin Builtin.ObjectAttr
section
variable {prog : Program} {w : World} {A : Around} {E : Value → Shared → Prop} {h : Heap} {g : Array GenState} {d : Drawn} {t : Nat} {os : OsState} {K : Frag} {e C dx : Addr} {oe : Obj} {vs : Array Value} {name : Str} {v : Value} {m : Str → Option Value} {nm q : Str} {N : Addr} {bs bm : List Value} {sn : List Str} {sub : List Value} {ab : Bool} {col : Option Bool} {dd : Option Addr} {k0 k1 k2 k3 k5 : Option Value}
theorem load_at {Q : Value → Shared → Prop} {expr : Bool} (Z : ExcK K C) (X : K.In h) (hC : h.get? C = some (excClassObj nm q C N bs bm true sn sub ab col dd k0 k1 k2 k3 k5 "ValueError.__new__")) (na : findIn K (.ref C) name = some none) (he : h.get? e = some oe) (hc : oe.cls = .ref C) (hd : oe.data = .fields vs) (hn : oe.dict = some dx) (hm : h.Ns1 dx m) (hv : m name = some v) (hh : handedOut v = pure v)
    (hq : Q v ⟨h, g, d, t + 1, os⟩) : wpAny (model prog w) A (getAttr (.ref e) name expr) Q E ⟨h, g, d, t, os⟩ := by
  have f3 : bindSpecial (.builtin "BaseException.__getattribute__") (.ref e) = pure (.builtin "BaseException.__getattribute__", [.ref e]) := PySem.F.attr_ValueError.ga.bind (.ref e)
  have hx2 : (Value.builtin "BaseException.__getattribute__" == Value.builtin "object.__getattribute__") = false := by decide +kernel
  have hx1 : (onTheHeap (Value.ref C) && Value.builtin "BaseException.__getattribute__" == Value.builtin "object.__getattribute__") = false := by rw [hx2]; rfl
  have L1 : Looks (model prog w) h (typeLookup (.ref C) "__getattribute__") (some (.builtin "BaseException.__getattribute__")) := looks_findIn X Z.ga
  have L2 : Looks (model prog w) h (typeLookup (.ref C) "__getattr__") none := looks_findIn X Z.gt
  have L3 : Looks (model prog w) h (typeLookup (.ref C) name) none := looks_findIn X na
  unfold getAttr getAttrBy
  repeat (any_goals (first | assumption | (with_reducible refine wpAny_loadPart_at he ?_; rw [hc]) | with_reducible refine L1.at ?_ | with_reducible refine L2.at ?_ | wp_step))
  rw [if_neg (by cases expr <;> simp [onTheHeap])]
  unfold boundAndCalled
  repeat (any_goals (first | assumption | wp_step))
  refine codeAny_call_builtin (by decide +kernel) PySem.F.entry_bexc_ga (check_ga_exc Z X he hc ?_)
  repeat (any_goals (first | assumption | (with_reducible refine wpAny_loadPart_at he ?_; rw [hc]) | with_reducible refine L3.at ?_ | wp_step))
  rw [hd]
  dsimp only
  unfold instanceDict
  repeat (first | (with_reducible refine wpAny_loadPart_at he ?_; rw [hc]) | wp_step)
  rw [hn]
  repeat (first | (with_reducible refine wpAny_nsGet hm.ns ?_; rw [hv]) | wp_step)
  exact hq
end
end PySem.W
set_option Elab.async false
set_option linter.all false
set_option maxRecDepth 100000
namespace L2
open PySem PySem.Spec PyProof.Rows L3
structure TxtK (K : PySem.W.Frag) (C G fI : Addr) : Prop where
  lC : ∃ nm q N bs sn sub ab col dd k0 k1 k2 k3 k5, K.lookup C = some (excClassObj nm q C N bs (.ref G :: bmV) true sn sub ab col dd k0 k1 k2 k3 k5 "ValueError.__new__")
  lG : ∃ nm q N bs hd sn sub ab col dd k0 k1 k2 k3 k5, K.lookup G = some (excClassObj nm q G N bs bmV hd sn sub ab col dd k0 k1 k2 k3 k5 "ValueError.__new__")
  xG : PySem.W.excIn K G bmV "ValueError.__new__" = true
  fi : PySem.W.findIn K (.ref C) "__init__" = some (some (.ref fI))
  ft : PySem.W.typeIn K (.ref fI) = some (.type "function")
  sa : PySem.W.findIn K (.ref C) "__setattr__" = some (some (.builtin "object.__setattr__"))
  na : PySem.W.findIn K (.ref C) "at" = some none
  ex : PySem.W.ExcK K C
  gi : PySem.W.findCls K (.ref G) (.type "type") "__init__" = some (.val (.builtin "ValueError.__init__"))
  gr : PySem.W.readsIn K G (.type "type") = true
  gs : PySem.W.specialIn K (.ref G) "__getattribute__" = some (some (.builtin "type.__getattribute__"))
theorem TxtK.tail {K : PySem.W.Frag} {C G fI : Addr} {h : Heap} (Z : TxtK K C G fI) (X : K.In h) : OwnTail h bmV (.ref G :: bmV) := by
  obtain ⟨nm, q, N, bs, hd, sn, sub, ab, col, dd, k0, k1, k2, k3, k5, lG⟩ := Z.lG
  obtain ⟨bm, N', _, _, _, _, _, _, _, _, _, _, _, _, _, _, mN, hG, hN, hni, TT⟩ := own_obj X Z.xG
  have hg := X _ _ lG
  rw [hG] at hg
  injection hg with hg
  injection hg with _ _ hg _
  injection hg with hg
  injection hg with _ _ hm _
  injection hm with _ hm
  subst hm
  exact .own hG hN hni TT
def excP (a C : Addr) (dx : Option Addr) (h : Heap) : Prop := ∃ o vs t, h.get? a = some o ∧ o.cls = .ref C ∧ o.data = .fields vs ∧ vs[0]? = some (.ref t) ∧ vs[1]? = some .none ∧ o.dict = dx
abbrev ExcO (a C : Addr) (dx : Option Addr) : HO := .ext (excP a C dx)
theorem excO_ok {P : Program} {w : World} {H : Hp} {h : Heap} {a C : Addr} {dx : Option Addr} (p : excP a C dx h) : ObjOk P w H h a (ExcO a C dx) := by
  obtain ⟨o, vs, t, ho, r⟩ := p
  exact ⟨⟨o, vs, t, ho, r⟩, ⟨o, ho⟩, fun h1 h2 q k => by obtain ⟨o, vs, t, ho, r⟩ := q; exact ⟨o, vs, t, k o ho, r⟩⟩
def spInit (C : Addr) : Sp := fun vs H Q E => ∃ ea n, vs = [.ref ea, .int n] ∧ n.natAbs.log2 < 1920 ∧ H ea = some (ExcO ea C none) ∧ ∀ H' dx, (∀ a o, H a = some o → a ≠ ea → H' a = some o) → H dx = none → H' ea = some (ExcO ea C (some dx)) → H' dx = some (.xd [("at", .int n)]) → Q .non H'
section
variable {X : Cx} {C G fI : Addr} {pins : List (Addr × Obj)} {s : Shared} {σv : St} {H : Hp} {σ : Lo} {M : Mem} {ea : Addr}
theorem init_base (Z : TxtK X.K C G fI) (I : Inv X pins σv H s) (hg : Gl X "GiverError") (hm : X.mg "GiverError" = some (.ref G)) {e0 e1 : Expr} {ta : TA3} (ha : PA3 X [e0, e1] ta) (hS : SRel X.K M H σ σv) (hM : MRel X.K M H) (hE : H ea = some (ExcO ea C none)) (hMe : M ea = none)
    (h : ta σ M fun ds _ => ∃ z, ds = [.ref ea, .str z]) {p1 p2 p5 p6 : Pos} {Q : Flow → Shared → Prop}
    (q : ∀ s' H', Inv X pins σv H' s' → (∀ a o, H a = some o → M a = none → H' a = some o) → Q .next s')
    (he : starEach [e0, e1] X.env = (false, eval e0 X.env) :: starEach [e1] X.env := by rfl) (hpl : (backTo p5 (starEach [e1] X.env)).any (·.1) = false := by rfl)
    {pl : Sem Bool} (hs : swapsWith (.Call (.Attribute (.Name "GiverError" p1) "__init__" p2) [e0, e1] [] p5) none p6.line X.env = pure false := by rfl)
    (ht : eval (.Call (.Attribute (.Name "GiverError" p1) "__init__" p2) [e0, e1] [] p5) X.env = (do
      let ov ← eval (.Name "GiverError" p1) X.env
      standAt p2.atName
      let (f, first) ← holding [ov] (getMethod ov "__init__" pl)
      callWith p5 f first (backTo p5 (starEach [e0, e1] X.env)) (backToKw p5 (keywordEach [] X.env))) := by rfl) :
    wpAny (model X.prog X.w) X.A (exec (.Expr (.Call (.Attribute (.Name "GiverError" p1) "__init__" p2) [e0, e1] [] p5) p6) X.env) Q X.xe s := by
  refine wpAny_Expr_any (PySem.W.methodCall_KW (ld_glob I hg hm (PySem.W.method_cls I.kIn Z.gs (PySem.W.cls_value I.kIn Z.gr Z.gi rfl ?_))) ht) I.quiet hs
  have I1 : Inv X pins σv H { s with toks := s.toks + 1 } := I.tok _
  have hA := ha p5 pins _ σv H σ M _ I1 hS hM h
  rw [he] at hA ⊢
  refine Calls.callWith_builtin (by show (false || (backTo p5 (starEach [e1] X.env)).any (·.1)) = false; rw [hpl]; rfl) (Calls.evalArgs_plain ?_)
  refine thn hA fun us s2 hx => ?_
  obtain ⟨ds, vs, M2, H2, I2, st, m2, rv, rp, z, rfl⟩ := hx
  obtain ⟨v1, v2, rfl, r1, r2⟩ : ∃ v1 v2, vs = [v1, v2] ∧ Rep X.K M2 H2 (.ref ea) v1 ∧ Rep X.K M2 H2 (.str z) v2 := by
    cases rp with | cons a r => cases r with | cons b r => cases r; exact ⟨_, _, rfl, a, b⟩
  cases r1; cases r2
  obtain ⟨u1, u2, rfl, e1, e2⟩ := vals2 rv
  obtain rfl : u1 = .ref ea := e1
  obtain ⟨tk, rfl⟩ := e2
  have hE2 := st.keep ea _ hE hMe
  obtain ⟨⟨oe, fs, t, ho, hc, hd, h0, h1, hn⟩, _, _⟩ := I2.hok ea _ hE2
  obtain ⟨nm, qn, N, bs, sn, sub, ab, col, dd, k0, k1, k2, k3, k5, lC⟩ := Z.lC
  have kin := I2.kIn
  obtain ⟨hp, g, d, tt, os⟩ := s2
  have sz := (Array.getElem?_eq_some_iff.mp h0).1
  refine PySem.W.base_init (kin _ _ lC) (Z.tail kin) ho hc hd sz h0 (by show (1 : Nat) ≤ sizeLine; decide) fun h' t' k1' k2' => ?_
  refine q _ (upd H2 ea (ExcO ea C none)) (I2.write (t' := t') (x := ea) (e := ea) (by rw [hE2]; trivial) (.inl rfl) k2' ⟨_, k1'⟩ (excO_ok ⟨_, _, _, k1', hc, rfl, by simp [sz]; rfl, by rw [Array.getElem?_setIfInBounds_ne (by decide)]; exact h1, hn⟩)) fun a o ha hm => ?_
  by_cases hae : a = ea
  · subst hae
    rw [hE] at ha
    rw [upd_same]; exact ha
  · rw [upd_ne hae]; exact st.keep a o ha hm
theorem init_at (Z : TxtK X.K C G fI) (I : Inv X pins σv H s) {eo ev : Expr} (ho : PE3 X eo (tVar3 0)) (hv : PE3 X ev (tVar3 1)) (hS : SRel X.K M H σ σv) (hM : MRel X.K M H) {n : Int} (h0 : σ[0]? = some (some (.ref ea))) (h1 : σ[1]? = some (some (.int n))) (hE : H ea = some (ExcO ea C none)) (hM0 : ∀ a, M a = none) {p pos : Pos} {Q : Flow → Shared → Prop}
    (q : ∀ s' H' dx, Inv X pins σv H' s' → (∀ a o, H a = some o → a ≠ ea → H' a = some o) → H dx = none → H' ea = some (ExcO ea C (some dx)) → H' dx = some (.xd [("at", .int n)]) → Q .next s')
    (hs : swapsWith ev (some (.Attribute eo "at" p)) pos.line X.env = pure false := by rfl) : wpAny (model X.prog X.w) X.A (exec (.Assign [.Attribute eo "at" p] ev pos) X.env) Q X.xe s := by
  refine plainObj_wpAny_Assign_Attribute (thn (hv pins s σv H σ M (fun d M1 => d = .int n) I hS hM (rd_var h1 rfl)) fun u s1 hx => ?_) hs
  obtain ⟨_, xv, M1, H1, I1, st1, m1, r1, p1, rfl⟩ := hx
  cases p1
  obtain ⟨tk, rfl⟩ := r1
  refine thn (ho pins s1 σv H1 σ M1 (fun d M2 => d = .ref ea) I1 (hS.mono st1) m1 (rd_var h0 rfl)) fun u2 s2 hx => ?_
  obtain ⟨_, yv, M2, H2, I2, st2, m2, r2, p2, rfl⟩ := hx
  cases p2
  obtain rfl : u2 = .ref ea := r2
  have st := st1.trans st2
  have hE2 := st.keep ea _ hE (hM0 _)
  obtain ⟨⟨oe, fs, t, hoe, hc, hd, z0, z1, hn⟩, _, _⟩ := I2.hok ea _ hE2
  obtain ⟨nm, qn, N, bs, sn, sub, ab, col, dd, k0, k1, k2, k3, k5, lC⟩ := Z.lC
  have kin := I2.kIn
  obtain ⟨hp, g, d, tt, os⟩ := s2
  refine PySem.W.store_at kin (kin _ _ lC) Z.sa Z.na Z.ex.so (by rw [PySem.refuseLoop_ref]; exact PySem.F.store_ValueError.passes _) hoe hc hd hn fun h' t' g1 g2 g3 => ?_
  have ne : hp.objs.size ≠ ea := Nat.ne_of_gt (Heap.lt_size hoe)
  have fr : H2 hp.objs.size = none := I2.hok.fresh (Nat.le_refl _)
  have Hd : H hp.objs.size = none := by
    cases e : H hp.objs.size with
    | none => rfl
    | some o => rw [st.keep _ o e (hM0 _)] at fr; cases fr
  refine q _ (upd (upd H2 ea (ExcO ea C (some hp.objs.size))) hp.objs.size (.xd [("at", .int n)])) hp.objs.size (I2.un (t' := t') ⟨fun b o e z _ _ => ?_, fun b o e z _ _ => ?_, fun b o e z _ => ?_, fun b o e _ => ?_, fun b xs z => ?_, fun b o u z => ?_, fun b ps z => ?_⟩ fun a o e => ?_) (fun a o e1 e3 => ?_) Hd (by rw [upd_ne (Ne.symm ne), upd_same]) upd_same
  · exact g3 b o (by rintro rfl; rw [hE2] at z; cases z) e
  · exact ⟨o.slots, g3 b o (by rintro rfl; rw [hE2] at z; cases z) e⟩
  · rw [upd_ne (Nat.ne_of_lt (Heap.lt_size e)), upd_ne (by rintro rfl; rw [hE2] at z; cases z)]; exact z
  · by_cases hb : b = ea
    · subst hb; exact ⟨_, g1⟩
    · exact ⟨o, g3 b o hb e⟩
  · rw [upd_ne (by rintro rfl; rw [fr] at z; cases z), upd_ne (by rintro rfl; rw [hE2] at z; cases z)]; exact z
  · rw [upd_ne (by rintro rfl; rw [fr] at z; cases z), upd_ne (by rintro rfl; rw [hE2] at z; cases z)]; exact z
  · exact ⟨#[], by rw [upd_ne (by rintro rfl; rw [fr] at z; cases z), upd_ne (by rintro rfl; rw [hE2] at z; cases z), z]; simp⟩
  · by_cases ha : a = hp.objs.size
    · subst ha
      rw [upd_same] at e
      cases e
      refine ⟨_, g2, fun f => ?_⟩
      by_cases hf : f = "at"
      · subst hf
        simp [RelO, RelV]
      · have : (f == ("at" : Str)) = false := by simpa using hf
        simp [List.lookup, this, hf, RelO]
    · rw [upd_ne ha] at e
      by_cases hae : a = ea
      · subst hae
        rw [upd_same] at e
        cases e
        exact excO_ok ⟨_, _, _, g1, hc, hd, z0, z1, rfl⟩
      · rw [upd_ne hae] at e
        refine (I2.hok a o e).stay (fun b u hb z => g3 b u ?_ z) (fun b z => ?_) fun b xs z => ?_
        · rcases hb with rfl | hb
          · exact hae
          · rintro rfl; rw [hE2] at hb; cases hb
        · rw [upd_ne (by rintro rfl; rw [fr] at z; cases z), upd_ne (by rintro rfl; rw [hE2] at z; cases z)]; exact z
        · rw [upd_ne (by rintro rfl; rw [fr] at z; cases z), upd_ne (by rintro rfl; rw [hE2] at z; cases z)]; exact z
  · rw [upd_ne (by rintro rfl; rw [Hd] at e1; cases e1), upd_ne e3]; exact st.keep a o e1 (hM0 a)
end
theorem init_fn {P : Program} {w : World} {K : PySem.W.Frag} {mg : Str → Option Value} {base : Heap} {C G f : Addr} {params : Arguments} {body : List Stmt} {scope : Scope} {dV kV doc pm cdv ct oc : Value} {an od : Option Addr} {osl : Array (Option Value)} {qual : Str} {N : List Str} {k : Nat}
    (Z : TxtK K C G f) (lk : K.lookup f = some ⟨oc, od, .func (PySem.W.fnOf "__init__" qual params body scope dV kV doc pm an cdv ct), osl⟩) (hcd : PySem.W.codeIn K cdv qual = true) (S : FnScope N ["self", "at"] scope) {sts : Stmt × Stmt} (hb : body = [sts.1, sts.2])
    (h1 : ∀ (A : Around) (outer : List Env) (s0 : Shared) (H0 : Hp) (E : XK), Room k (A.deeper (envOfC qual scope s0.heap.objs.size f cdv)) → ∀ (pins : List (Addr × Obj)) (s : Shared) (σv : St) (H : Hp) (ea : Addr) (n : Int) (Q : Flow → Shared → Prop), n.natAbs.log2 < 1920 → Inv (cxOf CX0 P w K mg base N qual scope f cdv A outer s0 H0 E) pins σv H s → SRel K (fun _ => none) H (start3 N [.ref ea, .int n]) σv → H ea = some (ExcO ea C none) →
      (∀ s' H', Inv (cxOf CX0 P w K mg base N qual scope f cdv A outer s0 H0 E) pins σv H' s' → (∀ a o, H a = some o → H' a = some o) → Q .next s') → wpAny (model P w) (cxOf CX0 P w K mg base N qual scope f cdv A outer s0 H0 E).A (exec sts.1 (cxOf CX0 P w K mg base N qual scope f cdv A outer s0 H0 E).env) Q (cxOf CX0 P w K mg base N qual scope f cdv A outer s0 H0 E).xe s)
    (h2 : ∀ (A : Around) (outer : List Env) (s0 : Shared) (H0 : Hp) (E : XK), Room k (A.deeper (envOfC qual scope s0.heap.objs.size f cdv)) → ∀ (pins : List (Addr × Obj)) (s : Shared) (σv : St) (H : Hp) (ea : Addr) (n : Int) (Q : Flow → Shared → Prop), Inv (cxOf CX0 P w K mg base N qual scope f cdv A outer s0 H0 E) pins σv H s → SRel K (fun _ => none) H (start3 N [.ref ea, .int n]) σv → H ea = some (ExcO ea C none) →
      (∀ s' H' dx, Inv (cxOf CX0 P w K mg base N qual scope f cdv A outer s0 H0 E) pins σv H' s' → (∀ a o, H a = some o → a ≠ ea → H' a = some o) → H dx = none → H' ea = some (ExcO ea C (some dx)) → H' dx = some (.xd [("at", .int n)]) → Q .next s') → wpAny (model P w) (cxOf CX0 P w K mg base N qual scope f cdv A outer s0 H0 E).A (exec sts.2 (cxOf CX0 P w K mg base N qual scope f cdv A outer s0 H0 E).env) Q (cxOf CX0 P w K mg base N qual scope f cdv A outer s0 H0 E).xe s) :
    FnOk P w K mg base CX0 (k + 1) f (PySem.W.fnOf "__init__" qual params body scope dV kV doc pm an cdv ct) ["self", "at"] (spInit C) := by
  subst hb
  refine fn_of lk hcd S (fun vs H Q E hx => by obtain ⟨_, _, rfl, _⟩ := hx; rfl) fun A outer s H vs Q E hr hx => ?_
  obtain ⟨ea, n, rfl, hn, hE, q⟩ := hx
  refine ⟨fun D σ0 H0 => D = { nx := fun _ H' => Q .non H', rt := Q } ∧ σ0 = L2.start N [.ref ea, .int n] ∧ H0 = H, ?_, rfl, rfl, rfl⟩
  rintro pins s1 _ H0 _ I ⟨rfl, rfl, hH⟩
  rw [hH] at I
  have sr : SRel K (fun _ => none) H (start3 N [.ref ea, .int n]) (L2.start N [.ref ea, .int n]) := start_rel (.cons .ref (.cons .int .nil))
  refine wpAny_execs_cons (h1 A outer s H E hr pins s1 _ H ea n _ hn I sr hE fun s2 H2 I2 k2 => ?_)
  have hE2 := k2 _ _ hE
  refine wpAny_execs_cons (h2 A outer s H E hr pins s2 _ H2 ea n _ I2 (start_rel (.cons .ref (.cons .int .nil))) hE2 fun s3 H3 dx I3 k3 x1 x2 x3 => ?_)
  refine wpAny_execs_nil ⟨_, H3, I3, q H3 dx (fun a o e1 e2 => k3 a o (k2 a o e1) e2) ?_ x2 x3⟩
  cases e : H dx with
  | none => rfl
  | some o => rw [k2 dx o e] at x1; cases x1
end L2
set_option Elab.async false
set_option linter.all false
set_option maxRecDepth 100000
namespace L2
open PySem PySem.Spec PyProof.Rows
def CXD (P : Program) (w : World) : CXT := fun outer H s E e s' =>
  ∃ (ea : Addr) (cls a0 : Value) (H' : Hp) (B : Heap) (dx : Addr), e = .ref ea ∧ s'.os = s.os ∧ AllBare s'.gens ∧ Heap.FlyingW B outer ea cls a0 s'.heap ∧ DictAt s'.heap ea (some dx) ∧ Un (frs outer) [] H H' s.heap s'.heap ∧
    (∀ b o, s.heap.get? b = some o → b ∉ frs outer → ∃ o', B.get? b = some o' ∧ (H b = none → o' = o)) ∧ HOk P w H' B ∧ E cls (some dx) H'
def drp (H : Hp) (e : Addr) : Hp := fun a => if a = e then none else H a
theorem drp_ne {H : Hp} {e a : Addr} (h : a ≠ e) : drp H e a = H a := if_neg h
theorem drp_same {H : Hp} {e : Addr} : drp H e e = none := if_pos rfl
theorem drp_some {H : Hp} {e a : Addr} {o : HO} (h : drp H e a = some o) : a ≠ e ∧ H a = some o := by
  by_cases ha : a = e
  · subst ha; rw [drp_same] at h; cases h
  · rw [drp_ne ha] at h; exact ⟨ha, h⟩
theorem leave_madeD {P : Program} {w : World} {K : PySem.W.Frag} {mg : Str → Option Value} {base : Heap} {N : List Str} {qual : Str} {scope : Scope} {f : Addr} {cdv : Value} {A : Around} {outer : List Env} {s s2 : Shared} {H H2 : Hp} {E : XK}
    {pins : List (Addr × Obj)} {σ : St} {ea C dx : Addr} (I : Inv (cxOf (CXD P w) P w K mg base N qual scope f cdv A outer s H E) pins σ H2 s2) (hx : H2 ea = some (ExcO ea C (some dx))) (hnew : s.heap.get? ea = none) (hE : E (.ref C) (some dx) (drp H2 ea)) :
    (cxOf (CXD P w) P w K mg base N qual scope f cdv A outer s H E).xe (.ref ea) s2 := by
  obtain ⟨⟨oe, vs, t, he, rfl0, hd, h0, h1, hn⟩, _, _⟩ := I.hok ea _ hx
  have fsE : frs (envOfC qual scope s.heap.objs.size f cdv :: outer) = s.heap.objs.size :: frs outer := rfl
  have hin : ∀ env ∈ (envOfC qual scope s.heap.objs.size f cdv :: outer), ∀ b, env.frame = some b → b ∈ ea :: frs (envOfC qual scope s.heap.objs.size f cdv :: outer) := fun env he b hb => List.mem_cons_of_mem _ (List.mem_filterMap.mpr ⟨env, he, hb⟩)
  have stk := I.stkFree
  have nfr : ea ∉ frs (envOfC qual scope s.heap.objs.size f cdv :: outer) := fun z => by
    have := stk ea z
    rw [hx] at this; cases this
  have hB : ∀ b o, s2.heap.get? b = some o → b ≠ ea → b ∉ frs (envOfC qual scope s.heap.objs.size f cdv :: outer) → (PySem.W.hideAll s2.heap (ea :: frs (envOfC qual scope s.heap.objs.size f cdv :: outer))).get? b = some o := fun b o e n1 n2 => PySem.W.hideAll_get _ e (by simp only [List.mem_cons, not_or]; exact ⟨n1, n2⟩)
  have old : ∀ b o, s.heap.get? b = some o → b ∉ frs outer → b ≠ ea ∧ b ∉ frs (envOfC qual scope s.heap.objs.size f cdv :: outer) := fun b o e n => by
    refine ⟨fun z => (by rw [z, hnew] at e; cases e), fun z => ?_⟩
    rw [fsE] at z
    rcases List.mem_cons.mp z with z | z
    · rw [z] at e; exact absurd (Heap.lt_size e) (Nat.lt_irrefl _)
    · exact n z
  have be := PySem.W.hideAll_none (ea :: frs (envOfC qual scope s.heap.objs.size f cdv :: outer)) (h := s2.heap) (b := ea) List.mem_cons_self
  have ib := I.base
  have fr := I.funs
  refine leavesD (base := PySem.W.hideAll s2.heap (ea :: frs (envOfC qual scope s.heap.objs.size f cdv :: outer))) (L := s.heap.objs.size) I.ok.frames (PySem.W.funFrames_hide I.stack hin) rfl he (fun b o q => PySem.W.of_hideAll _ q) be hd h1 h0 fun h' x1 x2 x3 => ?_
  have st : ∀ b o, s2.heap.get? b = some o → b ≠ ea → b ∉ frs (envOfC qual scope s.heap.objs.size f cdv :: outer) → h'.get? b = some o := fun b o e n1 n2 => x1.1 b o (hB b o e n1 n2)
  have sl : ∀ b ∈ frs outer, ∀ o, s2.heap.get? b = some o → ∃ sl, h'.get? b = some { o with slots := sl } := fun b hb o e => by
    obtain ⟨o', e', hd'⟩ := frame_data fr hb
    rw [e] at e'; cases e'
    exact x3 b o e hd'
  refine ⟨ea, _, _, drp H2 ea, _, dx, rfl, I.os, I.bare, x1, by rw [← hn]; exact x2, ⟨?_, ?_, ?_, ?_, fun b xs e => ?_, fun b o u e => ?_, fun b ps e => ?_⟩, ?_, ?_, by rw [rfl0]; exact hE⟩
  · exact fun b o e n hb _ => st b o (ib.keep b o e n hb (by exact List.not_mem_nil)) (old b o e hb).1 (old b o e hb).2
  · intro b o e n hb _
    obtain ⟨s0, e1⟩ := ib.slot b o e n hb List.not_mem_nil
    obtain ⟨s0', e2⟩ := sl b hb _ e1
    exact ⟨s0', e2⟩
  · intro b o e n _
    by_cases hb : b = ea
    · subst hb; exact drp_same
    · rw [drp_ne hb]; exact ib.free b o e n List.not_mem_nil
  · intro b o e _
    obtain ⟨o', e1⟩ := ib.there b o e List.not_mem_nil
    by_cases hb : b ∈ frs outer
    · obtain ⟨s0, e2⟩ := sl b hb o' e1
      exact ⟨_, e2⟩
    · exact ⟨o', st b o' e1 (old b o e hb).1 (old b o e hb).2⟩
  · have := ib.tups b xs e
    rw [drp_ne (by rintro rfl; rw [hx] at this; cases this)]; exact this
  · have := ib.frzs b o u e
    rw [drp_ne (by rintro rfl; rw [hx] at this; cases this)]; exact this
  · obtain ⟨m, this⟩ := ib.tbls b ps e
    exact ⟨m, by rw [drp_ne (by rintro rfl; rw [hx] at this; cases this)]; exact this⟩
  · intro b o e hb
    obtain ⟨o', e1⟩ := ib.there b o e List.not_mem_nil
    refine ⟨o', hB b o' e1 (old b o e hb).1 (old b o e hb).2, fun n => ?_⟩
    have := ib.keep b o e n hb List.not_mem_nil
    rw [this] at e1; cases e1; rfl
  · intro a o e
    obtain ⟨na, e⟩ := drp_some e
    refine (I.hok a o e).stay (fun b u hb q => hB b u q ?_ fun z => ?_) (fun b q => ?_) fun b xs q => ?_
    · rintro rfl
      rcases hb with hb | hb
      · exact na hb.symm
      · rw [hx] at hb; cases hb
    · have n := stk b z
      rcases hb with rfl | hb
      · rw [n] at e; cases e
      · rw [n] at hb; cases hb
    · rw [drp_ne (by rintro rfl; rw [hx] at q; cases q)]; exact q
    · rw [drp_ne (by rintro rfl; rw [hx] at q; cases q)]; exact q
end L2
set_option Elab.async false
set_option linter.all false
set_option maxRecDepth 100000
namespace PySem.W
open PySem PySem.Spec PySem.Calls PyProof.Rows L3
section
variable {prog : Program} {w : World} {A : Around} {E : Value → Shared → Prop} {s : Shared} {env : Env} {nm q : Str} {C N : Addr} {bs bm : List Value} {hdct : Bool} {sn : List Str} {sub : List Value} {ab : Bool} {col : Option Bool} {dd : Option Addr} {k0 k1 k2 k3 k5 : Option Value}
theorem raise_any {M : Model} {x : Sem Value} {Q : Flow → Shared → Prop} (hbase : bm.contains (.type "BaseException") = true) (hh : A.handled = none)
    (h : wpAny M A x (fun v s₁ => ∃ e dx vs sl, v = .ref e ∧ s₁.heap.get? C = some (excClassObj nm q C N bs bm hdct sn sub ab col dd k0 k1 k2 k3 k5 "ValueError.__new__") ∧ s₁.heap.get? e = some ⟨.ref C, dx, .fields vs, sl⟩ ∧ vs[1]? = some .none ∧ E (.ref e) s₁) E s) :
    wpAny M A (raiseStmt env (some x) none) Q E s := by
  have hb : (Value.ref C :: bm).contains (.type "BaseException") = true := by rw [List.contains_cons, hbase, Bool.or_true]
  unfold raiseStmt
  refine wpAny_bind (wpAny_mono h (fun v s₁ h₁ => ?_) fun _ _ z => z)
  obtain ⟨e, dx, vs, sl, rfl, hC, he, h1, hE⟩ := h₁
  obtain ⟨hp, g, d, tk, os⟩ := s₁
  repeat (first | with_reducible refine wpAny_loadPart_at he ?_ | with_reducible refine wpAny_loadPart_at hC ?_ | (with_reducible refine wpAny_isSubtype_exc hC ?_; rw [hb]) | wp_step)
  rw [h1]
  refine wpAny_pure ?_
  rw [if_neg (by decide)]
  exact wpAny_pure (wpAny_raiseNew_none hh hE)
theorem raise_call {x : Str} {np cpos pos : Pos} {args : List Expr} {Q : Flow → Shared → Prop} (hbase : bm.contains (.type "BaseException") = true) (hh : A.handled = none) (hplain : (backTo cpos (starEach args env)).any (·.1) = false)
    (h : wpAny (model prog w) A (eval (.Name x np) env) (fun f s₁ => f = .ref C ∧ wpAny (model prog w) A (evalArgs (.ref C) true (backTo cpos (starEach args env)) [])
      (fun a s₂ => a.kw = [] ∧ s₂.heap.get? C = some (excClassObj nm q C N bs bm hdct sn sub ab col dd k0 k1 k2 k3 k5 "ValueError.__new__") ∧
        wpAny (model prog w) A (call (.ref C) a.pos) (fun v s₃ => ∃ e dx vs sl, v = .ref e ∧ s₃.heap.get? C = some (excClassObj nm q C N bs bm hdct sn sub ab col dd k0 k1 k2 k3 k5 "ValueError.__new__") ∧ s₃.heap.get? e = some ⟨.ref C, dx, .fields vs, sl⟩ ∧ vs[1]? = some .none ∧ E (.ref e) s₃) E s₂) E s₁) E s) :
    wpAny (model prog w) A (exec (.Raise (some (.Call (.Name x np) args [] cpos)) none pos) env) Q E s := by
  rw [arm_exec_Raise]
  refine wpAny_bind (wpAny_standAt (raise_any (C := C) (nm := nm) (q := q) (N := N) (bs := bs) (bm := bm) (hdct := hdct) (sn := sn) (sub := sub) (ab := ab) (col := col) (dd := dd) (k0 := k0) (k1 := k1) (k2 := k2) (k3 := k3) (k5 := k5) hbase hh ?_))
  refine wpAny_bind (wpAny_mono (wpAny_Call_ofName (wpAny_mono h (fun f s₁ h₁ => ?_) fun _ _ z => z)) (fun v s₃ h₃ => wpAny_bind (wpAny_standAt (wpAny_pure h₃))) fun _ _ z => z)
  obtain ⟨rfl, h₁⟩ := h₁
  unfold callWith
  refine wpAny_bind (wpAny_holding (wpAny_mono h₁ (fun a s₂ h₂ => wpAny_bind (wpAny_standAt ?_)) fun _ _ z => z))
  obtain ⟨ap, ak⟩ := a
  obtain ⟨hk, hC, h₂⟩ := h₂
  obtain rfl : ak = [] := hk
  obtain ⟨hp, g, d, tk, os⟩ := s₂
  simp only [hplain]
  refine wpAny_bind (wpAny_keeperOf_exc hC ?_)
  refine wpAny_bind (wpAny_mono h₂ (fun v s₃ h₃ => wpAny_bind (wpAny_holding (wpAny_point (wpAny_pure h₃)))) fun _ _ z => z)
end
end PySem.W
namespace L3
open PySem PySem.Spec PyProof.Rows L2
abbrev XEnD := Value → Int → Mem → Prop
abbrev TXD := Ends3 → XEnD → Lo → Mem → Prop
def XPD (X : Cx) (M : Mem) (H : Hp) (xs : XEnD) (e : Value) (s' : Shared) : Prop :=
  ∃ (pins : List (Addr × Obj)) (σv : L2.St) (M1 : Mem) (H1 : Hp) (ea C dx : Addr) (n : Int), Inv X pins σv H1 s' ∧ Step M H M1 (drp (drp H1 ea) dx) ∧ MRel X.K M1 (drp (drp H1 ea) dx) ∧ e = .ref ea ∧ H1 ea = some (ExcO ea C (some dx)) ∧ X.s₀.heap.get? ea = none ∧ H1 dx = some (.xd [("at", .int n)]) ∧ xs (.ref C) n M1
theorem XPD.trans {X : Cx} {M M1 : Mem} {H H1 : Hp} {xs : XEnD} {e : Value} {s' : Shared} (st : Step M H M1 H1) (h : XPD X M1 H1 xs e s') : XPD X M H xs e s' := by
  obtain ⟨pins, σv, M2, H2, ea, C, dx, n, I, st', r⟩ := h
  exact ⟨pins, σv, M2, H2, ea, C, dx, n, I, st.trans st', r⟩
def PXD (X : Cx) (st : Stmt) (t : TXD) : Prop := ∀ (pins : List (Addr × Obj)) (s : Shared) (σv : L2.St) (H : Hp) (σ : Lo) (M : Mem) (T : Ends3) (xs : XEnD), Inv X pins σv H s → SRel X.K M H σ σv → MRel X.K M H → t T xs σ M →
  wpAny (model X.prog X.w) X.A (exec st X.env) (SP3 X pins M H T) (XPD X M H xs) s
def PXDs (X : Cx) (sts : List Stmt) (t : TXD) : Prop := ∀ (pins : List (Addr × Obj)) (s : Shared) (σv : L2.St) (H : Hp) (σ : Lo) (M : Mem) (T : Ends3) (xs : XEnD), Inv X pins σv H s → SRel X.K M H σ σv → MRel X.K M H → t T xs σ M →
  wpAny (model X.prog X.w) X.A (execs sts X.env) (SP3 X pins M H T) (XPD X M H xs) s
section
variable {X : Cx} {st : Stmt} {rest : List Stmt} {t u : TXD} {pos np cpos : Pos}
theorem pxd_of {t : TS3} (h : PS3 X.nox st t) : PXD X st (fun T _ σ M => t T σ M) := fun pins s σv H σ M T xs I hS hM ht =>
  wpAny_mono (h pins s σv H σ M T (I.wish _) hS hM ht) (fun _ _ q => q.unwish) fun _ _ z => z.elim
def tDSeq (t u : TXD) : TXD := fun T xs σ M => t { T with nx := u T xs } xs σ M
theorem pxds_cons (h1 : PXD X st t) (h2 : PXDs X rest u) : PXDs X (st :: rest) (tDSeq t u) := by
  intro pins s σv H σ M T xs I hS hM h
  refine wpAny_execs_cons (thn (h1 pins s σv H σ M { T with nx := u T xs } xs I hS hM h) fun f s1 q => ?_)
  cases f with
  | next =>
    obtain ⟨σ', σv', M', H', I', st, m', r', q⟩ := q
    exact wpAny_mono (h2 pins s1 σv' H' σ' M' T xs I' r' m' q) (fun _ _ z => z.trans st) fun _ _ z => z.trans st
  | ret v => exact q
  | brk => exact q
  | cont => exact q
theorem pxds_one (h1 : PXD X st t) : PXDs X [st] t := by
  intro pins s σv H σ M T xs I hS hM h
  refine wpAny_execs_cons (thn (h1 pins s σv H σ M T xs I hS hM h) fun f s1 q => ?_)
  cases f with
  | next => exact wpAny_execs_nil q
  | ret v => exact q
  | brk => exact q
  | cont => exact q
theorem pxds_nil : PXDs X [] (fun T _ σ M => T.nx σ M) := fun _ _ σv H σ M T _ I hS hM h => wpAny_execs_nil ⟨σ, σv, M, H, I, .refl, hM, hS, h⟩
def tDIf (c : TT3) (t u : TXD) : TXD := fun T xs σ M => c σ M fun b M1 => if b = true then t T xs σ M1 else u T xs σ M1
theorem pxd_if {c : Expr} {a b : List Stmt} {tc : TT3} (hc : PT3 X.nox c tc) (ha : PXDs X a t) (hb : PXDs X b u) : PXD X (.If c a b pos) (tDIf tc t u) := by
  intro pins s σv H σ M T xs I hS hM h
  refine wpAny_If (wpAny_mono (hc pins s σv H σ M _ (I.wish _) hS hM h) (fun d s1 hx => ?_) fun _ _ z => z.elim)
  obtain ⟨M1, H1, I1, st1, m1, q1⟩ := hx
  cases d with
  | true => exact wpAny_mono (ha pins s1 σv H1 σ M1 T xs I1.unwish (hS.mono st1) m1 q1) (fun _ _ z => z.trans st1) fun _ _ z => z.trans st1
  | false => exact wpAny_mono (hb pins s1 σv H1 σ M1 T xs I1.unwish (hS.mono st1) m1 q1) (fun _ _ z => z.trans st1) fun _ _ z => z.trans st1
def tDRaise (C : Addr) (ta : TA3) : TXD := fun _ xs σ M => ta σ M fun ds M1 => ∃ n : Int, ds = [.int n] ∧ n.natAbs.log2 < 1920 ∧ xs (.ref C) n M1
theorem MRel.more {K : PySem.W.Frag} {M : Mem} {H H' : Hp} (k : ∀ a o, H a = some o → H' a = some o) (m : MRel K M H) : MRel K M H' := fun a u e => by
  have st : Step M H M H' := ⟨fun a o h _ => k a o h, fun _ h => .inl h⟩
  obtain ⟨ho, h1, r⟩ := m a u e
  exact ⟨ho, k a ho h1, r.mono st⟩
theorem pxd_raise {x : Str} {C G fI : Addr} {fd : FuncData} {k : Nat} {e : Expr} {ta : TA3} (hcalm : X.calm = true) (Z : TxtK X.K C G fI) (F : FnOk X.prog X.w X.K X.mg X.base CX0 k fI fd ["self", "at"] (spInit C)) (hr : Room (k + 1) X.A) (hb : Binds X.K fd ["self", "at"] []) (hg : Gl X x) (hm : X.mg x = some (.ref C)) (ha : PA3 X.nox [e] ta)
    (hdb : (x == ("__debug__" : Str)) = false := by decide) (he : starEach [e] X.env = (false, eval e X.env) :: starEach [] X.env := by rfl) (hpl : (backTo cpos (starEach [] X.env)).any (·.1) = false := by rfl) (hex : X.ex = [] := by rfl) :
    PXD X (.Raise (some (.Call (.Name x np) [e] [] cpos)) none pos) (tDRaise C ta) := by
  intro pins s σv H σ M T xs I hS hM h
  obtain ⟨nm, qn, N, bs, sn, sub, ab, col, dd, k0, k1, k2, k3, k5, lC⟩ := Z.lC
  refine PySem.W.raise_call (C := C) (nm := nm) (q := qn) (N := N) (bs := bs) (bm := .ref G :: bmV) (hdct := true) (sn := sn) (sub := sub) (ab := ab) (col := col) (dd := dd) (k0 := k0) (k1 := k1) (k2 := k2) (k3 := k3) (k5 := k5) (by rw [List.contains_cons]; rfl) (I.ok.hd hcalm) (by rw [he]; show (false || (backTo cpos (starEach [] X.env)).any (·.1)) = false; rw [hpl]; rfl) (ld_glob I hg hm ⟨rfl, ?_⟩ hdb)
  have ha' := ha cpos pins s σv H σ M _ (I.wish _) hS hM h
  rw [he] at ha' ⊢
  refine Calls.evalArgs_plain (wpAny_mono ha' (fun us s₂ h₂ => ?_) fun _ _ z => z.elim)
  obtain ⟨ds, vs, M1, H1, I1, st1, m1, r1, p1, n, rfl, hn, hx⟩ := h₂
  have I2 := I1.unwish
  obtain ⟨v, rfl, pv⟩ := reps1 p1
  cases pv
  obtain ⟨u, rfl, ru⟩ := vals1 r1
  have kin := I2.kIn
  refine ⟨rfl, kin _ _ lC, ?_⟩
  obtain ⟨hp, g, d, tt, os⟩ := s₂
  refine PySem.W.call_init kin (kin _ _ lC) (Z.tail kin) Z.fi Z.ft (by show (1 : Nat) ≤ sizeLine; decide) fun h' ea me le => ?_
  obtain ⟨t0, x1, x2, x3⟩ := me.there
  have fr : H1 ea = none := I2.hok.fresh le
  have I3 : Inv X pins σv (upd H1 ea (ExcO ea C none)) ⟨h', g, d, tt, os⟩ := I2.laid (t' := tt) me.keeps le (excO_ok ⟨_, _, t0, x1, rfl, rfl, rfl, rfl, rfl⟩)
  have hsp : spInit C [.ref ea, .int n] (upd H1 ea (ExcO ea C none)) (fun v H' => v = .non ∧ ∃ dx, (∀ a o, upd H1 ea (ExcO ea C none) a = some o → a ≠ ea → H' a = some o) ∧ upd H1 ea (ExcO ea C none) dx = none ∧ H' ea = some (ExcO ea C (some dx)) ∧ H' dx = some (.xd [("at", .int n)])) (fun _ _ _ => False) :=
    ⟨ea, n, rfl, hn, upd_same, fun H' dx k1 k2 k3 k4 => ⟨rfl, dx, k1, k2, k3, k4⟩⟩
  refine wpAny_call (codeAny_mono (F.run _ X.stack _ _ ⟨[.ref ea, u], []⟩ [.ref ea, u] [.ref ea, .int n] _ _ (hr.make C [u] []) (I3.env0.make C [u] []) (hb _ [.ref ea, u] I3.kIn rfl) (.cons rfl (.cons ru .nil)) hsp) fun r s' hq => ?_)
  cases r with
  | error ex => exact False.elim hq
  | ok fl =>
    cases fl with
    | next => exact False.elim hq
    | brk => exact False.elim hq
    | cont => exact False.elim hq
    | ret w' =>
      obtain ⟨v', H', I4, rv, rfl, dx, y1, y2, y3, y4⟩ := I3.after hq
      have hnd : dx ≠ ea := by rintro rfl; rw [upd_same] at y2; cases y2
      rw [upd_ne hnd] at y2
      have up : ∀ a o, H1 a = some o → drp (drp H' ea) dx a = some o := fun a o e => by
        have hae : a ≠ ea := by rintro rfl; rw [fr] at e; cases e
        have had : a ≠ dx := by rintro rfl; rw [y2] at e; cases e
        rw [drp_ne had, drp_ne hae]
        exact y1 a o (by rw [upd_ne hae]; exact e) hae
      obtain ⟨⟨oe, fs, t1, z1, z2, z3, z4, z5, z6⟩, _, _⟩ := I4.hok ea _ y3
      obtain ⟨c1, d1, dt1, sl1⟩ := oe
      cases z2; cases z3
      refine ⟨rv, ea, d1, fs, sl1, rfl, I4.kIn _ _ lC, z1, z5, pins, σv, M1, H', ea, C, dx, n, I4, ⟨fun a o e1 e2 => up a o (st1.keep a o e1 e2), st1.dom⟩, MRel.more up m1, rfl, y3, ?_, y4, hx⟩
      cases e0 : X.s₀.heap.get? ea with
      | none => rfl
      | some o =>
        obtain ⟨o', e1⟩ := I2.base.there ea o e0 (by rw [hex]; exact List.not_mem_nil)
        have := me.new
        rw [e1] at this; cases this
end
end L3
set_option Elab.async false
set_option linter.all false
set_option maxRecDepth 100000
namespace L2
open PySem PySem.Spec PyProof.Rows
section
variable {X : Cx} {pins : List (Addr × Obj)} {σ : St} {H : Hp} {s : Shared} {dx : Addr} {fs : List (Str × V)}
theorem Inv.undict (I : Inv X pins σ H s) (hd : H dx = some (.xd fs)) : Inv X pins σ (drp H dx) s := by
  have ne : ∀ b u, H b = some u → u ≠ .xd fs → b ≠ dx := fun b u e n z => by subst z; rw [hd] at e; exact n (Option.some.inj e).symm
  have lo : ∀ b, H b = none → drp H dx b = none := fun b e => by
    by_cases hb : b = dx
    · subst hb; exact drp_same
    · rw [drp_ne hb]; exact e
  refine ⟨I.ok, I.os, I.bare, ⟨I.base.keep, I.base.slot, fun b o e n hx => lo b (I.base.free b o e n hx), I.base.there, fun b xs e => ?_, fun b o u e => ?_, fun b ps e => ?_⟩, I.loc, I.cell, lo _ I.free, fun x c e => lo _ (I.freeC x c e), fun p hp => ?_, fun a o e => ?_, I.len⟩
  · have := I.base.tups b xs e
    rw [drp_ne (ne b _ this (by intro z; cases z))]; exact this
  · have := I.base.frzs b o u e
    rw [drp_ne (ne b _ this (by intro z; cases z))]; exact this
  · obtain ⟨m, this⟩ := I.base.tbls b ps e
    exact ⟨m, by rw [drp_ne (ne b _ this (by intro z; cases z))]; exact this⟩
  · obtain ⟨e, n, r⟩ := I.pin p hp
    exact ⟨e, lo _ n, r⟩
  · obtain ⟨na, e⟩ := drp_some e
    refine (I.hok a o e).stay (fun b u hb q => q) (fun b q => ?_) fun b xs q => ?_
    · rw [drp_ne (ne b _ q (by intro z; cases z))]; exact q
    · rw [drp_ne (ne b _ q (by intro z; cases z))]; exact q
end
def NsAt (dx : Addr) (od : Obj) (n : Int) : Prop := ∃ m tk, (∀ h : Heap, h.get? dx = some od → h.Ns1 dx m) ∧ m "at" = some (.int n tk)
structure AtOf (cls : Value) (n : Int) (ea : Addr) (oe : Obj) (dx : Addr) (od : Obj) : Prop where
  cl : oe.cls = cls
  da : ∃ vs, oe.data = .fields vs
  di : oe.dict = some dx
  ns : NsAt dx od n
end L2
namespace L3
open PySem PySem.Spec PyProof.Rows L2
abbrev SpXD := List D → Mem → DK → XEnD → Prop
def dnSpD (K : PySem.W.Frag) (sp : SpXD) : Sp := fun vs H Q E => ∃ ds M Q3 E3, Reps K M H ds vs ∧ MRel K M H ∧ sp ds M Q3 E3 ∧ (∀ d v M' H', Step M H M' H' → MRel K M' H' → Rep K M' H' d v → Q3 d M' → Q v H') ∧ ∀ cls n dx M' H', Step M H M' (drp H' dx) → MRel K M' (drp H' dx) → H' dx = some (.xd [("at", .int n)]) → E3 cls n M' → E cls (some dx) H'
section
variable {P : Program} {w : World} {K : PySem.W.Frag} {mg : Str → Option Value} {base : Heap}
theorem Fun.okD {x qual : Str} {st : Stmt} {f : Addr} {fd : FuncData} {N ps : List Str} {k : Nat} {sp : SpXD} (F : Fun K x qual st f fd) (S : FnScope N ps (defScope st)) (len : ∀ ds M Q E, sp ds M Q E → ds.length = ps.length)
    (hbody : ∀ (cdv : Value) (A : Around) (outer : List Env) (s : Shared) (H : Hp) (E : XK), Room k (A.deeper (envOfC qual (defScope st) s.heap.objs.size f cdv)) →
      ∃ t, PXDs (cxOf (CXD P w) P w K mg base N qual (defScope st) f cdv A outer s H E) (defBody st) t ∧ ∀ ds M Q E3, sp ds M Q E3 → t { nx := fun _ M' => View Q .non M', rt := View Q } E3 (start3 N ds) M) :
    FnOk P w K mg base (CXD P w) (k + 1) f fd ps (dnSpD K sp) := by
  obtain ⟨oc, od, kV, doc, pm, an, cdv, ct, osl, rfl, lk, hcd⟩ := F.ex
  refine fn_of lk hcd S (fun vs H Q E ⟨ds, M, Q3, E3, r, _, h, _⟩ => by rw [← r.length]; exact len _ _ _ _ h) fun A outer s H vs Q E hr hx0 => ?_
  obtain ⟨ds, M, Q3, E3, r, m, h, q, qe⟩ := hx0
  obtain ⟨t, ht, hs⟩ := hbody cdv A outer s H E hr
  have fin : ∀ d v M' H', Step M H M' H' → MRel K M' H' → Rep K M' H' d v → View Q3 d M' → Q v H' := fun d v M' H' st m' r' hx0 => by
    obtain ⟨d2, M2, vs2, q2⟩ := hx0
    obtain ⟨m2, r2, s2⟩ := vs2 K H' v m' r'
    exact q d2 v M2 H' (st.less s2) m2 r2 q2
  refine ⟨fun D σ0 H0 => D = { nx := fun _ H' => Q .non H', rt := Q } ∧ σ0 = L2.start N vs ∧ H0 = H, ?_, rfl, rfl, rfl⟩
  rintro pins s1 _ _ _ I ⟨rfl, rfl, rfl⟩
  refine wpAny_mono (ht pins s1 _ _ (start3 N ds) M _ E3 I (start_rel r) m (hs ds M Q3 E3 h)) (fun f s' hq => ?_) fun e s' hq => ?_
  · cases f with
    | next => obtain ⟨σ', σv', M', H', I', st, m', _, z⟩ := hq; exact ⟨σv', H', I', fin .non .non M' H' st m' .non z⟩
    | brk => obtain ⟨_, _, _, _, _, _, _, _, z⟩ := hq; exact z.elim
    | cont => obtain ⟨_, _, _, _, _, _, _, _, z⟩ := hq; exact z.elim
    | ret u => obtain ⟨d, v, σv', M', H', I', st, m', rv, rp, z⟩ := hq; exact ⟨v, σv', H', I', rv, fin d v M' H' st m' rp z⟩
  · obtain ⟨pins', σv, M1, H1, ea, C, dx, n, I', st', m', rfl, y1, y2, y3, z⟩ := hq
    have hne : dx ≠ ea := by rintro rfl; rw [y1] at y3; cases y3
    exact leave_madeD I' y1 y2 (qe _ n dx M1 _ st' m' (by rw [drp_ne hne]; exact y3) z)
end
end L3
set_option Elab.async false
set_option linter.all false
set_option maxRecDepth 100000
namespace L3
open PySem PySem.Spec PyProof.Rows L2
def TryEnD (X : Cx) (pins : List (Addr × Obj)) (σ : Lo) (M : Mem) (H : Hp) (j l : Nat) (T : Lo → Mem → Prop) (EX : Value → Int → Mem → Prop) (s' : Shared) : Prop :=
  (∃ σ' σv' M' H', Inv X pins σv' H' s' ∧ Step M H M' H' ∧ MRel X.K M' H' ∧ SRel X.K M' H' σ' σv' ∧ T σ' M') ∨
  ∃ (ea : Addr) (oe : Obj) (dx : Addr) (od : Obj) (cls : Value) (n : Int) (σv' : L2.St) (M' : Mem) (H' : Hp), Inv ((X.pin1 (dx, od)).pin1 (ea, oe)) pins σv' H' s' ∧ Step M H M' H' ∧ MRel X.K M' H' ∧ SRel X.K M' H' ((σ.set j (some (.ref ea))).set l none) σv' ∧ AtOf cls n ea oe dx od ∧ EX cls n M'
section
variable {X : Cx} {k : Nat} {f C : Addr} {fd : FuncData} {ps : List Str} {sp : SpXD} {fx cx xi xj xl : Str} {i j l : Nat} {e : Expr} {es : List Expr} {ta : TA3} {p cp ap tp np hp pi pj pl ap2 : Pos}
theorem try_okD (hstk : X.stack = X.env :: X.outer) (hfr : X.env.frame = some X.env.locals)
    (F : FnOk X.prog X.w X.K X.mg X.base (CXD X.prog X.w) k f fd ps (dnSpD X.K sp)) (hr : Room k X.A) (hgf : Gl X fx) (hmf : X.mg fx = some (.ref f)) (hkf : PySem.W.keepIn X.K (.ref f) = true) (hb : Binds X.K fd ps [])
    (ha : PA3 X.nox (e :: es) ta) (hN : X.N.Nodup) (hi : X.N[i]? = some xi) (hxi : X.env.scope.names.lookup xi = some .local) (hj : X.N[j]? = some xj) (hxj : X.env.scope.names.lookup xj = some .local) (hl : X.N[l]? = some xl) (hxl : X.env.scope.names.lookup xl = some .local) (hjl : j ≠ l)
    (hgc : Gl X cx) (hmc : X.mg cx = some (.ref C)) (hdf : (fx == ("__debug__" : Str)) = false) (hdc : (cx == ("__debug__" : Str)) = false) (hdl : (xl == ("__debug__" : Str)) = false)
    (hst : starEach (e :: es) X.env = (false, eval e X.env) :: starEach es X.env) (hpl : (backTo cp (starEach es X.env)).any (·.1) = false)
    (hs1 : swapsWith (.Call (.Name fx p) (e :: es) [] cp) (some (.Name xi pi)) ap.line X.env = pure false) (hs2 : swapsWith (.Name xl pl) (some (.Name xj pj)) ap2.line X.env = pure false)
    {pins : List (Addr × Obj)} {s : Shared} {σv : L2.St} {H : Hp} {σ : Lo} {M : Mem} {T : Lo → Mem → Prop} {EX : Value → Int → Mem → Prop} {E : Value → Shared → Prop} (I : Inv X pins σv H s) (hS : SRel X.K M H σ σv) (hM : MRel X.K M H)
    (h : ta σ M fun ds M1 => sp ds M1 (fun d M2 => T (σ.set i (some d)) M2) fun cls n M2 => PySem.W.exmOne X.K cls (.ref C) = some true ∧ EX cls n M2) :
    wpAny (model X.prog X.w) X.A (exec (.Try [.Assign [.Name xi pi] (.Call (.Name fx p) (e :: es) [] cp) ap] [.ExceptHandler (some (.Name cx np)) (some xl) [.Assign [.Name xj pj] (.Name xl pl) ap2] hp] [] [] tp) X.env)
      (fun fl s' => fl = .next ∧ TryEnD X pins σ M H j l T EX s') E s := by
  refine wpAny_Try_except (wpAny_execs_cons ?_)
  refine wpAny_Assign_Name (wpAny_Call_Name_kw (ld_glob I hgf hmf ?_ hdf)) hs1
  refine PySem.W.callWith_K (h₀ := X.base) I.ok.mod.kin hkf (wpAny_mono (ha cp pins s σv H σ M _ (I.wish _) hS hM h) (fun us s1 hx => ?_) fun _ _ z => z.elim) hst hpl
  obtain ⟨ds, vs, M1, H1, I1', st1, m1, r1, p1, q⟩ := hx
  have I1 := I1'.unwish
  refine ⟨I1.kIn, ?_⟩
  have hsp : dnSpD X.K sp vs H1 (fun v H2 => ∃ d M2, Step M H M2 H2 ∧ MRel X.K M2 H2 ∧ Rep X.K M2 H2 d v ∧ T (σ.set i (some d)) M2) (fun cls dx H2 => ∃ n d M2, dx = some d ∧ H2 d = some (.xd [("at", .int n)]) ∧ Step M H M2 (drp H2 d) ∧ MRel X.K M2 (drp H2 d) ∧ PySem.W.exmOne X.K cls (.ref C) = some true ∧ EX cls n M2) :=
    ⟨ds, M1, _, _, p1, m1, q, fun d v M' H' st m r q => ⟨d, M', st1.trans st, m, r, q⟩, fun cls n dx M' H' st m y1 q => ⟨n, dx, M', rfl, y1, st1.trans st, m, q⟩⟩
  have hlen : us.length = ps.length := by rw [← r1.length]; exact F.len _ _ _ _ hsp
  refine wpAny_call (codeAny_mono (F.run X.A X.stack s1 H1 ⟨us, []⟩ us vs _ _ hr I1.env0 (by have := hb s1 us I1.kIn (by simpa using hlen); simpa using this) r1 hsp) fun r s2 hq => ?_)
  cases r with
  | ok fl =>
    cases fl with
    | ret u =>
      obtain ⟨v, H2, I2, rv, d, M2, st2, m2, rp, t⟩ := I1.after hq
      refine store_ok I2 hN hi (.inl hxi) rv (fun s3 I3 => ?_) (.inr hxi)
      refine wpAny_execs_nil (wpAny_execs_nil ⟨rfl, .inl ⟨_, _, M2, H2, I3, st2, m2, (hS.mono st2).set rp i, t⟩⟩)
    | next => exact False.elim hq
    | brk => exact False.elim hq
    | cont => exact False.elim hq
  | error ex =>
    obtain ⟨ea, cls, a0, H2, B, dx, rfl, ho, hg, fl, da, un, hB, hok, n, dx', M2, hdx, yx, st2', m2', hx, hex⟩ := hq
    cases hdx
    have fl' := fl
    rw [hstk] at fl'
    have frm := I1.ok.frames
    rw [hstk] at frm
    refine looksD frm hfr fl' da fun h4 held4 da4 sm4 => ?_
    refine landsD held4 da4 fun h5 fl5 da5 sm5' => ?_
    have sm5 := sm4.trans sm5'
    have kin5 : X.K.In h5 := I1.caught ho hg fl un hB hok fl5.1 sm5 s2.toks |>.kIn
    obtain ⟨ob, hob, hobc⟩ := fl5.there
    refine wpAny_handleBy_cons (codeAny_handlers_test ?_) (by intro q; cases q)
    have I5 : Inv X pins σv H2 { s2 with heap := h5, toks := s2.toks } := I1.caught ho hg fl un hB hok fl5.1 sm5 s2.toks
    refine ld_globA (A := X.A.mark (some (.ref ea))) I5 hgc hmc ?_ hdc
    have LT : PySem.W.Looks (model X.prog X.w) h5 (typeOf (.ref ea)) cls := hobc ▸ (PySem.W.Looks.ld hob).andThen .now
    refine (PySem.W.exm_one kin5 LT hx).at ?_
    refine codeAny_handlers_suite_as ?_
    refine againD fl5 da5 fun h6 fl6 da6 sm6' => ?_
    have sm6 := sm5.trans sm6'
    have I6 : Inv X pins σv H2 { s2 with heap := h6, toks := s2.toks } := I1.caught ho hg fl un hB hok fl6.1 sm6 s2.toks
    obtain ⟨oe, ws, hoe, hoec, hoed, _⟩ := fl6.first
    obtain ⟨oe', hoe', hdi⟩ := da6
    rw [hoe] at hoe'
    cases hoe'
    have nfr : ea ∉ frs X.stack := fun z => by
      obtain ⟨o', e', hd⟩ := frame_data fl6.2.2.1 (by rw [← hstk]; exact z)
      rw [hoe] at e'; cases e'
      exact hd ws hoed
    have out : ∀ b, b ∉ frs X.stack → b ≠ X.env.locals ∧ b ∉ X.fs := fun b nb => by
      refine ⟨fun z => nb ?_, fun z => nb ?_⟩
      · rw [hstk]; unfold frs; rw [List.filterMap_cons, hfr, z]; exact List.mem_cons_self
      · rw [hstk]; unfold frs; rw [List.filterMap_cons, hfr]; exact List.mem_cons_of_mem _ z
    obtain ⟨mA, hn1, hrel⟩ := I6.hok dx _ yx
    obtain ⟨od, es, ep, hod, hrest⟩ := id hn1
    have dfr : dx ∉ frs X.stack := fun z => by
      have := I6.stkFree dx z
      rw [yx] at this; cases this
    have I6' := I6.undict yx
    have hp1 : h6.get? dx = some od ∧ drp H2 dx dx = none ∧ dx ≠ X.env.locals ∧ dx ∉ X.fs ∧ ∀ v, od.data ≠ .cell v := ⟨hod, drp_same, (out dx dfr).1, (out dx dfr).2, fun v z => by rw [hrest.1] at z; cases z⟩
    have I7' := I6'.pin1 (p := (dx, od)) hp1
    have hpin : h6.get? ea = some oe ∧ drp H2 dx ea = none ∧ ea ≠ X.env.locals ∧ ea ∉ X.fs ∧ ∀ v, oe.data ≠ .cell v := by
      refine ⟨hoe, ?_, (out ea nfr).1, (out ea nfr).2, fun v z => ?_⟩
      · have := free_of hok fl6.2.1
        by_cases hb : ea = dx
        · rw [hb]; exact drp_same
        · rw [drp_ne hb]; exact this
      · rw [hoed] at z; cases z
    have I7 := I7'.pin1 (p := (ea, oe)) hpin
    have at1 : mA "at" = some (.int n ((match mA "at" with | some (.int _ tk) => tk | _ => 0))) := by
      have := hrel "at"
      simp only [List.lookup, beq_self_eq_true] at this
      cases e : mA "at" with
      | none => rw [e] at this; exact this.elim
      | some u =>
        rw [e] at this
        obtain ⟨tk, rfl⟩ := (show ∃ tk, u = Value.int n tk from this)
        rfl
    have at2 : AtOf cls n ea oe dx od := ⟨hoec, ⟨ws, hoed⟩, hdi, mA, _, fun h e => ⟨od, es, ep, e, hrest⟩, at1⟩
    refine store_ok (X := (X.pin1 (dx, od)).pin1 (ea, oe)) I7 hN hl (.inl hxl) (v := .ref ea) rfl (fun s8 I8 => ?_) (.inr hxl)
    have hlσ : l < σv.length := by rw [I.len]; exact (List.getElem?_eq_some_iff.mp hl).1
    refine wpAny_execs_cons (wpAny_Assign_Name (ld_local (X := (X.pin1 (dx, od)).pin1 (ea, oe)) I8 hl hxl (v := .ref ea) (by rw [List.getElem?_set_self hlσ]) (fun u ru => ?_) hdl) hs2)
    refine store_ok (X := (X.pin1 (dx, od)).pin1 (ea, oe)) I8 hN hj (.inl hxj) ru (fun s9 I9 => ?_) (.inr hxj)
    refine wpAny_execs_nil ?_
    refine unbind_ok (X := (X.pin1 (dx, od)).pin1 (ea, oe)) I9 hN hl hxl fun s10 I10 => ?_
    refine ⟨rfl, .inr ⟨ea, oe, dx, od, cls, n, _, M2, _, I10, st2', m2', ?_, at2, hex⟩⟩
    have e1 : ((σv.set l (some (.ref ea))).set j (some (.ref ea))).set l none = (σv.set j (some (.ref ea))).set l none := by
      apply List.ext_getElem?
      intro n
      by_cases hn : l = n
      · subst hn; simp [List.getElem?_set]
      · rw [List.getElem?_set_ne hn, List.getElem?_set_ne hn]
        by_cases hn2 : j = n
        · subst hn2; simp [List.getElem?_set]
        · rw [List.getElem?_set_ne hn2, List.getElem?_set_ne hn2, List.getElem?_set_ne hn]
    rw [e1]
    exact ((hS.mono st2').set .ref j).unset l
end
end L3
set_option Elab.async false
set_option linter.all false
set_option maxRecDepth 100000
namespace L3
open PySem PySem.Spec PyProof.Rows L2
section
variable {X : Cx} {pos : Pos}
def tTryD (K : PySem.W.Frag) (C : Addr) (sp : SpXD) (ta : TA3) (i j l : Nat) (tN : TS3) (tE : Addr → Obj → Addr → Obj → Value → Int → TS3) : TS3 := fun T σ M => ta σ M fun ds M1 => sp ds M1 (fun d M2 => tN T (σ.set i (some d)) M2) fun cls n M2 => PySem.W.exmOne K cls (.ref C) = some true ∧ ∀ (ea : Addr) (oe : Obj) (dx : Addr) (od : Obj), AtOf cls n ea oe dx od → tE ea oe dx od cls n T ((σ.set j (some (.ref ea))).set l none) M2
theorem pss3_tryD {k : Nat} {f C : Addr} {fd : FuncData} {ps : List Str} {sp : SpXD} {fx cx xi xj xl : Str} {i j l : Nat} {e : Expr} {es : List Expr} {ta : TA3} {p cp ap tp np hp pi pj pl ap2 : Pos} {rest : List Stmt} {tN : TS3} {tE : Addr → Obj → Addr → Obj → Value → Int → TS3}
    (hstk : X.stack = X.env :: X.outer) (hfr : X.env.frame = some X.env.locals)
    (F : FnOk X.prog X.w X.K X.mg X.base (CXD X.prog X.w) k f fd ps (dnSpD X.K sp)) (hr : Room k X.A) (hgf : Gl X fx) (hmf : X.mg fx = some (.ref f)) (hkf : PySem.W.keepIn X.K (.ref f) = true) (hb : Binds X.K fd ps [])
    (ha : PA3 X.nox (e :: es) ta) (hN : X.N.Nodup) (hi : X.N[i]? = some xi) (hxi : X.env.scope.names.lookup xi = some .local) (hj : X.N[j]? = some xj) (hxj : X.env.scope.names.lookup xj = some .local) (hl : X.N[l]? = some xl) (hxl : X.env.scope.names.lookup xl = some .local) (hjl : j ≠ l)
    (hgc : Gl X cx) (hmc : X.mg cx = some (.ref C)) (hRN : PSs3 X rest tN) (hRE : ∀ ea oe dx od cls n, AtOf cls n ea oe dx od → PSs3 ((X.pin1 (dx, od)).pin1 (ea, oe)) rest (tE ea oe dx od cls n)) (hdf : (fx == ("__debug__" : Str)) = false := by decide) (hdc : (cx == ("__debug__" : Str)) = false := by decide) (hdl : (xl == ("__debug__" : Str)) = false := by decide)
    (hst : starEach (e :: es) X.env = (false, eval e X.env) :: starEach es X.env := by rfl) (hpl : (backTo cp (starEach es X.env)).any (·.1) = false := by rfl)
    (hs1 : swapsWith (.Call (.Name fx p) (e :: es) [] cp) (some (.Name xi pi)) ap.line X.env = pure false := by rfl) (hs2 : swapsWith (.Name xl pl) (some (.Name xj pj)) ap2.line X.env = pure false := by rfl) :
    PSs3 X (.Try [.Assign [.Name xi pi] (.Call (.Name fx p) (e :: es) [] cp) ap] [.ExceptHandler (some (.Name cx np)) (some xl) [.Assign [.Name xj pj] (.Name xl pl) ap2] hp] [] [] tp :: rest) (tTryD X.K C sp ta i j l tN tE) := by
  intro pins s σv H σ M T I hS hM h
  refine wpAny_execs_cons (wpAny_mono (try_okD hstk hfr F hr hgf hmf hkf hb ha hN hi hxi hj hxj hl hxl hjl hgc hmc hdf hdc hdl hst hpl hs1 hs2 (T := fun σ' M' => tN T σ' M') (EX := fun cls n M2 => ∀ (ea : Addr) (oe : Obj) (dx : Addr) (od : Obj), AtOf cls n ea oe dx od → tE ea oe dx od cls n T ((σ.set j (some (.ref ea))).set l none) M2) (E := X.xe) I hS hM h) (fun fl s1 hq => ?_) fun _ _ z => z)
  obtain ⟨rfl, hq | hq⟩ := hq
  · obtain ⟨σ', σv', M', H', I', st, m', r', q⟩ := hq
    exact thn (hRN pins s1 σv' H' σ' M' T I' r' m' q) fun _ _ z => z.trans st
  · obtain ⟨ea, oe, dx, od, cls, n, σv', M', H', I', st, m', r', at2, q⟩ := hq
    exact thn (hRE ea oe dx od cls n at2 pins s1 σv' H' _ M' T I' r' m' (q ea oe dx od at2)) fun _ _ z => (SP3.unpin (SP3.unpin z)).trans st
def tAtD (ea : Addr) (n : Int) (te : TE3) : TE3 := fun σ M Q => te σ M fun d M1 => d = .ref ea ∧ Q (.int n) M1
theorem pe3_atD {C G fI ea dx : Addr} {oe od : Obj} {cls : Value} {n : Int} {e : Expr} {te : TE3} (Z : TxtK X.K C G fI) (hp : (ea, oe) ∈ X.pn) (hq : (dx, od) ∈ X.pn) (at2 : AtOf cls n ea oe dx od) (hc : cls = .ref C) (he : PE3 X e te) (hb : attributeBase e "at" X.env (eval e X.env) = eval e X.env := by rfl) : PE3 X (.Attribute e "at" pos) (tAtD ea n te) := by
  intro pins s σv H σ M Q I hS hM h
  refine attr_of hb (thn (he pins s σv H σ M _ I hS hM h) fun u s1 hx => ?_)
  obtain ⟨d, v, M1, H1, I1, st1, m1, r1, p1, rfl, q⟩ := hx
  cases p1
  obtain rfl : u = .ref ea := r1
  have pe := (I1.pin (ea, oe) (List.mem_append_left _ hp)).1
  have pd := (I1.pin (dx, od) (List.mem_append_left _ hq)).1
  obtain ⟨vs, hda⟩ := at2.da
  obtain ⟨m, tk, hns, hat⟩ := at2.ns
  obtain ⟨nm, qn, N, bs, sn, sub, ab, col, dd, k0, k1, k2, k3, k5, lC⟩ := Z.lC
  have kin := I1.kIn
  have I2 : Inv X pins σv H1 { s1 with toks := s1.toks + 1 } := I1.tok _
  obtain ⟨hh, g, d, tt, os⟩ := s1
  exact PySem.W.load_at Z.ex kin (kin _ _ lC) Z.na pe (at2.cl.trans hc) hda at2.di (hns hh pd) hat rfl ⟨.int n, .int n, M1, H1, I2, st1, m1, ⟨tk, rfl⟩, .int, q⟩
end
end L3
set_option Elab.async false
set_option linter.all false
set_option maxRecDepth 100000
namespace MK
open PySem L2 L3
end MK
set_option Elab.async false
set_option linter.all false
set_option maxRecDepth 100000
namespace MK
open PySem L2 L3
abbrev N__law_pen : List Str := ["_law_script"]
def t__law_pen : TS3 :=
    (tRet3 (tDispM3 [((tC3 (.str "cells")), (tCB3 rList3 (tCons3 (tSl3 (tVar3 0) tNoPart3 (tPart3 (tC3 (.int 63)))) tNil3))), ((tC3 (.str "at")), (tC3 (.int 0))), ((tC3 (.str "left")), (tC3 (.int 0)))]))
abbrev N__law_draw : List Str := ["_law_pen_here", "_law_many", "_law_digit", "_law_cells", "_law_at", "_law_cell", "_law_number"]
def t__law_draw : TS3 :=
    (tSeq3 (tIfS3 (tTest3 (tOp3 rGt3 (tOp3 rDGet3 (tVar3 0) (tC3 (.str "left"))) (tC3 (.int 0)))) (tSeq3 (tSet3 2 (tOp3 rMod3 (tOp3 rDGet3 (tVar3 0) (tC3 (.str "left"))) (tVar3 1)))
    (tSeq3 (tDPut3 (tVar3 0) (tC3 (.str "left")) (tOp3 rFdiv3 (tOp3 rDGet3 (tVar3 0) (tC3 (.str "left"))) (tVar3 1)))
    (tRet3 (tVar3 2)))) tNext3)
    (tSeq3 (tSet3 3 (tOp3 rDGet3 (tVar3 0) (tC3 (.str "cells"))))
    (tSeq3 (tSet3 4 (tOp3 rDGet3 (tVar3 0) (tC3 (.str "at"))))
    (tSeq3 (tDPut3 (tVar3 0) (tC3 (.str "at")) (tOp3 rAdd3 (tVar3 4) (tC3 (.int 1))))
    (tSeq3 (tSet3 5 (tOp3 rAdd3 (tOp3 rMul3 (tC3 (.int 30011)) (tVar3 4)) (tC3 (.int 77))))
    (tSeq3 (tIfS3 (tTest3 (tOp3 rNe3 (tVar3 3) (tLst3 tNil3))) (tSet3 5 (tOp3 rIx3 (tVar3 3) (tOp3 rMod3 (tVar3 4) (tCB3 rLen3 (tCons3 (tVar3 3) tNil3))))) tNext3)
    (tSeq3 (tIfS3 (tAnd3 (tTest3 (tOp3 rLt3 (tVar3 4) (tCB3 rLen3 (tCons3 (tVar3 3) tNil3)))) (tTest3 (tOp3 rGe3 (tCB3 rAbs3 (tCons3 (tVar3 5) tNil3)) (tOp3 rPow3 (tC3 (.int 10)) (tC3 (.int 18)))))) (tSeq3 (tDPut3 (tVar3 0) (tC3 (.str "left")) (tOp3 rFdiv3 (tCB3 rAbs3 (tCons3 (tVar3 5) tNil3)) (tVar3 1)))
    (tRet3 (tOp3 rMod3 (tCB3 rAbs3 (tCons3 (tVar3 5) tNil3)) (tVar3 1)))) tNext3)
    (tSeq3 (tSet3 6 (tOp3 rMod3 (tOp3 rPow3 (tOp3 rAdd3 (tOp3 rAdd3 (tOp3 rMod3 (tVar3 5) (tC3 (.int 2147483587))) (tOp3 rMul3 (tC3 (.int 50021)) (tVar3 4))) (tC3 (.int 29))) (tC3 (.int 5))) (tC3 (.int 2147483629))))
    (tSeq3 (tSet3 6 (tOp3 rMod3 (tOp3 rPow3 (tOp3 rAdd3 (tOp3 rMul3 (tVar3 6) (tOp3 rAdd3 (tOp3 rMul3 (tC3 (.int 2)) (tVar3 4)) (tC3 (.int 5)))) (tC3 (.int 81799))) (tC3 (.int 3))) (tC3 (.int 2147483647))))
    (tRet3 (tOp3 rMod3 (tOp3 rFdiv3 (tVar3 6) (tC3 (.int 16))) (tVar3 1))))))))))))
end MK
set_option Elab.async false
set_option linter.all false
set_option maxRecDepth 100000
open L3
local macro_rules | `(tactic| walk_at "rd") => `(tactic| repeat (first | with_reducible refine rd_seq ?_ | with_reducible refine rd_ifs ?_ | with_reducible refine rd_test ?_ | with_reducible refine rd_op ?_ | with_reducible refine rd_un ?_ | with_reducible refine rd_c ?_ | with_reducible refine rd_ret ?_ | with_reducible refine rd_set ?_ | with_reducible refine rd_drop ?_ | with_reducible refine rd_next ?_ | with_reducible refine rd_call ?_ | with_reducible refine rd_cb ?_ | with_reducible refine rd_nil ?_ | with_reducible refine rd_cons ?_ | with_reducible refine rd_tupE ?_ | with_reducible refine rd_lstE ?_ | with_reducible refine rd_and ?_ | with_reducible refine rd_or ?_ | with_reducible refine rd_not ?_ | with_reducible refine rd_andV ?_ | with_reducible refine rd_orV ?_ | with_reducible refine rd_notV ?_ | with_reducible refine rd_if3 ?_ | with_reducible refine rd_chain ?_ | with_reducible refine rd_sl ?_ | with_reducible refine rd_np ?_ | with_reducible refine rd_part ?_ | with_reducible refine rd_bl ?_ | with_reducible refine rd_iteT ?_ | with_reducible refine rd_iteF ?_ | with_reducible refine rd_iteNT ?_ | with_reducible refine rd_iteNF ?_ | with_reducible refine rd_I0 ?_ | with_reducible refine rd_U ?_ | with_reducible refine rd_addI ?_ | with_reducible refine rd_lenL ?_ | with_reducible refine rd_lenT ?_ | with_reducible refine rd_abs ?_ | with_reducible refine rd_intI ?_ | with_reducible refine rd_intB ?_ | with_reducible refine rd_listL ?_ | with_reducible refine rd_listT ?_ | with_reducible refine rd_slL ?_ | with_reducible refine rd_isN ?_ | with_reducible refine rd_isntN ?_ | with_reducible refine rd_asg ?_ | with_reducible refine rd_gName ?_ | with_reducible refine rd_true ?_ | with_reducible refine rd_bm ?_ | with_reducible refine rd_slA ?_ | with_reducible refine rd_slAL ?_ | with_reducible refine rd_intTI ?_ | with_reducible refine rd_intTB ?_ | with_reducible refine rd_join3 ?_ | with_reducible refine rd_parts ?_ | with_reducible refine rd_fmt ?_ | with_reducible refine rd_lstM ?_ | with_reducible refine rd_minI ?_ | with_reducible refine rd_tupL ?_ | with_reducible refine rd_tupT ?_ | with_reducible refine rd_addI ?_ | with_reducible refine rd_comp ?_ | with_reducible refine rd_forG ?_ | with_reducible refine rd_iStr ?_ | with_reducible refine rd_iTup ?_ | with_reducible refine rd_iList ?_ | with_reducible refine rd_onStr ?_ | with_reducible refine rd_onTup ?_ | with_reducible refine rd_onLst ?_ | with_reducible refine rd_eqI ?_ | with_reducible refine rd_neI ?_ | with_reducible refine rd_eqB ?_ | with_reducible refine rd_neB ?_ | with_reducible refine rd_eqS ?_ | with_reducible refine rd_neS ?_ | with_reducible refine rd_for ?_ | with_reducible refine rd_rng ?_ | ((with_reducible show tVar3 _ _ _ _); refine rd_var rfl ?_) | ((with_reducible show _ ∧ _); refine ⟨(by first | decide | (simp only [List.length_cons, List.length_nil]; decide)), ?_⟩)))
namespace MK
open PySem L2 L3
theorem len__law_pen : ∀ ds M Q, spPen ds M Q → ds.length = 1 := by rintro _ _ _ ⟨_, rfl, _⟩; rfl
theorem rd__law_pen : ∀ ds M Q, spPen ds M Q → t__law_pen { nx := fun _ M' => View Q .non M', rt := View Q } (start3 N__law_pen ds) M := by
  intro ds M Q h
  obtain ⟨d, rfl⟩ : ∃ d, ds = [d] := by obtain ⟨ns, rfl, _⟩ := h; exact ⟨_, rfl⟩
  exact rd_pen h d rfl _
theorem len__law_draw : ∀ ds M Q, spDraw ds M Q → ds.length = 2 := by rintro _ _ _ ⟨_, _, _, rfl, _⟩; rfl
theorem rd__law_draw : ∀ ds M Q, spDraw ds M Q → t__law_draw { nx := fun _ M' => View Q .non M', rt := View Q } (start3 N__law_draw ds) M := by
  intro ds M Q h
  obtain ⟨d0, d1, rfl⟩ : ∃ d0 d1, ds = [d0, d1] := by obtain ⟨_, _, _, rfl, _⟩ := h; exact ⟨_, _, rfl⟩
  exact rd_draw h d0 d1 rfl _
def one (c : Nat) : Str := ⟨#[c]⟩
theorem glue_fold : ∀ (cs : List Nat) (a : Array Nat), (List.foldl (fun acc (p : Str) => acc ++ (("" : Str)).cps ++ p.cps) a (cs.map one)).toList = a.toList ++ cs
  | [], a => by simp
  | c :: cs, a => by
    rw [List.map_cons, List.foldl_cons, glue_fold cs]
    have : (("" : Str)).cps = #[] := by decide +kernel
    rw [this]
    simp [one]
theorem glue_ones (cs : List Nat) : (Txt.join "" (cs.map one)).cps.toList = cs := by
  show (List.foldl _ (((cs.map one).headD Str.empty).cps) (List.drop 1 (cs.map one))).toList = cs
  cases cs with
  | nil => rfl
  | cons c cs =>
    rw [List.map_cons, List.drop_one, List.tail_cons]
    refine (glue_fold cs _).trans ?_
    simp [one]
theorem len_app (x y : Str) : (x ++ y).length = x.length + y.length := by rw [len_cps, cps_app, List.length_append, ← len_cps, ← len_cps]
end MK
set_option Elab.async false
set_option linter.all false
set_option maxRecDepth 100000
namespace K01
open PySem L2 L3
def eqOk (x : D) : Prop := dOk x ∨ ∃ kvs, x = .dct kvs
def txOk (z : Str) : Prop := z.length ≤ 1000 ∧ ∀ c ∈ z.cps.toList, c < 128
def thOk (d : D) : Prop := okTy d ∧ ∀ xs, d = .tup xs → ∀ x ∈ xs, okTy x ∧ eqOk x
def wdOk (d : D) : Prop := okTy d ∧ ∀ z, d = .str z → txOk z
def iOk (n : Int) : Prop := n.natAbs < 2 ^ 140
def WorthD (xs : List D) : Prop := xs = [.str "none"] ∨ ∃ n, iOk n ∧ (xs = [.str "number", .int n] ∨ xs = [.str "giver", .int n])
def Thing (d : D) : Prop := shE d ∧ thOk d ∧ wdOk d
end K01
set_option Elab.async false
set_option linter.all false
set_option maxRecDepth 100000
namespace K01
open PySem L2 L3
end K01
set_option Elab.async false
set_option linter.all false
set_option maxRecDepth 100000
namespace K01
open PySem L2 L3
def okB : D → Bool
  | .ref _ | .ty _ => false
  | _ => true
theorem okB_ty {d : D} (h : okB d = true) : okTy d := by cases d <;> first | trivial | cases h
def eqB (x : D) : Bool := (plain x && ((pyD x).canLay0 && decide ((pyD x).depth ≤ 60))) || (match x with | .dct _ => true | _ => false)
theorem eqB_ok {x : D} (h : eqB x = true) : eqOk x := by
  unfold eqB at h
  rw [Bool.or_eq_true] at h
  rcases h with h | h
  · rw [Bool.and_eq_true, Bool.and_eq_true, decide_eq_true_eq] at h
    exact .inl h
  · cases x <;> first | exact .inr ⟨_, rfl⟩ | cases h
def elB (x : D) : Bool := okB x && (eqB x && (plainE x && ((pyE x).showable && (decide ((pyE x).depth ≤ 5) && ((pyE x).leavesShort 200 && decide ((pyE x).weight ≤ 400))))))
structure El (x : D) : Prop where
  ok : okTy x
  eq : eqOk x
  pl : plainE x = true
  sh : (pyE x).showable = true
  dp : (pyE x).depth ≤ 5
  lf : (pyE x).leavesShort 200 = true
  wt : (pyE x).weight ≤ 400
theorem elB_el {x : D} (h : elB x = true) : El x := by
  unfold elB at h
  simp only [Bool.and_eq_true, decide_eq_true_eq] at h
  obtain ⟨h1, h2, h3, h4, h5, h6, h7⟩ := h
  exact ⟨okB_ty h1, eqB_ok h2, h3, h4, h5, h6, h7⟩
structure Els (xs : List D) : Prop where
  pl : plainEs xs = true
  sh : PyData.showableAll (pyEs xs) = true
  dp : PyData.depthAll (pyEs xs) ≤ 5
  lf : PyData.leavesShortAll 200 (pyEs xs) = true
  wt : PyData.weightAll (pyEs xs) ≤ 401 * xs.length
theorem els : ∀ {xs : List D}, (∀ x ∈ xs, El x) → Els xs
  | [], _ => ⟨rfl, rfl, Nat.zero_le _, rfl, Nat.le_refl _⟩
  | x :: xs, h => by
    have a := h x List.mem_cons_self
    have b := els fun y hy => h y (List.mem_cons_of_mem _ hy)
    refine ⟨?_, ?_, ?_, ?_, ?_⟩
    · simp only [plainEs, Bool.and_eq_true]; exact ⟨a.pl, b.pl⟩
    · simp only [pyEs, PyData.showableAll, Bool.and_eq_true]; exact ⟨a.sh, b.sh⟩
    · simp only [pyEs, PyData.depthAll]; exact Nat.max_le.mpr ⟨a.dp, b.dp⟩
    · simp only [pyEs, PyData.leavesShortAll, Bool.and_eq_true]; exact ⟨a.lf, b.lf⟩
    · simp only [pyEs, PyData.weightAll, List.length_cons]
      have := a.wt
      have := b.wt
      lia
theorem sh_of {d : D} (pl : plainE d = true) (sh : (pyE d).showable = true) (hd : (pyE d).hasDict = true → noLst d = true) (dp : (pyE d).depth ≤ 10) (lf : (pyE d).leavesShort 200 = true) (wt : (pyE d).weight ≤ 4000) : shE d := by
  refine ⟨pl, sh, hd, by lia, ?_⟩
  have h1 := PyData.shown_le 200 (by decide) _ lf
  have h3 : (200 + 2) * (pyE d).weight ≤ 202 * 4000 := Nat.mul_le_mul (by decide) wt
  rw [sizeLine_eq]
  lia
theorem sh_lst {xs : List D} (h : ∀ x ∈ xs, El x) (hl : xs.length ≤ 8) (hd : PyData.hasDictAll (pyEs xs) = false) : shE (.lst xs) := by
  have a := els h
  have hw := a.wt
  have hdp := a.dp
  refine sh_of (by simpa [plainE] using a.pl) (by simpa [pyE, PyData.showable] using a.sh) (fun z => ?_) ?_ (by simpa [pyE, PyData.leavesShort] using a.lf) ?_
  · simp only [pyE, PyData.hasDict, hd] at z; cases z
  · simp only [pyE, PyData.depth]; lia
  · simp only [pyE, PyData.weight]; lia
theorem dict_none : ∀ {xs : List D}, (∀ x ∈ xs, (pyE x).hasDict = false) → PyData.hasDictAll (pyEs xs) = false
  | [], _ => rfl
  | x :: xs, h => by
    simp only [pyEs, PyData.hasDictAll, h x List.mem_cons_self, dict_none fun y hy => h y (List.mem_cons_of_mem _ hy)]; rfl
def thB (d : D) : Bool := elB d && ((!(pyE d).hasDict || noLst d) && (match d with
  | .tup xs => xs.all fun x => okB x && eqB x
  | .str z => decide (z.length ≤ 1000) && z.cps.toList.all fun c => decide (c < 128)
  | _ => true))
theorem thB_thing {d : D} (h : thB d = true) : Thing d ∧ El d ∧ ((pyE d).hasDict = true → noLst d = true) := by
  unfold thB at h
  rw [Bool.and_eq_true, Bool.and_eq_true] at h
  obtain ⟨h1, h2, h3⟩ := h
  have e := elB_el h1
  have hd : (pyE d).hasDict = true → noLst d = true := fun z => by
    rw [z] at h2; simpa using h2
  refine ⟨⟨sh_of e.pl e.sh hd (Nat.le_trans e.dp (by decide)) e.lf (Nat.le_trans e.wt (by decide)), ⟨e.ok, fun xs ed x hx => ?_⟩, e.ok, fun z ed => ?_⟩, e, hd⟩
  · subst ed
    have := List.all_eq_true.mp h3 x hx
    rw [Bool.and_eq_true] at this
    exact ⟨okB_ty this.1, eqB_ok this.2⟩
  · subst ed
    simp only [Bool.and_eq_true, decide_eq_true_eq, List.all_eq_true] at h3
    exact h3
theorem log_small {n : Int} {k : Nat} (hk : 0 < k) (h : n.natAbs < 2 ^ k) : n.natAbs.log2 < k := by
  by_cases h0 : n.natAbs = 0
  · rw [h0]; exact hk
  · exact (Nat.log2_lt h0).mpr h
theorem tI_len {n : Int} (h : iOk n) : (tI n).length ≤ 60 := by
  unfold iOk at h
  have h43 : n.natAbs < 10 ^ 43 := Nat.lt_trans h (by decide)
  rw [len_cps]
  cases n with
  | ofNat m =>
    show (tI (m : Int)).cps.toList.length ≤ 60
    rw [cps_nat]
    exact Nat.le_trans (dg_len (k := 43) (by decide) h43) (by decide)
  | negSucc m =>
    rw [cps_neg]
    have := dg_len (m := m + 1) (k := 43) (by decide) h43
    rw [List.length_cons]; lia
theorem asc_ok {z : Str} (h : ∀ c ∈ z.cps.toList, c < 128) : PyData.strOk z = true := by
  unfold PyData.strOk
  rw [Array.all_eq_true_iff_forall_mem]
  intro c hc
  have := h c (Array.mem_toList_iff.mpr hc)
  simp only [decide_eq_true_eq]
  lia
theorem el_str {z : Str} (hl : z.length ≤ 100) (h : ∀ c ∈ z.cps.toList, c < 128) : El (.str z) ∧ (pyE (.str z)).hasDict = false ∧ noLst (.str z) = true := by
  refine ⟨⟨trivial, .inl (strOkD (asc_ok h)), rfl, rfl, Nat.zero_le _, ?_, ?_⟩, rfl, rfl⟩
  · simp only [pyE, PyData.leavesShort, List.all_eq_true, decide_eq_true_eq]
    intro c hc
    have := h c hc
    have e : (16 : Nat) ^ 8 = 4294967296 := by decide
    lia
  · simp only [pyE, PyData.weight]
    have : z.cps.size ≤ 100 := hl
    lia
theorem el_int {n : Int} (h : iOk n) : El (.int n) ∧ (pyE (.int n)).hasDict = false ∧ noLst (.int n) = true := by
  have hl := log_small (by decide) h
  refine ⟨⟨trivial, .inl intOkD, rfl, ?_, Nat.zero_le _, ?_, ?_⟩, rfl, rfl⟩
  · simp only [pyE, PyData.showable, decide_eq_true_eq]; lia
  · simp only [pyE, PyData.leavesShort, decide_eq_true_eq, PyData.shown]
    exact decide_eq_true (Nat.le_trans (tI_len h) (show (60 : Nat) ≤ 200 by decide))
  · simp only [pyE, PyData.weight]
    split <;> lia
theorem slice_mem {z : Str} {l u : Option Int} {c : Nat} (h : c ∈ (Txt.slice z l u).cps.toList) : c ∈ z.cps.toList := by
  unfold Txt.slice at h
  split at h
  · exact h
  · obtain ⟨i, _, hi⟩ := List.mem_filterMap.mp (by simpa using h)
    rw [Array.mem_toList_iff]
    exact Array.mem_of_getElem? hi
end K01
set_option Elab.async false
set_option linter.all false
set_option maxRecDepth 100000
namespace L3
open PySem L2
theorem rd_slW {te : TE3} {tl th : TO3} {σ : Lo} {M : Mem} {Q : DK} (h : te σ M fun x M1 => tl σ M1 fun l M2 => th σ M2 fun u M3 => rSlW3 x l u M3 Q) : tSlW3 te tl th σ M Q := h
theorem rd_slWS {z : Str} {l u : Option Int} {M : Mem} {Q : DK} (hz : z.length ≤ sizeLine) (h : Q (.str (Txt.slice z l u)) M) : rSlW3 (.str z) l u M Q := ⟨hz, h⟩
theorem rd_eqEI {x y : Int} {M : Mem} {Q : DK} (h : Q (.bl (x == y)) M) : rEqE3 (.int x) (.int y) M Q := .inl (rd_eqI h)
theorem rd_eqES {x y : Str} {M : Mem} {Q : DK} (h : Q (.bl (x == y)) M) : rEqE3 (.str x) (.str y) M Q := .inl (rd_eqS h)
theorem rd_reprE {d : D} {M : Mem} {Q : DK} (hd : shE d) (h : Q (.str (pyE d).shown) M) : rReprE3 [d] M Q := ⟨hd, h⟩
end L3
open L3
local macro_rules | `(tactic| walk_at "rd") => `(tactic| repeat (first | with_reducible refine rd_seq ?_ | with_reducible refine rd_ifs ?_ | with_reducible refine rd_test ?_ | with_reducible refine rd_op ?_ | with_reducible refine rd_un ?_ | with_reducible refine rd_c ?_ | with_reducible refine rd_ret ?_ | with_reducible refine rd_set ?_ | with_reducible refine rd_drop ?_ | with_reducible refine rd_next ?_ | with_reducible refine rd_call ?_ | with_reducible refine rd_cb ?_ | with_reducible refine rd_nil ?_ | with_reducible refine rd_cons ?_ | with_reducible refine rd_tupE ?_ | with_reducible refine rd_lstE ?_ | with_reducible refine rd_and ?_ | with_reducible refine rd_or ?_ | with_reducible refine rd_not ?_ | with_reducible refine rd_andV ?_ | with_reducible refine rd_orV ?_ | with_reducible refine rd_notV ?_ | with_reducible refine rd_if3 ?_ | with_reducible refine rd_chain ?_ | with_reducible refine rd_sl ?_ | with_reducible refine rd_np ?_ | with_reducible refine rd_part ?_ | with_reducible refine rd_bl ?_ | with_reducible refine rd_iteT ?_ | with_reducible refine rd_iteF ?_ | with_reducible refine rd_iteNT ?_ | with_reducible refine rd_iteNF ?_ | with_reducible refine rd_I0 ?_ | with_reducible refine rd_U ?_ | with_reducible refine rd_addI ?_ | with_reducible refine rd_lenL ?_ | with_reducible refine rd_lenT ?_ | with_reducible refine rd_abs ?_ | with_reducible refine rd_intI ?_ | with_reducible refine rd_intB ?_ | with_reducible refine rd_listL ?_ | with_reducible refine rd_listT ?_ | with_reducible refine rd_slL ?_ | with_reducible refine rd_isN ?_ | with_reducible refine rd_isntN ?_ | with_reducible refine rd_asg ?_ | with_reducible refine rd_gName ?_ | with_reducible refine rd_true ?_ | with_reducible refine rd_bm ?_ | with_reducible refine rd_slW ?_ | with_reducible refine rd_slWL ?_ | with_reducible refine rd_slWT ?_ | with_reducible refine rd_eqEI ?_ | with_reducible refine rd_eqEB ?_ | with_reducible refine rd_eqES ?_ | with_reducible refine rd_revE ?_ | with_reducible refine rd_intTI ?_ | with_reducible refine rd_intTB ?_ | with_reducible refine rd_join3 ?_ | with_reducible refine rd_parts ?_ | with_reducible refine rd_fmt ?_ | with_reducible refine rd_lstM ?_ | with_reducible refine rd_minI ?_ | with_reducible refine rd_tupL ?_ | with_reducible refine rd_tupT ?_ | with_reducible refine rd_addI ?_ | with_reducible refine rd_comp ?_ | with_reducible refine rd_forG ?_ | with_reducible refine rd_iStr ?_ | with_reducible refine rd_iTup ?_ | with_reducible refine rd_iList ?_ | with_reducible refine rd_onStr ?_ | with_reducible refine rd_onTup ?_ | with_reducible refine rd_onLst ?_ | with_reducible refine rd_eqI ?_ | with_reducible refine rd_neI ?_ | with_reducible refine rd_eqB ?_ | with_reducible refine rd_neB ?_ | with_reducible refine rd_eqS ?_ | with_reducible refine rd_neS ?_ | with_reducible refine rd_for ?_ | with_reducible refine rd_rng ?_ | ((with_reducible show tVar3 _ _ _ _); refine rd_var rfl ?_) | ((with_reducible show _ ∧ _); refine ⟨(by first | decide | (simp only [List.length_cons, List.length_nil]; decide)), ?_⟩)))
namespace K01
open PySem L2 L3
def isTxt : D → Bool
  | .str _ => true | _ => false
theorem isin_str (x : D) : isIn (tyN x) "str" = isTxt x ∨ ¬ okTy x := by
  cases x <;> first | exact .inr id | (left; simp only [tyN, isTxt]; decide +kernel)
theorem rd_isText {x : D} {M : Mem} {Q : DK} (h : okTy x) (q : Q (.bl (isTxt x)) M) : rIsi3 [x, .ty "str"] M Q :=
  rd_isi h (.inr (.inr (.inl rfl))) (by rw [(isin_str x).resolve_right fun z => z h]; exact q)
end K01
set_option Elab.async false
set_option linter.all false
set_option maxRecDepth 100000
open L3
namespace K01
open PySem L2 L3
theorem comp_filtX {α : Type} {gt : TG3} {tt : TT3} {te : TE3} {σ0 : Lo} {M1 : Mem} {Q : DK} (l : List α) (f g : α → D) (c : α → Bool) (hl : l.length < sizeLine)
    (turn : ∀ a ∈ l, ∀ M2 (R : D → Mem → Prop) (F : Mem → Prop), (∀ x, M1 x ≠ none → M2 x = M1 x) → (c a = true → R (g a) M2) → (c a = false → F M2) → gt (f a) σ0 M2 fun σ' M3 => tt σ' M3 fun bb M4 => if bb = true then te σ' M4 R else F M4)
    (done : Q (.lst ((l.filter c).map g)) M1) : CompB gt tt te σ0 (l.map f) M1 Q := by
  intro p hp
  refine ⟨fun k acc M2 => acc = ((l.take k).filter c).map g ∧ M2 p = some (.lst acc) ∧ ∀ a, a ≠ p → M2 a = M1 a, ⟨rfl, mput_same, fun a ha => mput_ne ha⟩, ?_, ?_⟩
  · rintro k d acc M2 hd ⟨rfl, hacc, hsame⟩
    have hk : k < l.length := by simpa using (List.getElem?_eq_some_iff.mp hd).1
    have hdk : d = f l[k] := by
      rw [List.getElem?_map, List.getElem?_eq_getElem hk] at hd
      exact (Option.some.inj hd).symm
    subst hdk
    have hlen : (((l.take k).filter c).map g).length ≤ k := by
      rw [List.length_map]
      exact Nat.le_trans (List.length_filter_le _ _) (by simp; lia)
    have e1 : l.take (k + 1) = l.take k ++ [l[k]] := by rw [List.take_succ, List.getElem?_eq_getElem hk]; rfl
    refine turn l[k] (List.getElem_mem hk) M2 _ _ (fun a ha => hsame a (by rintro rfl; exact ha hp)) (fun hc => ⟨hacc, by lia, ?_, mput_same, fun a ha => by rw [mput_ne ha]; exact hsame a ha⟩) (fun hc => ⟨?_, hacc, hsame⟩)
    · rw [e1, List.filter_append, List.filter_cons_of_pos hc, List.map_append]; rfl
    · rw [e1, List.filter_append, List.filter_cons_of_neg (by rw [hc]; simp), List.map_append]; simp
  · rintro acc M2 ⟨rfl, hacc, hsame⟩
    have hlen : (l.map f).length = l.length := by simp
    rw [hlen, List.take_length] at hacc ⊢
    have : mdel M2 p = M1 := funext fun a => by
      by_cases ha : a = p
      · subst ha; rw [mdel_same, hp]
      · rw [mdel_ne ha]; exact hsame a ha
    rw [this]
    exact ⟨hacc, done⟩
end K01
set_option Elab.async false
set_option linter.all false
set_option maxRecDepth 100000
open L3
namespace K01
open PySem L2 L3
def signs : Str := " !\"#$&'()*+,-./0123456789:;<=>?@ABCDEFGHIJKLMNOPQRSTUVWXYZ[\\]^_`abcdefghijklmnopqrstuvwxyz{|}~\n"
theorem signs_len : signs.length = 95 - 1 + 0 ∨ signs.length = 95 ∨ signs.length = 93 ∨ signs.length = 96 := by decide +kernel
theorem signs_asc : (signs.cps.toList.all fun c => decide (c < 128)) = true := by decide +kernel
end K01
set_option Elab.async false
set_option linter.all false
set_option maxRecDepth 100000
namespace K06
open PySem L2 L3
def spSign : Sp3 := fun ds M Q => ∃ p b, ds = [.ref p] ∧ Pen M p b ∧ b + 1 < 2 ^ 30 ∧ ∀ c M', c < 128 → Pen M' p (b + 1) → Same3 p M M' → Q (.str ⟨#[c]⟩) M'
structure CK (K : PySem.W.Frag) (cG cN c1 c2 c3 c4 c5 c6 c7 c8 c9 c10 : Addr) : Prop where
  zk : PySem.W.ExcK K cN
  cl : (PySem.W.clsIn K cN).isSome = true
  ex : PySem.W.exmOne K (.ref cN) (.ref cG) = some true
  v : PySem.W.kitOne K (.ref cN) (.type "ValueError") = some true
  o : PySem.W.kitAny K (.ref cN) [.ref c1, .ref c2, .ref c3, .ref c4, .ref c5, .ref c6, .ref c7, .ref c8, .ref c9, .ref c10] = some false
theorem cls_of {K : PySem.W.Frag} {C : Addr} {bm : List Value} {n : String} (q : PySem.W.excIn K C bm n = true) : (PySem.W.clsIn K C).isSome = true := by
  unfold PySem.W.excIn at q
  unfold PySem.W.clsIn
  split at q
  · rename_i ho
    rw [ho]; rfl
  · cases q
theorem b3_ValueError : bootBuiltins "ValueError" = some (.type "ValueError") := by decide +kernel
end K06
set_option Elab.async false
set_option linter.all false
set_option maxRecDepth 100000
namespace K06
open PySem L2 L3
abbrev N__law_sign : List Str := ["_law_pen_here", "_law_signs"]
def t__law_sign : TS3 :=
    (tSeq3 (tSet3 1 (tC3 (.str " !\"#$&'()*+,-./0123456789:;<=>?@ABCDEFGHIJKLMNOPQRSTUVWXYZ[\\]^_`abcdefghijklmnopqrstuvwxyz{|}~\n")))
    (tRet3 (tOp3 rIx3 (tVar3 1) (tCall3 spDraw (tCons3 (tVar3 0) (tCons3 (tCB3 rLen3 (tCons3 (tVar3 1) tNil3)) tNil3))))))
theorem st__law_sign (d0 : D) : start3 N__law_sign [d0] = [some d0, none] := rfl
end K06
set_option Elab.async false
set_option linter.all false
set_option maxRecDepth 100000
namespace L3
open PySem L2
theorem rd_eqFI {x y : Int} {M : Mem} {Q : DK} (h : Q (.bl (x == y)) M) : rEqF3 (.int x) (.int y) M Q := .inl (rd_eqEI h)
theorem rd_eqFS {x y : Str} {M : Mem} {Q : DK} (h : Q (.bl (x == y)) M) : rEqF3 (.str x) (.str y) M Q := .inl (rd_eqES h)
end L3
open L3
local macro_rules | `(tactic| walk_at "rd") => `(tactic| repeat (first | with_reducible refine rd_seq ?_ | with_reducible refine rd_ifs ?_ | with_reducible refine rd_test ?_ | with_reducible refine rd_op ?_ | with_reducible refine rd_un ?_ | with_reducible refine rd_c ?_ | with_reducible refine rd_ret ?_ | with_reducible refine rd_set ?_ | with_reducible refine rd_drop ?_ | with_reducible refine rd_next ?_ | with_reducible refine rd_call ?_ | with_reducible refine rd_cb ?_ | with_reducible refine rd_nil ?_ | with_reducible refine rd_cons ?_ | with_reducible refine rd_tupE ?_ | with_reducible refine rd_lstE ?_ | with_reducible refine rd_and ?_ | with_reducible refine rd_or ?_ | with_reducible refine rd_not ?_ | with_reducible refine rd_andV ?_ | with_reducible refine rd_orV ?_ | with_reducible refine rd_notV ?_ | with_reducible refine rd_if3 ?_ | with_reducible refine rd_chain ?_ | with_reducible refine rd_sl ?_ | with_reducible refine rd_np ?_ | with_reducible refine rd_part ?_ | with_reducible refine rd_bl ?_ | with_reducible refine rd_iteT ?_ | with_reducible refine rd_iteF ?_ | with_reducible refine rd_iteNT ?_ | with_reducible refine rd_iteNF ?_ | with_reducible refine rd_I0 ?_ | with_reducible refine rd_U ?_ | with_reducible refine rd_addI ?_ | with_reducible refine rd_lenL ?_ | with_reducible refine rd_lenT ?_ | with_reducible refine rd_abs ?_ | with_reducible refine rd_intI ?_ | with_reducible refine rd_intB ?_ | with_reducible refine rd_listL ?_ | with_reducible refine rd_listT ?_ | with_reducible refine rd_slL ?_ | with_reducible refine rd_isN ?_ | with_reducible refine rd_isntN ?_ | with_reducible refine rd_asg ?_ | with_reducible refine rd_gName ?_ | with_reducible refine rd_true ?_ | with_reducible refine rd_bm ?_ | with_reducible refine rd_slW ?_ | with_reducible refine rd_slWL ?_ | with_reducible refine rd_slWT ?_ | with_reducible refine rd_eqFI ?_ | with_reducible refine rd_eqFS ?_ | with_reducible refine rd_revE ?_ | with_reducible refine rd_intTI ?_ | with_reducible refine rd_intTB ?_ | with_reducible refine rd_join3 ?_ | with_reducible refine rd_parts ?_ | with_reducible refine rd_fmt ?_ | with_reducible refine rd_lstM ?_ | with_reducible refine rd_minI ?_ | with_reducible refine rd_tupL ?_ | with_reducible refine rd_tupT ?_ | with_reducible refine rd_addI ?_ | with_reducible refine rd_comp ?_ | with_reducible refine rd_bm0 ?_ | with_reducible refine rd_iEnum ?_ | with_reducible refine rd_onEnumL ?_ | with_reducible refine rd_forG ?_ | with_reducible refine rd_iStr ?_ | with_reducible refine rd_iTup ?_ | with_reducible refine rd_iList ?_ | with_reducible refine rd_onStr ?_ | with_reducible refine rd_onTup ?_ | with_reducible refine rd_onLst ?_ | with_reducible refine rd_eqI ?_ | with_reducible refine rd_neI ?_ | with_reducible refine rd_eqB ?_ | with_reducible refine rd_neB ?_ | with_reducible refine rd_eqS ?_ | with_reducible refine rd_neS ?_ | with_reducible refine rd_for ?_ | with_reducible refine rd_rng ?_ | ((with_reducible show tVar3 _ _ _ _); refine rd_var rfl ?_) | ((with_reducible show _ ∧ _); refine ⟨(by first | decide | (simp only [List.length_cons, List.length_nil]; decide)), ?_⟩)))
namespace K06
open PySem L2 L3
open K01 (rd_isText isTxt eqOk wdOk txOk asc_ok comp_filtX)
end K06
set_option Elab.async false
set_option linter.all false
set_option maxRecDepth 100000
open L3
namespace K06
open PySem L2 L3
open K01 (rd_isText isTxt eqOk wdOk txOk asc_ok comp_filtX slice_mem)
end K06
set_option Elab.async false
set_option linter.all false
set_option maxRecDepth 100000
open L3
namespace K06
open PySem L2 L3
open K01 (rd_isText isTxt eqOk wdOk txOk asc_ok slice_mem)
theorem len__law_sign : ∀ ds M Q, spSign ds M Q → ds.length = 1 := by rintro _ _ _ ⟨_, _, rfl, _⟩; rfl
theorem rd__law_sign : ∀ ds M Q, spSign ds M Q → t__law_sign { nx := fun _ M' => View Q .non M', rt := View Q } (start3 N__law_sign ds) M := by
  rintro _ M Q ⟨p, b, rfl, hP, hb, q⟩
  rw [st__law_sign]
  unfold t__law_sign
  walk_at "rd"
  have hl : 0 < K01.signs.length ∧ K01.signs.length < 200 := by rcases K01.signs_len with h | h | h | h <;> rw [h] <;> decide
  have hz : K01.signs.length ≤ sizeLine := by rw [sizeLine_eq]; lia
  refine rd_lenS hz ?_
  walk_at "rd"
  refine draw hP (by lia) (show (0 : Int) < (K01.signs.length : Int) by lia) (by have : (2 : Int) ^ 200 > 200 := by decide
                                                                                 show (K01.signs.length : Int) < 2 ^ 200
                                                                                 lia) fun n M1 n0 n1 hP1 e1 => ?_
  obtain ⟨c, hc, hm⟩ := atI_mem (ds := K01.signs.cps.toList) n0 (by rw [← len_cps]; exact n1)
  refine rd_ixS hz hc ?_
  exact View.of (q c M1 (by simpa using List.all_eq_true.mp K01.signs_asc c hm) hP1 e1)
end K06
set_option Elab.async false
set_option linter.all false
set_option maxRecDepth 100000
namespace K04
open PySem L2 L3
def figS : Str := "0123456789"
def dgt (c : Nat) : Bool := decide (48 ≤ c) && decide (c ≤ 57)
def figs (cs : List Nat) (most : Nat) : Bool := (decide (1 ≤ cs.length) && (decide (cs.length ≤ most) && cs.all dgt)) && (cs == [48] || cs.head? != some 48)
def numT : List Nat → Bool
  | [] => false
  | c :: r => if c = 45 then (r != [48]) && figs r 30 else figs (c :: r) 30
def val : List Nat → Int
  | [] => 0
  | c :: r => if c = 45 then -((NumText.digitsVal r : Nat) : Int) else ((NumText.digitsVal (c :: r) : Nat) : Int)
def noneC : List Nat := [110, 111, 110, 101]
def readT (cs : List Nat) : Option D := if cs = noneC then some (.tup [.str "none"]) else match cs with
  | [] => none
  | c :: r => if c = 35 then (if figs r 2 = true then some (.tup [.str "giver", .int ((NumText.digitsVal r : Nat) : Int)]) else none) else if numT (c :: r) = true then some (.tup [.str "number", .int (val (c :: r))]) else none
def readW : D → Option D
  | .str z => readT z.cps.toList
  | _ => none
def wholeT (cs : List Nat) : List Int := if numT cs = true then [val cs] else []
def spOnly : Sp3 := fun ds M Q => ∃ z : Str, ds = [.str z, .str figS] ∧ K01.txOk z ∧ Q (.bl (z.cps.toList.all dgt)) M
def spFig : Sp3 := fun ds M Q => ∃ (z : Str) (m : Nat), ds = [.str z, .int (m : Int)] ∧ K01.txOk z ∧ Q (.bl (figs z.cps.toList m)) M
def spNumT : Sp3 := fun ds M Q => ∃ z : Str, ds = [.str z] ∧ K01.txOk z ∧ Q (.bl (numT z.cps.toList)) M
def spRead (cN : Addr) : SpXD := fun ds M Q E => ∃ d, ds = [d] ∧ K01.wdOk d ∧ (match readW d with | some w => Q w M | none => E (.ref cN) 0 M)
def spText : Sp3 := fun ds M Q => ∃ p b, ds = [.ref p] ∧ Pen M p b ∧ b + 50 < 2 ^ 30 ∧ ∀ z M', z.length ≤ 50 → (∀ c ∈ z.cps.toList, c < 128) → Pen M' p (b + 50) → Q (.str z) M'
def spBent : Sp3 := fun ds M Q => ∃ p b z, ds = [.ref p, .str z] ∧ z.length ≤ 50 ∧ (∀ c ∈ z.cps.toList, c < 128) ∧ Pen M p b ∧ b + 5 < 2 ^ 30 ∧ ∀ x M', x.length ≤ 102 → (∀ c ∈ x.cps.toList, c < 128) → Pen M' p (b + 5) → Q (.str x) M'
def spWhole : Sp3 := fun ds M Q => ∃ z : Str, ds = [.str z] ∧ K01.txOk z ∧ Q (.lst ((wholeT z.cps.toList).map D.int)) M
def spDue : Sp3 := fun ds M Q => ∃ d, ds = [d] ∧ K01.wdOk d ∧ Q (.lst (readW d).toList) M
def spHeard : Sp3 := spDue
def tAtG (C : Addr) (cls : Value) (ea : Addr) (n : Int) (te : TE3) : TE3 := fun σ M Q => cls = .ref C ∧ tAtD ea n te σ M Q
theorem pe3_atG {X : Cx} {pos : Pos} {C G fI ea dx : Addr} {oe od : Obj} {cls : Value} {n : Int} {e : Expr} {te : TE3} (Z : TxtK X.K C G fI) (hp : (ea, oe) ∈ X.pn) (hq : (dx, od) ∈ X.pn) (at2 : AtOf cls n ea oe dx od) (he : PE3 X e te) (hb : attributeBase e "at" X.env (eval e X.env) = eval e X.env := by rfl) : PE3 X (.Attribute e "at" pos) (tAtG C cls ea n te) :=
  fun pins s σv H σ M Q I hS hM h => pe3_atD Z hp hq at2 h.1 he hb pins s σv H σ M Q I hS hM h.2
end K04
set_option Elab.async false
set_option linter.all false
set_option maxRecDepth 100000
namespace K04
open PySem L2 L3
abbrev N_has_only : List Str := ["text", "signs"]
def t_has_only : TS3 :=
    (tRet3 (tCB3 rAll3 (tCons3 (tComp3 (iStr3 (tVar3 0)) 1 [1] (gName3 0) tTrue3 (tOp3 (rIn3 false) (tVar3 0) (tVar3 1))) tNil3)))
theorem st_has_only (d0 d1 : D) : start3 N_has_only [d0, d1] = [some d0, some d1] := rfl
abbrev N_is_figures : List Str := ["text", "most"]
def t_is_figures : TS3 :=
    (tSeq3 (tIfS3 (tOr3 (tNot3 (tTest3 (tChain3 rLe3 rLe3 (tC3 (.int 1)) (tCB3 rLen3 (tCons3 (tVar3 0) tNil3)) (tVar3 1)))) (tNot3 (tTest3 (tCall3 spOnly (tCons3 (tVar3 0) (tCons3 (tC3 (.str "0123456789")) tNil3)))))) (tRet3 (tC3 (.bl false))) tNext3)
    (tRet3 (tOrV3 (tOp3 rEqF3 (tVar3 0) (tC3 (.str "0"))) (tOp3 rNe3 (tOp3 rIx3 (tVar3 0) (tC3 (.int 0))) (tC3 (.str "0"))))))
theorem st_is_figures (d0 d1 : D) : start3 N_is_figures [d0, d1] = [some d0, some d1] := rfl
abbrev N_is_number_text : List Str := ["text"]
def t_is_number_text : TS3 :=
    (tSeq3 (tIfS3 (tTest3 (tBM3 "str" rStarts3 (tVar3 0) (tCons3 (tC3 (.str "-")) tNil3))) (tRet3 (tAndV3 (tOp3 rNe3 (tVar3 0) (tC3 (.str "-0"))) (tCall3 spFig (tCons3 (tSlW3 (tVar3 0) (tPart3 (tC3 (.int 1))) tNoPart3) (tCons3 (tC3 (.int 30)) tNil3))))) tNext3)
    (tRet3 (tCall3 spFig (tCons3 (tVar3 0) (tCons3 (tC3 (.int 30)) tNil3)))))
theorem st_is_number_text (d0 : D) : start3 N_is_number_text [d0] = [some d0] := rfl
abbrev N_read_worth : List Str := ["text"]
def t_read_worth (c_NoText : Addr) : TXD :=
    (tDSeq (tDIf (tNot3 (tTest3 (tCB3 rIsi3 (tCons3 (tVar3 0) (tCons3 (tC3 (.ty "str")) tNil3))))) (tDRaise c_NoText (tCons3 (tC3 (.int 0)) tNil3)) (fun T _ σ M => T.nx σ M))
    (tDSeq (fun T _ σ M => (tIfS3 (tTest3 (tOp3 rEqF3 (tVar3 0) (tC3 (.str "none")))) (tRet3 (tC3 (.tup ((["none"] : List Str).map D.str)))) tNext3) T σ M)
    (tDSeq (fun T _ σ M => (tIfS3 (tAnd3 (tTest3 (tBM3 "str" rStarts3 (tVar3 0) (tCons3 (tC3 (.str "#")) tNil3))) (tTest3 (tCall3 spFig (tCons3 (tSlW3 (tVar3 0) (tPart3 (tC3 (.int 1))) tNoPart3) (tCons3 (tC3 (.int 2)) tNil3))))) (tRet3 (tTup3 (tCons3 (tC3 (.str "giver")) (tCons3 (tCB3 rIntT3 (tCons3 (tSlW3 (tVar3 0) (tPart3 (tC3 (.int 1))) tNoPart3) tNil3)) tNil3)))) tNext3) T σ M)
    (tDSeq (fun T _ σ M => (tIfS3 (tTest3 (tCall3 spNumT (tCons3 (tVar3 0) tNil3))) (tRet3 (tTup3 (tCons3 (tC3 (.str "number")) (tCons3 (tCB3 rIntT3 (tCons3 (tVar3 0) tNil3)) tNil3)))) tNext3) T σ M)
    (tDRaise c_NoText (tCons3 (tC3 (.int 0)) tNil3))))))
theorem st_read_worth (d0 : D) : start3 N_read_worth [d0] = [some d0] := rfl
abbrev N__law_text : List Str := ["_law_pen_here", "_law_way", "_law_some", "_law_size", "_law_figures", "_law_ahead"]
def t__law_text : TS3 :=
    (tSeq3 (tSet3 1 (tCall3 spDraw (tCons3 (tVar3 0) (tCons3 (tC3 (.int 4)) tNil3))))
    (tSeq3 (tIfS3 (tTest3 (tOp3 rEqF3 (tVar3 1) (tC3 (.int 0)))) (tSeq3 (tSet3 2 (tLst3 (tCons3 (tC3 (.str "none")) (tCons3 (tC3 (.str "None")) (tCons3 (tC3 (.str "none ")) (tCons3 (tC3 (.str " none")) (tCons3 (tC3 (.str "no")) (tCons3 (tC3 (.str "")) (tCons3 (tC3 (.str " ")) (tCons3 (tC3 (.str "#")) (tCons3 (tC3 (.str "-")) (tCons3 (tC3 (.str "#none")) (tCons3 (tC3 (.str "nonenone")) (tCons3 (tC3 (.str "any")) (tCons3 (tC3 (.str "-#1")) (tCons3 (tC3 (.str "# 1")) tNil3))))))))))))))))
    (tRet3 (tOp3 rIx3 (tVar3 2) (tCall3 spDraw (tCons3 (tVar3 0) (tCons3 (tC3 (.int 14)) tNil3)))))) tNext3)
    (tSeq3 (tSet3 3 (tOp3 rIx3 (tLst3 (tCons3 (tC3 (.int 1)) (tCons3 (tC3 (.int 2)) (tCons3 (tC3 (.int 3)) (tCons3 (tC3 (.int 29)) (tCons3 (tC3 (.int 30)) (tCons3 (tC3 (.int 31)) (tCons3 (tC3 (.int 40)) tNil3)))))))) (tCall3 spDraw (tCons3 (tVar3 0) (tCons3 (tC3 (.int 7)) tNil3)))))
    (tSeq3 (tSet3 4 (tBM3 "str" rJoin3 (tC3 (.str "")) (tCons3 (tComp3 (iRng3 (tCons3 (tVar3 3) tNil3)) 1 [0] (gName3 0) tTrue3 (tOp3 rIx3 (tC3 (.str "0123456789")) (tCall3 spDraw (tCons3 (tVar3 1) (tCons3 (tC3 (.int 10)) tNil3))))) tNil3)))
    (tSeq3 (tSet3 5 (tOp3 rIx3 (tLst3 (tCons3 (tC3 (.str "")) (tCons3 (tC3 (.str "")) (tCons3 (tC3 (.str "-")) (tCons3 (tC3 (.str "#")) (tCons3 (tC3 (.str "#-")) (tCons3 (tC3 (.str "--")) (tCons3 (tC3 (.str "+")) (tCons3 (tC3 (.str "-0")) (tCons3 (tC3 (.str "0")) tNil3)))))))))) (tCall3 spDraw (tCons3 (tVar3 0) (tCons3 (tC3 (.int 9)) tNil3)))))
    (tRet3 (tOp3 rAdd3 (tVar3 5) (tVar3 4))))))))
theorem st__law_text (d0 : D) : start3 N__law_text [d0] = [some d0, none, none, none, none, none] := rfl
abbrev N__law_bent : List Str := ["_law_pen_here", "_law_text_here", "_law_way", "_law_at", "_law_sign_here", "_law_some"]
def t__law_bent : TS3 :=
    (tSeq3 (tSet3 2 (tCall3 spDraw (tCons3 (tVar3 0) (tCons3 (tC3 (.int 4)) tNil3))))
    (tSeq3 (tSet3 3 (tCall3 spDraw (tCons3 (tVar3 0) (tCons3 (tOp3 rAdd3 (tCB3 rLen3 (tCons3 (tVar3 1) tNil3)) (tC3 (.int 1))) tNil3))))
    (tSeq3 (tSet3 4 (tCall3 K06.spSign (tCons3 (tVar3 0) tNil3)))
    (tSeq3 (tSet3 5 (tLst3 (tCons3 (tVar3 1) (tCons3 (tOp3 rAdd3 (tOp3 rAdd3 (tSlW3 (tVar3 1) tNoPart3 (tPart3 (tVar3 3))) (tVar3 4)) (tSlW3 (tVar3 1) (tPart3 (tVar3 3)) tNoPart3)) (tCons3 (tOp3 rAdd3 (tSlW3 (tVar3 1) tNoPart3 (tPart3 (tVar3 3))) (tSlW3 (tVar3 1) (tPart3 (tOp3 rAdd3 (tVar3 3) (tC3 (.int 1)))) tNoPart3)) (tCons3 (tOp3 rAdd3 (tOp3 rAdd3 (tSlW3 (tVar3 1) tNoPart3 (tPart3 (tVar3 3))) (tVar3 4)) (tSlW3 (tVar3 1) (tPart3 (tOp3 rAdd3 (tVar3 3) (tC3 (.int 1)))) tNoPart3)) tNil3))))))
    (tRet3 (tOp3 rIx3 (tVar3 5) (tVar3 2)))))))
theorem st__law_bent (d0 d1 : D) : start3 N__law_bent [d0, d1] = [some d0, some d1, none, none, none, none] := rfl
abbrev N__law_whole : List Str := ["_law_text_here", "_law_figures"]
def t__law_whole : TS3 :=
    (tSeq3 (tSet3 1 (tVar3 0))
    (tSeq3 (tIfS3 (tTest3 (tOp3 rEqF3 (tSlW3 (tVar3 0) tNoPart3 (tPart3 (tC3 (.int 1)))) (tC3 (.str "-")))) (tSet3 1 (tSlW3 (tVar3 0) (tPart3 (tC3 (.int 1))) tNoPart3)) tNext3)
    (tSeq3 (tIfS3 (tOr3 (tTest3 (tOp3 rEqF3 (tVar3 1) (tC3 (.str "")))) (tOr3 (tTest3 (tOp3 rGt3 (tCB3 rLen3 (tCons3 (tVar3 1) tNil3)) (tC3 (.int 30)))) (tTest3 (tOp3 rNe3 (tComp3 (iStr3 (tVar3 1)) 1 [] (gName3 0) (tTest3 (tOp3 (rIn3 true) (tVar3 0) (tC3 (.str "0123456789")))) (tVar3 0)) (tLst3 tNil3))))) (tRet3 (tLst3 tNil3)) tNext3)
    (tSeq3 (tIfS3 (tAnd3 (tTest3 (tOp3 rEqF3 (tOp3 rIx3 (tVar3 1) (tC3 (.int 0))) (tC3 (.str "0")))) (tTest3 (tOp3 rNe3 (tVar3 0) (tC3 (.str "0"))))) (tRet3 (tLst3 tNil3)) tNext3)
    (tRet3 (tLst3 (tCons3 (tCB3 rIntT3 (tCons3 (tVar3 0) tNil3)) tNil3)))))))
theorem st__law_whole (d0 : D) : start3 N__law_whole [d0] = [some d0, none] := rfl
abbrev N__law_due : List Str := ["_law_thing"]
def t__law_due : TS3 :=
    (tSeq3 (tIfS3 (tNot3 (tTest3 (tCB3 rIsi3 (tCons3 (tVar3 0) (tCons3 (tC3 (.ty "str")) tNil3))))) (tRet3 (tLst3 tNil3)) tNext3)
    (tSeq3 (tIfS3 (tTest3 (tOp3 rEqF3 (tVar3 0) (tC3 (.str "none")))) (tRet3 (tLst3 (tCons3 (tTup3 (tCons3 (tC3 (.str "none")) tNil3)) tNil3))) tNext3)
    (tSeq3 (tIfS3 (tTest3 (tOp3 rNe3 (tSlW3 (tVar3 0) tNoPart3 (tPart3 (tC3 (.int 1)))) (tC3 (.str "#")))) (tRet3 (tComp3 (iList3 (tCall3 spWhole (tCons3 (tVar3 0) tNil3))) 1 [] (gName3 0) tTrue3 (tTup3 (tCons3 (tC3 (.str "number")) (tCons3 (tVar3 0) tNil3))))) tNext3)
    (tRet3 (tComp3 (iList3 (tCall3 spWhole (tCons3 (tSlW3 (tVar3 0) (tPart3 (tC3 (.int 1))) tNoPart3) tNil3))) 1 [] (gName3 0) (tTest3 (tChain3 rLe3 rLe3 (tC3 (.int 0)) (tVar3 0) (tC3 (.int 99)))) (tTup3 (tCons3 (tC3 (.str "giver")) (tCons3 (tVar3 0) tNil3))))))))
theorem st__law_due (d0 : D) : start3 N__law_due [d0] = [some d0] := rfl
abbrev N__law_heard : List Str := ["_law_thing", "_law_caught", "_law_found", "e"]
def t__law_heard (K : PySem.W.Frag) (sp : SpXD) (c_GiverError c_NoText c_Full c_NoAsk c_NoBook c_NoCode c_NoGiver c_NoKept c_NoMost c_NoRow c_NoRule c_NoWorth : Addr) : TS3 :=
    (tSeq3 (tSet3 1 (tC3 .non))
    (tSeq3 (tSet3 2 (tC3 .non))
    (tTryD K c_GiverError sp (tCons3 (tVar3 0) tNil3) 2 1 3
    (tSeq3 (tIfS3 (tTest3 (tOp3 rIs3 (tVar3 1) (tC3 .non))) (tRet3 (tLst3 (tCons3 (tVar3 2) tNil3))) tNext3) tStop3)
    fun ea oe _ _ cls n => (tSeq3 (tIfS3 (tTest3 (tOp3 rIs3 (tVar3 1) (tC3 .non))) (tRet3 (tLst3 (tCons3 (tVar3 2) tNil3))) tNext3)
    (tSeq3 (tIfS3 (tOr3 (tNot3 (tTest3 (tCB3 (rIsiP K ea oe) (tCons3 (tVar3 1) (tCons3 (tC3 (.ref c_NoText)) tNil3))))) (tOr3 (tNot3 (tTest3 (tCB3 (rIsiP K ea oe) (tCons3 (tVar3 1) (tCons3 (tC3 (.ty "ValueError")) tNil3))))) (tTest3 (tOp3 rNe3 (tCB3 rReprE3 (tCons3 (tAtG c_NoText cls ea n (tVar3 1)) tNil3)) (tC3 (.str "0")))))) (tRet3 (tLst3 (tCons3 (tC3 (.str "another refusal")) tNil3))) tNext3)
    (tSeq3 (tIfS3 (tTest3 (tCB3 (rIsiP K ea oe) (tCons3 (tVar3 1) (tCons3 (tTup3 (tCons3 (tC3 (.ref c_Full)) (tCons3 (tC3 (.ref c_NoAsk)) (tCons3 (tC3 (.ref c_NoBook)) (tCons3 (tC3 (.ref c_NoCode)) (tCons3 (tC3 (.ref c_NoGiver)) (tCons3 (tC3 (.ref c_NoKept)) (tCons3 (tC3 (.ref c_NoMost)) (tCons3 (tC3 (.ref c_NoRow)) (tCons3 (tC3 (.ref c_NoRule)) (tCons3 (tC3 (.ref c_NoWorth)) tNil3))))))))))) tNil3)))) (tRet3 (tLst3 (tCons3 (tC3 (.str "more than one refusal")) tNil3))) tNext3)
    (tRet3 (tLst3 tNil3))))))))
theorem st__law_heard (d0 : D) : start3 N__law_heard [d0] = [some d0, none, none, none] := rfl
abbrev N_law : List Str := ["_law_script", "_law_pen_here", "_law_odd", "_law_turn", "_law_text_here", "_law_thing"]
def t_law : TS3 :=
    (tSeq3 (tSet3 1 (tCall3 spPen (tCons3 (tVar3 0) tNil3)))
    (tSeq3 (tSet3 2 (tLst3 (tCons3 (tC3 .non) (tCons3 (tC3 (.bl true)) (tCons3 (tC3 (.int 0)) (tCons3 (tC3 (.int 7)) (tCons3 (tTup3 tNil3) (tCons3 (tLst3 tNil3) (tCons3 (tC3 (.dct [])) (tCons3 (tTup3 (tCons3 (tC3 (.str "none")) tNil3)) (tCons3 (tLst3 (tCons3 (tC3 (.str "none")) tNil3)) (tCons3 (tTup3 (tCons3 (tC3 (.str "number")) (tCons3 (tC3 (.int 1)) tNil3))) (tCons3 (tC3 (.dct [(.inr "none", .int 1)])) (tCons3 (tOp3 rPow3 (tC3 (.int 10)) (tC3 (.int 39))) tNil3))))))))))))))
    (tSeq3 (tFor3 (iRng3 (tCons3 (tC3 (.int 12)) tNil3)) 3 (tSeq3 (tSet3 4 (tCall3 spText (tCons3 (tVar3 1) tNil3)))
    (tFor3 (iTup3 (tTup3 (tCons3 (tVar3 4) (tCons3 (tCall3 spBent (tCons3 (tVar3 1) (tCons3 (tVar3 4) tNil3))) (tCons3 (tCall3 spBent (tCons3 (tVar3 1) (tCons3 (tVar3 4) tNil3))) (tCons3 (tOp3 rIx3 (tVar3 2) (tCall3 spDraw (tCons3 (tVar3 1) (tCons3 (tC3 (.int 12)) tNil3)))) (tCons3 (tVar3 4) tNil3))))))) 5 (tIfS3 (tTest3 (tOp3 rNe3 (tCB3 rReprE3 (tCons3 (tCall3 spHeard (tCons3 (tVar3 5) tNil3)) tNil3)) (tCB3 rReprE3 (tCons3 (tCall3 spDue (tCons3 (tVar3 5) tNil3)) tNil3)))) (tRet3 (tC3 (.bl false))) tNext3))))
    (tRet3 (tC3 (.bl true))))))
theorem st_law (d0 : D) : start3 N_law [d0] = [some d0, none, none, none, none, none] := rfl
end K04
set_option Elab.async false
set_option linter.all false
set_option maxRecDepth 100000
namespace K04
open PySem L2 L3
theorem tI_some {n : Int} (h : n.natAbs.log2 < 1920) : (tI n).length ≤ 1001 := by
  have hn : n.natAbs < 10 ^ 1000 := by
    by_cases h0 : n.natAbs = 0
    · rw [h0]; exact Nat.pow_pos (by decide)
    · exact Nat.lt_trans ((Nat.log2_lt h0).mp h) (by decide +kernel)
  rw [len_cps]
  cases n with
  | ofNat m => rw [show (Int.ofNat m) = (m : Int) from rfl, cps_nat]; exact Nat.le_succ_of_le (dg_len (by decide) hn)
  | negSucc m => rw [cps_neg, List.length_cons]; exact Nat.succ_le_succ (dg_len (by decide) hn)
def lineS : Str := "not so written, at line "
theorem line_len : lineS.length = 24 := by decide +kernel
theorem init_text {ea : Addr} {n : Int} {M : Mem} (hn : n.natAbs.log2 < 1920) : (tCons3 (tVar3 0) (tCons3 (tJoin3 [tC3 (.str "not so written, at line "), tFmt3 (tVar3 1)]) tNil3)) (start3 ["self", "at"] [.ref ea, .int n]) M fun ds _ => ∃ z, ds = [.ref ea, .str z] := by
  have h1 : (Str.empty ++ lineS).length ≤ sizeLine := by rw [MK.len_app, line_len, sizeLine_eq]; decide
  have h2 : (Str.empty ++ lineS ++ tI n).length ≤ sizeLine := by
    have := tI_some hn
    rw [MK.len_app, MK.len_app, line_len, sizeLine_eq]
    have : Str.empty.length = 0 := rfl
    lia
  refine rd_cons (rd_var rfl (rd_cons (rd_join3 (rd_parts (rd_c (rd_onPart h1 (rd_parts (rd_fmt (rd_var rfl (rd_onFmtI hn (rd_onPart h2 (rd_parts0 h2 (rd_nil ?_)))))))))))))
  exact ⟨_, rfl⟩
theorem ck_mk {K : PySem.W.Frag} {cG cN c1 c2 c3 c4 c5 c6 c7 c8 c9 c10 : Addr} {nm q : Str} {N : Addr} {bs bm : List Value} {hd : Bool} {sn : List Str} {sub : List Value} {ab : Bool} {col : Option Bool} {dd : Option Addr} {k0 k1 k2 k3 k5 : Option Value} (zk : PySem.W.ExcK K cN) (f0 : K.lookup cN = some (excClassObj nm q cN N bs bm hd sn sub ab col dd k0 k1 k2 k3 k5 "ValueError.__new__")) (f6 : PySem.W.excIn K cG bmV "ValueError.__new__" = true)
    (f7 : PySem.W.subIn K (.ref cG) (.type "BaseException") = some true) (g7 : PySem.W.typeIn K (.ref cG) = some (.type "type")) (h7 : PySem.W.subIn K (.ref cN) (.ref cG) = some true)
    (v : PySem.W.kitOne K (.ref cN) (.type "ValueError") = some true) (o : PySem.W.kitAny K (.ref cN) [.ref c1, .ref c2, .ref c3, .ref c4, .ref c5, .ref c6, .ref c7, .ref c8, .ref c9, .ref c10] = some false) : K06.CK K cG cN c1 c2 c3 c4 c5 c6 c7 c8 c9 c10 := by
  refine ⟨zk, ?_, ?_, v, o⟩
  · unfold PySem.W.clsIn
    rw [f0]; rfl
  · unfold PySem.W.exmOne
    rw [f7, if_pos (by rfl)]
    show (if ((PySem.W.clsIn K cG).isSome && PySem.W.typeIn K (.ref cG) == some (.type "type")) = true then PySem.W.subIn K (.ref cN) (.ref cG) else none) = some true
    rw [K06.cls_of f6, g7, if_pos (by rfl)]
    exact h7
end K04
set_option Elab.async false
set_option linter.all false
set_option maxRecDepth 100000
open L3
namespace K04
open PySem L2 L3
open K01 (rd_isText isTxt wdOk txOk asc_ok comp_filtX slice_mem)
theorem in_asc : (List.range 128).all (fun c => subIn ⟨#[c]⟩ figS == dgt c) = true := by decide +kernel
theorem in_dgt {c : Nat} (h : c < 128) : subIn ⟨#[c]⟩ "0123456789" = dgt c := by
  have := List.all_eq_true.mp in_asc c (List.mem_range.mpr h)
  simpa [figS] using this
theorem dgt_all {cs : List Nat} (h : cs.all dgt = true) : NumText.AllDigits cs := fun c hc => by
  have := List.all_eq_true.mp h c hc
  unfold dgt at this
  simpa using this
theorem tx_le {z : Str} (h : txOk z) : z.length ≤ sizeLine := Nat.le_trans h.1 (by rw [sizeLine_eq]; decide)
theorem tx_tail {z : Str} {c : Nat} {r : List Nat} (h : txOk z) (hz : z.cps.toList = c :: r) : txOk (Txt.slice z (some 1) none) :=
  ⟨Nat.le_trans (Txt.slice_le z _ _) h.1, fun x hx => h.2 x (slice_mem hx)⟩
theorem zero_cps : (("0" : Str)).cps.toList = [48] := by decide +kernel
theorem min_cps : (("-" : Str)).cps.toList = [45] := by decide +kernel
theorem minz_cps : (("-0" : Str)).cps.toList = [45, 48] := by decide +kernel
theorem hash_cps : (("#" : Str)).cps.toList = [35] := by decide +kernel
theorem none_cps : (("none" : Str)).cps.toList = noneC := by decide +kernel
theorem nil_cps : (("" : Str)).cps.toList = [] := by decide +kernel
theorem starts0 {z y : Str} {d : Nat} (hz : z.cps.toList = []) (hy : y.cps.toList = [d]) : Txt.startswith z y = false := by
  unfold Txt.startswith
  rw [StrLaws.subAt_eq, len_cps z, len_cps y, hz, hy]
  simp
theorem len_has_only : ∀ ds M Q, spOnly ds M Q → ds.length = 2 := by rintro _ _ _ ⟨_, rfl, _⟩; rfl
theorem rd_has_only : ∀ ds M Q, spOnly ds M Q → t_has_only { nx := fun _ M' => View Q .non M', rt := View Q } (start3 N_has_only ds) M := by
  rintro _ M Q ⟨z, rfl, hz, q⟩
  rw [st_has_only]
  unfold t_has_only
  walk_at "rd"
  refine comp_map z.cps.toList (fun c => D.str ⟨#[c]⟩) (fun c => D.bl (dgt c)) ?_ ?_ ?_
  · have := hz.1
    rw [← len_cps, sizeLine_eq]; lia
  · intro c hc M2 R F _ hR
    walk_at "rd"
    exact rd_inS (neg := false) (in_dgt (hz.2 c hc)) (by rw [Bool.false_xor]; exact hR)
  · have e : z.cps.toList.map (fun c => D.bl (dgt c)) = (z.cps.toList.map dgt).map D.bl := by rw [List.map_map]; rfl
    rw [e]
    walk_at "rd"
    refine rd_all ?_
    have e2 : (z.cps.toList.map dgt).all id = z.cps.toList.all dgt := by rw [List.all_map]; rfl
    rw [e2]
    exact View.of q
theorem len_is_figures : ∀ ds M Q, spFig ds M Q → ds.length = 2 := by rintro _ _ _ ⟨_, _, rfl, _⟩; rfl
theorem rd_is_figures : ∀ ds M Q, spFig ds M Q → t_is_figures { nx := fun _ M' => View Q .non M', rt := View Q } (start3 N_is_figures ds) M := by
  rintro _ M Q ⟨z, m, rfl, hz, q⟩
  rw [st_is_figures]
  unfold t_is_figures
  unfold figs at q
  rw [← len_cps] at q
  walk_at "rd"
  refine rd_lenS (tx_le hz) ?_
  walk_at "rd"
  refine rd_dec (fun h1 => ?_) (fun h1 => ?_)
  · rw [decide_eq_true (show 1 ≤ z.length by lia), Bool.true_and] at q
    walk_at "rd"
    by_cases h2 : z.length ≤ m
    · rw [decide_eq_true h2, Bool.true_and] at q
      refine rd_iteFe (by rw [decide_eq_true (show (z.length : Int) ≤ m by lia)]; rfl) ?_
      walk_at "rd"
      refine ⟨z, rfl, hz, ?_⟩
      refine rd_bl ?_
      cases ea : z.cps.toList.all dgt with
      | false =>
        rw [ea, Bool.false_and] at q
        refine rd_iteTe rfl ?_
        walk_at "rd"
        exact View.of q
      | true =>
        rw [ea, Bool.true_and] at q
        refine rd_iteFe rfl ?_
        walk_at "rd"
        rw [str_eq_iff, zero_cps]
        cases e0 : (z.cps.toList == [48]) with
        | true => rw [e0, Bool.true_or] at q; exact rd_iteTe rfl (View.of q)
        | false =>
          rw [e0, Bool.false_or] at q
          refine rd_iteFe rfl ?_
          walk_at "rd"
          cases ez : z.cps.toList with
          | nil => rw [len_cps, ez] at h1; exact absurd h1 (by decide)
          | cons c r =>
            refine rd_ixS (tx_le hz) (c := c) (by rw [ez]; exact atI_nat (j := 0) rfl) ?_
            walk_at "rd"
            rw [str_eq_iff, zero_cps]
            rw [ez] at q
            have e3 : ((c :: r).head? != some 48) = !((({ cps := #[c] } : Str)).cps.toList == [48]) := by simp [bne]
            rw [e3] at q
            exact View.of q
    · rw [decide_eq_false h2, Bool.false_and, Bool.false_and] at q
      refine rd_iteTe (by rw [decide_eq_false (show ¬ (z.length : Int) ≤ m by lia)]; rfl) ?_
      walk_at "rd"
      exact View.of q
  · rw [decide_eq_false (show ¬ 1 ≤ z.length by lia), Bool.false_and, Bool.false_and] at q
    walk_at "rd"
    exact View.of q
theorem len_is_number_text : ∀ ds M Q, spNumT ds M Q → ds.length = 1 := by rintro _ _ _ ⟨_, rfl, _⟩; rfl
theorem rd_is_number_text : ∀ ds M Q, spNumT ds M Q → t_is_number_text { nx := fun _ M' => View Q .non M', rt := View Q } (start3 N_is_number_text ds) M := by
  rintro _ M Q ⟨z, rfl, hz, q⟩
  rw [st_is_number_text]
  unfold t_is_number_text
  walk_at "rd"
  refine ⟨rfl, ?_⟩
  walk_at "rd"
  cases ez : z.cps.toList with
  | nil =>
    refine rd_starts (starts0 ez min_cps) ?_
    walk_at "rd"
    refine ⟨z, 30, rfl, hz, View.of ?_⟩
    rw [ez] at q ⊢
    exact q
  | cons c r =>
    refine rd_starts (starts1 ez min_cps) ?_
    rw [ez] at q
    have q : Q (.bl (if c = 45 then (r != [48]) && figs r 30 else figs (c :: r) 30)) M := q
    by_cases hc : c = 45
    · rw [if_pos hc] at q
      refine rd_bl ?_
      refine rd_iteTe (by rw [hc]; rfl) ?_
      walk_at "rd"
      rw [str_eq_iff, minz_cps, ez]
      have e1 : (!(c :: r == [45, 48])) = (r != [48]) := by rw [hc]; simp [bne]
      rw [e1]
      cases er : (r != [48]) with
      | false => rw [er, Bool.false_and] at q; exact rd_iteFe rfl (View.of q)
      | true =>
        rw [er, Bool.true_and] at q
        refine rd_iteTe rfl ?_
        walk_at "rd"
        refine rd_slWS (tx_le hz) ?_
        walk_at "rd"
        refine ⟨_, 30, rfl, tx_tail hz ez, View.of ?_⟩
        rw [slice1 ez]
        exact q
    · rw [if_neg hc] at q
      refine rd_bl ?_
      refine rd_iteFe (beq_eq_false_iff_ne.mpr hc) ?_
      walk_at "rd"
      refine ⟨z, 30, rfl, hz, View.of ?_⟩
      rw [ez]
      exact q
theorem figs_all {cs : List Nat} {m : Nat} (h : figs cs m = true) : 1 ≤ cs.length ∧ cs.length ≤ m ∧ NumText.AllDigits cs ∧ (cs = [48] ∨ cs.head? ≠ some 48) := by
  unfold figs at h
  simp only [Bool.and_eq_true, Bool.or_eq_true, decide_eq_true_eq, beq_iff_eq, bne_iff_ne] at h
  exact ⟨h.1.1, h.1.2.1, dgt_all h.1.2.2, h.2⟩
theorem ne_nil {cs : List Nat} (h : 1 ≤ cs.length) : cs ≠ [] := by rintro rfl; exact absurd h (by decide)
theorem int_figs {z : Str} {m : Nat} (h : figs z.cps.toList m = true) (hm : m ≤ 30) : intText? z = some ((NumText.digitsVal z.cps.toList : Nat) : Int) ∧ z.length ≤ 640 := by
  obtain ⟨h1, h2, h3, _⟩ := figs_all h
  have hl : z.length ≤ 30 := by rw [len_cps]; lia
  exact ⟨intText_digits h3 (ne_nil h1) (by lia), by lia⟩
theorem int_numT {z : Str} (h : numT z.cps.toList = true) : intText? z = some (val z.cps.toList) ∧ z.length ≤ 640 := by
  cases ez : z.cps.toList with
  | nil => rw [ez] at h; cases h
  | cons c r =>
    rw [ez] at h
    have h : (if c = 45 then (r != [48]) && figs r 30 else figs (c :: r) 30) = true := h
    show _ = some (if c = 45 then _ else _) ∧ _
    by_cases hc : c = 45
    · subst hc
      rw [if_pos rfl] at h ⊢
      rw [Bool.and_eq_true] at h
      obtain ⟨h1, h2, h3, _⟩ := figs_all h.2
      have hl : z.length ≤ 31 := by rw [len_cps, ez, List.length_cons]; lia
      exact ⟨intText_neg ez h3 (ne_nil h1) (by lia), by lia⟩
    · rw [if_neg hc] at h ⊢
      have := int_figs (z := z) (m := 30) (by rw [ez]; exact h) (by decide)
      rw [ez] at this
      exact this
theorem dgt_false {c : Nat} {r : List Nat} {m : Nat} (h : dgt c = false) : figs (c :: r) m = false := by
  unfold figs
  rw [List.all_cons, h, Bool.false_and, Bool.and_false, Bool.and_false, Bool.false_and]
theorem rd_draise {C : Addr} {ta : TA3} {T : Ends3} {xs : XEnD} {σ : Lo} {M : Mem} (h : ta σ M fun ds M1 => ∃ n : Int, ds = [.int n] ∧ n.natAbs.log2 < 1920 ∧ xs (.ref C) n M1) : tDRaise C ta T xs σ M := h
theorem rd_dseq {t u : TXD} {T : Ends3} {xs : XEnD} {σ : Lo} {M : Mem} (h : t { T with nx := u T xs } xs σ M) : tDSeq t u T xs σ M := h
theorem rd_dif {c : TT3} {t u : TXD} {T : Ends3} {xs : XEnD} {σ : Lo} {M : Mem} (h : c σ M fun b M1 => if b = true then t T xs σ M1 else u T xs σ M1) : tDIf c t u T xs σ M := h
theorem rd_nxD {T : Ends3} {t u : TXD} {xs : XEnD} {σ : Lo} {M : Mem} (h : t { T with nx := u T xs } xs σ M) : ({ T with nx := tDSeq t u T xs } : Ends3).nx σ M := h
theorem len_read_worth (c : Addr) : ∀ ds M Q E, spRead c ds M Q E → ds.length = 1 := by rintro _ _ _ _ ⟨_, rfl, _⟩; rfl
theorem rd_raise0 {c : Addr} {T : Ends3} {E : XEnD} {σ : Lo} {M : Mem} (h : E (.ref c) 0 M) : tDRaise c (tCons3 (tC3 (.int 0)) tNil3) T E σ M := rd_draise (rd_cons (rd_c (rd_nil ⟨0, rfl, by decide, h⟩)))
theorem rd_nxR {c : Addr} {T T' : Ends3} {E : XEnD} {σ : Lo} {M : Mem} (h : E (.ref c) 0 M) : ({ T with nx := tDRaise c (tCons3 (tC3 (.int 0)) tNil3) T' E } : Ends3).nx σ M := rd_raise0 (T := T') (σ := σ) h
theorem rd_read_worth (c : Addr) : ∀ ds M Q E, spRead c ds M Q E → t_read_worth c { nx := fun _ M' => View Q .non M', rt := View Q } E (start3 N_read_worth ds) M := by
  rintro _ M Q E ⟨d, rfl, ⟨hd, hz⟩, q⟩
  rw [st_read_worth]
  unfold t_read_worth
  refine rd_dseq (rd_dif ?_)
  walk_at "rd"
  refine rd_isText hd ?_
  refine rd_bl ?_
  cases d with
  | str z =>
    have hz := hz z rfl
    refine rd_iteFe rfl ?_
    refine rd_nxD ?_
    show tIfS3 _ _ _ _ _ _
    walk_at "rd"
    rw [str_eq_iff, none_cps]
    have q : match readT z.cps.toList with | some w => Q w M | none => E (.ref c) 0 M := q
    unfold readT at q
    by_cases e1 : z.cps.toList = noneC
    · rw [if_pos e1] at q
      refine rd_iteTe (by rw [e1]; rfl) ?_
      walk_at "rd"
      exact View.of q
    · rw [if_neg e1] at q
      refine rd_iteFe (beq_eq_false_iff_ne.mpr e1) ?_
      walk_at "rd"
      refine rd_nxD ?_
      show tIfS3 _ _ _ _ _ _
      walk_at "rd"
      refine ⟨rfl, ?_⟩
      walk_at "rd"
      cases ez : z.cps.toList with
      | nil =>
        rw [ez] at q
        refine rd_starts (starts0 ez hash_cps) ?_
        walk_at "rd"
        refine rd_nxD ?_
        show tIfS3 _ _ _ _ _ _
        walk_at "rd"
        refine ⟨z, rfl, hz, ?_⟩
        rw [ez]
        refine rd_bl ?_
        refine rd_iteFe rfl ?_
        walk_at "rd"
        exact rd_nxR q
      | cons x r =>
        rw [ez] at q
        have q : match (if x = 35 then (if figs r 2 = true then some (.tup [.str "giver", .int ((NumText.digitsVal r : Nat) : Int)]) else none) else if numT (x :: r) = true then some (.tup [.str "number", .int (val (x :: r))]) else none : Option D) with | some w => Q w M | none => E (.ref c) 0 M := q
        refine rd_starts (starts1 ez hash_cps) ?_
        have rest : (∀ w, (if numT (x :: r) = true then some (.tup [.str "number", .int (val (x :: r))]) else none : Option D) = some w → Q w M) → ((if numT (x :: r) = true then some (.tup [.str "number", .int (val (x :: r))]) else none : Option D) = none → E (.ref c) 0 M) →
            tDSeq (fun T _ σ M => (tIfS3 (tTest3 (tCall3 spNumT (tCons3 (tVar3 0) tNil3))) (tRet3 (tTup3 (tCons3 (tC3 (.str "number")) (tCons3 (tCB3 rIntT3 (tCons3 (tVar3 0) tNil3)) tNil3)))) tNext3) T σ M) (tDRaise c (tCons3 (tC3 (.int 0)) tNil3)) { nx := fun _ M' => View Q .non M', rt := View Q } E [some (.str z)] M := by
          intro hs hn
          refine rd_dseq ?_
          show tIfS3 _ _ _ _ _ _
          walk_at "rd"
          refine ⟨z, rfl, hz, ?_⟩
          refine rd_bl ?_
          cases en : numT z.cps.toList with
          | false =>
            refine rd_iteFe rfl ?_
            walk_at "rd"
            rw [ez] at en
            exact rd_nxR (hn (if_neg (by rw [en]; exact Bool.false_ne_true)))
          | true =>
            obtain ⟨e3, e4⟩ := int_numT en
            refine rd_iteTe rfl ?_
            walk_at "rd"
            refine rd_intTS e3 e4 ?_
            walk_at "rd"
            rw [ez] at en ⊢
            exact View.of (hs _ (if_pos en))
        by_cases hx : x = 35
        · rw [if_pos hx] at q
          refine rd_bl ?_
          refine rd_iteTe (by rw [hx]; rfl) ?_
          walk_at "rd"
          refine rd_slWS (tx_le hz) ?_
          walk_at "rd"
          refine ⟨_, 2, rfl, tx_tail hz ez, ?_⟩
          refine rd_bl ?_
          rw [slice1 ez]
          cases ef : figs r 2 with
          | true =>
            rw [if_pos ef] at q
            refine rd_iteTe rfl ?_
            walk_at "rd"
            refine rd_slWS (tx_le hz) ?_
            walk_at "rd"
            obtain ⟨e3, e4⟩ := int_figs (z := Txt.slice z (some 1) none) (m := 2) (by rw [slice1 ez]; exact ef) (by decide)
            refine rd_intTS e3 e4 ?_
            walk_at "rd"
            rw [slice1 ez]
            exact View.of q
          | false =>
            rw [if_neg (by rw [ef]; exact Bool.false_ne_true)] at q
            refine rd_iteFe rfl ?_
            have hf : numT (x :: r) = false := by
              show (if x = 45 then _ else _) = false
              rw [if_neg (by rw [hx]; decide)]
              exact dgt_false (by rw [hx]; rfl)
            refine rest (fun w h => ?_) fun _ => q
            rw [hf] at h; cases h
        · rw [if_neg hx] at q
          refine rd_bl ?_
          refine rd_iteFe (beq_eq_false_iff_ne.mpr hx) ?_
          refine rd_iteF ?_
          exact rest (fun w h => by rw [h] at q; exact q) fun h => by rw [h] at q; exact q
  | ref _ => exact hd.elim
  | ty _ => exact hd.elim
  | _ =>
    refine rd_iteTe rfl ?_
    exact rd_raise0 q
end K04
set_option Elab.async false
set_option linter.all false
set_option maxRecDepth 100000
open L3
namespace K04
open PySem L2 L3
open K01 (rd_isText isTxt wdOk txOk asc_ok comp_filtX slice_mem)
theorem fold_ge : ∀ (cs : List Nat) (a : Nat), a * 10 ^ cs.length ≤ cs.foldl (fun acc c => acc * 10 + (c - 48)) a
  | [], a => by simp
  | c :: cs, a => by
    rw [List.foldl_cons, List.length_cons]
    refine Nat.le_trans ?_ (fold_ge cs _)
    rw [Nat.pow_succ, Nat.mul_comm (10 ^ cs.length) 10, ← Nat.mul_assoc]
    exact Nat.mul_le_mul_right _ (Nat.le_add_right _ _)
theorem fold_lt : ∀ (cs : List Nat) (a : Nat), NumText.AllDigits cs → cs.foldl (fun acc c => acc * 10 + (c - 48)) a < (a + 1) * 10 ^ cs.length
  | [], a, _ => by simp
  | c :: cs, a, h => by
    rw [List.foldl_cons, List.length_cons]
    refine Nat.lt_of_lt_of_le (fold_lt cs _ h.tail) ?_
    have := h.head
    rw [Nat.pow_succ, Nat.mul_comm (10 ^ cs.length) 10, ← Nat.mul_assoc]
    exact Nat.mul_le_mul_right _ (by lia)
theorem val_lt {cs : List Nat} {k : Nat} (h : NumText.AllDigits cs) (hl : cs.length ≤ k) : NumText.digitsVal cs < 10 ^ k := by
  have h1 := fold_lt cs 0 h
  rw [Nat.zero_add, Nat.one_mul] at h1
  exact Nat.lt_of_lt_of_le h1 (Nat.pow_le_pow_right (by decide) hl)
theorem val_ge {c : Nat} {cs : List Nat} (h : 49 ≤ c) : 10 ^ cs.length ≤ NumText.digitsVal (c :: cs) := by
  have h1 := fold_ge cs (0 * 10 + (c - 48))
  refine Nat.le_trans ?_ h1
  exact Nat.le_trans (Nat.le_of_eq (Nat.one_mul _).symm) (Nat.mul_le_mul_right _ (by lia))
theorem figs_two (r : List Nat) : (wholeT r).filter (fun n => decide (0 ≤ n) && decide (n ≤ 99)) = if figs r 2 = true then [((NumText.digitsVal r : Nat) : Int)] else [] := by
  unfold wholeT
  cases r with
  | nil => rfl
  | cons c r =>
    show List.filter _ (if (if c = 45 then (r != [48]) && figs r 30 else figs (c :: r) 30) = true then [if c = 45 then -((NumText.digitsVal r : Nat) : Int) else ((NumText.digitsVal (c :: r) : Nat) : Int)] else []) = _
    by_cases hc : c = 45
    · rw [if_pos hc, if_pos hc, if_neg (c := figs (c :: r) 2 = true) (by rw [dgt_false (by rw [hc]; rfl)]; exact Bool.false_ne_true)]
      cases e : ((r != [48]) && figs r 30) with
      | false => rfl
      | true =>
        rw [Bool.and_eq_true] at e
        obtain ⟨h1, h2, h3, h4⟩ := figs_all e.2
        cases r with
        | nil => exact absurd h1 (by decide)
        | cons d r =>
          have hd := h3.head
          have h5 : d ≠ 48 := by
            rcases h4 with h4 | h4
            · rw [h4] at e; exact absurd e.1 (by decide)
            · intro z; rw [z] at h4; exact h4 rfl
          have h6 := val_ge (c := d) (cs := r) (by lia)
          have h7 : 0 < 10 ^ r.length := Nat.pow_pos (by decide)
          rw [if_pos rfl]
          have : (decide (0 ≤ -((NumText.digitsVal (d :: r) : Nat) : Int))) = false := decide_eq_false (by lia)
          rw [List.filter_cons_of_neg (by rw [this]; simp)]; rfl
    · rw [if_neg hc, if_neg hc]
      cases e : figs (c :: r) 30 with
      | false =>
        have : figs (c :: r) 2 = false := by
          cases e2 : figs (c :: r) 2 with
          | false => rfl
          | true =>
            obtain ⟨h1, h2, h3, h4⟩ := figs_all e2
            have e4 : figs (c :: r) 30 = true := by
              unfold figs at e2 ⊢
              simp only [Bool.and_eq_true, decide_eq_true_eq] at e2 ⊢
              exact ⟨⟨e2.1.1, by lia, e2.1.2.2⟩, e2.2⟩
            rw [e] at e4; cases e4
        rw [this]; rfl
      | true =>
        obtain ⟨h1, h2, h3, h4⟩ := figs_all e
        rw [if_pos rfl]
        by_cases hl : (c :: r).length ≤ 2
        · have h5 := val_lt h3 hl
          have : figs (c :: r) 2 = true := by
            unfold figs at e ⊢
            simp only [Bool.and_eq_true, decide_eq_true_eq] at e ⊢
            exact ⟨⟨e.1.1, hl, e.1.2.2⟩, e.2⟩
          rw [if_pos this, List.filter_cons_of_pos (by rw [decide_eq_true (by lia), decide_eq_true (show ((NumText.digitsVal (c :: r) : Nat) : Int) ≤ 99 by lia)]; rfl)]; rfl
        · have : figs (c :: r) 2 = false := by
            unfold figs
            rw [decide_eq_false hl, Bool.false_and, Bool.and_false, Bool.false_and]
          have h5 : c ≠ 48 := by
            rcases h4 with h4 | h4
            · rw [h4] at hl; exact absurd hl (by decide)
            · intro z; rw [z] at h4; exact h4 rfl
          have hd := h3.head
          have h6 := val_ge (c := c) (cs := r) (by lia)
          have h7 : 10 ^ 2 ≤ 10 ^ r.length := Nat.pow_le_pow_right (by decide) (by rw [List.length_cons] at hl; lia)
          rw [this, List.filter_cons_of_neg (by rw [decide_eq_false (show ¬ ((NumText.digitsVal (c :: r) : Nat) : Int) ≤ 99 by lia), Bool.and_false]; exact Bool.false_ne_true)]; rfl
def known : List Str := ["none", "None", "none ", " none", "no", "", " ", "#", "-", "#none", "nonenone", "any", "-#1", "# 1"]
theorem known_ok : (known.all fun z => decide (z.length ≤ 50) && z.cps.toList.all fun c => decide (c < 128)) = true := by decide +kernel
def aheads : List Str := ["", "", "-", "#", "#-", "--", "+", "-0", "0"]
theorem aheads_ok : (aheads.all fun z => decide (z.length ≤ 2) && z.cps.toList.all fun c => decide (c < 128)) = true := by decide +kernel
theorem fig_at {n : Int} (h0 : 0 ≤ n) (h1 : n < 10) : ∃ c, atI figS.cps.toList n = some c ∧ c < 128 := by
  have e : figS.cps.toList = (List.range 10).map (· + 48) := by decide +kernel
  obtain ⟨c, hc, hm⟩ := atI_mem (ds := figS.cps.toList) h0 (by rw [e]; simpa using h1)
  refine ⟨c, hc, ?_⟩
  rw [e] at hm
  obtain ⟨k, hk, rfl⟩ := List.mem_map.mp hm
  have := List.mem_range.mp hk
  lia
theorem len__law_text : ∀ ds M Q, spText ds M Q → ds.length = 1 := by rintro _ _ _ ⟨_, _, rfl, _⟩; rfl
theorem rd__law_text : ∀ ds M Q, spText ds M Q → t__law_text { nx := fun _ M' => View Q .non M', rt := View Q } (start3 N__law_text ds) M := by
  rintro _ M Q ⟨p, b, rfl, hP, hb, q⟩
  have hs : sizeLine = 16777216 := sizeLine_eq
  rw [st__law_text]
  unfold t__law_text
  walk_at "rd"
  refine draw hP (by lia) (by decide) (by decide) fun way M1 w0 w1 hP1 _ => ?_
  walk_at "rd"
  cases e0 : (way == 0) with
  | true =>
    refine rd_iteT ?_
    walk_at "rd"
    refine draw hP1 (by lia) (by decide) (by decide) fun k M2 k0 k1 hP2 _ => ?_
    obtain ⟨d, hd, hm⟩ := atI_mem (ds := known.map D.str) k0 (by simpa [known] using k1)
    refine rd_ixL hd ?_
    obtain ⟨z, hz, rfl⟩ := List.mem_map.mp hm
    have h := List.all_eq_true.mp known_ok z hz
    simp only [Bool.and_eq_true, decide_eq_true_eq, List.all_eq_true] at h
    exact View.of (q z M2 h.1 h.2 (pen_mono hP2 (by lia)))
  | false =>
    refine rd_iteF ?_
    walk_at "rd"
    refine draw hP1 (by lia) (by decide) (by decide) fun k M2 k0 k1 hP2 _ => ?_
    obtain ⟨d, hd, hm⟩ := atI_mem (ds := ([1, 2, 3, 29, 30, 31, 40] : List Int).map D.int) k0 (by simpa using k1)
    refine rd_ixL hd ?_
    obtain ⟨size, hz, rfl⟩ := List.mem_map.mp hm
    have hsz : 1 ≤ size ∧ size ≤ 40 := by
      simp only [List.mem_cons, List.not_mem_nil, or_false] at hz
      lia
    walk_at "rd"
    refine ⟨rfl, ?_⟩
    walk_at "rd"
    refine ⟨by lia, by lia, ?_⟩
    walk_at "rd"
    refine comp_pen 1 (fun _ _ e => ∃ c, e = .str ⟨#[c]⟩ ∧ c < 128) hP2 ?_ ?_ ?_
    · rw [List.length_map, List.length_range, sizeLine_eq]; lia
    · intro k2 d2 p2 acc M3 R F hd2 hP3 hacc hne hsame hR
      have hk2 : k2 < size.toNat := by simpa using (List.getElem?_eq_some_iff.mp hd2).1
      walk_at "rd"
      refine draw hP3 (by lia) (by decide) (by decide) fun m M4 m0 m1 hP4 e3 => ?_
      obtain ⟨c, hc, hc1⟩ := fig_at m0 m1
      refine rd_ixS (by decide +kernel) hc ?_
      exact hR _ _ ⟨c, rfl, hc1⟩ (pen_mono hP4 (by lia)) e3
    intro acc M3 hlen hall hP3 hs3
    obtain ⟨cs, rfl, hcs⟩ := exists_map (f := fun c => D.str (MK.one c)) (P := fun c => c < 128) fun e he => by
      obtain ⟨_, _, _, c, hc, h2⟩ := comp_all hlen hall e he
      exact ⟨c, hc, h2⟩
    have hl2 : cs.length = size.toNat := by simpa using hlen
    have e2 : cs.map (fun c => D.str (MK.one c)) = (cs.map MK.one).map D.str := by rw [List.map_map]; rfl
    rw [e2]
    walk_at "rd"
    refine rd_joinL ?_ ?_
    · have : ((cs.map MK.one).map fun y => y.length).sum = cs.length := by
        clear hall hlen hl2 e2 hcs
        induction cs with
        | nil => rfl
        | cons c cs ih =>
          rw [List.map_cons, List.map_cons, List.sum_cons, ih]
          show 1 + cs.length = cs.length + 1
          lia
      unfold joinOk
      rw [this, List.length_map, show (("" : Str)).length = 0 by decide +kernel]
      lia
    have hP3 : Pen M3 p (b + 2 + 41) := pen_mono hP3 (by rw [List.length_map, List.length_range]; lia)
    have asc : ∀ c ∈ (Txt.join "" (cs.map MK.one)).cps.toList, c < 128 := fun c hc => by
      rw [MK.glue_ones] at hc
      exact hcs c hc
    have len : (Txt.join "" (cs.map MK.one)).length ≤ 40 := by rw [len_cps, MK.glue_ones, hl2]; lia
    revert asc len
    generalize Txt.join "" (cs.map MK.one) = z
    intro asc len
    walk_at "rd"
    refine draw hP3 (by lia) (by decide) (by decide) fun j M4 j0 j1 hP4 _ => ?_
    obtain ⟨d, hd, hm⟩ := atI_mem (ds := aheads.map D.str) j0 (by simpa [aheads] using j1)
    refine rd_ixL hd ?_
    obtain ⟨y, hy, rfl⟩ := List.mem_map.mp hm
    have h := List.all_eq_true.mp aheads_ok y hy
    simp only [Bool.and_eq_true, decide_eq_true_eq, List.all_eq_true] at h
    walk_at "rd"
    refine rd_addS (by lia) ?_
    refine View.of (q _ M4 (by rw [MK.len_app]; lia) (fun c hc => ?_) (pen_mono hP4 (by lia)))
    rw [cps_app] at hc
    rcases List.mem_append.mp hc with hc | hc
    · exact h.2 c hc
    · exact asc c hc
theorem len__law_bent : ∀ ds M Q, spBent ds M Q → ds.length = 2 := by rintro _ _ _ ⟨_, _, _, rfl, _⟩; rfl
theorem rd__law_bent : ∀ ds M Q, spBent ds M Q → t__law_bent { nx := fun _ M' => View Q .non M', rt := View Q } (start3 N__law_bent ds) M := by
  rintro _ M Q ⟨p, b, z, rfl, zl, za, hP, hb, q⟩
  have hs : sizeLine = 16777216 := sizeLine_eq
  have h200 : (2 : Int) ^ 200 > 200 := by decide
  rw [st__law_bent]
  unfold t__law_bent
  walk_at "rd"
  refine draw hP (by lia) (by decide) (by decide) fun way M1 w0 w1 hP1 e1 => ?_
  walk_at "rd"
  refine rd_lenS (by lia) ?_
  walk_at "rd"
  refine draw hP1 (by lia) (by lia) (by lia) fun n M2 n0 n1 hP2 e2 => ?_
  walk_at "rd"
  refine ⟨p, _, rfl, hP2, by lia, fun c M3 hc hP3 e3 => ?_⟩
  have hz : z.length ≤ sizeLine := by lia
  have l1 := Txt.slice_le z none (some n)
  have l2 := Txt.slice_le z (some n) none
  have l3 := Txt.slice_le z (some (n + 1)) none
  have lt : ∀ a b : Str, (a ++ b).length = a.length + b.length := MK.len_app
  have at3 : ∀ {u v : Str}, (∀ c ∈ u.cps.toList, c < 128) → (∀ c ∈ v.cps.toList, c < 128) → ∀ c ∈ (u ++ v).cps.toList, c < 128 := fun {u v} hu hv c hc => by
    rw [cps_app] at hc
    rcases List.mem_append.mp hc with h | h
    · exact hu c h
    · exact hv c h
  have a1 : ∀ c ∈ (Txt.slice z none (some n)).cps.toList, c < 128 := fun c hc => za c (slice_mem hc)
  have a2 : ∀ c ∈ (Txt.slice z (some n) none).cps.toList, c < 128 := fun c hc => za c (slice_mem hc)
  have a3 : ∀ c ∈ (Txt.slice z (some (n + 1)) none).cps.toList, c < 128 := fun c hc => za c (slice_mem hc)
  have yl : ((⟨#[c]⟩ : Str)).length = 1 := rfl
  have ya : ∀ x ∈ ((⟨#[c]⟩ : Str)).cps.toList, x < 128 := fun x hx => by
    have : x = c := by simpa using hx
    lia
  revert yl ya
  generalize (⟨#[c]⟩ : Str) = y
  intro yl ya
  walk_at "rd"
  refine rd_slWS hz ?_
  walk_at "rd"
  refine rd_addS (by lia) ?_
  walk_at "rd"
  refine rd_slWS hz ?_
  refine rd_addS (by rw [lt]; lia) ?_
  walk_at "rd"
  refine rd_slWS hz ?_
  walk_at "rd"
  refine rd_slWS hz ?_
  refine rd_addS (by lia) ?_
  walk_at "rd"
  refine rd_slWS hz ?_
  walk_at "rd"
  refine rd_addS (by lia) ?_
  walk_at "rd"
  refine rd_slWS hz ?_
  refine rd_addS (by rw [lt]; lia) ?_
  walk_at "rd"
  obtain ⟨d, hd, hm⟩ := atI_mem (ds := [D.str z, .str (Txt.slice z none (some n) ++ y ++ Txt.slice z (some n) none), .str (Txt.slice z none (some n) ++ Txt.slice z (some (n + 1)) none), .str (Txt.slice z none (some n) ++ y ++ Txt.slice z (some (n + 1)) none)]) w0 (by simpa using w1)
  refine rd_ixL hd ?_
  have fin : ∀ x : Str, x.length ≤ 102 → (∀ c ∈ x.cps.toList, c < 128) → View Q (.str x) M3 := fun x h1 h2 => View.of (q x M3 h1 h2 (pen_mono hP3 (by lia)))
  simp only [List.mem_cons, List.not_mem_nil, or_false] at hm
  rcases hm with rfl | rfl | rfl | rfl
  · exact fin _ (by lia) za
  · exact fin _ (by rw [lt, lt]; lia) (at3 (at3 a1 ya) a2)
  · exact fin _ (by rw [lt]; lia) (at3 a1 a3)
  · exact fin _ (by rw [lt, lt]; lia) (at3 (at3 a1 ya) a3)
end K04
set_option Elab.async false
set_option linter.all false
set_option maxRecDepth 100000
open L3
namespace K04
open PySem L2 L3
open K01 (rd_isText isTxt wdOk txOk asc_ok comp_filtX slice_mem)
theorem first1 (z : Str) : (Txt.slice z none (some 1)).cps.toList = z.cps.toList.take 1 := by
  rw [beq_iff_eq.mp (PyProof.Rows.slice_to_min_closes (x := z) (n := 1) (by decide) rfl)]
  cases ez : z.cps.toList with
  | nil => simp
  | cons c r =>
    have hl : z.length = r.length + 1 := by rw [len_cps, ez]; rfl
    rw [if_neg (show ¬ (z.length : Int) < 1 by lia)]
    simp
def okF (fs : List Nat) : Bool := decide (1 ≤ fs.length) && (decide (fs.length ≤ 30) && fs.all dgt)
def okG (cs fs : List Nat) : Bool := okF fs && !(fs.head? == some 48 && cs != [48])
def figOf (cs : List Nat) : List Nat := if cs.take 1 = [45] then cs.drop 1 else cs
theorem g_num (cs : List Nat) : okG cs (figOf cs) = numT cs := by
  unfold okG figOf
  cases cs with
  | nil => rfl
  | cons c r =>
    show _ = (if c = 45 then (r != [48]) && figs r 30 else figs (c :: r) 30)
    by_cases hc : c = 45
    · subst hc
      rw [if_pos rfl, if_pos (show List.take 1 (45 :: r) = [45] from rfl)]
      show (okF r && !(r.head? == some 48 && (45 :: r) != [48])) = ((r != [48]) && (okF r && (r == [48] || r.head? != some 48)))
      have e1 : ((45 :: r) != [48]) = true := by simp [bne]
      rw [e1, Bool.and_true]
      cases h1 : (r == [48]) with
      | true =>
        rw [beq_iff_eq] at h1
        subst h1
        rfl
      | false =>
        have h2 : (r != [48]) = true := by rw [bne, h1]; rfl
        rw [h2, Bool.true_and, Bool.false_or]
        rfl
    · rw [if_neg (by intro z; exact hc (by simpa using z)), if_neg hc]
      show (okF (c :: r) && !((c :: r).head? == some 48 && (c :: r) != [48])) = (okF (c :: r) && ((c :: r) == [48] || (c :: r).head? != some 48))
      congr 1
      rw [Bool.not_and, Bool.or_comm]
      congr 1
      rw [bne, Bool.not_not]
theorem len__law_whole : ∀ ds M Q, spWhole ds M Q → ds.length = 1 := by rintro _ _ _ ⟨_, rfl, _⟩; rfl
theorem rd__law_whole : ∀ ds M Q, spWhole ds M Q → t__law_whole { nx := fun _ M' => View Q .non M', rt := View Q } (start3 N__law_whole ds) M := by
  rintro _ M Q ⟨z, rfl, hz, q⟩
  rw [st__law_whole]
  unfold t__law_whole
  have rest : ∀ f : Str, txOk f → okG z.cps.toList f.cps.toList = numT z.cps.toList → (tSeq3 (tIfS3 (tOr3 (tTest3 (tOp3 rEqF3 (tVar3 1) (tC3 (.str "")))) (tOr3 (tTest3 (tOp3 rGt3 (tCB3 rLen3 (tCons3 (tVar3 1) tNil3)) (tC3 (.int 30)))) (tTest3 (tOp3 rNe3 (tComp3 (iStr3 (tVar3 1)) 1 [] (gName3 0) (tTest3 (tOp3 (rIn3 true) (tVar3 0) (tC3 (.str "0123456789")))) (tVar3 0)) (tLst3 tNil3))))) (tRet3 (tLst3 tNil3)) tNext3) (tSeq3 (tIfS3 (tAnd3 (tTest3 (tOp3 rEqF3 (tOp3 rIx3 (tVar3 1) (tC3 (.int 0))) (tC3 (.str "0")))) (tTest3 (tOp3 rNe3 (tVar3 0) (tC3 (.str "0"))))) (tRet3 (tLst3 tNil3)) tNext3) (tRet3 (tLst3 (tCons3 (tCB3 rIntT3 (tCons3 (tVar3 0) tNil3)) tNil3))))) { nx := fun _ M' => View Q .non M', rt := View Q } [some (.str z), some (.str f)] M := by
    intro f hf hG
    have no : numT z.cps.toList = false → View Q (.lst []) M := fun h => by
      unfold wholeT at q
      rw [h] at q
      exact View.of q
    unfold okG okF at hG
    rw [← len_cps f] at hG
    walk_at "rd"
    rw [str_eq_iff, nil_cps]
    cases ef : f.cps.toList with
    | nil =>
      refine rd_iteTe rfl ?_
      walk_at "rd"
      refine no ?_
      rw [← hG, len_cps, ef]; rfl
    | cons c r =>
      refine rd_iteFe rfl ?_
      walk_at "rd"
      refine rd_lenS (tx_le hf) ?_
      walk_at "rd"
      have h1 : 1 ≤ f.length := by rw [len_cps, ef]; simp
      rw [decide_eq_true h1, Bool.true_and] at hG
      refine rd_dec (fun h2 => ?_) (fun h2 => ?_)
      · walk_at "rd"
        refine no ?_
        rw [← hG, decide_eq_false (show ¬ f.length ≤ 30 by lia), Bool.false_and, Bool.false_and]
      · rw [decide_eq_true (show f.length ≤ 30 by lia), Bool.true_and] at hG
        walk_at "rd"
        refine comp_filtX f.cps.toList (fun c => D.str ⟨#[c]⟩) (fun c => D.str ⟨#[c]⟩) (fun c => !dgt c) ?_ ?_ ?_
        · rw [← len_cps, sizeLine_eq]; lia
        · intro c hc M2 R F _ hR hF
          walk_at "rd"
          refine rd_inS (in_dgt (hf.2 c hc)) ?_
          rw [Bool.true_xor]
          refine rd_bl ?_
          cases e : (!dgt c) with
          | true => exact rd_iteTe rfl (rd_var rfl (hR e))
          | false => exact rd_iteFe rfl (hF e)
        · walk_at "rd"
          have e : (f.cps.toList.filter fun c => !dgt c).map (fun c => D.str ⟨#[c]⟩) = ((f.cps.toList.filter fun c => !dgt c).map fun c => (⟨#[c]⟩ : Str)).map D.str := by rw [List.map_map]; rfl
          rw [e]
          refine rd_nev (dOk_strsL fun y hy => ?_) nilL_ok eqv_nilL ?_
          · obtain ⟨c, hc, rfl⟩ := List.mem_map.mp hy
            have := hf.2 c (List.mem_filter.mp hc).1
            refine asc_ok fun x hx => ?_
            have : x = c := by simpa using hx
            lia
          · have e2 : (((f.cps.toList.filter fun c => !dgt c).map fun c => (⟨#[c]⟩ : Str)).map D.str).isEmpty = f.cps.toList.all dgt := by
              rw [List.isEmpty_map, List.isEmpty_map]
              induction f.cps.toList with
              | nil => rfl
              | cons c r ih =>
                rw [List.all_cons, List.filter_cons]
                cases dgt c with
                | true => exact ih
                | false => rfl
            rw [e2]
            refine rd_bl ?_
            cases ea : f.cps.toList.all dgt with
            | false =>
              refine rd_iteTe rfl ?_
              walk_at "rd"
              refine no ?_
              rw [← hG, ea, Bool.false_and]
            | true =>
              rw [ea, Bool.true_and] at hG
              refine rd_iteFe rfl ?_
              walk_at "rd"
              refine rd_ixS (tx_le hf) (c := c) (by rw [ef]; exact atI_nat (j := 0) rfl) ?_
              walk_at "rd"
              rw [str_eq_iff, zero_cps]
              have e4 : ((({ cps := #[c] } : Str)).cps.toList == [48]) = (f.cps.toList.head? == some 48) := by rw [ef]; simp
              rw [e4]
              have last : numT z.cps.toList = true → View Q (.lst [.int (val z.cps.toList)]) M := fun h => by
                unfold wholeT at q
                rw [h] at q
                exact View.of q
              have say : numT z.cps.toList = true → (tRet3 (tLst3 (tCons3 (tCB3 rIntT3 (tCons3 (tVar3 0) tNil3)) tNil3))) { nx := fun _ M' => View Q .non M', rt := View Q } [some (.str z), some (.str f)] M := fun h => by
                obtain ⟨h5, h6⟩ := int_numT h
                walk_at "rd"
                refine rd_intTS h5 h6 ?_
                walk_at "rd"
                exact last h
              cases eh : (f.cps.toList.head? == some 48) with
              | false =>
                rw [eh] at hG
                refine rd_iteFe rfl ?_
                refine rd_iteF ?_
                exact say hG.symm
              | true =>
                rw [eh, Bool.true_and] at hG
                refine rd_iteTe rfl ?_
                walk_at "rd"
                rw [str_eq_iff, zero_cps]
                cases e6 : (z.cps.toList == [48]) with
                | true =>
                  rw [bne, e6] at hG
                  refine rd_iteFe rfl ?_
                  exact say hG.symm
                | false =>
                  rw [bne, e6] at hG
                  refine rd_iteTe rfl ?_
                  walk_at "rd"
                  exact no hG.symm
  walk_at "rd"
  refine rd_slWS (tx_le hz) ?_
  walk_at "rd"
  rw [str_eq_iff, first1, min_cps]
  have hg := g_num z.cps.toList
  unfold figOf at hg
  by_cases h : z.cps.toList.take 1 = [45]
  · rw [if_pos h] at hg
    refine rd_iteTe (by rw [h]; rfl) ?_
    walk_at "rd"
    refine rd_slWS (tx_le hz) ?_
    cases ez : z.cps.toList with
    | nil => rw [ez] at h; cases h
    | cons c r =>
      rw [ez] at hg
      refine rest _ (tx_tail hz ez) ?_
      rw [slice1 ez, ez]; exact hg
  · rw [if_neg h] at hg
    refine rd_iteFe (beq_eq_false_iff_ne.mpr h) ?_
    exact rest z hz hg
theorem len__law_due : ∀ ds M Q, spDue ds M Q → ds.length = 1 := by rintro _ _ _ ⟨_, rfl, _⟩; rfl
theorem rd__law_due : ∀ ds M Q, spDue ds M Q → t__law_due { nx := fun _ M' => View Q .non M', rt := View Q } (start3 N__law_due ds) M := by
  rintro _ M Q ⟨d, rfl, ⟨hd, hz⟩, q⟩
  rw [st__law_due]
  unfold t__law_due
  walk_at "rd"
  refine rd_isText hd ?_
  refine rd_bl ?_
  cases d with
  | str z =>
    have hz := hz z rfl
    have q : Q (.lst (readT z.cps.toList).toList) M := q
    unfold readT at q
    refine rd_iteFe rfl ?_
    walk_at "rd"
    rw [str_eq_iff, none_cps]
    by_cases e1 : z.cps.toList = noneC
    · rw [if_pos e1] at q
      refine rd_iteTe (by rw [e1]; rfl) ?_
      walk_at "rd"
      exact View.of q
    · rw [if_neg e1] at q
      refine rd_iteFe (beq_eq_false_iff_ne.mpr e1) ?_
      walk_at "rd"
      refine rd_slWS (tx_le hz) ?_
      walk_at "rd"
      rw [str_eq_iff, first1, hash_cps]
      have wl : ∀ cs, (wholeT cs).length ≤ 1 := fun cs => by unfold wholeT; split <;> simp
      have one : Q (.lst ((wholeT z.cps.toList).map fun n => D.tup [.str "number", .int n])) M → (tRet3 (tComp3 (iList3 (tCall3 spWhole (tCons3 (tVar3 0) tNil3))) 1 [] (gName3 0) tTrue3 (tTup3 (tCons3 (tC3 (.str "number")) (tCons3 (tVar3 0) tNil3))))) { nx := fun _ M' => View Q .non M', rt := View Q } [some (.str z)] M := by
        intro q
        walk_at "rd"
        refine ⟨z, rfl, hz, ?_⟩
        walk_at "rd"
        refine comp_map (wholeT z.cps.toList) D.int (fun n => D.tup [.str "number", .int n]) ?_ ?_ ?_
        · have := wl z.cps.toList
          rw [sizeLine_eq]; lia
        · intro n hn M2 R F _ hR
          walk_at "rd"
          exact hR
        · exact View.of q
      cases ez : z.cps.toList with
      | nil =>
        rw [ez] at q
        refine rd_iteTe rfl ?_
        refine one ?_
        rw [ez]; exact q
      | cons c r =>
        rw [ez] at q
        have q : Q (.lst (if c = 35 then (if figs r 2 = true then some (.tup [.str "giver", .int ((NumText.digitsVal r : Nat) : Int)]) else none) else if numT (c :: r) = true then some (.tup [.str "number", .int (val (c :: r))]) else none : Option D).toList) M := q
        by_cases hc : c = 35
        · rw [if_pos hc] at q
          refine rd_iteFe (by rw [hc]; rfl) ?_
          walk_at "rd"
          refine rd_slWS (tx_le hz) ?_
          walk_at "rd"
          refine ⟨_, rfl, tx_tail hz ez, ?_⟩
          rw [slice1 ez]
          walk_at "rd"
          refine comp_filtX (wholeT r) D.int (fun n => D.tup [.str "giver", .int n]) (fun n => decide (0 ≤ n) && decide (n ≤ 99)) ?_ ?_ ?_
          · have := wl r
            rw [sizeLine_eq]; lia
          · intro n hn M2 R F _ hR hF
            walk_at "rd"
            refine rd_dec (fun h1 => ?_) (fun h1 => ?_)
            · walk_at "rd"
              refine rd_dec (fun h2 => ?_) (fun h2 => ?_)
              · walk_at "rd"
                exact hR (by rw [decide_eq_true h1, decide_eq_true h2]; rfl)
              · exact hF (by rw [decide_eq_true h1, decide_eq_false h2]; rfl)
            · walk_at "rd"
              exact hF (by rw [decide_eq_false h1]; rfl)
          · rw [figs_two]
            refine View.of ?_
            cases ef : figs r 2 with
            | true => rw [ef] at q; exact q
            | false => rw [ef] at q; exact q
        · rw [if_neg hc] at q
          refine rd_iteTe (by rw [List.take_succ_cons, List.take_zero, show ([c] == [35]) = false by simpa using hc]; rfl) ?_
          refine one ?_
          rw [ez]
          unfold wholeT
          cases en : numT (c :: r) with
          | true => rw [en] at q; exact q
          | false => rw [en] at q; exact q
  | ref _ => exact hd.elim
  | ty _ => exact hd.elim
  | _ => refine rd_iteTe rfl ?_; walk_at "rd"; exact View.of q
theorem rd_tryD {K : PySem.W.Frag} {C : Addr} {sp : SpXD} {ta : TA3} {i j l : Nat} {tN : TS3} {tE : Addr → Obj → Addr → Obj → Value → Int → TS3} {T : Ends3} {σ : Lo} {M : Mem}
    (h : ta σ M fun ds M1 => sp ds M1 (fun d M2 => tN T (σ.set i (some d)) M2) fun cls n M2 => PySem.W.exmOne K cls (.ref C) = some true ∧ ∀ (ea : Addr) (oe : Obj) (dx : Addr) (od : Obj), AtOf cls n ea oe dx od → tE ea oe dx od cls n T ((σ.set j (some (.ref ea))).set l none) M2) : tTryD K C sp ta i j l tN tE T σ M := h
theorem rd_atG {C : Addr} {ea : Addr} {n : Int} {te : TE3} {σ : Lo} {M : Mem} {Q : DK} (h : te σ M fun d M1 => d = .ref ea ∧ Q (.int n) M1) : tAtG C (.ref C) ea n te σ M Q := ⟨rfl, h⟩
theorem sh0 : shE (.int 0) := (K01.thB_thing (d := .int 0) (by decide +kernel)).1.1
theorem shown0 : ((pyE (.int 0)).shown == ("0" : Str)) = true := by decide +kernel
theorem len__law_heard : ∀ ds M Q, spHeard ds M Q → ds.length = 1 := by rintro _ _ _ ⟨_, rfl, _⟩; rfl
theorem rd__law_heard {K : PySem.W.Frag} {cG cN c1 c2 c3 c4 c5 c6 c7 c8 c9 c10 : Addr} (Z : K06.CK K cG cN c1 c2 c3 c4 c5 c6 c7 c8 c9 c10) : ∀ ds M Q, spHeard ds M Q → t__law_heard K (spRead cN) cG cN c1 c2 c3 c4 c5 c6 c7 c8 c9 c10 { nx := fun _ M' => View Q .non M', rt := View Q } (start3 N__law_heard ds) M := by
  rintro _ M Q ⟨d, rfl, hd, q⟩
  rw [st__law_heard]
  unfold t__law_heard
  walk_at "rd"
  with_reducible refine rd_tryD ?_
  walk_at "rd"
  refine ⟨d, rfl, hd, ?_⟩
  cases e : readW d with
  | some w =>
    rw [e] at q
    show tSeq3 _ _ _ _ _
    walk_at "rd"
    exact View.of q
  | none =>
    rw [e] at q
    refine ⟨Z.ex, fun ea oe dx od a2 => ?_⟩
    have ho := a2.cl
    walk_at "rd"
    have two : ∀ {c : D} {u : Value} {Q' : DK} {b : Bool}, clsV c = some u → PySem.W.kitOne K (.ref cN) u = some b → Q' (.bl b) M → rIsiP K ea oe [.ref ea, c] M Q' := fun {c u Q' b} h1 h2 h3 => ⟨cN, b, ho, Z.zk, Z.cl, .inl ⟨c, u, rfl, h1, h2⟩, h3⟩
    have self : PySem.W.kitOne K (.ref cN) (.ref cN) = some true := by unfold PySem.W.kitOne; rw [if_pos (by simp)]
    refine two rfl self ?_
    walk_at "rd"
    refine two rfl Z.v ?_
    walk_at "rd"
    refine rd_atG ?_
    walk_at "rd"
    refine ⟨rfl, ?_⟩
    walk_at "rd"
    refine rd_reprE sh0 ?_
    walk_at "rd"
    rw [shown0]
    walk_at "rd"
    refine ⟨cN, false, ho, Z.zk, Z.cl, .inr ⟨_, _, rfl, rfl, Z.o⟩, ?_⟩
    walk_at "rd"
    exact View.of q
end K04
set_option Elab.async false
set_option linter.all false
set_option maxRecDepth 100000
open L3
namespace K04
open PySem L2 L3
open K01 (wdOk txOk asc_ok thB thB_thing El sh_lst dict_none iOk WorthD)
def oddW : List D := [.non, .bl true, .int 0, .int 7, .tup [], .lst [], .dct [], .tup [.str "none"], .lst [.str "none"], .tup [.str "number", .int 1], .dct [(.inr "none", .int 1)], .int ((10 : Int) ^ (39 : Int).toNat)]
theorem odd_all : (oddW.all thB) = true := by decide +kernel
theorem odd_ok {d : D} (h : d ∈ oddW) : wdOk d := (thB_thing (List.all_eq_true.mp odd_all d h)).1.2.2
theorem wd_str {z : Str} (hl : z.length ≤ 1000) (h : ∀ c ∈ z.cps.toList, c < 128) : wdOk (.str z) := ⟨trivial, fun w e => by cases e; exact ⟨hl, h⟩⟩
theorem val_ok {cs : List Nat} (h : NumText.AllDigits cs) (hl : cs.length ≤ 30) : NumText.digitsVal cs < 2 ^ 140 := Nat.lt_of_lt_of_le (val_lt h hl) (by decide)
theorem read_worthD {d w : D} (h : readW d = some w) : ∃ xs, w = .tup xs ∧ WorthD xs := by
  cases d with
  | str z =>
    have h : readT z.cps.toList = some w := h
    unfold readT at h
    by_cases e1 : z.cps.toList = noneC
    · rw [if_pos e1] at h
      cases h
      exact ⟨_, rfl, .inl rfl⟩
    · rw [if_neg e1] at h
      revert h
      generalize z.cps.toList = cs
      intro h
      cases cs with
      | nil => cases h
      | cons c r =>
        have h : (if c = 35 then (if figs r 2 = true then some (.tup [.str "giver", .int ((NumText.digitsVal r : Nat) : Int)]) else none) else if numT (c :: r) = true then some (.tup [.str "number", .int (val (c :: r))]) else none : Option D) = some w := h
        by_cases hc : c = 35
        · rw [if_pos hc] at h
          cases ef : figs r 2 with
          | false => rw [ef] at h; cases h
          | true =>
            rw [ef] at h
            cases h
            obtain ⟨_, h2, h3, _⟩ := figs_all ef
            exact ⟨_, rfl, .inr ⟨_, by unfold iOk; rw [Int.natAbs_natCast]; exact val_ok h3 (by lia), .inr rfl⟩⟩
        · rw [if_neg hc] at h
          cases ef : numT (c :: r) with
          | false => rw [ef] at h; cases h
          | true =>
            rw [ef] at h
            cases h
            refine ⟨_, rfl, .inr ⟨_, ?_, .inl rfl⟩⟩
            have ef : (if c = 45 then (r != [48]) && figs r 30 else figs (c :: r) 30) = true := ef
            show (if c = 45 then -((NumText.digitsVal r : Nat) : Int) else ((NumText.digitsVal (c :: r) : Nat) : Int)).natAbs < _
            by_cases h5 : c = 45
            · rw [if_pos h5] at ef ⊢
              rw [Bool.and_eq_true] at ef
              obtain ⟨_, h2, h3, _⟩ := figs_all ef.2
              rw [Int.natAbs_neg, Int.natAbs_natCast]; exact val_ok h3 h2
            · rw [if_neg h5] at ef ⊢
              obtain ⟨_, h2, h3, _⟩ := figs_all ef
              rw [Int.natAbs_natCast]; exact val_ok h3 h2
  | _ => cases h
theorem elN {z : Str} {n : Int} (hl : z.length ≤ 8) (ha : ∀ c ∈ z.cps.toList, c < 128) (hn : iOk n) : El (.tup [.str z, .int n]) ∧ (pyE (.tup [.str z, .int n])).hasDict = false := by
  have a := (K01.el_str (z := z) (by lia) ha).1
  have b := (K01.el_int hn).1
  have sa := a.sh; have sb := b.sh
  have la := a.lf; have lb := b.lf
  have hl' : z.cps.size ≤ 8 := hl
  refine ⟨⟨trivial, .inl ⟨rfl, ?_, ?_⟩, rfl, ?_, ?_, ?_, ?_⟩, rfl⟩
  · simp only [pyD, pyDs, PyData.canLay0, PyData.canLayAll0, asc_ok ha]; rfl
  · simp only [pyD, pyDs, PyData.depth, PyData.depthAll]; lia
  · simp only [pyE] at sa sb
    simp only [pyE, pyEs, PyData.showable, PyData.showableAll] at sb ⊢
    rw [sb]; rfl
  · simp only [pyE, pyEs, PyData.depth, PyData.depthAll]; lia
  · simp only [pyE] at la lb
    simp only [pyE, pyEs, PyData.leavesShort, PyData.leavesShortAll] at la lb ⊢
    rw [la, lb]; rfl
  · have lg : n.natAbs.log2 < 140 := K01.log_small (by decide) hn
    simp only [pyE, pyEs, PyData.weight, PyData.weightAll]
    split <;> lia
theorem sh_read (d : D) : shE (.lst (readW d).toList) := by
  cases e : readW d with
  | none => exact sh_lst (fun x hx => nomatch hx) (Nat.zero_le _) rfl
  | some w =>
    have el : El w ∧ (pyE w).hasDict = false := by
      obtain ⟨xs, rfl, h | ⟨n, hn, h | h⟩⟩ := read_worthD e
      · rw [h]
        exact ⟨(thB_thing (d := .tup [.str "none"]) (by decide +kernel)).2.1, rfl⟩
      · rw [h]; exact elN (by decide +kernel) (by decide +kernel) hn
      · rw [h]; exact elN (by decide +kernel) (by decide +kernel) hn
    refine sh_lst (xs := [w]) (fun x hx => ?_) (Nat.le_of_ble_eq_true rfl) (dict_none fun x hx => ?_)
    · obtain rfl : x = w := by simpa using hx
      exact el.1
    · obtain rfl : x = w := by simpa using hx
      exact el.2
theorem len_law : ∀ ds M Q, L3.spLaw3 ds M Q → ds.length = 1 := by rintro _ _ _ ⟨_, rfl, _⟩; rfl
theorem rd_law : ∀ ds M Q, L3.spLaw3 ds M Q → t_law { nx := fun _ M' => View Q .non M', rt := View Q } (start3 N_law ds) M := by
  rintro _ M Q ⟨scr, rfl, hl, hM, q⟩
  rw [st_law]
  unfold t_law
  walk_at "rd"
  refine ⟨scr, rfl, hl, fun p M1 hp hP0 _ => ?_⟩
  walk_at "rd"
  refine rd_I ⟨by decide, by decide, by decide⟩ ?_
  walk_at "rd"
  refine ⟨fun k σ M => ∃ x3 x4 x5, σ = [some (.lst (scr.map D.int)), some (.ref p), some (.lst oddW), x3, x4, x5] ∧ Pen M p (k * 100), ⟨none, none, none, rfl, hP0⟩, ?_, ?_⟩
  · rintro k d σ M2 hk ⟨x3, x4, x5, rfl, hP⟩
    have hk8 : k < 12 := by
      have h := (List.getElem?_eq_some_iff.mp hk).1
      simpa using h
    walk_at "rd"
    refine ⟨p, _, rfl, hP, by lia, fun z M3 zl za hP3 => ?_⟩
    walk_at "rd"
    refine ⟨p, _, z, rfl, zl, za, hP3, by lia, fun y M4 yl ya hP4 => ?_⟩
    walk_at "rd"
    refine ⟨p, _, z, rfl, zl, za, hP4, by lia, fun x M5 xl xa hP5 => ?_⟩
    walk_at "rd"
    refine draw hP5 (by lia) (by decide) (by decide) fun j M6 j0 j1 hP6 e6 => ?_
    obtain ⟨o, ho, hom⟩ := atI_mem (ds := oddW) j0 (by simpa [oddW] using j1)
    refine rd_ixL ho ?_
    walk_at "rd"
    have things : ∀ t ∈ [D.str z, .str y, .str x, o, .str z], wdOk t := by
      intro t ht
      simp only [List.mem_cons, List.not_mem_nil, or_false] at ht
      rcases ht with rfl | rfl | rfl | rfl | rfl
      · exact wd_str (by lia) za
      · exact wd_str (by lia) ya
      · exact wd_str (by lia) xa
      · exact odd_ok hom
      · exact wd_str (by lia) za
    refine ⟨fun k' σ M => ∃ y5, σ = [some (.lst (scr.map D.int)), some (.ref p), some (.lst oddW), some d, some (.str z), y5] ∧ M = M6, ⟨x5, rfl, rfl⟩, ?_, ?_⟩
    · rintro k' t σ M9 ht ⟨y5, rfl, rfl⟩
      have th := things t (List.mem_of_getElem? ht)
      walk_at "rd"
      refine ⟨t, rfl, th, ?_⟩
      walk_at "rd"
      refine rd_reprE (sh_read t) ?_
      walk_at "rd"
      refine ⟨t, rfl, th, ?_⟩
      walk_at "rd"
      refine rd_reprE (sh_read t) ?_
      walk_at "rd"
      rw [beq_self_eq_true]
      walk_at "rd"
      exact ⟨_, rfl, rfl⟩
    · rintro σ M9 ⟨y5, rfl, rfl⟩
      exact ⟨_, _, _, rfl, pen_mono hP6 (by lia)⟩
  · rintro σ M2 ⟨x3, x4, x5, rfl, hP⟩
    walk_at "rd"
    exact View.of (q _)
end K04
set_option Elab.async false
set_option linter.all false
set_option maxRecDepth 100000
namespace K04
open PySem PySem.Spec PyProof.Rows L2 L3
open L3 renaming pa3_nil → zA, pa3_k → zB, pss3_cons → zC, pe3_int → zD, pss3_one → zE, pe3_str → zF, ps3_ret → zG, pe3_call → zH, pe3_op → zI, pe3_callB → zJ, pss3_nil → zK, ps3_set → zL, pt3_cmp → zM, pe3_lst → zN, po3_some → zO, po3_none → zP, ps3_if → zQ, pa3_s → zR, pe3_slW → zS, o3_add → zT, pe3_cls → zU, pt3_val → zV, pe3_tup → zW, pe3_ix → zX, pe3_compB → zY, pe3_callTy → zZ, pg3_name → yA, pt3_not → yB, pe3_dget → yC, pa3_i → yD, o3_eqF → yE, o3_mod → yF, pe3_non → yG, c3_len → yH, o3_ne → yI, m3_startswith → yJ, pe3_globI → yK, pps3_cons → yL, pe3_cmp → yM, pw3_or → yN, pifs_nil → yO, pe3_bltn → yP, pw3_and1 → yQ, ps3_dput → yR, c3_reprE → yS, pe3_bl → yT, o3_mul → yU, o3_pow → yV
def top (i : Nat) : Stmt := PySem.Challenge.pw_handedon_k04_texts_of_no_worth.main.body.getD i (.Pass ⟨0, 0, 0, 0⟩)
structure Blt (mg : Str → Option Value) : Prop where
  ValueError_ : mg "ValueError" = none
  abs_ : mg "abs" = none
  all_ : mg "all" = none
  int_ : mg "int" = none
  isinstance_ : mg "isinstance" = none
  len_ : mg "len" = none
  list_ : mg "list" = none
  range_ : mg "range" = none
  repr_ : mg "repr" = none
  str_ : mg "str" = none
structure Cst (K : PySem.W.Frag) (P : Params) (mg : Str → Option Value) : Prop where
  FIGURES_ : ∃ tk, mg "FIGURES" = some (Value.str "0123456789" tk)
  MOST_FIGURES_ : ∃ tk, mg "MOST_FIGURES" = some (Value.int 30 tk)
  MOST_GIVER_FIGURES_ : ∃ tk, mg "MOST_GIVER_FIGURES" = some (Value.int 2 tk)
  NONE_ : ∃ a, mg "NONE" = some (.ref a) ∧ KTup K a ((["none"] : List Str).map V.str)
section
variable {P : Program} {w : World} {K : PySem.W.Frag} {mg : Str → Option Value} {base : Heap}
section
variable (P : Program) (w : World) (K : PySem.W.Frag) (mg : Str → Option Value) (base : Heap) (r : Nat) (f : Addr) (fd : FuncData) (sp : Sp3)
abbrev s0x : Stmt := top 18
abbrev T0x := FnAt K mg "has_only" s0x ["text", "signs"] f fd
abbrev U0x := FnOk P w K mg base CX0 r f fd ["text", "signs"] (dnSp K sp)
abbrev s1x : Stmt := top 19
abbrev T1x := FnAt K mg "is_figures" s1x ["text", "most"] f fd
abbrev U1x := FnOk P w K mg base CX0 r f fd ["text", "most"] (dnSp K sp)
abbrev s2x : Stmt := top 20
abbrev T2x := FnAt K mg "is_number_text" s2x ["text"] f fd
abbrev U2x := FnOk P w K mg base CX0 r f fd ["text"] (dnSp K sp)
abbrev s3x : Stmt := top 21
abbrev T3x := FnAt K mg "read_worth" s3x ["text"] f fd
abbrev s4x : Stmt := top 23
abbrev T4x := FnAt K mg "_law_pen" s4x ["_law_script"] f fd
abbrev U4x := FnOk P w K mg base CX0 r f fd ["_law_script"] (dnSp K sp)
abbrev s5x : Stmt := top 24
abbrev T5x := FnAt K mg "_law_draw" s5x ["_law_pen_here", "_law_many"] f fd
abbrev U5x := FnOk P w K mg base CX0 r f fd ["_law_pen_here", "_law_many"] (dnSp K sp)
abbrev s6x : Stmt := top 25
abbrev T6x := FnAt K mg "_law_sign" s6x ["_law_pen_here"] f fd
abbrev U6x := FnOk P w K mg base CX0 r f fd ["_law_pen_here"] (dnSp K sp)
abbrev s7x : Stmt := top 26
abbrev T7x := FnAt K mg "_law_text" s7x ["_law_pen_here"] f fd
abbrev U7x := FnOk P w K mg base CX0 r f fd ["_law_pen_here"] (dnSp K sp)
abbrev s8x : Stmt := top 27
abbrev T8x := FnAt K mg "_law_bent" s8x ["_law_pen_here", "_law_text_here"] f fd
abbrev U8x := FnOk P w K mg base CX0 r f fd ["_law_pen_here", "_law_text_here"] (dnSp K sp)
abbrev s9x : Stmt := top 28
abbrev T9x := FnAt K mg "_law_whole" s9x ["_law_text_here"] f fd
abbrev U9x := FnOk P w K mg base CX0 r f fd ["_law_text_here"] (dnSp K sp)
abbrev s10x : Stmt := top 29
abbrev T10x := FnAt K mg "_law_due" s10x ["_law_thing"] f fd
abbrev U10x := FnOk P w K mg base CX0 r f fd ["_law_thing"] (dnSp K sp)
abbrev s11x : Stmt := top 30
abbrev T11x := FnAt K mg "_law_heard" s11x ["_law_thing"] f fd
abbrev U11x := FnOk P w K mg base CX0 r f fd ["_law_thing"] (dnSp K sp)
abbrev s12x : Stmt := top 31
abbrev T12x := FnAt K mg "law" s12x ["_law_script"] f fd
abbrev U12x := FnOk P w K mg base CX0 r f fd ["_law_script"] (dnSp K sp)
end
set_option maxHeartbeats 4000000
variable {f : Addr} {cdv : Value} {A : Around} {outer : List Env} {s : Shared} {H : Hp} {E : XK}
def s_init : Stmt := match top 12 with | .ClassDef _ _ _ (st :: _) .. => st | st => st
theorem sc_init : FnScope ["self", "at"] ["self", "at"] (defScope s_init) := ⟨rfl, rfl, rfl, by decide +kernel, rfl, by decide +kernel, by decide +kernel⟩
theorem ok_init {c_NoText c_GiverError f_init : Addr} {od_init an_init : Option Addr} {sl_init : Array (Option Value)} {oc_init kV_init dc_init pm_init cd_init ct_init : Value} (h_GiverError : mg "GiverError" = some (.ref c_GiverError)) (Z : TxtK K c_NoText c_GiverError f_init)
    (lk : K.lookup f_init = some ⟨oc_init, od_init, .func (PySem.W.fnOf "__init__" "NoText.__init__" (defArgs s_init) (defBody s_init) (defScope s_init) .none kV_init dc_init pm_init an_init cd_init ct_init), sl_init⟩) (hcd : PySem.W.codeIn K cd_init "NoText.__init__" = true) :
    FnOk P w K mg base CX0 1 f_init (PySem.W.fnOf "__init__" "NoText.__init__" (defArgs s_init) (defBody s_init) (defScope s_init) .none kV_init dc_init pm_init an_init cd_init ct_init) ["self", "at"] (spInit c_NoText) := by
  refine init_fn (k := 0) (sts := (((defBody s_init).getD 0 (.Pass ⟨0, 0, 0, 0⟩)), ((defBody s_init).getD 1 (.Pass ⟨0, 0, 0, 0⟩)))) Z lk hcd sc_init rfl ?_ ?_
  · intro A outer s0 H0 E hr pins s σv H ea n Q hn I sr hE q
    refine init_base Z I rfl h_GiverError (zB (pv3 0) (zB (pe3_fstr (pj3_cons zF (pj3_cons (pe3_fmt (pv3 1)) pj3_nil))) zA)) sr (fun _ _ e => nomatch e) hE rfl (init_text hn) fun s' H' I' k => q s' H' I' fun a o e => k a o e rfl
  · intro A outer s0 H0 E hr pins s σv H ea n Q I sr hE q
    exact init_at Z I (pv3 0) (pv3 1) sr (fun _ _ e => nomatch e) rfl rfl hE (fun _ => rfl) q
theorem sc0x : FnScope N_has_only ["text", "signs"] (defScope s0x) := ⟨rfl, rfl, rfl, by decide +kernel, rfl, by decide +kernel, by decide +kernel⟩
theorem dv0x (B : Blt mg) (C : Cst K w.params mg)
    (hr : Room 0 (A.deeper (envOfC "has_only" (defScope s0x) s.heap.objs.size f cdv))) :
    PSs3 (cxOf CX0 P w K mg base N_has_only "has_only" (defScope s0x) f cdv A outer s H E).nox (defBody s0x) t_has_only := by
    unfold t_has_only
    exact zE (zG (zJ (c3_all rfl) rfl B.all_ b3_all (zB (zY ["sign"] ["signs"] [1] rfl (pi3_s (pv3 0)) rfl (by first | rfl | kernel_rfl) rfl (gk_name (by decide)) (fun cl s₀ H₀ ex => (yA (i := 0) (show List.Nodup (["sign", "signs"] : List Str) by decide +kernel) rfl (Or.inl rfl) (Or.inr rfl))) (fun cl s₀ H₀ ex => yO) (fun cl s₀ H₀ ex => (yM o3_in (pv3 0) (pv3 1) rfl))) zA)))
theorem ok0x {fd : FuncData} (B : Blt mg) (C : Cst K w.params mg) (F : T0x K mg f fd) : U0x P w K mg base 1 f fd spOnly :=
  L3.Fun.ok3 F.fn sc0x len_has_only fun cdv A outer s H E hr => ⟨t_has_only, @dv0x P w K mg base f cdv A outer s H E B C hr, rd_has_only⟩
theorem sc1x : FnScope N_is_figures ["text", "most"] (defScope s1x) := ⟨rfl, rfl, rfl, by decide +kernel, rfl, by decide +kernel, by decide +kernel⟩
theorem dv1x (B : Blt mg) (C : Cst K w.params mg) {f0x : Addr} {fd0x : FuncData} (A0x : T0x K mg f0x fd0x) (G0x : U0x P w K mg base 1 f0x fd0x spOnly)
    (hr : Room 1 (A.deeper (envOfC "is_figures" (defScope s1x) s.heap.objs.size f cdv))) :
    PSs3 (cxOf CX0 P w K mg base N_is_figures "is_figures" (defScope s1x) f cdv A outer s H E).nox (defBody s1x) t_is_figures := by
    unfold t_is_figures
    refine zC ?_ ?_
    · exact (zQ (PW3.pt (yN (yB (pt3_chain o3_le o3_le zD (zJ yH rfl B.len_ b3_len (zB (pv3 0) zA)) (pv3 1))) (pw3_or1 (yB (zV (zH G0x (hr.mono (by decide)) rfl A0x.gl A0x.fn.kp A0x.bd (zB (pv3 0) (zB (pe3_globS rfl C.FIGURES_) zA)))))))) (zE (zG yT)) zK)
    exact zE (zG (pe3_or (yM (yE hr) (pv3 0) zF (nomark _)) (pe3_one (yM (yI hr) (zX (pv3 0) zD (fun _ _ => rfl)) zF (nomark _)))))
theorem ok1x {fd : FuncData} (B : Blt mg) (C : Cst K w.params mg) {f0x : Addr} {fd0x : FuncData} (A0x : T0x K mg f0x fd0x) (G0x : U0x P w K mg base 1 f0x fd0x spOnly) (F : T1x K mg f fd) : U1x P w K mg base 2 f fd spFig :=
  L3.Fun.ok3 F.fn sc1x len_is_figures fun cdv A outer s H E hr => ⟨t_is_figures, @dv1x P w K mg base f cdv A outer s H E B C f0x fd0x A0x G0x hr, rd_is_figures⟩
theorem sc2x : FnScope N_is_number_text ["text"] (defScope s2x) := ⟨rfl, rfl, rfl, by decide +kernel, rfl, by decide +kernel, by decide +kernel⟩
theorem dv2x (B : Blt mg) (C : Cst K w.params mg) {f1x : Addr} {fd1x : FuncData} (A1x : T1x K mg f1x fd1x) (G1x : U1x P w K mg base 2 f1x fd1x spFig)
    (hr : Room 2 (A.deeper (envOfC "is_number_text" (defScope s2x) s.heap.objs.size f cdv))) :
    PSs3 (cxOf CX0 P w K mg base N_is_number_text "is_number_text" (defScope s2x) f cdv A outer s H E).nox (defBody s2x) t_is_number_text := by
    unfold t_is_number_text
    refine zC ?_ ?_
    · exact (zQ (zV (pe3_bm F.plainAttrs_str F.slot_str_startswith F.type_str_startswith yJ (pv3 0) (zB zF zA))) (zE (zG (pe3_and (yM (yI hr) (pv3 0) zF (nomark _)) (pe3_one (zH G1x (hr.mono (by decide)) rfl A1x.gl A1x.fn.kp A1x.bd (zB (zS (pv3 0) (zO zD) zP) (zB (yK rfl C.MOST_FIGURES_) zA))))))) zK)
    exact zE (zG (zH G1x (hr.mono (by decide)) rfl A1x.gl A1x.fn.kp A1x.bd (zB (pv3 0) (zB (yK rfl C.MOST_FIGURES_) zA))))
theorem ok2x {fd : FuncData} (B : Blt mg) (C : Cst K w.params mg) {f1x : Addr} {fd1x : FuncData} (A1x : T1x K mg f1x fd1x) (G1x : U1x P w K mg base 2 f1x fd1x spFig) (F : T2x K mg f fd) : U2x P w K mg base 3 f fd spNumT :=
  L3.Fun.ok3 F.fn sc2x len_is_number_text fun cdv A outer s H E hr => ⟨t_is_number_text, @dv2x P w K mg base f cdv A outer s H E B C f1x fd1x A1x G1x hr, rd_is_number_text⟩
theorem sc3x : FnScope N_read_worth ["text"] (defScope s3x) := ⟨rfl, rfl, rfl, by decide +kernel, rfl, by decide +kernel, by decide +kernel⟩
theorem dv3x (B : Blt mg) (C : Cst K w.params mg) {f1x : Addr} {fd1x : FuncData} (A1x : T1x K mg f1x fd1x) (G1x : U1x P w K mg base 2 f1x fd1x spFig) {f2x : Addr} {fd2x : FuncData} (A2x : T2x K mg f2x fd2x) (G2x : U2x P w K mg base 3 f2x fd2x spNumT) {c_NoText : Addr} (h_NoText : mg "NoText" = some (.ref c_NoText)) {cG f_init : Addr} {fd_init : FuncData} (Z : TxtK K c_NoText cG f_init) (F_init : FnOk P w K mg base CX0 1 f_init fd_init ["self", "at"] (spInit c_NoText)) (B_init : Binds K fd_init ["self", "at"] [])
    (hr : Room 3 (A.deeper (envOfC "read_worth" (defScope s3x) s.heap.objs.size f cdv))) :
    PXDs (cxOf (CXD P w) P w K mg base N_read_worth "read_worth" (defScope s3x) f cdv A outer s H E) (defBody s3x) (t_read_worth c_NoText) := by
    unfold t_read_worth
    exact (pxds_cons (pxd_if (yB (zV (zJ c3_isi rfl B.isinstance_ b3_isinstance (zB (pv3 0) (zB (yP (d := .ty "str") (v := .ty "str") rfl B.str_ b3_str rfl (fun _ _ _ => .ty)) zA))))) (pxds_one (pxd_raise rfl Z F_init (hr.mono (by decide)) B_init rfl h_NoText (zB zD zA))) pxds_nil)
    (pxds_cons (pxd_of (zQ (zM (yE hr) (pv3 0) zF (nomark _)) (zE (zG (pe3_globT rfl C.NONE_))) zK))
    (pxds_cons (pxd_of (zQ (PW3.pt (pw3_and (zV (pe3_bm F.plainAttrs_str F.slot_str_startswith F.type_str_startswith yJ (pv3 0) (zB zF zA))) (yQ (zV (zH G1x (hr.mono (by decide)) rfl A1x.gl A1x.fn.kp A1x.bd (zB (zS (pv3 0) (zO zD) zP) (zB (yK rfl C.MOST_GIVER_FIGURES_) zA))))))) (zE (zG (zW (zB zF (zB (zZ c3_intT rfl B.int_ b3_int (zB (zS (pv3 0) (zO zD) zP) zA)) zA))))) zK))
    (pxds_cons (pxd_of (zQ (zV (zH G2x (hr.mono (by decide)) rfl A2x.gl A2x.fn.kp A2x.bd (zB (pv3 0) zA))) (zE (zG (zW (zB zF (zB (zZ c3_intT rfl B.int_ b3_int (zB (pv3 0) zA)) zA))))) zK))
    (pxds_one (pxd_raise rfl Z F_init (hr.mono (by decide)) B_init rfl h_NoText (zB zD zA)))))))
theorem ok3x {fd : FuncData} (B : Blt mg) (C : Cst K w.params mg) {f1x : Addr} {fd1x : FuncData} (A1x : T1x K mg f1x fd1x) (G1x : U1x P w K mg base 2 f1x fd1x spFig) {f2x : Addr} {fd2x : FuncData} (A2x : T2x K mg f2x fd2x) (G2x : U2x P w K mg base 3 f2x fd2x spNumT) {c_NoText : Addr} (h_NoText : mg "NoText" = some (.ref c_NoText)) {cG f_init : Addr} {fd_init : FuncData} (Z : TxtK K c_NoText cG f_init) (F_init : FnOk P w K mg base CX0 1 f_init fd_init ["self", "at"] (spInit c_NoText)) (B_init : Binds K fd_init ["self", "at"] []) (F : T3x K mg f fd) : FnOk P w K mg base (CXD P w) 4 f fd ["text"] (dnSpD K (spRead c_NoText)) :=
  L3.Fun.okD F.fn sc3x (len_read_worth c_NoText) fun cdv A outer s H E hr => ⟨t_read_worth c_NoText, dv3x B C A1x G1x A2x G2x h_NoText Z F_init B_init hr, rd_read_worth c_NoText⟩
theorem sc4x : FnScope MK.N__law_pen ["_law_script"] (defScope s4x) := ⟨rfl, rfl, rfl, by decide +kernel, rfl, by decide +kernel, by decide +kernel⟩
theorem dv4x (B : Blt mg) (C : Cst K w.params mg)
    (hr : Room 0 (A.deeper (envOfC "_law_pen" (defScope s4x) s.heap.objs.size f cdv))) :
    PSs3 (cxOf CX0 P w K mg base MK.N__law_pen "_law_pen" (defScope s4x) f cdv A outer s H E).nox (defBody s4x) MK.t__law_pen := by
    unfold MK.t__law_pen
    exact zE (zG (pe3_dispM (yL zF (zZ c3_list rfl B.list_ b3_list (zB (pe3_sl (pv3 0) zP (zO zD)) zA)) (yL zF zD (yL zF zD pps3_nil))) rfl rfl (by simp) (by decide)))
theorem ok4x {fd : FuncData} (B : Blt mg) (C : Cst K w.params mg) (F : T4x K mg f fd) : U4x P w K mg base 1 f fd spPen :=
  L3.Fun.ok3 F.fn sc4x MK.len__law_pen fun cdv A outer s H E hr => ⟨MK.t__law_pen, @dv4x P w K mg base f cdv A outer s H E B C hr, MK.rd__law_pen⟩
theorem sc5x : FnScope MK.N__law_draw ["_law_pen_here", "_law_many"] (defScope s5x) := ⟨rfl, rfl, rfl, by decide +kernel, rfl, by decide +kernel, by decide +kernel⟩
theorem dv5x (B : Blt mg) (C : Cst K w.params mg)
    (hr : Room 0 (A.deeper (envOfC "_law_draw" (defScope s5x) s.heap.objs.size f cdv))) :
    PSs3 (cxOf CX0 P w K mg base MK.N__law_draw "_law_draw" (defScope s5x) f cdv A outer s H E).nox (defBody s5x) MK.t__law_draw := by
    unfold MK.t__law_draw
    refine zC ?_ ?_
    · exact (zQ (zM o3_gt (yC (hu3 hr) (pv3 0) zF (fun _ _ => rfl)) zD (nomark _)) (zC (zL (i := 2) sc5x.nd rfl (Or.inl rfl) (zI yF (yC (hu3 hr) (pv3 0) zF (fun _ _ => rfl)) (pv3 1)))
    (zC (yR (hu3 hr) (pv3 0) zF (zI o3_fdiv (yC (hu3 hr) (pv3 0) zF (fun _ _ => rfl)) (pv3 1)) rfl)
    (zE (zG (pv3 2))))) zK)
    refine zC ?_ ?_
    · exact (zL (i := 3) sc5x.nd rfl (Or.inl rfl) (yC (hu3 hr) (pv3 0) zF (fun _ _ => rfl)))
    refine zC ?_ ?_
    · exact (zL (i := 4) sc5x.nd rfl (Or.inl rfl) (yC (hu3 hr) (pv3 0) zF (fun _ _ => rfl)))
    refine zC ?_ ?_
    · exact (yR (hu3 hr) (pv3 0) zF (zI zT (pv3 4) zD) rfl)
    refine zC ?_ ?_
    · exact (zL (i := 5) sc5x.nd rfl (Or.inl rfl) (zI zT (zI yU zD (pv3 4)) zD))
    refine zC ?_ ?_
    · exact (zQ (zM (yI hr) (pv3 3) (zN zA) (nomark _)) (zE (zL (i := 5) sc5x.nd rfl (Or.inl rfl) (zX (pv3 3) (zI yF (pv3 4) (zJ yH rfl B.len_ b3_len (zB (pv3 3) zA))) (fun _ _ => rfl)))) zK)
    refine zC ?_ ?_
    · exact (zQ (PW3.pt (pw3_and (zM o3_lt (pv3 4) (zJ yH rfl B.len_ b3_len (zB (pv3 3) zA)) (nomark _)) (yQ (zM o3_ge (zJ c3_abs rfl B.abs_ b3_abs (zB (pv3 5) zA)) (zI yV zD zD) (nomark _))))) (zC (yR (hu3 hr) (pv3 0) zF (zI o3_fdiv (zJ c3_abs rfl B.abs_ b3_abs (zB (pv3 5) zA)) (pv3 1)) rfl)
    (zE (zG (zI yF (zJ c3_abs rfl B.abs_ b3_abs (zB (pv3 5) zA)) (pv3 1))))) zK)
    refine zC ?_ ?_
    · exact (zL (i := 6) sc5x.nd rfl (Or.inl rfl) (zI yF (zI yV (zI zT (zI zT (zI yF (pv3 5) zD) (zI yU zD (pv3 4))) zD) zD) zD))
    refine zC ?_ ?_
    · exact (zL (i := 6) sc5x.nd rfl (Or.inl rfl) (zI yF (zI yV (zI zT (zI yU (pv3 6) (zI zT (zI yU zD (pv3 4)) zD)) zD) zD) zD))
    exact zE (zG (zI yF (zI o3_fdiv (pv3 6) zD) (pv3 1)))
theorem ok5x {fd : FuncData} (B : Blt mg) (C : Cst K w.params mg) (F : T5x K mg f fd) : U5x P w K mg base 1 f fd spDraw :=
  L3.Fun.ok3 F.fn sc5x MK.len__law_draw fun cdv A outer s H E hr => ⟨MK.t__law_draw, @dv5x P w K mg base f cdv A outer s H E B C hr, MK.rd__law_draw⟩
theorem sc6x : FnScope K06.N__law_sign ["_law_pen_here"] (defScope s6x) := ⟨rfl, rfl, rfl, by decide +kernel, rfl, by decide +kernel, by decide +kernel⟩
theorem dv6x (B : Blt mg) (C : Cst K w.params mg) {f5x : Addr} {fd5x : FuncData} (A5x : T5x K mg f5x fd5x) (G5x : U5x P w K mg base 1 f5x fd5x spDraw)
    (hr : Room 1 (A.deeper (envOfC "_law_sign" (defScope s6x) s.heap.objs.size f cdv))) :
    PSs3 (cxOf CX0 P w K mg base K06.N__law_sign "_law_sign" (defScope s6x) f cdv A outer s H E).nox (defBody s6x) K06.t__law_sign := by
    unfold K06.t__law_sign
    refine zC ?_ ?_
    · exact (zL (i := 1) sc6x.nd rfl (Or.inl rfl) zF)
    exact zE (zG (zX (pv3 1) (zH G5x (hr.mono (by decide)) rfl A5x.gl A5x.fn.kp A5x.bd (zB (pv3 0) (zB (zJ yH rfl B.len_ b3_len (zB (pv3 1) zA)) zA))) (fun _ _ => rfl)))
theorem ok6x {fd : FuncData} (B : Blt mg) (C : Cst K w.params mg) {f5x : Addr} {fd5x : FuncData} (A5x : T5x K mg f5x fd5x) (G5x : U5x P w K mg base 1 f5x fd5x spDraw) (F : T6x K mg f fd) : U6x P w K mg base 2 f fd K06.spSign :=
  L3.Fun.ok3 F.fn sc6x K06.len__law_sign fun cdv A outer s H E hr => ⟨K06.t__law_sign, @dv6x P w K mg base f cdv A outer s H E B C f5x fd5x A5x G5x hr, K06.rd__law_sign⟩
theorem sc7x : FnScope N__law_text ["_law_pen_here"] (defScope s7x) := ⟨rfl, rfl, rfl, by decide +kernel, rfl, by decide +kernel, by decide +kernel⟩
theorem dv7x (B : Blt mg) (C : Cst K w.params mg) {f5x : Addr} {fd5x : FuncData} (A5x : T5x K mg f5x fd5x) (G5x : U5x P w K mg base 1 f5x fd5x spDraw)
    (hr : Room 1 (A.deeper (envOfC "_law_text" (defScope s7x) s.heap.objs.size f cdv))) :
    PSs3 (cxOf CX0 P w K mg base N__law_text "_law_text" (defScope s7x) f cdv A outer s H E).nox (defBody s7x) t__law_text := by
    unfold t__law_text
    refine zC ?_ ?_
    · refine zL (i := 1) ?a ?b ?c ?d
      case a => exact sc7x.nd
      case b => exact rfl
      case c => exact (Or.inl rfl)
      case d =>
        exact (zH G5x (hr.mono (by decide)) rfl A5x.gl A5x.fn.kp A5x.bd (zB (pv3 0) (zB zD zA)))
    refine zC ?_ ?_
    · refine zQ (zM (yE hr) (pv3 1) zD (nomark _)) ?_ ?_
      · refine zC ?_ ?_
        · refine zL (i := 2) ?a ?b ?c ?d
          case a => exact sc7x.nd
          case b => exact rfl
          case c => exact (Or.inl rfl)
          case d =>
            refine zN ?_
            refine zR ?_
            refine zR ?_
            refine zR ?_
            refine zR ?_
            refine zR ?_
            refine zR ?_
            refine zR ?_
            refine zR ?_
            refine zR ?_
            refine zR ?_
            refine zR ?_
            refine zR ?_
            refine zR ?_
            refine zR ?_
            exact zA
        · refine zE ?_
          exact (zG (zX (pv3 2) (zH G5x (hr.mono (by decide)) rfl A5x.gl A5x.fn.kp A5x.bd (zB (pv3 0) (zB zD zA))) (fun _ _ => rfl)))
      · exact zK
    refine zC ?_ ?_
    · refine zL (i := 3) ?a ?b ?c ?d
      case a => exact sc7x.nd
      case b => exact rfl
      case c => exact (Or.inl rfl)
      case d =>
        refine zX ?_ ?_ (fun _ _ => rfl)
        · refine zN ?_
          refine yD ?_
          refine yD ?_
          refine yD ?_
          refine yD ?_
          refine yD ?_
          refine yD ?_
          refine yD ?_
          exact zA
        · exact (zH G5x (hr.mono (by decide)) rfl A5x.gl A5x.fn.kp A5x.bd (zB (pv3 0) (zB zD zA)))
    refine zC ?_ ?_
    · refine zL (i := 4) ?a ?b ?c ?d
      case a => exact sc7x.nd
      case b => exact rfl
      case c => exact (Or.inl rfl)
      case d =>
        exact (pe3_bm F.plainAttrs_str F.slot_str_join F.type_str_join m3_join zF (zB (zY ["_law_k"] ["_law_pen_here"] [0] rfl (pi3_range1 rfl B.range_ (zB (pv3 3) zA)) rfl (by first | rfl | kernel_rfl) rfl (gk_name (by decide)) (fun cl s₀ H₀ ex => (yA (i := 0) (show List.Nodup (["_law_k", "_law_pen_here"] : List Str) by decide +kernel) rfl (Or.inl rfl) (Or.inr rfl))) (fun cl s₀ H₀ ex => yO) (fun cl s₀ H₀ ex => (zX zF (zH G5x (hr.mono (by decide)) rfl A5x.gl A5x.fn.kp A5x.bd (zB (pv3 1) (zB zD zA))) (fun _ _ => rfl)))) zA))
    refine zC ?_ ?_
    · refine zL (i := 5) ?a ?b ?c ?d
      case a => exact sc7x.nd
      case b => exact rfl
      case c => exact (Or.inl rfl)
      case d =>
        refine zX ?_ ?_ (fun _ _ => rfl)
        · refine zN ?_
          refine zR ?_
          refine zR ?_
          refine zR ?_
          refine zR ?_
          refine zR ?_
          refine zR ?_
          refine zR ?_
          refine zR ?_
          refine zR ?_
          exact zA
        · exact (zH G5x (hr.mono (by decide)) rfl A5x.gl A5x.fn.kp A5x.bd (zB (pv3 0) (zB zD zA)))
    exact zE (zG (zI zT (pv3 5) (pv3 4)))
theorem ok7x {fd : FuncData} (B : Blt mg) (C : Cst K w.params mg) {f5x : Addr} {fd5x : FuncData} (A5x : T5x K mg f5x fd5x) (G5x : U5x P w K mg base 1 f5x fd5x spDraw) (F : T7x K mg f fd) : U7x P w K mg base 2 f fd spText :=
  L3.Fun.ok3 F.fn sc7x len__law_text fun cdv A outer s H E hr => ⟨t__law_text, @dv7x P w K mg base f cdv A outer s H E B C f5x fd5x A5x G5x hr, rd__law_text⟩
theorem sc8x : FnScope N__law_bent ["_law_pen_here", "_law_text_here"] (defScope s8x) := ⟨rfl, rfl, rfl, by decide +kernel, rfl, by decide +kernel, by decide +kernel⟩
theorem dv8x (B : Blt mg) (C : Cst K w.params mg) {f5x : Addr} {fd5x : FuncData} (A5x : T5x K mg f5x fd5x) (G5x : U5x P w K mg base 1 f5x fd5x spDraw) {f6x : Addr} {fd6x : FuncData} (A6x : T6x K mg f6x fd6x) (G6x : U6x P w K mg base 2 f6x fd6x K06.spSign)
    (hr : Room 2 (A.deeper (envOfC "_law_bent" (defScope s8x) s.heap.objs.size f cdv))) :
    PSs3 (cxOf CX0 P w K mg base N__law_bent "_law_bent" (defScope s8x) f cdv A outer s H E).nox (defBody s8x) t__law_bent := by
    unfold t__law_bent
    refine zC ?_ ?_
    · exact (zL (i := 2) sc8x.nd rfl (Or.inl rfl) (zH G5x (hr.mono (by decide)) rfl A5x.gl A5x.fn.kp A5x.bd (zB (pv3 0) (zB zD zA))))
    refine zC ?_ ?_
    · exact (zL (i := 3) sc8x.nd rfl (Or.inl rfl) (zH G5x (hr.mono (by decide)) rfl A5x.gl A5x.fn.kp A5x.bd (zB (pv3 0) (zB (zI zT (zJ yH rfl B.len_ b3_len (zB (pv3 1) zA)) zD) zA))))
    refine zC ?_ ?_
    · exact (zL (i := 4) sc8x.nd rfl (Or.inl rfl) (zH G6x (hr.mono (by decide)) rfl A6x.gl A6x.fn.kp A6x.bd (zB (pv3 0) zA)))
    refine zC ?_ ?_
    · exact (zL (i := 5) sc8x.nd rfl (Or.inl rfl) (zN (zB (pv3 1) (zB (zI zT (zI zT (zS (pv3 1) zP (zO (pv3 3))) (pv3 4)) (zS (pv3 1) (zO (pv3 3)) zP)) (zB (zI zT (zS (pv3 1) zP (zO (pv3 3))) (zS (pv3 1) (zO (zI zT (pv3 3) zD)) zP)) (zB (zI zT (zI zT (zS (pv3 1) zP (zO (pv3 3))) (pv3 4)) (zS (pv3 1) (zO (zI zT (pv3 3) zD)) zP)) zA))))))
    exact zE (zG (zX (pv3 5) (pv3 2) (fun _ _ => rfl)))
theorem ok8x {fd : FuncData} (B : Blt mg) (C : Cst K w.params mg) {f5x : Addr} {fd5x : FuncData} (A5x : T5x K mg f5x fd5x) (G5x : U5x P w K mg base 1 f5x fd5x spDraw) {f6x : Addr} {fd6x : FuncData} (A6x : T6x K mg f6x fd6x) (G6x : U6x P w K mg base 2 f6x fd6x K06.spSign) (F : T8x K mg f fd) : U8x P w K mg base 3 f fd spBent :=
  L3.Fun.ok3 F.fn sc8x len__law_bent fun cdv A outer s H E hr => ⟨t__law_bent, @dv8x P w K mg base f cdv A outer s H E B C f5x fd5x A5x G5x f6x fd6x A6x G6x hr, rd__law_bent⟩
theorem sc9x : FnScope N__law_whole ["_law_text_here"] (defScope s9x) := ⟨rfl, rfl, rfl, by decide +kernel, rfl, by decide +kernel, by decide +kernel⟩
theorem dv9x (B : Blt mg) (C : Cst K w.params mg)
    (hr : Room 0 (A.deeper (envOfC "_law_whole" (defScope s9x) s.heap.objs.size f cdv))) :
    PSs3 (cxOf CX0 P w K mg base N__law_whole "_law_whole" (defScope s9x) f cdv A outer s H E).nox (defBody s9x) t__law_whole := by
    unfold t__law_whole
    refine zC ?_ ?_
    · exact (zL (i := 1) sc9x.nd rfl (Or.inl rfl) (pv3 0))
    refine zC ?_ ?_
    · exact (zQ (zM (yE hr) (zS (pv3 0) zP (zO zD)) zF (nomark _)) (zE (zL (i := 1) sc9x.nd rfl (Or.inl rfl) (zS (pv3 0) (zO zD) zP))) zK)
    refine zC ?_ ?_
    · exact (zQ (PW3.pt (yN (zM (yE hr) (pv3 1) zF (nomark _)) (yN (zM o3_gt (zJ yH rfl B.len_ b3_len (zB (pv3 1) zA)) zD (nomark _)) (pw3_or1 (zM (yI hr) (zY ["_law_sign_here"] [] [] rfl (pi3_s (pv3 1)) rfl (by first | rfl | kernel_rfl) rfl (gk_name (by decide)) (fun cl s₀ H₀ ex => (yA (i := 0) (show List.Nodup (["_law_sign_here"] : List Str) by decide +kernel) rfl (Or.inl rfl) (Or.inr rfl))) (fun cl s₀ H₀ ex => (pifs_one (zM o3_notin (pv3 0) zF rfl))) (fun cl s₀ H₀ ex => (pv3 0))) (zN zA) (nomark _)))))) (zE (zG (zN zA))) zK)
    refine zC ?_ ?_
    · exact (zQ (PW3.pt (pw3_and (zM (yE hr) (zX (pv3 1) zD (fun _ _ => rfl)) zF (nomark _)) (yQ (zM (yI hr) (pv3 0) zF (nomark _))))) (zE (zG (zN zA))) zK)
    exact zE (zG (zN (zB (zZ c3_intT rfl B.int_ b3_int (zB (pv3 0) zA)) zA)))
theorem ok9x {fd : FuncData} (B : Blt mg) (C : Cst K w.params mg) (F : T9x K mg f fd) : U9x P w K mg base 1 f fd spWhole :=
  L3.Fun.ok3 F.fn sc9x len__law_whole fun cdv A outer s H E hr => ⟨t__law_whole, @dv9x P w K mg base f cdv A outer s H E B C hr, rd__law_whole⟩
theorem sc10x : FnScope N__law_due ["_law_thing"] (defScope s10x) := ⟨rfl, rfl, rfl, by decide +kernel, rfl, by decide +kernel, by decide +kernel⟩
theorem dv10x (B : Blt mg) (C : Cst K w.params mg) {f9x : Addr} {fd9x : FuncData} (A9x : T9x K mg f9x fd9x) (G9x : U9x P w K mg base 1 f9x fd9x spWhole)
    (hr : Room 1 (A.deeper (envOfC "_law_due" (defScope s10x) s.heap.objs.size f cdv))) :
    PSs3 (cxOf CX0 P w K mg base N__law_due "_law_due" (defScope s10x) f cdv A outer s H E).nox (defBody s10x) t__law_due := by
    unfold t__law_due
    refine zC ?_ ?_
    · exact (zQ (yB (zV (zJ c3_isi rfl B.isinstance_ b3_isinstance (zB (pv3 0) (zB (yP (d := .ty "str") (v := .ty "str") rfl B.str_ b3_str rfl (fun _ _ _ => .ty)) zA))))) (zE (zG (zN zA))) zK)
    refine zC ?_ ?_
    · exact (zQ (zM (yE hr) (pv3 0) zF (nomark _)) (zE (zG (zN (zB (zW (zB zF zA)) zA)))) zK)
    refine zC ?_ ?_
    · exact (zQ (zM (yI hr) (zS (pv3 0) zP (zO zD)) zF (nomark _)) (zE (zG (zY ["_law_number"] [] [] rfl (pi3_l (zH G9x (hr.mono (by decide)) rfl A9x.gl A9x.fn.kp A9x.bd (zB (pv3 0) zA))) rfl (by first | rfl | kernel_rfl) rfl (gk_name (by decide)) (fun cl s₀ H₀ ex => (yA (i := 0) (show List.Nodup (["_law_number"] : List Str) by decide +kernel) rfl (Or.inl rfl) (Or.inr rfl))) (fun cl s₀ H₀ ex => yO) (fun cl s₀ H₀ ex => (zW (zB zF (zB (pv3 0) zA))))))) zK)
    exact zE (zG (zY ["_law_number"] [] [] rfl (pi3_l (zH G9x (hr.mono (by decide)) rfl A9x.gl A9x.fn.kp A9x.bd (zB (zS (pv3 0) (zO zD) zP) zA))) rfl (by first | rfl | kernel_rfl) rfl (gk_name (by decide)) (fun cl s₀ H₀ ex => (yA (i := 0) (show List.Nodup (["_law_number"] : List Str) by decide +kernel) rfl (Or.inl rfl) (Or.inr rfl))) (fun cl s₀ H₀ ex => (pifs_one (pt3_chain o3_le o3_le zD (pv3 0) zD))) (fun cl s₀ H₀ ex => (zW (zB zF (zB (pv3 0) zA))))))
theorem ok10x {fd : FuncData} (B : Blt mg) (C : Cst K w.params mg) {f9x : Addr} {fd9x : FuncData} (A9x : T9x K mg f9x fd9x) (G9x : U9x P w K mg base 1 f9x fd9x spWhole) (F : T10x K mg f fd) : U10x P w K mg base 2 f fd spDue :=
  L3.Fun.ok3 F.fn sc10x len__law_due fun cdv A outer s H E hr => ⟨t__law_due, @dv10x P w K mg base f cdv A outer s H E B C f9x fd9x A9x G9x hr, rd__law_due⟩
theorem sc11x : FnScope N__law_heard ["_law_thing"] (defScope s11x) := ⟨rfl, rfl, rfl, by decide +kernel, rfl, by decide +kernel, by decide +kernel⟩
theorem dv11x (B : Blt mg) (C : Cst K w.params mg) {c_NoText : Addr} (h_NoText : mg "NoText" = some (.ref c_NoText)) {c_GiverError : Addr} (h_GiverError : mg "GiverError" = some (.ref c_GiverError)) {c_Full : Addr} (h_Full : mg "Full" = some (.ref c_Full)) {c_NoAsk : Addr} (h_NoAsk : mg "NoAsk" = some (.ref c_NoAsk)) {c_NoBook : Addr} (h_NoBook : mg "NoBook" = some (.ref c_NoBook)) {c_NoCode : Addr} (h_NoCode : mg "NoCode" = some (.ref c_NoCode)) {c_NoGiver : Addr} (h_NoGiver : mg "NoGiver" = some (.ref c_NoGiver)) {c_NoKept : Addr} (h_NoKept : mg "NoKept" = some (.ref c_NoKept)) {c_NoMost : Addr} (h_NoMost : mg "NoMost" = some (.ref c_NoMost)) {c_NoRow : Addr} (h_NoRow : mg "NoRow" = some (.ref c_NoRow)) {c_NoRule : Addr} (h_NoRule : mg "NoRule" = some (.ref c_NoRule)) {c_NoWorth : Addr} (h_NoWorth : mg "NoWorth" = some (.ref c_NoWorth)) {f3x : Addr} {fd3x : FuncData} (A3x : FnAt K mg "read_worth" s3x ["text"] f3x fd3x) (G3x : FnOk P w K mg base (CXD P w) 4 f3x fd3x ["text"] (dnSpD K (spRead c_NoText))) {f_init : Addr} (ZT : TxtK K c_NoText c_GiverError f_init)
    (hr : Room 4 (A.deeper (envOfC "_law_heard" (defScope s11x) s.heap.objs.size f cdv))) :
    PSs3 (cxOf CX0 P w K mg base N__law_heard "_law_heard" (defScope s11x) f cdv A outer s H E).nox (defBody s11x) (t__law_heard K (spRead c_NoText) c_GiverError c_NoText c_Full c_NoAsk c_NoBook c_NoCode c_NoGiver c_NoKept c_NoMost c_NoRow c_NoRule c_NoWorth) := by
    unfold t__law_heard
    refine zC (zL (i := 1) sc11x.nd rfl (Or.inl rfl) yG) ?_
    refine zC (zL (i := 2) sc11x.nd rfl (Or.inl rfl) yG) ?_
    refine pss3_tryD rfl rfl G3x (hr.mono (by decide)) rfl A3x.gl A3x.fn.kp A3x.bd (zB (pv3 0) zA) sc11x.nd rfl rfl rfl rfl rfl rfl (by decide) rfl h_GiverError ?_ fun ea oe dx od cls n a2 => ?_
    · exact zC (zQ (zM o3_is (pv3 1) yG (nomark _)) (zE (zG (zN (zB (pv3 2) zA)))) zK) pss3_stop
    · refine zC (zQ (zM o3_is (pv3 1) yG (nomark _)) (zE (zG (zN (zB (pv3 2) zA)))) zK) ?_
      refine zC (zQ (PW3.pt (yN (yB (zV (zJ (c3_isiP List.mem_cons_self) rfl B.isinstance_ b3_isinstance (zB (pv3 1) (zB (zU rfl h_NoText) zA))))) (yN (yB (zV (zJ (c3_isiP List.mem_cons_self) rfl B.isinstance_ b3_isinstance (zB (pv3 1) (zB (yP (d := .ty "ValueError") (v := .ty "ValueError") rfl B.ValueError_ K06.b3_ValueError rfl (fun _ _ _ => .ty)) zA))))) (pw3_or1 (zM (yI hr) (zJ (yS hr) rfl B.repr_ b3_repr (zB (pe3_atG ZT List.mem_cons_self (List.mem_cons_of_mem _ List.mem_cons_self) a2 (pv3 1)) zA)) zF (nomark _)))))) (zE (zG (zN (zB zF zA)))) zK) ?_
      refine zC (zQ (zV (zJ (c3_isiP List.mem_cons_self) rfl B.isinstance_ b3_isinstance (zB (pv3 1) (zB (zW (zB (zU rfl h_Full) (zB (zU rfl h_NoAsk) (zB (zU rfl h_NoBook) (zB (zU rfl h_NoCode) (zB (zU rfl h_NoGiver) (zB (zU rfl h_NoKept) (zB (zU rfl h_NoMost) (zB (zU rfl h_NoRow) (zB (zU rfl h_NoRule) (zB (zU rfl h_NoWorth) zA))))))))))) zA)))) (zE (zG (zN (zB zF zA)))) zK) ?_
      exact zE (zG (zN zA))
theorem ok11x {fd : FuncData} (B : Blt mg) (C : Cst K w.params mg) {c_NoText : Addr} (h_NoText : mg "NoText" = some (.ref c_NoText)) {c_GiverError : Addr} (h_GiverError : mg "GiverError" = some (.ref c_GiverError)) {c_Full : Addr} (h_Full : mg "Full" = some (.ref c_Full)) {c_NoAsk : Addr} (h_NoAsk : mg "NoAsk" = some (.ref c_NoAsk)) {c_NoBook : Addr} (h_NoBook : mg "NoBook" = some (.ref c_NoBook)) {c_NoCode : Addr} (h_NoCode : mg "NoCode" = some (.ref c_NoCode)) {c_NoGiver : Addr} (h_NoGiver : mg "NoGiver" = some (.ref c_NoGiver)) {c_NoKept : Addr} (h_NoKept : mg "NoKept" = some (.ref c_NoKept)) {c_NoMost : Addr} (h_NoMost : mg "NoMost" = some (.ref c_NoMost)) {c_NoRow : Addr} (h_NoRow : mg "NoRow" = some (.ref c_NoRow)) {c_NoRule : Addr} (h_NoRule : mg "NoRule" = some (.ref c_NoRule)) {c_NoWorth : Addr} (h_NoWorth : mg "NoWorth" = some (.ref c_NoWorth)) {f3x : Addr} {fd3x : FuncData} (A3x : FnAt K mg "read_worth" s3x ["text"] f3x fd3x) (G3x : FnOk P w K mg base (CXD P w) 4 f3x fd3x ["text"] (dnSpD K (spRead c_NoText))) {f_init : Addr} (ZT : TxtK K c_NoText c_GiverError f_init) (Z : K06.CK K c_GiverError c_NoText c_Full c_NoAsk c_NoBook c_NoCode c_NoGiver c_NoKept c_NoMost c_NoRow c_NoRule c_NoWorth) (F : FnAt K mg "_law_heard" s11x ["_law_thing"] f fd) : FnOk P w K mg base CX0 5 f fd ["_law_thing"] (dnSp K spHeard) :=
  L3.Fun.ok3 F.fn sc11x len__law_heard fun cdv A outer s H E hr => ⟨(t__law_heard K (spRead c_NoText) c_GiverError c_NoText c_Full c_NoAsk c_NoBook c_NoCode c_NoGiver c_NoKept c_NoMost c_NoRow c_NoRule c_NoWorth), dv11x B C h_NoText h_GiverError h_Full h_NoAsk h_NoBook h_NoCode h_NoGiver h_NoKept h_NoMost h_NoRow h_NoRule h_NoWorth A3x G3x ZT hr, rd__law_heard Z⟩
theorem sc12x : FnScope N_law ["_law_script"] (defScope s12x) := ⟨rfl, rfl, rfl, by decide +kernel, rfl, by decide +kernel, by decide +kernel⟩
theorem dv12x (B : Blt mg) (C : Cst K w.params mg) {f4x : Addr} {fd4x : FuncData} (A4x : T4x K mg f4x fd4x) (G4x : U4x P w K mg base 1 f4x fd4x spPen) {f7x : Addr} {fd7x : FuncData} (A7x : T7x K mg f7x fd7x) (G7x : U7x P w K mg base 2 f7x fd7x spText) {f8x : Addr} {fd8x : FuncData} (A8x : T8x K mg f8x fd8x) (G8x : U8x P w K mg base 3 f8x fd8x spBent) {f5x : Addr} {fd5x : FuncData} (A5x : T5x K mg f5x fd5x) (G5x : U5x P w K mg base 1 f5x fd5x spDraw) {f11x : Addr} {fd11x : FuncData} (A11x : T11x K mg f11x fd11x) (G11x : U11x P w K mg base 5 f11x fd11x spHeard) {f10x : Addr} {fd10x : FuncData} (A10x : T10x K mg f10x fd10x) (G10x : U10x P w K mg base 2 f10x fd10x spDue)
    (hr : Room 5 (A.deeper (envOfC "law" (defScope s12x) s.heap.objs.size f cdv))) :
    PSs3 (cxOf CX0 P w K mg base N_law "law" (defScope s12x) f cdv A outer s H E).nox (defBody s12x) t_law := by
    unfold t_law
    refine zC ?_ ?_
    · exact (zL (i := 1) sc12x.nd rfl (Or.inl rfl) (zH G4x (hr.mono (by decide)) rfl A4x.gl A4x.fn.kp A4x.bd (zB (pv3 0) zA)))
    refine zC ?_ ?_
    · refine zL (i := 2) ?a ?b ?c ?d
      case a => exact sc12x.nd
      case b => exact rfl
      case c => exact (Or.inl rfl)
      case d =>
        refine zN ?_
        refine zB ?_ ?_
        · exact yG
        refine zB ?_ ?_
        · exact yT
        refine yD ?_
        refine yD ?_
        refine zB ?_ ?_
        · refine zW ?_
          exact zA
        refine zB ?_ ?_
        · refine zN ?_
          exact zA
        refine zB ?_ ?_
        · exact pe3_d0
        refine zB ?_ ?_
        · refine zW ?_
          refine zR ?_
          exact zA
        refine zB ?_ ?_
        · refine zN ?_
          refine zR ?_
          exact zA
        refine zB ?_ ?_
        · refine zW ?_
          refine zR ?_
          refine yD ?_
          exact zA
        refine zB ?_ ?_
        · exact (pe3_d1 zF zD)
        refine zB ?_ ?_
        · refine zI yV ?_ ?_
          · exact zD
          · exact zD
        exact zA
    refine zC ?_ ?_
    · exact (ps3_for PassesOwn.never rfl (pi3_range1 rfl B.range_ (zB zD zA)) sc12x.nd rfl (Or.inl rfl) (zC (zL (i := 4) sc12x.nd rfl (Or.inl rfl) (zH G7x (hr.mono (by decide)) rfl A7x.gl A7x.fn.kp A7x.bd (zB (pv3 1) zA)))
    (zE (ps3_for PassesOwn.never rfl (pi3_t (zW (zB (pv3 4) (zB (zH G8x (hr.mono (by decide)) rfl A8x.gl A8x.fn.kp A8x.bd (zB (pv3 1) (zB (pv3 4) zA))) (zB (zH G8x (hr.mono (by decide)) rfl A8x.gl A8x.fn.kp A8x.bd (zB (pv3 1) (zB (pv3 4) zA))) (zB (zX (pv3 2) (zH G5x (hr.mono (by decide)) rfl A5x.gl A5x.fn.kp A5x.bd (zB (pv3 1) (zB zD zA))) (fun _ _ => rfl)) (zB (pv3 4) zA))))))) sc12x.nd rfl (Or.inl rfl) (zE (zQ (zM (yI hr) (zJ (yS hr) rfl B.repr_ b3_repr (zB (zH G11x (hr.mono (by decide)) rfl A11x.gl A11x.fn.kp A11x.bd (zB (pv3 5) zA)) zA)) (zJ (yS hr) rfl B.repr_ b3_repr (zB (zH G10x (hr.mono (by decide)) rfl A10x.gl A10x.fn.kp A10x.bd (zB (pv3 5) zA)) zA)) (nomark _)) (zE (zG yT)) zK))))))
    exact zE (zG yT)
theorem ok12x {fd : FuncData} (B : Blt mg) (C : Cst K w.params mg) {f4x : Addr} {fd4x : FuncData} (A4x : T4x K mg f4x fd4x) (G4x : U4x P w K mg base 1 f4x fd4x spPen) {f7x : Addr} {fd7x : FuncData} (A7x : T7x K mg f7x fd7x) (G7x : U7x P w K mg base 2 f7x fd7x spText) {f8x : Addr} {fd8x : FuncData} (A8x : T8x K mg f8x fd8x) (G8x : U8x P w K mg base 3 f8x fd8x spBent) {f5x : Addr} {fd5x : FuncData} (A5x : T5x K mg f5x fd5x) (G5x : U5x P w K mg base 1 f5x fd5x spDraw) {f11x : Addr} {fd11x : FuncData} (A11x : T11x K mg f11x fd11x) (G11x : U11x P w K mg base 5 f11x fd11x spHeard) {f10x : Addr} {fd10x : FuncData} (A10x : T10x K mg f10x fd10x) (G10x : U10x P w K mg base 2 f10x fd10x spDue) (F : T12x K mg f fd) : U12x P w K mg base 6 f fd L3.spLaw3 :=
  L3.Fun.ok3 F.fn sc12x len_law fun cdv A outer s H E hr => ⟨t_law, @dv12x P w K mg base f cdv A outer s H E B C f4x fd4x A4x G4x f7x fd7x A7x G7x f8x fd8x A8x G8x f5x fd5x A5x G5x f11x fd11x A11x G11x f10x fd10x A10x G10x hr, rd_law⟩
end
theorem all_mk {l : PySem.W.OpenLaw} {w : World} {K : PySem.W.Frag} {h : Heap} {mg : Str → Option Value} {fa : Addr} (X : K.In h) (G : h.Ns mainGlobals mg) (hfa : mg "law" = some (.ref fa))
    {f0x : Addr} {od0x an0x : Option Addr} {sl0x : Array (Option Value)} {oc0x kV0x dc0x pm0x cd0x ct0x : Value}
    {f1x : Addr} {od1x an1x : Option Addr} {sl1x : Array (Option Value)} {oc1x kV1x dc1x pm1x cd1x ct1x : Value}
    {f2x : Addr} {od2x an2x : Option Addr} {sl2x : Array (Option Value)} {oc2x kV2x dc2x pm2x cd2x ct2x : Value}
    {f3x : Addr} {od3x an3x : Option Addr} {sl3x : Array (Option Value)} {oc3x kV3x dc3x pm3x cd3x ct3x : Value}
    {f4x : Addr} {od4x an4x : Option Addr} {sl4x : Array (Option Value)} {oc4x kV4x dc4x pm4x cd4x ct4x : Value}
    {f5x : Addr} {od5x an5x : Option Addr} {sl5x : Array (Option Value)} {oc5x kV5x dc5x pm5x cd5x ct5x : Value}
    {f6x : Addr} {od6x an6x : Option Addr} {sl6x : Array (Option Value)} {oc6x kV6x dc6x pm6x cd6x ct6x : Value}
    {f7x : Addr} {od7x an7x : Option Addr} {sl7x : Array (Option Value)} {oc7x kV7x dc7x pm7x cd7x ct7x : Value}
    {f8x : Addr} {od8x an8x : Option Addr} {sl8x : Array (Option Value)} {oc8x kV8x dc8x pm8x cd8x ct8x : Value}
    {f9x : Addr} {od9x an9x : Option Addr} {sl9x : Array (Option Value)} {oc9x kV9x dc9x pm9x cd9x ct9x : Value}
    {f10x : Addr} {od10x an10x : Option Addr} {sl10x : Array (Option Value)} {oc10x kV10x dc10x pm10x cd10x ct10x : Value}
    {f11x : Addr} {od11x an11x : Option Addr} {sl11x : Array (Option Value)} {oc11x kV11x dc11x pm11x cd11x ct11x : Value}
    {f12x : Addr} {od12x an12x : Option Addr} {sl12x : Array (Option Value)} {oc12x kV12x dc12x pm12x cd12x ct12x : Value}
    {tk_FIGURES : Tok}
    {tk_MOST_FIGURES : Tok}
    {tk_MOST_GIVER_FIGURES : Tok}
    {a_NONE : Addr}
    {tk_NONE_0 : Tok} {od_NONE : Option Addr} {n_NONE : Nat} {sl_NONE : Array (Option Value)}
    {c_NoText : Addr}
    {c_GiverError : Addr}
    {c_Full : Addr}
    {c_NoAsk : Addr}
    {c_NoBook : Addr}
    {c_NoCode : Addr}
    {c_NoGiver : Addr}
    {c_NoKept : Addr}
    {c_NoMost : Addr}
    {c_NoRow : Addr}
    {c_NoRule : Addr}
    {c_NoWorth : Addr}
    {nm_NoText q_NoText : Str} {N_NoText : Addr} {bs_NoText : List Value} {sn_NoText : List Str} {sub_NoText : List Value} {ab_NoText : Bool} {col_NoText : Option Bool} {dd_NoText : Option Addr} {k0_NoText k1_NoText k2_NoText k3_NoText k5_NoText : Option Value}
    {nm_GiverError q_GiverError : Str} {N_GiverError : Addr} {bs_GiverError : List Value} {sn_GiverError : List Str} {sub_GiverError : List Value} {ab_GiverError : Bool} {col_GiverError : Option Bool} {dd_GiverError : Option Addr} {k0_GiverError k1_GiverError k2_GiverError k3_GiverError k5_GiverError : Option Value}
    {hd_GiverError : Bool}
    {f_init : Addr} {od_init an_init : Option Addr} {sl_init : Array (Option Value)} {oc_init kV_init dc_init pm_init cd_init ct_init : Value}
    (a0x : PySem.W.nsIn K mainGlobals "has_only" = some (some (.ref f0x))) (l0x : K.lookup f0x = some ⟨oc0x, od0x, .func (PySem.W.fnOf "has_only" "has_only" (defArgs s0x) (defBody s0x) (defScope s0x) .none kV0x dc0x pm0x an0x cd0x ct0x), sl0x⟩) (c0x : PySem.W.codeIn K cd0x "has_only" = true) (k0x : PySem.W.keepIn K (.ref f0x) = true)
    (a1x : PySem.W.nsIn K mainGlobals "is_figures" = some (some (.ref f1x))) (l1x : K.lookup f1x = some ⟨oc1x, od1x, .func (PySem.W.fnOf "is_figures" "is_figures" (defArgs s1x) (defBody s1x) (defScope s1x) .none kV1x dc1x pm1x an1x cd1x ct1x), sl1x⟩) (c1x : PySem.W.codeIn K cd1x "is_figures" = true) (k1x : PySem.W.keepIn K (.ref f1x) = true)
    (a2x : PySem.W.nsIn K mainGlobals "is_number_text" = some (some (.ref f2x))) (l2x : K.lookup f2x = some ⟨oc2x, od2x, .func (PySem.W.fnOf "is_number_text" "is_number_text" (defArgs s2x) (defBody s2x) (defScope s2x) .none kV2x dc2x pm2x an2x cd2x ct2x), sl2x⟩) (c2x : PySem.W.codeIn K cd2x "is_number_text" = true) (k2x : PySem.W.keepIn K (.ref f2x) = true)
    (a3x : PySem.W.nsIn K mainGlobals "read_worth" = some (some (.ref f3x))) (l3x : K.lookup f3x = some ⟨oc3x, od3x, .func (PySem.W.fnOf "read_worth" "read_worth" (defArgs s3x) (defBody s3x) (defScope s3x) .none kV3x dc3x pm3x an3x cd3x ct3x), sl3x⟩) (c3x : PySem.W.codeIn K cd3x "read_worth" = true) (k3x : PySem.W.keepIn K (.ref f3x) = true)
    (a4x : PySem.W.nsIn K mainGlobals "_law_pen" = some (some (.ref f4x))) (l4x : K.lookup f4x = some ⟨oc4x, od4x, .func (PySem.W.fnOf "_law_pen" "_law_pen" (defArgs s4x) (defBody s4x) (defScope s4x) .none kV4x dc4x pm4x an4x cd4x ct4x), sl4x⟩) (c4x : PySem.W.codeIn K cd4x "_law_pen" = true) (k4x : PySem.W.keepIn K (.ref f4x) = true)
    (a5x : PySem.W.nsIn K mainGlobals "_law_draw" = some (some (.ref f5x))) (l5x : K.lookup f5x = some ⟨oc5x, od5x, .func (PySem.W.fnOf "_law_draw" "_law_draw" (defArgs s5x) (defBody s5x) (defScope s5x) .none kV5x dc5x pm5x an5x cd5x ct5x), sl5x⟩) (c5x : PySem.W.codeIn K cd5x "_law_draw" = true) (k5x : PySem.W.keepIn K (.ref f5x) = true)
    (a6x : PySem.W.nsIn K mainGlobals "_law_sign" = some (some (.ref f6x))) (l6x : K.lookup f6x = some ⟨oc6x, od6x, .func (PySem.W.fnOf "_law_sign" "_law_sign" (defArgs s6x) (defBody s6x) (defScope s6x) .none kV6x dc6x pm6x an6x cd6x ct6x), sl6x⟩) (c6x : PySem.W.codeIn K cd6x "_law_sign" = true) (k6x : PySem.W.keepIn K (.ref f6x) = true)
    (a7x : PySem.W.nsIn K mainGlobals "_law_text" = some (some (.ref f7x))) (l7x : K.lookup f7x = some ⟨oc7x, od7x, .func (PySem.W.fnOf "_law_text" "_law_text" (defArgs s7x) (defBody s7x) (defScope s7x) .none kV7x dc7x pm7x an7x cd7x ct7x), sl7x⟩) (c7x : PySem.W.codeIn K cd7x "_law_text" = true) (k7x : PySem.W.keepIn K (.ref f7x) = true)
    (a8x : PySem.W.nsIn K mainGlobals "_law_bent" = some (some (.ref f8x))) (l8x : K.lookup f8x = some ⟨oc8x, od8x, .func (PySem.W.fnOf "_law_bent" "_law_bent" (defArgs s8x) (defBody s8x) (defScope s8x) .none kV8x dc8x pm8x an8x cd8x ct8x), sl8x⟩) (c8x : PySem.W.codeIn K cd8x "_law_bent" = true) (k8x : PySem.W.keepIn K (.ref f8x) = true)
    (a9x : PySem.W.nsIn K mainGlobals "_law_whole" = some (some (.ref f9x))) (l9x : K.lookup f9x = some ⟨oc9x, od9x, .func (PySem.W.fnOf "_law_whole" "_law_whole" (defArgs s9x) (defBody s9x) (defScope s9x) .none kV9x dc9x pm9x an9x cd9x ct9x), sl9x⟩) (c9x : PySem.W.codeIn K cd9x "_law_whole" = true) (k9x : PySem.W.keepIn K (.ref f9x) = true)
    (a10x : PySem.W.nsIn K mainGlobals "_law_due" = some (some (.ref f10x))) (l10x : K.lookup f10x = some ⟨oc10x, od10x, .func (PySem.W.fnOf "_law_due" "_law_due" (defArgs s10x) (defBody s10x) (defScope s10x) .none kV10x dc10x pm10x an10x cd10x ct10x), sl10x⟩) (c10x : PySem.W.codeIn K cd10x "_law_due" = true) (k10x : PySem.W.keepIn K (.ref f10x) = true)
    (a11x : PySem.W.nsIn K mainGlobals "_law_heard" = some (some (.ref f11x))) (l11x : K.lookup f11x = some ⟨oc11x, od11x, .func (PySem.W.fnOf "_law_heard" "_law_heard" (defArgs s11x) (defBody s11x) (defScope s11x) .none kV11x dc11x pm11x an11x cd11x ct11x), sl11x⟩) (c11x : PySem.W.codeIn K cd11x "_law_heard" = true) (k11x : PySem.W.keepIn K (.ref f11x) = true)
    (a12x : PySem.W.nsIn K mainGlobals "law" = some (some (.ref f12x))) (l12x : K.lookup f12x = some ⟨oc12x, od12x, .func (PySem.W.fnOf "law" "law" (defArgs s12x) (defBody s12x) (defScope s12x) .none kV12x dc12x pm12x an12x cd12x ct12x), sl12x⟩) (c12x : PySem.W.codeIn K cd12x "law" = true) (k12x : PySem.W.keepIn K (.ref f12x) = true)
    (z_ValueError : PySem.W.nsIn K mainGlobals "ValueError" = some none)
    (z_abs : PySem.W.nsIn K mainGlobals "abs" = some none)
    (z_all : PySem.W.nsIn K mainGlobals "all" = some none)
    (z_int : PySem.W.nsIn K mainGlobals "int" = some none)
    (z_isinstance : PySem.W.nsIn K mainGlobals "isinstance" = some none)
    (z_len : PySem.W.nsIn K mainGlobals "len" = some none)
    (z_list : PySem.W.nsIn K mainGlobals "list" = some none)
    (z_range : PySem.W.nsIn K mainGlobals "range" = some none)
    (z_repr : PySem.W.nsIn K mainGlobals "repr" = some none)
    (z_str : PySem.W.nsIn K mainGlobals "str" = some none)
    (u_FIGURES : PySem.W.nsIn K mainGlobals "FIGURES" = some (some (Value.str "0123456789" tk_FIGURES)))
    (u_MOST_FIGURES : PySem.W.nsIn K mainGlobals "MOST_FIGURES" = some (some (Value.int 30 tk_MOST_FIGURES)))
    (u_MOST_GIVER_FIGURES : PySem.W.nsIn K mainGlobals "MOST_GIVER_FIGURES" = some (some (Value.int 2 tk_MOST_GIVER_FIGURES)))
    (u_NONE : PySem.W.nsIn K mainGlobals "NONE" = some (some (.ref a_NONE)))
    (l_NONE : K.lookup a_NONE = some ⟨.type "tuple", od_NONE, .seq #[.str "none" tk_NONE_0] n_NONE, sl_NONE⟩)
    (n_NoText : PySem.W.nsIn K mainGlobals "NoText" = some (some (.ref c_NoText)))
    (n_GiverError : PySem.W.nsIn K mainGlobals "GiverError" = some (some (.ref c_GiverError)))
    (n_Full : PySem.W.nsIn K mainGlobals "Full" = some (some (.ref c_Full)))
    (n_NoAsk : PySem.W.nsIn K mainGlobals "NoAsk" = some (some (.ref c_NoAsk)))
    (n_NoBook : PySem.W.nsIn K mainGlobals "NoBook" = some (some (.ref c_NoBook)))
    (n_NoCode : PySem.W.nsIn K mainGlobals "NoCode" = some (some (.ref c_NoCode)))
    (n_NoGiver : PySem.W.nsIn K mainGlobals "NoGiver" = some (some (.ref c_NoGiver)))
    (n_NoKept : PySem.W.nsIn K mainGlobals "NoKept" = some (some (.ref c_NoKept)))
    (n_NoMost : PySem.W.nsIn K mainGlobals "NoMost" = some (some (.ref c_NoMost)))
    (n_NoRow : PySem.W.nsIn K mainGlobals "NoRow" = some (some (.ref c_NoRow)))
    (n_NoRule : PySem.W.nsIn K mainGlobals "NoRule" = some (some (.ref c_NoRule)))
    (n_NoWorth : PySem.W.nsIn K mainGlobals "NoWorth" = some (some (.ref c_NoWorth)))
    (i0 : PySem.W.findIn K (.ref c_NoText) "__init__" = some (some (.ref f_init)))
    (i1 : K.lookup f_init = some ⟨oc_init, od_init, .func (PySem.W.fnOf "__init__" "NoText.__init__" (defArgs s_init) (defBody s_init) (defScope s_init) .none kV_init dc_init pm_init an_init cd_init ct_init), sl_init⟩)
    (i2 : PySem.W.codeIn K cd_init "NoText.__init__" = true)
    (i3 : PySem.W.keepIn K (.ref f_init) = true)
    (i4 : PySem.W.typeIn K (.ref f_init) = some (.type "function"))
    (i5 : K.lookup c_NoText = some (excClassObj nm_NoText q_NoText c_NoText N_NoText bs_NoText (.ref c_GiverError :: bmV) true sn_NoText sub_NoText ab_NoText col_NoText dd_NoText k0_NoText k1_NoText k2_NoText k3_NoText k5_NoText "ValueError.__new__"))
    (i6 : K.lookup c_GiverError = some (excClassObj nm_GiverError q_GiverError c_GiverError N_GiverError bs_GiverError bmV hd_GiverError sn_GiverError sub_GiverError ab_GiverError col_GiverError dd_GiverError k0_GiverError k1_GiverError k2_GiverError k3_GiverError k5_GiverError "ValueError.__new__"))
    (i7 : PySem.W.findIn K (.ref c_NoText) "__setattr__" = some (some (.builtin "object.__setattr__")))
    (i8 : PySem.W.findIn K (.ref c_NoText) "at" = some none)
    (i9 : PySem.W.findCls K (.ref c_GiverError) (.type "type") "__init__" = some (.val (.builtin "ValueError.__init__")))
    (j0 : PySem.W.readsIn K c_GiverError (.type "type") = true)
    (j1 : PySem.W.specialIn K (.ref c_GiverError) "__getattribute__" = some (some (.builtin "type.__getattribute__")))
    (f6 : PySem.W.excIn K c_GiverError bmV "ValueError.__new__" = true)
    (f1 : PySem.W.findIn K (.ref c_NoText) "__getattribute__" = some (some (.builtin "BaseException.__getattribute__")))
    (f2 : PySem.W.findIn K (.ref c_NoText) "__getattr__" = some none)
    (f3 : PySem.W.findIn K (.ref c_NoText) "__class__" = some (some (.builtin "object.__class__")))
    (f4 : PySem.W.subIn K (.ref c_NoText) (.type "BaseException") = some true)
    (f5 : PySem.W.subIn K (.ref c_NoText) (.type "object") = some true)
    (f7 : PySem.W.subIn K (.ref c_GiverError) (.type "BaseException") = some true)
    (g7 : PySem.W.typeIn K (.ref c_GiverError) = some (.type "type"))
    (h7 : PySem.W.subIn K (.ref c_NoText) (.ref c_GiverError) = some true)
    (f8 : PySem.W.kitOne K (.ref c_NoText) (.type "ValueError") = some true)
    (f9 : PySem.W.kitAny K (.ref c_NoText) [.ref c_Full, .ref c_NoAsk, .ref c_NoBook, .ref c_NoCode, .ref c_NoGiver, .ref c_NoKept, .ref c_NoMost, .ref c_NoRow, .ref c_NoRule, .ref c_NoWorth] = some false) :
    ∃ fd : FuncData, (∀ (s : Shared) (v : Value), BindsTo s fd ⟨[v], []⟩ [("_law_script", v)]) ∧ ∀ base : Heap, K.In base → base.Ns mainGlobals mg → FnOk l.prog w K mg base CX0 6 fa fd ["_law_script"] (dnSp K L3.spLaw3) := by
  have e := hfa.symm.trans (PySem.W.mg_of X G a12x)
  cases e
  have B : Blt mg := ⟨PySem.W.mg_none_of X G z_ValueError, PySem.W.mg_none_of X G z_abs, PySem.W.mg_none_of X G z_all, PySem.W.mg_none_of X G z_int, PySem.W.mg_none_of X G z_isinstance, PySem.W.mg_none_of X G z_len, PySem.W.mg_none_of X G z_list, PySem.W.mg_none_of X G z_range, PySem.W.mg_none_of X G z_repr, PySem.W.mg_none_of X G z_str⟩
  have C : Cst K w.params mg := ⟨⟨_, PySem.W.mg_of X G u_FIGURES⟩, ⟨_, PySem.W.mg_of X G u_MOST_FIGURES⟩, ⟨_, PySem.W.mg_of X G u_MOST_GIVER_FIGURES⟩, ⟨_, PySem.W.mg_of X G u_NONE, ⟨_, _, _, l_NONE, rfl, rfl, (show (1 : Nat) ≤ sizeLine by decide), (.cons ⟨_, rfl⟩ .nil)⟩⟩⟩
  have A0x := fnAt_mk (st := s0x) (ps := ["text", "signs"]) X G a0x l0x c0x k0x fun _ _ _ _ _ _ us hl => by obtain ⟨_, _, rfl⟩ := us2 hl; rfl
  have A1x := fnAt_mk (st := s1x) (ps := ["text", "most"]) X G a1x l1x c1x k1x fun _ _ _ _ _ _ us hl => by obtain ⟨_, _, rfl⟩ := us2 hl; rfl
  have A2x := fnAt_mk (st := s2x) (ps := ["text"]) X G a2x l2x c2x k2x fun _ _ _ _ _ _ us hl => by obtain ⟨_, rfl⟩ := us1 hl; rfl
  have A3x := fnAt_mk (st := s3x) (ps := ["text"]) X G a3x l3x c3x k3x fun _ _ _ _ _ _ us hl => by obtain ⟨_, rfl⟩ := us1 hl; rfl
  have A4x := fnAt_mk (st := s4x) (ps := ["_law_script"]) X G a4x l4x c4x k4x fun _ _ _ _ _ _ us hl => by obtain ⟨_, rfl⟩ := us1 hl; rfl
  have A5x := fnAt_mk (st := s5x) (ps := ["_law_pen_here", "_law_many"]) X G a5x l5x c5x k5x fun _ _ _ _ _ _ us hl => by obtain ⟨_, _, rfl⟩ := us2 hl; rfl
  have A6x := fnAt_mk (st := s6x) (ps := ["_law_pen_here"]) X G a6x l6x c6x k6x fun _ _ _ _ _ _ us hl => by obtain ⟨_, rfl⟩ := us1 hl; rfl
  have A7x := fnAt_mk (st := s7x) (ps := ["_law_pen_here"]) X G a7x l7x c7x k7x fun _ _ _ _ _ _ us hl => by obtain ⟨_, rfl⟩ := us1 hl; rfl
  have A8x := fnAt_mk (st := s8x) (ps := ["_law_pen_here", "_law_text_here"]) X G a8x l8x c8x k8x fun _ _ _ _ _ _ us hl => by obtain ⟨_, _, rfl⟩ := us2 hl; rfl
  have A9x := fnAt_mk (st := s9x) (ps := ["_law_text_here"]) X G a9x l9x c9x k9x fun _ _ _ _ _ _ us hl => by obtain ⟨_, rfl⟩ := us1 hl; rfl
  have A10x := fnAt_mk (st := s10x) (ps := ["_law_thing"]) X G a10x l10x c10x k10x fun _ _ _ _ _ _ us hl => by obtain ⟨_, rfl⟩ := us1 hl; rfl
  have A11x := fnAt_mk (st := s11x) (ps := ["_law_thing"]) X G a11x l11x c11x k11x fun _ _ _ _ _ _ us hl => by obtain ⟨_, rfl⟩ := us1 hl; rfl
  have A12x := fnAt_mk (st := s12x) (ps := ["_law_script"]) X G a12x l12x c12x k12x fun _ _ _ _ _ _ us hl => by obtain ⟨_, rfl⟩ := us1 hl; rfl
  refine ⟨PySem.W.fnOf "law" "law" (defArgs s12x) (defBody s12x) (defScope s12x) .none kV12x dc12x pm12x an12x cd12x ct12x, fun s v => .of_eq rfl, fun base _ _ => ?_⟩
  have h_NoText := PySem.W.mg_of X G n_NoText
  have h_GiverError := PySem.W.mg_of X G n_GiverError
  have h_Full := PySem.W.mg_of X G n_Full
  have h_NoAsk := PySem.W.mg_of X G n_NoAsk
  have h_NoBook := PySem.W.mg_of X G n_NoBook
  have h_NoCode := PySem.W.mg_of X G n_NoCode
  have h_NoGiver := PySem.W.mg_of X G n_NoGiver
  have h_NoKept := PySem.W.mg_of X G n_NoKept
  have h_NoMost := PySem.W.mg_of X G n_NoMost
  have h_NoRow := PySem.W.mg_of X G n_NoRow
  have h_NoRule := PySem.W.mg_of X G n_NoRule
  have h_NoWorth := PySem.W.mg_of X G n_NoWorth
  have ek : PySem.W.ExcK K c_NoText := ⟨f1, f2, f3, f4, f5⟩
  have Z : TxtK K c_NoText c_GiverError f_init := ⟨⟨_, _, _, _, _, _, _, _, _, _, _, _, _, _, i5⟩, ⟨_, _, _, _, _, _, _, _, _, _, _, _, _, _, _, i6⟩, f6, i0, i4, i7, i8, ek, i9, j0, j1⟩
  have ZC : K06.CK K c_GiverError c_NoText c_Full c_NoAsk c_NoBook c_NoCode c_NoGiver c_NoKept c_NoMost c_NoRow c_NoRule c_NoWorth := ck_mk ek i5 f6 f7 g7 h7 f8 f9
  have F_init := ok_init (P := l.prog) (w := w) (base := base) h_GiverError Z i1 i2
  have B_init : Binds K (PySem.W.fnOf "__init__" "NoText.__init__" (defArgs s_init) (defBody s_init) (defScope s_init) .none kV_init dc_init pm_init an_init cd_init ct_init) ["self", "at"] [] := (fun_mk (x := "__init__") (qual := "NoText.__init__") (st := s_init) i1 i2 i3).binds fun _ _ _ _ _ _ us hl => by obtain ⟨_, _, rfl⟩ := us2 hl; rfl
  have G0x := ok0x (P := l.prog) (w := w) (base := base) B C A0x
  have G1x := ok1x (P := l.prog) (w := w) (base := base) B C A0x G0x A1x
  have G2x := ok2x (P := l.prog) (w := w) (base := base) B C A1x G1x A2x
  have G3x := ok3x (P := l.prog) (w := w) (base := base) B C A1x G1x A2x G2x h_NoText Z F_init B_init A3x
  have G4x := ok4x (P := l.prog) (w := w) (base := base) B C A4x
  have G5x := ok5x (P := l.prog) (w := w) (base := base) B C A5x
  have G6x := ok6x (P := l.prog) (w := w) (base := base) B C A5x G5x A6x
  have G7x := ok7x (P := l.prog) (w := w) (base := base) B C A5x G5x A7x
  have G8x := ok8x (P := l.prog) (w := w) (base := base) B C A5x G5x A6x G6x A8x
  have G9x := ok9x (P := l.prog) (w := w) (base := base) B C A9x
  have G10x := ok10x (P := l.prog) (w := w) (base := base) B C A9x G9x A10x
  have G11x := ok11x (P := l.prog) (w := w) (base := base) B C h_NoText h_GiverError h_Full h_NoAsk h_NoBook h_NoCode h_NoGiver h_NoKept h_NoMost h_NoRow h_NoRule h_NoWorth A3x G3x Z ZC A11x
  have G12x := ok12x (P := l.prog) (w := w) (base := base) B C A4x G4x A7x G7x A8x G8x A5x G5x A11x G11x A10x G10x A12x
  exact G12x
end K04
open PySem PySem.W PyProof.Rows
set_option maxRecDepth 100000 in
set_option maxHeartbeats 0 in
theorem PySem.Challenge.cw_handedon_k04_texts_of_no_worth_holds : PySem.Challenge.rw_handedon_k04_texts_of_no_worth.Holds := by
  w_on; o_law; k_head; (case hw => w_witness2)
  k_fill
  refine L3.walk3 (l := PySem.Challenge.rw_handedon_k04_texts_of_no_worth) (k := 6) (x := "_law_script") rfl rfl ⟨rfl, by decide, by decide, rfl⟩ (fun w h Y => PySem.W.kIn_of Y) ?F
  case F =>
    intro w mg fa h KX G hmg
    refine' K04.all_mk KX G hmg ?a0x ?l0x ?c0x ?k0x ?a1x ?l1x ?c1x ?k1x ?a2x ?l2x ?c2x ?k2x ?a3x ?l3x ?c3x ?k3x ?a4x ?l4x ?c4x ?k4x ?a5x ?l5x ?c5x ?k5x ?a6x ?l6x ?c6x ?k6x ?a7x ?l7x ?c7x ?k7x ?a8x ?l8x ?c8x ?k8x ?a9x ?l9x ?c9x ?k9x ?a10x ?l10x ?c10x ?k10x ?a11x ?l11x ?c11x ?k11x ?a12x ?l12x ?c12x ?k12x ?z_ValueError ?z_abs ?z_all ?z_int ?z_isinstance ?z_len ?z_list ?z_range ?z_repr ?z_str ?u_FIGURES ?u_MOST_FIGURES ?u_MOST_GIVER_FIGURES ?u_NONE ?l_NONE ?n_NoText ?n_GiverError ?n_Full ?n_NoAsk ?n_NoBook ?n_NoCode ?n_NoGiver ?n_NoKept ?n_NoMost ?n_NoRow ?n_NoRule ?n_NoWorth ?i0 ?i1 ?i2 ?i3 ?i4 ?i5 ?i6 ?i7 ?i8 ?i9 ?j0 ?j1 ?f6 ?f1 ?f2 ?f3 ?f4 ?f5 ?f7 ?g7 ?h7 ?f8 ?f9
    (case a0x => k_is)
    (case l0x => k_is)
    (case c0x => k_is)
    (case k0x => k_is)
    (case a1x => k_is)
    (case l1x => k_is)
    (case c1x => k_is)
    (case k1x => k_is)
    (case a2x => k_is)
    (case l2x => k_is)
    (case c2x => k_is)
    (case k2x => k_is)
    (case a3x => k_is)
    (case l3x => k_is)
    (case c3x => k_is)
    (case k3x => k_is)
    (case a4x => k_is)
    (case l4x => k_is)
    (case c4x => k_is)
    (case k4x => k_is)
    (case a5x => k_is)
    (case l5x => k_is)
    (case c5x => k_is)
    (case k5x => k_is)
    (case a6x => k_is)
    (case l6x => k_is)
    (case c6x => k_is)
    (case k6x => k_is)
    (case a7x => k_is)
    (case l7x => k_is)
    (case c7x => k_is)
    (case k7x => k_is)
    (case a8x => k_is)
    (case l8x => k_is)
    (case c8x => k_is)
    (case k8x => k_is)
    (case a9x => k_is)
    (case l9x => k_is)
    (case c9x => k_is)
    (case k9x => k_is)
    (case a10x => k_is)
    (case l10x => k_is)
    (case c10x => k_is)
    (case k10x => k_is)
    (case a11x => k_is)
    (case l11x => k_is)
    (case c11x => k_is)
    (case k11x => k_is)
    (case a12x => k_is)
    (case l12x => k_is)
    (case c12x => k_is)
    (case k12x => k_is)
    (case z_ValueError => k_is)
    (case z_abs => k_is)
    (case z_all => k_is)
    (case z_int => k_is)
    (case z_isinstance => k_is)
    (case z_len => k_is)
    (case z_list => k_is)
    (case z_range => k_is)
    (case z_repr => k_is)
    (case z_str => k_is)
    (case u_FIGURES => k_is)
    (case u_MOST_FIGURES => k_is)
    (case u_MOST_GIVER_FIGURES => k_is)
    (case u_NONE => k_is)
    (case l_NONE => k_is)
    (case n_NoText => k_is)
    (case n_GiverError => k_is)
    (case n_Full => k_is)
    (case n_NoAsk => k_is)
    (case n_NoBook => k_is)
    (case n_NoCode => k_is)
    (case n_NoGiver => k_is)
    (case n_NoKept => k_is)
    (case n_NoMost => k_is)
    (case n_NoRow => k_is)
    (case n_NoRule => k_is)
    (case n_NoWorth => k_is)
    (case i0 => k_is)
    (case i1 => k_is)
    (case i2 => k_is)
    (case i3 => k_is)
    (case i4 => k_is)
    (case i5 => k_is)
    (case i6 => k_is)
    (case i7 => k_is)
    (case i8 => k_is)
    (case i9 => k_is)
    (case j0 => k_is)
    (case j1 => k_is)
    (case f6 => k_exc)
    (case f1 => k_is)
    (case f2 => k_is)
    (case f3 => k_is)
    (case f4 => k_is)
    (case f5 => k_is)
    (case f7 => k_is)
    (case g7 => k_is)
    (case h7 => k_is)
    (case f8 => kit_is)
    (case f9 => kit_is)
