import PyProof.Rows.All
import Wide.All
import OpenK.AllK
import Wide.FinOn
import Lean
import PyProof.EqAt
import PyProof.EqKinds
import PyProof.TupleCall
import PyProof.ExcAttrAll.ValueError
import PyProof.EnumMake
import PyProof.EnumStmt
import PyProof.Rows.EnumRows
import KE.KDictOf
import KE.KEqDict
import PyProof.Draws
import KE.KDictSum
import PyProof.Rows.SortStr
import PySem.Challenge.RW_runrows_k34_beats_part
set_option Elab.async false
set_option linter.all false
set_option maxRecDepth 100000
namespace L2
open PySem PySem.Spec PyProof.Rows
abbrev Key := Sum Int Str
def keyIs : Key → Value → Bool
  | .inl k, v => Value.isInt k v
  | .inr x, v => Value.isStrOf x v
def keyH (w : World) : Key → Int
  | .inl k => hashInt k
  | .inr x => hashStr w x
theorem keyIs_shape : ∀ {k : Key} {v : Value}, keyIs k v = true → (∃ i t, k = Sum.inl i ∧ v = Value.int i t) ∨ (∃ x t, k = Sum.inr x ∧ v = Value.str x t)
  | .inl i, v, h => by
    obtain ⟨t, e⟩ := Value.isInt_shape (k := i) (v := v) h
    exact .inl ⟨i, t, rfl, e⟩
  | .inr x, v, h => by
    obtain ⟨t, e⟩ := Value.isStrOf_shape (x := x) (v := v) h
    exact .inr ⟨x, t, rfl, e⟩
theorem keyIs_int (i : Int) (t : Tok) : keyIs (.inl i) (.int i t) = true := by simp [keyIs, Value.isInt]
theorem keyIs_str (x : Str) (t : Tok) : keyIs (.inr x) (.str x t) = true := by simp [keyIs, Value.isStrOf]
theorem key_ll (a b : Int) : decide ((Sum.inl a : Key) = Sum.inl b) = (a == b) := by
  by_cases e : a = b
  · subst e; simp
  · have h : ¬ (Sum.inl a : Key) = Sum.inl b := fun q => e (Sum.inl.inj q)
    rw [decide_eq_false h]
    exact (beq_eq_false_iff_ne.mpr e).symm
theorem key_rr (a b : Str) : decide ((Sum.inr a : Key) = Sum.inr b) = decide (a = b) := by
  by_cases e : a = b
  · subst e; simp
  · have h : ¬ (Sum.inr a : Key) = Sum.inr b := fun q => e (Sum.inr.inj q)
    rw [decide_eq_false h, decide_eq_false e]
theorem key_lr (a : Int) (b : Str) : decide ((Sum.inl a : Key) = Sum.inr b) = false := decide_eq_false (fun q => nomatch q)
theorem key_rl (a : Str) (b : Int) : decide ((Sum.inr a : Key) = Sum.inl b) = false := decide_eq_false (fun q => nomatch q)
def mixKind (prog : Program) (w : World) : PySem.KeyKind prog w Key where
  is := keyIs
  hash := keyH w
  inj := fun v a b ha hb => by
    rcases keyIs_shape ha with ⟨i, t, rfl, rfl⟩ | ⟨x, t, rfl, rfl⟩
    · rcases keyIs_shape hb with ⟨j, u, rfl, e⟩ | ⟨y, u, rfl, e⟩
      · injection e with e1 _; rw [e1]
      · exact nomatch e
    · rcases keyIs_shape hb with ⟨j, u, rfl, e⟩ | ⟨y, u, rfl, e⟩
      · exact nomatch e
      · injection e with e1 _; rw [e1]
  byValue := fun k v h => by
    rcases keyIs_shape h with ⟨i, t, rfl, rfl⟩ | ⟨x, t, rfl, rfl⟩ <;> rfl
  pyHash := fun hv h => by
    rcases keyIs_shape hv with ⟨i, t, rfl, rfl⟩ | ⟨x, t, rfl, rfl⟩
    · exact wpAny_pyHash_int h
    · exact wpAny_pyHash_str h
  eqBool := fun hu hv h => by
    rcases keyIs_shape hu with ⟨i, t, rfl, rfl⟩ | ⟨x, t, rfl, rfl⟩
    · rcases keyIs_shape hv with ⟨j, u, rfl, rfl⟩ | ⟨y, u, rfl, rfl⟩
      · rw [key_ll] at h; exact wpAny_eqBool_int h
      · rw [key_lr] at h; exact SeqAt.EqAt.int_str i t y u _ _ _ _ h
    · rcases keyIs_shape hv with ⟨j, u, rfl, rfl⟩ | ⟨y, u, rfl, rfl⟩
      · rw [key_rl] at h; exact SeqAt.EqAt.str_int x t j u _ _ _ _ h
      · rw [key_rr] at h; exact wpAny_eqBool_str h
  «strs» := fun k x t v h => by
    rcases keyIs_shape h with ⟨i, u, rfl, e⟩ | ⟨y, u, rfl, e⟩
    · exact nomatch e
    · injection e with e1 _
      subst e1
      cases v <;> rfl
theorem mixKind_int (prog : Program) (w : World) (i : Int) (t : Tok) : (mixKind prog w).is (.inl i) (.int i t) = true := keyIs_int i t
theorem mixKind_str (prog : Program) (w : World) (x : Str) (t : Tok) : (mixKind prog w).is (.inr x) (.str x t) = true := keyIs_str x t
end L2
namespace L2
open PySem PySem.Spec PyProof.Rows
inductive V where
  | non | bl (b : Bool) | int (i : Int) | str (x : Str) | byt (b : Array UInt8) | flt (b : UInt64) | ref (a : Addr) | ty (n : String)
  deriving DecidableEq
def RelV : V → Value → Prop
  | .non, u => u = Value.none
  | .bl b, u => u = Value.bool b
  | .int i, u => ∃ t, u = Value.int i t
  | .str x, u => ∃ t, u = Value.str x t
  | .byt b, u => ∃ t, u = Value.bytes b t
  | .flt b, u => ∃ t, u = Value.float b t
  | .ref a, u => u = Value.ref a
  | .ty n, u => u = Value.type n
abbrev Vals : List V → List Value → Prop := Paired RelV
theorem Vals.length {xs : List V} {us : List Value} (r : Vals xs us) : xs.length = us.length := Paired.length r
theorem Vals.get : ∀ {xs : List V} {us : List Value} {i : Nat} {x : V}, Vals xs us → xs[i]? = some x → ∃ u, us[i]? = some u ∧ RelV x u
  | _, _, _, _, .nil, e => by simp at e
  | _, _, 0, _, .cons r _, e => by simp at e; subst e; exact ⟨_, rfl, r⟩
  | _, _, i + 1, x, .cons _ t, e => by
    obtain ⟨u, h1, h2⟩ := Vals.get (i := i) (x := x) t (by simpa using e)
    exact ⟨u, by simpa using h1, h2⟩
theorem Vals.append : ∀ {xs ys : List V} {us ws : List Value}, Vals xs us → Vals ys ws → Vals (xs ++ ys) (us ++ ws)
  | _, _, _, _, .nil, s => s
  | _, _, _, _, .cons r t, s => .cons r (Vals.append t s)
theorem Vals.take : ∀ {xs : List V} {us : List Value} (n : Nat), Vals xs us → Vals (xs.take n) (us.take n)
  | _, _, 0, _ => .nil
  | _, _, _ + 1, .nil => .nil
  | _, _, n + 1, .cons r t => .cons r (Vals.take n t)
theorem Vals.drop : ∀ {xs : List V} {us : List Value} (n : Nat), Vals xs us → Vals (xs.drop n) (us.drop n)
  | _, _, 0, r => r
  | _, _, _ + 1, .nil => .nil
  | _, _, n + 1, .cons _ t => Vals.drop n t
def RelO : Option V → Option Value → Prop
  | some v, some u => RelV v u
  | none, none => True
  | _, _ => False
def KV {κ : Type} : List (κ × V) → List (κ × Value) → Prop := Paired fun (p : κ × V) (q : κ × Value) => p.1 = q.1 ∧ RelV p.2 q.2
def kV : Key → V
  | .inl i => .int i
  | .inr x => .str x
inductive HO where
  /-- a list -/
  | lst (xs : List V)
  /-- a tuple (never changes) -/
  | tup (xs : List V)
  /-- a dict whose keys are ints and texts; one whose keys are tuples of ints and texts (the empty one is both) -/
  | dK (kvs : List (Key × V)) | dT (kvs : List (List Key × V))
  /-- a set of ints: its members, its size -/
  | set (S : Int → Bool) (n : Nat)
  /-- an instance of the class at C, its dict at dx, its attributes -/
  | ins (C dx : Addr) (fs : List (Str × V))
  /-- the dict of the instance at x -/
  | own (x : Addr)
  /-- the dict of an exception -/
  | xd (fs : List (Str × V))
  /-- a bound method, f of x -/
  | met (f x : Addr)
  /-- a range object lo, lo + 1, .. below hi -/
  | rng (lo hi : Int)
  /-- a thing that is known to the object (the script; a dict while a loop walks it): read, never written while it is so -/
  | frz (o : Obj) (u : HO)
  /-- a code object's table -/
  | tbl (ps : Array Value)
  /-- any other thing, by what is true of its one object (a def of one's own: SetO a S n := HO.ext fun h => ..) -/
  | ext (φ : Heap → Prop)
abbrev Hp := Addr → Option HO
def upd (H : Hp) (a : Addr) (o : HO) : Hp := fun b => if b = a then some o else H b
theorem upd_same {H : Hp} {a : Addr} {o : HO} : upd H a o a = some o := by unfold upd; rw [if_pos rfl]
theorem upd_ne {H : Hp} {a b : Addr} {o : HO} (h : b ≠ a) : upd H a o b = H b := by unfold upd; rw [if_neg h]
theorem upd_upd {H : Hp} {a : Addr} {o u : HO} : upd (upd H a o) a u = upd H a u := by
  funext b; unfold upd; split <;> rfl
theorem ne_of {H : Hp} {a b : Addr} {o u : HO} (h : H a = some o) (h' : H b = some u) (d : o ≠ u) : a ≠ b := by
  intro e; subst e; rw [h] at h'; exact d (Option.some.inj h')
theorem ne_of_none {H : Hp} {a b : Addr} {o : HO} (h : H a = some o) (h' : H b = none) : a ≠ b := by
  intro e; subst e; rw [h] at h'; cases h'
section
variable (P : Program) (w : World)
def ObjOk (H : Hp) (h : Heap) (a : Addr) : HO → Prop
  | .lst xs => xs.length ≤ sizeLine ∧ ∃ (its : List Value) (n : Nat), Vals xs its ∧ h.get? a = some { cls := .type "list", data := .seq its.toArray n }
  | .tup xs => xs.length ≤ sizeLine ∧ ∃ its : List Value, Vals xs its ∧ IsTup h a its.toArray
  | .dK kvs => kvs.length ≤ sizeLine ∧ (a == sysModules) = false ∧ ∃ vs, KV kvs vs ∧ h.DictOf (mixKind P w) a vs
  | .dT kvs => kvs.length ≤ sizeLine ∧ (a == sysModules) = false ∧ ∃ xs : List (List Key × Addr × Value),
      Paired (fun (p : List Key × V) (q : List Key × Addr × Value) => p.1 = q.1 ∧ H q.2.1 = some (.tup (p.1.map kV)) ∧ RelV p.2 q.2.2) kvs xs ∧
      ∃ o es ep, h.get? a = some o ∧ o.ExactDict ∧ o.data = .dict es ep ∧ es.toList = xs.map (entryOfKey (tupleKind (mixKind P w))) ∧ (xs.map (·.1)).Nodup
  | .set S n => h.SetOf (intKind P w) a S n
  | .ins C dx fs => H dx = some (.own a) ∧ fs.length ≤ 1000 ∧ dx ≠ a ∧ h.get? a = some (PySem.W.instObj C dx) ∧
      ∃ mA, h.Ns1 dx mA ∧ (∀ f, RelO (fs.lookup f) (mA f)) ∧ PySem.Within mA (fs.map (·.1))
  | .own _ => ∃ o, h.get? a = some o
  | .xd fs => ∃ mA, h.Ns1 a mA ∧ ∀ f, RelO (fs.lookup f) (mA f)
  | .rng lo hi => ∃ t u v, h.get? a = some { cls := .type "range", data := .fields #[.int lo t, .int hi u, .int 1 v] }
  | .frz o u => h.get? a = some o ∧ ObjOk H h a u
  | .tbl ps => h.get? a = some { cls := .none, data := .fields ps }
  | .met f x => h.get? a = some (PySem.W.methodObj (.ref f) (.ref x))
  | .ext φ => φ h ∧ (∃ o, h.get? a = some o) ∧ ∀ h1 h2 : Heap, φ h1 → (∀ o, h1.get? a = some o → h2.get? a = some o) → φ h2
def HOk (H : Hp) (h : Heap) : Prop := ∀ a o, H a = some o → ObjOk P w H h a o
end
section
variable {P : Program} {w : World} {H H' : Hp} {h h' : Heap} {a : Addr} {o : HO}
theorem ObjOk.lt (x : ObjOk P w H h a o) : a < h.objs.size := by
  cases o with
  | lst xs => obtain ⟨_, _, _, _, e⟩ := x; exact Heap.lt_size e
  | tup xs => obtain ⟨_, _, _, p⟩ := x; exact p.lt
  | dK kvs => obtain ⟨_, _, _, _, o, _, _, e, _⟩ := x; exact Heap.lt_size e
  | dT kvs => obtain ⟨_, _, _, _, o, _, _, e, _⟩ := x; exact Heap.lt_size e
  | set S n => obtain ⟨o, _, _, _, e, _⟩ := x; exact Heap.lt_size e
  | ins C dx fs => obtain ⟨_, _, _, e, _⟩ := x; exact Heap.lt_size e
  | own y => obtain ⟨_, e⟩ := x; exact Heap.lt_size e
  | xd fs => obtain ⟨_, ⟨_, _, _, e, _⟩, _⟩ := x; exact Heap.lt_size e
  | rng lo hi => obtain ⟨_, _, _, e⟩ := x; exact Heap.lt_size e
  | frz ob u => obtain ⟨e, _⟩ := x; exact Heap.lt_size e
  | tbl ps => exact Heap.lt_size (show h.get? a = some _ from x)
  | met f y => exact Heap.lt_size (show h.get? a = some _ from x)
  | ext φ => obtain ⟨_, ⟨_, e⟩, _⟩ := x; exact Heap.lt_size e
theorem Paired.mapP {α β : Type} {F G : α → β → Prop} : ∀ {l₁ : List α} {l₂ : List β}, Paired F l₁ l₂ → (∀ a b, F a b → G a b) → Paired G l₁ l₂
  | _, _, .nil, _ => .nil
  | _, _, .cons r t, f => .cons (f _ _ r) (Paired.mapP t f)
theorem Paired.imp' {α β : Type} {F G : α → β → Prop} (f : ∀ a b, F a b → G a b) {l₁ : List α} {l₂ : List β} (r : Paired F l₁ l₂) : Paired G l₁ l₂ := Paired.mapP r f
theorem ObjOk.stay (x : ObjOk P w H h a o) (k : ∀ b u, (b = a ∨ H b = some (.own a)) → h.get? b = some u → h'.get? b = some u)
    (ho : ∀ b, H b = some (.own a) → H' b = some (.own a)) (ht : ∀ b xs, H b = some (.tup xs) → H' b = some (.tup xs)) : ObjOk P w H' h' a o := by
  induction o with
  | lst xs => obtain ⟨z, its, n, r, e⟩ := x; exact ⟨z, its, n, r, k _ _ (.inl rfl) e⟩
  | tup xs => obtain ⟨z, its, r, ob, e, c⟩ := x; exact ⟨z, its, r, ob, k _ _ (.inl rfl) e, c⟩
  | dK kvs => obtain ⟨z, y, vs, r, ob, es, ep, e, c⟩ := x; exact ⟨z, y, vs, r, ob, es, ep, k _ _ (.inl rfl) e, c⟩
  | dT kvs =>
    obtain ⟨z, y, xs, r, ob, es, ep, e, c⟩ := x
    exact ⟨z, y, xs, Paired.mapP r fun p q z => ⟨z.1, ht _ _ z.2.1, z.2.2⟩, ob, es, ep, k _ _ (.inl rfl) e, c⟩
  | set S n => obtain ⟨ob, es, ep, t, e, c⟩ := x; exact ⟨ob, es, ep, t, k _ _ (.inl rfl) e, c⟩
  | ins C dx fs =>
    obtain ⟨d, z, ne, e, mA, ⟨od, es, ep, e2, c⟩, r⟩ := x
    exact ⟨ho _ d, z, ne, k _ _ (.inl rfl) e, mA, ⟨od, es, ep, k _ _ (.inr d) e2, c⟩, r⟩
  | own y => obtain ⟨ob, e⟩ := x; exact ⟨ob, k _ _ (.inl rfl) e⟩
  | xd fs => obtain ⟨mA, ⟨od, es, ep, e, c⟩, r⟩ := x; exact ⟨mA, ⟨od, es, ep, k _ _ (.inl rfl) e, c⟩, r⟩
  | rng lo hi => obtain ⟨t, u, v, e⟩ := x; exact ⟨t, u, v, k _ _ (.inl rfl) e⟩
  | frz ob u ih => obtain ⟨e, q⟩ := x; exact ⟨k _ _ (.inl rfl) e, ih q⟩
  | tbl ps =>
    have e : h.get? a = some { cls := .none, data := .fields ps } := x
    show h'.get? a = some { cls := .none, data := .fields ps }
    exact k a _ (.inl rfl) e
  | met f y =>
    have e : h.get? a = some (PySem.W.methodObj (.ref f) (.ref y)) := x
    show h'.get? a = some (PySem.W.methodObj (.ref f) (.ref y))
    exact k a _ (.inl rfl) e
  | ext φ => obtain ⟨p, ⟨o, e⟩, st⟩ := x; exact ⟨st _ _ p fun o q => k _ _ (.inl rfl) q, ⟨o, k _ _ (.inl rfl) e⟩, st⟩
theorem HOk.lt (x : HOk P w H h) (e : H a = some o) : a < h.objs.size := (x a o e).lt
theorem HOk.fresh (x : HOk P w H h) (e : h.objs.size ≤ a) : H a = none := by
  cases q : H a with
  | none => rfl
  | some u => exact absurd (Nat.lt_of_lt_of_le (x.lt q) e) (Nat.lt_irrefl _)
theorem HOk.kept (x : HOk P w H h) (k : ∀ b u, h.get? b = some u → h'.get? b = some u) : HOk P w H h' := fun a o e =>
  (x a o e).stay (fun b u _ q => k b u q) (fun _ q => q) fun _ _ q => q
theorem HOk.laid (x : HOk P w H h) (k : ∀ b u, h.get? b = some u → h'.get? b = some u) (hp : h.objs.size ≤ a) (new : ObjOk P w (upd H a o) h' a o) : HOk P w (upd H a o) h' := fun b u e => by
  have hn := x.fresh hp
  by_cases hb : b = a
  · subst hb; rw [upd_same] at e; cases e; exact new
  · rw [upd_ne hb] at e
    exact (x b u e).stay (fun c v _ q => k c v q) (fun c q => by rw [upd_ne (ne_of_none q hn)]; exact q) fun c xs q => by rw [upd_ne (ne_of_none q hn)]; exact q
end
def Rd (H : Hp) (a : Addr) (u : HO) : Prop := H a = some u ∨ ∃ o, H a = some (.frz o u)
theorem Rd.of {H : Hp} {a : Addr} {u : HO} (h : H a = some u) : Rd H a u := .inl h
theorem Rd.ok {P : Program} {w : World} {H : Hp} {h : Heap} {a : Addr} {u : HO} (r : Rd H a u) (x : HOk P w H h) : ObjOk P w H h a u := by
  rcases r with r | ⟨o, r⟩
  · exact x a u r
  · obtain ⟨_, q⟩ := x a _ r
    exact q
def Mut : Option HO → Prop
  | some (.lst _) => True
  | some (.dK _) => True
  | some (.dT _) => True
  | some (.set _ _) => True
  | some (.ins _ _ _) => True
  | some (.ext _) => True
  | _ => False
section
variable {P : Program} {w : World} {H : Hp} {h h' : Heap} {x e : Addr} {o' : HO}
theorem HOk.write (ok : HOk P w H h) (mu : Mut (H x)) (he : e = x ∨ H e = some (.own x)) (k : ∀ b u, b ≠ e → h.get? b = some u → h'.get? b = some u) (heo : ∃ u, h'.get? e = some u)
    (new : ObjOk P w (upd H x o') h' x o') : HOk P w (upd H x o') h' := fun b u q => by
  have nown : ∀ c y, H c = some (.own y) → c ≠ x := fun c y r z => by subst z; rw [r] at mu; exact mu
  have ntup : ∀ c xs, H c = some (.tup xs) → c ≠ x := fun c xs r z => by subst z; rw [r] at mu; exact mu
  by_cases hb : b = x
  · subst hb; rw [upd_same] at q; cases q; exact new
  · rw [upd_ne hb] at q
    by_cases hbe : b = e
    · have q' : H b = some (.own x) := by
        rcases he with z | z
        · exact absurd (hbe.trans z) hb
        · rw [hbe]; exact z
      rw [q] at q'; cases q'
      obtain ⟨v, hv⟩ := heo
      exact ⟨v, by rw [hbe]; exact hv⟩
    · refine (ok b u q).stay (fun c v hc r => k c v ?_ r) (fun c r => by rw [upd_ne (nown c b r)]; exact r) fun c xs r => by rw [upd_ne (ntup c xs r)]; exact r
      rcases hc with rfl | hc
      · exact hbe
      · rintro rfl
        rcases he with z | z
        · exact nown c b hc z
        · rw [hc] at z; cases z; exact hb rfl
end
structure Un (fs ex : List Addr) (H H' : Hp) (h h' : Heap) : Prop where
  keep : ∀ b o, h.get? b = some o → H b = none → b ∉ fs → b ∉ ex → h'.get? b = some o
  slot : ∀ b o, h.get? b = some o → H b = none → b ∈ fs → b ∉ ex → ∃ sl, h'.get? b = some { o with slots := sl }
  free : ∀ b o, h.get? b = some o → H b = none → b ∉ ex → H' b = none
  there : ∀ b o, h.get? b = some o → b ∉ ex → ∃ o', h'.get? b = some o'
  tups : ∀ b xs, H b = some (.tup xs) → H' b = some (.tup xs)
  frzs : ∀ b o u, H b = some (.frz o u) → H' b = some (.frz o u)
  tbls : ∀ b ps, H b = some (.tbl ps) → ∃ more, H' b = some (.tbl (ps ++ more))
section
variable {fs fs' ex ex' : List Addr} {H H1 H2 : Hp} {h h1 h2 h' : Heap} {a x e : Addr} {o : HO}
theorem Un.any (u : Un fs ex H H1 h h1) {b : Addr} {ob : Obj} (q : h.get? b = some ob) (n : H b = none) (hx : b ∉ ex) : ∃ sl, h1.get? b = some { ob with slots := sl } := by
  by_cases hb : b ∈ fs
  · exact u.slot b ob q n hb hx
  · exact ⟨ob.slots, u.keep b ob q n hb hx⟩
theorem Un.kept (k : ∀ b u, h.get? b = some u → h'.get? b = some u) : Un fs ex H H h h' :=
  ⟨fun b ob q _ _ _ => k b ob q, fun b ob q _ _ _ => ⟨ob.slots, k b ob q⟩, fun _ _ _ n _ => n, fun b ob q _ => ⟨ob, k b ob q⟩, fun _ _ q => q, fun _ _ _ q => q, fun _ ps q => ⟨#[], by rw [q]; simp⟩⟩
theorem Un.refl : Un fs ex H H h h := Un.kept fun _ _ q => q
theorem Un.laid (k : ∀ b u, h.get? b = some u → h'.get? b = some u) (hp : h.objs.size ≤ a) (hn : H a = none) : Un fs ex H (upd H a o) h h' where
  keep := fun b u q _ _ _ => k b u q
  slot := fun b u q _ _ _ => ⟨u.slots, k b u q⟩
  free := fun b u q n _ => by rw [upd_ne (Nat.ne_of_lt (Nat.lt_of_lt_of_le (Heap.lt_size q) hp))]; exact n
  there := fun b u q _ => ⟨u, k b u q⟩
  tups := fun b xs q => by rw [upd_ne (ne_of_none q hn)]; exact q
  frzs := fun b u xs q => by rw [upd_ne (ne_of_none q hn)]; exact q
  tbls := fun b ps q => ⟨#[], by rw [upd_ne (ne_of_none q hn), q]; simp⟩
theorem Un.write (mu : Mut (H x)) (he : e = x ∨ H e = some (.own x)) (k : ∀ b u, b ≠ e → h.get? b = some u → h'.get? b = some u) (heo : ∃ u, h'.get? e = some u) : Un fs ex H (upd H x o) h h' := by
  have hx : ∀ b, H b = none → b ≠ x := fun b n z => by subst z; rw [n] at mu; exact mu
  have hb : ∀ b, H b = none → b ≠ e := fun b n z => by
    subst z
    rcases he with r | r
    · exact hx b n r
    · rw [n] at r; cases r
  have hm : ∀ b u, H b = some u → ¬ Mut (some u) → b ≠ x := fun b u q nm z => by subst z; rw [q] at mu; exact nm mu
  refine ⟨fun b u q n _ _ => k b u (hb b n) q, fun b u q n _ _ => ⟨u.slots, k b u (hb b n) q⟩, fun b u q n _ => by rw [upd_ne (hx b n)]; exact n, fun b u q _ => ?_,
    fun b xs q => by rw [upd_ne (hm b _ q fun z => z)]; exact q, fun b u xs q => by rw [upd_ne (hm b _ q fun z => z)]; exact q, fun b ps q => ⟨#[], by rw [upd_ne (hm b _ q fun z => z), q]; simp⟩⟩
  by_cases hbe : b = e
  · subst hbe; exact heo
  · exact ⟨u, k b u hbe q⟩
end
def trk (h : Heap) (H : Hp) : List Addr := (List.range h.objs.size).filter fun a => (H a).isSome
def hidT (h : Heap) (H : Hp) : Heap := PySem.W.hideAll h (trk h H)
theorem hidT_size (h : Heap) (H : Hp) : (hidT h H).objs.size = h.objs.size := PySem.W.hideAll_size _ _
theorem hidT_get {h : Heap} {H : Hp} {b : Addr} {o : Obj} (e : h.get? b = some o) (n : H b = none) : (hidT h H).get? b = some o :=
  PySem.W.hideAll_get _ e fun hm => by
    have q : (H b).isSome = true := (List.mem_filter.mp hm).2
    rw [n] at q; simp at q
theorem of_hidT {h : Heap} {H : Hp} {b : Addr} {o : Obj} (e : (hidT h H).get? b = some o) : h.get? b = some o ∧ H b = none := by
  have e' : h.get? b = some o := PySem.W.of_hideAll (trk h H) e
  refine ⟨e', ?_⟩
  cases q : H b with
  | none => rfl
  | some x =>
    have hm : b ∈ trk h H := List.mem_filter.mpr ⟨List.mem_range.mpr (Heap.lt_size e'), by simp [q]⟩
    have z : (hidT h H).get? b = none := PySem.W.hideAll_none (trk h H) hm
    rw [z] at e; cases e
end L2
namespace L2
open PySem PySem.Spec PyProof.Rows
structure Mod (K : PySem.W.Frag) (mg : Str → Option Value) (base : Heap) : Prop where
  kin : K.In base
  glob : base.Ns mainGlobals mg
  blt : ∃ mb, base.Ns builtinsNs mb ∧ ∀ x : Str, x ≠ "__name__" → mb x = bootBuiltins x
  nolimit : base.NoLimit
structure Cx where
  prog : Program
  w : World
  K : PySem.W.Frag
  mg : Str → Option Value
  base : Heap
  A : Around
  N : List Str
  s₀ : Shared
  H₀ : Hp
  env : Env
  outer : List Env
  stack : List Env
  ex : List Addr
  fn : Str → Bool
  calm : Bool
  pn : List (Addr × Obj)
  xe : Value → Shared → Prop
def frs (l : List Env) : List Addr := l.filterMap (·.frame)
abbrev Cx.fs (X : Cx) : List Addr := frs X.outer
def Vis (sc : Scope) (x : Str) : Prop := sc.names.lookup x = some .local ∨ sc.names.lookup x = some .cell ∨ sc.names.lookup x = some .free
def Loc (sc : Scope) (x : Str) : Prop := sc.names.lookup x = some .local ∨ sc.names.lookup x = some .cell
def Look (env : Env) (h : Heap) (m : Str → Option Value) (x : Str) (u : Value) : Prop :=
  (env.kindOf x = some .local ∧ m x = some u) ∨ ((env.kindOf x = some .cell ∨ env.kindOf x = some .free) ∧ ∃ c, env.cells.lookup x = some c ∧ h.IsCell c (some u))
structure Cx.Ok (X : Cx) : Prop where
  mod : Mod X.K X.mg X.base
  kind : X.env.scope.kind = .function
  glob : X.env.globals = mainGlobals
  blt : X.env.builtins = builtinsNs
  above : X.s₀.heap.objs.size ≤ X.env.locals
  inj : ∀ x y c, X.env.cells.lookup x = some c → X.env.cells.lookup y = some c → x = y
  has : ∀ x, (X.env.kindOf x = some .cell ∨ X.env.kindOf x = some .free) → ∃ c, X.env.cells.lookup x = some c
  cab : ∀ x c, X.fn x = true → X.env.cells.lookup x = some c → X.s₀.heap.objs.size ≤ c
  hd : X.calm = true → X.A.handled = none
  frames : X.A.frames = some X.stack
  stk : X.stack = X.outer ∨ (X.stack = X.env :: X.outer ∧ X.env.frame = some X.env.locals)
  exf : ∀ b ∈ X.ex, b ≠ X.env.locals ∧ ∀ x c, X.env.cells.lookup x = some c → c ≠ b
  bs : ∀ b o, X.base.get? b = some o → X.s₀.heap.get? b = some o ∧ X.H₀ b = none
  bsz : X.base.objs.size ≤ X.s₀.heap.objs.size
  noex : ∀ b o, X.base.get? b = some o → b ∉ X.ex
  exfs : ∀ b ∈ X.ex, b ∉ X.fs
  funs : X.s₀.heap.FunFrames X.base X.outer
  frf : ∀ b ∈ X.fs, X.H₀ b = none
structure Inv (X : Cx) (pins : List (Addr × Obj)) (σ : List (Option V)) (H : Hp) (s : Shared) : Prop where
  ok : X.Ok
  os : s.os = X.s₀.os
  bare : AllBare s.gens
  base : Un X.fs X.ex X.H₀ H X.s₀.heap s.heap
  loc : ∃ m, s.heap.Ns X.env.locals m ∧ ∀ (i : Nat) (x : Str) (v : V), X.N[i]? = some x → σ[i]? = some (some v) → Vis X.env.scope x → ∃ u, RelV v u ∧ Look X.env s.heap m x u
  cell : ∀ x c, X.env.cells.lookup x = some c → ∃ v, s.heap.IsCell c v
  free : H X.env.locals = none
  freeC : ∀ x c, X.env.cells.lookup x = some c → H c = none
  pin : ∀ p ∈ X.pn ++ pins, s.heap.get? p.1 = some p.2 ∧ H p.1 = none ∧ p.1 ≠ X.env.locals ∧ p.1 ∉ X.fs ∧ ∀ v, p.2.data ≠ .cell v
  hok : HOk X.prog X.w H s.heap
  len : σ.length = X.N.length
section
variable {X : Cx} {pins : List (Addr × Obj)} {σ : List (Option V)} {H H' : Hp} {s : Shared} {h' : Heap}
theorem Cx.Ok.nofr (ok : X.Ok) {b : Addr} {o : Obj} (e : X.base.get? b = some o) : b ∉ X.fs := fun hb => by
  have := (ok.funs.mem hb).1
  rw [e] at this; cases this
theorem Inv.bs (I : Inv X pins σ H s) : ∀ b o, X.base.get? b = some o → s.heap.get? b = some o ∧ H b = none := fun b o e =>
  ⟨I.base.keep b o (I.ok.bs b o e).1 (I.ok.bs b o e).2 (I.ok.nofr e) (I.ok.noex b o e), I.base.free b o (I.ok.bs b o e).1 (I.ok.bs b o e).2 (I.ok.noex b o e)⟩
theorem Inv.bk (I : Inv X pins σ H s) : ∀ b o, X.base.get? b = some o → s.heap.get? b = some o := fun b o e => (I.bs b o e).1
theorem Inv.mod (I : Inv X pins σ H s) : Mod X.K X.mg X.base := I.ok.mod
theorem Inv.kIn (I : Inv X pins σ H s) : X.K.In s.heap := I.ok.mod.kin.keeps I.bk
theorem Inv.lt (I : Inv X pins σ H s) : X.env.locals < s.heap.objs.size := let ⟨_, hn, _⟩ := I.loc; hn.lt
theorem Inv.sz (I : Inv X pins σ H s) : X.s₀.heap.objs.size ≤ s.heap.objs.size := Nat.le_trans I.ok.above (Nat.le_of_lt I.lt)
theorem Inv.nofs (I : Inv X pins σ H s) {a : Addr} (h : s.heap.objs.size ≤ a) : a ∉ X.fs := fun hb => by
  obtain ⟨_, o, ho, _⟩ := I.ok.funs.mem hb
  exact absurd (Nat.lt_of_lt_of_le (Heap.lt_size ho) (Nat.le_trans I.sz h)) (Nat.lt_irrefl _)
theorem Inv.cne (I : Inv X pins σ H s) : ∀ x c, X.env.cells.lookup x = some c → c ≠ X.env.locals := fun x c e z => by
  obtain ⟨v, o, ho, hd⟩ := I.cell x c e
  obtain ⟨m, ⟨o', es, ep, ho', hd', _⟩, _⟩ := I.loc
  rw [z, ho'] at ho; cases ho; rw [hd'] at hd; cases hd
theorem Inv.funs (I : Inv X pins σ H s) : s.heap.FunFrames X.base X.outer := by
  have all : ∀ (l : List Env), (∀ b ∈ frs l, b ∈ X.fs) → X.s₀.heap.FunFrames X.base l → s.heap.FunFrames X.base l := by
    intro l
    induction l with
    | nil => intro _ _; trivial
    | cons env r ih =>
      intro hs hl
      obtain ⟨hk, ⟨L, o, hf, hn, ho, hd⟩, hr⟩ := hl
      have hL : L ∈ X.fs := hs L (by unfold frs; rw [List.filterMap_cons, hf]; exact List.mem_cons_self)
      obtain ⟨sl, e⟩ := I.base.slot L o ho (I.ok.frf L hL) hL fun z => I.ok.exfs L z hL
      exact ⟨hk, ⟨L, _, hf, hn, e, hd⟩, ih (fun b hb => hs b (by unfold frs; rw [List.filterMap_cons, hf]; exact List.mem_cons_of_mem _ hb)) hr⟩
  exact all X.outer (fun _ hb => hb) I.ok.funs
theorem Inv.stack (I : Inv X pins σ H s) : s.heap.FunFrames X.base X.stack := by
  rcases I.ok.stk with e | ⟨e, hf⟩
  · rw [e]; exact I.funs
  · rw [e]
    obtain ⟨m, hn, _⟩ := I.loc
    refine .cons (by rw [I.ok.kind]; decide) hf hn ?_ I.funs
    exact Heap.get?_none_of_le (Nat.le_trans I.ok.bsz I.ok.above)
theorem Inv.stkSub (I : Inv X pins σ H s) : ∀ b ∈ frs X.stack, b ∈ X.env.locals :: X.fs := fun b hb => by
  rcases I.ok.stk with e | ⟨e, hf⟩
  · rw [e] at hb; exact List.mem_cons_of_mem _ hb
  · rw [e] at hb
    unfold frs at hb
    rw [List.filterMap_cons, hf] at hb
    exact hb
theorem Inv.stkFree (I : Inv X pins σ H s) : ∀ b ∈ frs X.stack, H b = none := fun b hb => by
  rcases List.mem_cons.mp (I.stkSub b hb) with e | hb
  · rw [e]; exact I.free
  · obtain ⟨_, o, ho, _⟩ := I.ok.funs.mem hb
    exact I.base.free b o ho (I.ok.frf b hb) fun z => I.ok.exfs b z hb
theorem Inv.step {g' : Array GenState} {t' : Nat} {d' : Drawn} {ch : List Addr} (I : Inv X pins σ H s)
    (hch : ∀ b ∈ ch, (b ∈ X.ex ∨ X.s₀.heap.objs.size ≤ b) ∧ b ≠ X.env.locals ∧ (∀ x c, X.env.cells.lookup x = some c → c ≠ b) ∧ ∀ p ∈ X.pn ++ pins, p.1 ≠ b)
    (keep : ∀ b o, b ≠ X.env.locals → b ∉ X.fs → b ∉ ch → s.heap.get? b = some o → H b = none → h'.get? b = some o)
    (slot : ∀ b o, b ≠ X.env.locals → b ∈ X.fs → b ∉ ch → s.heap.get? b = some o → H b = none → ∃ sl, h'.get? b = some { o with slots := sl }) (free : ∀ b o, b ∉ ch → s.heap.get? b = some o → H b = none → H' b = none)
    (there : ∀ b o, b ∉ ch → s.heap.get? b = some o → ∃ o', h'.get? b = some o')
    (tups : ∀ b xs, H b = some (.tup xs) → H' b = some (.tup xs)) (frzs : ∀ b o u, H b = some (.frz o u) → H' b = some (.frz o u)) (tbls : ∀ b ps, H b = some (.tbl ps) → ∃ more, H' b = some (.tbl (ps ++ more)))
    (ns : ∀ m, s.heap.Ns X.env.locals m → h'.Ns X.env.locals m) (hok : HOk X.prog X.w H' h') (hg : AllBare g') :
    Inv X pins σ H' { s with heap := h', gens := g', drawn := d', toks := t' } := by
  have neL : ∀ b o, X.s₀.heap.get? b = some o → b ≠ X.env.locals := fun b o e => Nat.ne_of_lt (Nat.lt_of_lt_of_le (Heap.lt_size e) I.ok.above)
  have neC : ∀ b o, X.s₀.heap.get? b = some o → b ∉ X.ex → b ∉ ch := fun b o e hx hb => by
    rcases (hch b hb).1 with z | z
    · exact hx z
    · exact absurd (Nat.lt_of_lt_of_le (Heap.lt_size e) z) (Nat.lt_irrefl _)
  have cellK : ∀ x c, X.env.cells.lookup x = some c → ∀ v, s.heap.IsCell c v → h'.IsCell c v := fun x c e v ⟨o, ho, hd⟩ => by
    have nch : c ∉ ch := fun z => (hch c z).2.2.1 x c e rfl
    by_cases hc : c ∈ X.fs
    · obtain ⟨sl, q⟩ := slot c o (I.cne x c e) hc nch ho (I.freeC x c e)
      exact ⟨_, q, hd⟩
    · exact ⟨o, keep c o (I.cne x c e) hc nch ho (I.freeC x c e), hd⟩
  refine ⟨I.ok, I.os, hg, ⟨fun b o e n hb hx => ?_, fun b o e n hb hx => ?_, fun b o e n hx => ?_, fun b o e hx => ?_, fun b xs e => tups b xs (I.base.tups b xs e), fun b o xs e => frzs b o xs (I.base.frzs b o xs e), fun b ps e => ?_⟩, ?_, fun x c e => ?_, ?_, fun x c e => ?_, fun p hp => ?_, hok, I.len⟩
  · exact keep b o (neL b o e) hb (neC b o e hx) (I.base.keep b o e n hb hx) (I.base.free b o e n hx)
  · obtain ⟨sl, e1⟩ := I.base.slot b o e n hb hx
    obtain ⟨sl', e2⟩ := slot b _ (neL b o e) hb (neC b o e hx) e1 (I.base.free b o e n hx)
    exact ⟨sl', e2⟩
  · obtain ⟨o', e1⟩ := I.base.there b o e hx
    exact free b o' (neC b o e hx) e1 (I.base.free b o e n hx)
  · obtain ⟨o', e1⟩ := I.base.there b o e hx
    exact there b o' (neC b o e hx) e1
  · obtain ⟨m1, e1⟩ := I.base.tbls b ps e
    obtain ⟨m2, e2⟩ := tbls b _ e1
    exact ⟨m1 ++ m2, by rw [e2, Array.append_assoc]⟩
  · obtain ⟨m, hn, hl⟩ := I.loc
    refine ⟨m, ns m hn, fun i x v e1 e2 e3 => ?_⟩
    obtain ⟨u, r, l⟩ := hl i x v e1 e2 e3
    refine ⟨u, r, ?_⟩
    rcases l with l | ⟨k, c, e, z⟩
    · exact .inl l
    · exact .inr ⟨k, c, e, cellK x c e _ z⟩
  · obtain ⟨v, z⟩ := I.cell x c e
    exact ⟨v, cellK x c e v z⟩
  · obtain ⟨m, ⟨o, _, _, ho, _⟩, _⟩ := I.loc
    exact free _ o (fun z => (hch _ z).2.1 rfl) ho I.free
  · obtain ⟨v, o, ho, hd⟩ := I.cell x c e
    exact free c o (fun z => (hch c z).2.2.1 x c e rfl) ho (I.freeC x c e)
  · obtain ⟨e, n, ne, nf, d⟩ := I.pin p hp
    have nch : p.1 ∉ ch := fun z => (hch p.1 z).2.2.2 p hp rfl
    exact ⟨keep p.1 p.2 ne nf nch e n, free p.1 p.2 nch e n, ne, nf, d⟩
theorem Inv.un {t' : Nat} (I : Inv X pins σ H s) (u : Un X.fs [] H H' s.heap h') (hok : HOk X.prog X.w H' h') : Inv X pins σ H' { s with heap := h', toks := t' } := by
  obtain ⟨m, ⟨o, es, ep, ho, r⟩, _⟩ := id I.loc
  obtain ⟨sl, hL⟩ := u.any ho I.free (by simp)
  exact I.step (g' := s.gens) (d' := s.drawn) (ch := []) (fun _ z => nomatch z) (fun b o _ hb _ e n => u.keep b o e n hb (by simp)) (fun b o _ hb _ e n => u.slot b o e n hb (by simp)) (fun b o _ e n => u.free b o e n (by simp)) (fun b o _ e => u.there b o e (by simp)) u.tups u.frzs u.tbls (fun m' hm => by
    obtain ⟨o', es', ep', ho', r'⟩ := hm
    rw [ho] at ho'; cases ho'
    exact ⟨_, es', ep', hL, r'⟩) hok I.bare
theorem Inv.call {g' : Array GenState} {t' : Nat} {d' : Drawn} {ch : List Addr} (I : Inv X pins σ H s) (u : Un (frs X.stack) ch H H' s.heap h') (hok : HOk X.prog X.w H' h') (hg : AllBare g')
    (hch : ∀ b ∈ ch, (b ∈ X.ex ∨ X.s₀.heap.objs.size ≤ b) ∧ b ≠ X.env.locals ∧ (∀ x c, X.env.cells.lookup x = some c → c ≠ b) ∧ ∀ p ∈ X.pn ++ pins, p.1 ≠ b) :
    Inv X pins σ H' { s with heap := h', gens := g', drawn := d', toks := t' } := by
  obtain ⟨m, ⟨o, es, ep, ho, r⟩, _⟩ := id I.loc
  obtain ⟨sl, hL⟩ := u.any ho I.free fun z => (hch _ z).2.1 rfl
  exact I.step (ch := ch) hch (fun b o hL hb hc e n => u.keep b o e n (fun z => (List.mem_cons.mp (I.stkSub b z)).elim hL hb) hc) (fun b o _ _ hc e n => u.any e n hc) (fun b o hc e n => u.free b o e n hc) (fun b o hc e => u.there b o e hc) u.tups u.frzs u.tbls (fun m' hm => by
    obtain ⟨o', es', ep', ho', r'⟩ := hm
    rw [ho] at ho'; cases ho'
    exact ⟨_, es', ep', hL, r'⟩) hok hg
theorem Inv.turned {t' : Nat} {it : Addr} (I : Inv X pins σ H s) (k : ∀ b o, b ≠ it → s.heap.get? b = some o → h'.get? b = some o) (hn : H it = none) (hL : it ≠ X.env.locals)
    (h1 : it ∈ X.ex ∨ X.s₀.heap.objs.size ≤ it) (h2 : ∀ x c, X.env.cells.lookup x = some c → c ≠ it) (h3 : ∀ p ∈ X.pn ++ pins, p.1 ≠ it) : Inv X pins σ H { s with heap := h', toks := t' } := by
  have nit : ∀ b u, H b = some u → b ≠ it := fun b u e z => by rw [z, hn] at e; cases e
  refine I.step (g' := s.gens) (d' := s.drawn) (ch := [it]) (fun b hb => ?_) (fun b o _ _ hc e _ => k b o (fun z => hc (by simp [z])) e) (fun b o _ _ hc e _ => ⟨o.slots, k b o (fun z => hc (by simp [z])) e⟩) (fun _ _ _ _ n => n)
    (fun b o hc e => ⟨o, k b o (fun z => hc (by simp [z])) e⟩) (fun _ _ e => e) (fun _ _ _ e => e) (fun b ps e => ⟨#[], by rw [e]; simp⟩) (fun m hm => ?_) (fun b u e => ?_) I.bare
  · have e : b = it := by simpa using hb
    subst e
    exact ⟨h1, hL, h2, h3⟩
  · obtain ⟨o, es, ep, ho, r⟩ := hm
    exact ⟨o, es, ep, k _ o (Ne.symm hL) ho, r⟩
  · refine (I.hok b u e).stay (fun c v hc q => k c v ?_ q) (fun _ q => q) fun _ _ q => q
    rcases hc with z | z
    · rw [z]; exact nit b u e
    · exact nit c _ z
theorem Inv.tok (I : Inv X pins σ H s) (t : Nat) : Inv X pins σ H { s with toks := t } := I.un (h' := s.heap) (t' := t) Un.refl I.hok
theorem Inv.kept {t' : Nat} (I : Inv X pins σ H s) (k : ∀ b u, s.heap.get? b = some u → h'.get? b = some u) : Inv X pins σ H { s with heap := h', toks := t' } := I.un (Un.kept k) (I.hok.kept k)
theorem Inv.laid {a : Addr} {o : HO} {t' : Nat} (I : Inv X pins σ H s) (k : ∀ b u, s.heap.get? b = some u → h'.get? b = some u) (hp : s.heap.objs.size ≤ a) (new : ObjOk X.prog X.w (upd H a o) h' a o) :
    Inv X pins σ (upd H a o) { s with heap := h', toks := t' } := I.un (Un.laid k hp (I.hok.fresh hp)) (I.hok.laid k hp new)
theorem Inv.write {x e : Addr} {o : HO} {t' : Nat} (I : Inv X pins σ H s) (mu : Mut (H x)) (he : e = x ∨ H e = some (.own x)) (k : ∀ b u, b ≠ e → s.heap.get? b = some u → h'.get? b = some u) (heo : ∃ u, h'.get? e = some u)
    (new : ObjOk X.prog X.w (upd H x o) h' x o) : Inv X pins σ (upd H x o) { s with heap := h', toks := t' } := I.un (Un.write mu he k heo) (I.hok.write mu he k heo new)
theorem Inv.weak {σ' : List (Option V)} (I : Inv X pins σ H s) (hl : σ'.length = σ.length) (w : ∀ (i : Nat) v, σ'[i]? = some (some v) → σ[i]? = some (some v)) : Inv X pins σ' H s :=
  ⟨I.ok, I.os, I.bare, I.base, let ⟨m, hn, hl'⟩ := I.loc; ⟨m, hn, fun i x v e1 e2 e3 => hl' i x v e1 (w i v e2) e3⟩, I.cell, I.free, I.freeC, I.pin, I.hok, hl.trans I.len⟩
theorem Inv.pins_of {pins' : List (Addr × Obj)} (I : Inv X pins σ H s) (h : ∀ p ∈ pins', s.heap.get? p.1 = some p.2 ∧ H p.1 = none ∧ p.1 ≠ X.env.locals ∧ p.1 ∉ X.fs ∧ ∀ v, p.2.data ≠ .cell v) : Inv X pins' σ H s :=
  ⟨I.ok, I.os, I.bare, I.base, I.loc, I.cell, I.free, I.freeC, fun p hp => (List.mem_append.mp hp).elim (fun z => I.pin p (List.mem_append_left _ z)) (h p), I.hok, I.len⟩
theorem nodup_ix {N : List Str} (hN : N.Nodup) {i j : Nat} {x : Str} (a : N[i]? = some x) (b : N[j]? = some x) : i = j := by
  obtain ⟨h1, e1⟩ := List.getElem?_eq_some_iff.mp a
  obtain ⟨h2, e2⟩ := List.getElem?_eq_some_iff.mp b
  exact (List.getElem_inj hN).mp (e1.trans e2.symm)
theorem store_ok2 {M : Model} {A : Around} {E : Value → Shared → Prop} {i : Nat} {x : Str} {v : V} {u : Value} {Q : Unit → Shared → Prop} (I : Inv X pins σ H s) (hN : X.N.Nodup) (hi : X.N[i]? = some x) (hx : Loc X.env.scope x) (r : RelV v u)
    (h : ∀ s', Inv X pins (σ.set i (some v)) H s' → (∃ a, Heap.SameBut a s.heap s'.heap ∧ (a = X.env.locals ∨ X.env.cells.lookup x = some a)) → Q () s') (hf : X.fn x = true ∨ X.env.scope.names.lookup x = some .local := by first | exact .inl rfl | exact .inr rfl | assumption) : wpAny M A (storeName X.env x u) Q E s := by
  obtain ⟨m, hn, hl⟩ := id I.loc
  have hcls : (X.env.scope.kind == .class || (X.env.scope.kind == .module && X.env.locals != X.env.globals)) = false := by rw [I.ok.kind]; rfl
  have hiσ : i < σ.length := by rw [I.len]; exact (List.getElem?_eq_some_iff.mp hi).1
  have cne := I.cne
  have tracked : ∀ {a : Addr} {h' : Heap}, (∃ o, s.heap.get? a = some o ∧ H a = none) → Heap.SameBut a s.heap h' → HOk X.prog X.w H h' := fun {a h'} ha hs b ob e => by
    obtain ⟨_, _, hfree⟩ := ha
    refine (I.hok b ob e).stay (fun c w' hc q => (hs.2 c ?_).trans q) (fun _ q => q) fun _ _ q => q
    rintro rfl
    rcases hc with rfl | hc
    · rw [hfree] at e; cases e
    · rw [hfree] at hc; cases hc
  rcases hx with hk | hk
  · refine wpAny_storeName_local hk hn (fun h' hn' hs => ?_) hcls
    obtain ⟨oL, _, _, hoL, _⟩ := id hn
    refine h _ ⟨I.ok, I.os, I.bare, ⟨fun b o e n hb hx => ?_, fun b o e n hb hx => ?_, I.base.free, fun b o e hx => ?_, I.base.tups, I.base.frzs, I.base.tbls⟩, ⟨_, hn', fun j y v' e1 e2 e3 => ?_⟩, fun y c e => ?_, I.free, I.freeC, fun p hp => ?_, tracked ⟨oL, hoL, I.free⟩ hs, by simpa using I.len⟩ ⟨_, hs, .inl rfl⟩
    · exact (hs.2 b (Nat.ne_of_lt (Nat.lt_of_lt_of_le (Heap.lt_size e) I.ok.above))).trans (I.base.keep b o e n hb hx)
    · obtain ⟨sl, e1⟩ := I.base.slot b o e n hb hx
      exact ⟨sl, (hs.2 b (Nat.ne_of_lt (Nat.lt_of_lt_of_le (Heap.lt_size e) I.ok.above))).trans e1⟩
    · obtain ⟨o', e1⟩ := I.base.there b o e hx
      exact ⟨o', (hs.2 b (Nat.ne_of_lt (Nat.lt_of_lt_of_le (Heap.lt_size e) I.ok.above))).trans e1⟩
    · by_cases hj : j = i
      · subst hj
        rw [hi] at e1; cases e1
        rw [List.getElem?_set_self hiσ] at e2
        cases e2
        exact ⟨u, r, .inl ⟨hk, by simp⟩⟩
      · rw [List.getElem?_set_ne (Ne.symm hj)] at e2
        obtain ⟨u', r', q⟩ := hl j y v' e1 e2 e3
        refine ⟨u', r', ?_⟩
        rcases q with ⟨k, e⟩ | ⟨k, c, e, z⟩
        · refine .inl ⟨k, ?_⟩
          have : y ≠ x := fun e => hj (nodup_ix hN e1 (e ▸ hi))
          simp [this, e]
        · exact .inr ⟨k, c, e, z.sameBut hs (cne y c e)⟩
    · obtain ⟨w', z⟩ := I.cell y c e
      exact ⟨w', z.sameBut hs (cne y c e)⟩
    · obtain ⟨e, n, ne, nf, d⟩ := I.pin p hp
      exact ⟨(hs.2 p.1 ne).trans e, n, ne, nf, d⟩
  · have hfn : X.fn x = true := by
      rcases hf with z | z
      · exact z
      · rw [z] at hk; cases hk
    obtain ⟨c, hc⟩ := I.ok.has x (.inl hk)
    obtain ⟨w', z⟩ := I.cell x c hc
    refine wpAny_storeName_cell I.ok.kind hk hc z (fun h' hc' hs => ?_)
    obtain ⟨oc, hoc, hocd⟩ := id z
    refine h { s with heap := h' } ⟨I.ok, I.os, I.bare, ⟨fun b o e n hb hx => ?_, fun b o e n hb hx => ?_, I.base.free, fun b o e hx => ?_, I.base.tups, I.base.frzs, I.base.tbls⟩, ⟨m, hn.sameBut hs (Ne.symm (cne x c hc)), fun j y v' e1 e2 e3 => ?_⟩, fun y c' e => ?_, I.free, I.freeC, fun p hp => ?_, tracked ⟨oc, hoc, I.freeC x c hc⟩ hs, by simpa using I.len⟩ ⟨c, hs, .inr hc⟩
    · exact (hs.2 b (Nat.ne_of_lt (Nat.lt_of_lt_of_le (Heap.lt_size e) (I.ok.cab x c hfn hc)))).trans (I.base.keep b o e n hb hx)
    · obtain ⟨sl, e1⟩ := I.base.slot b o e n hb hx
      exact ⟨sl, (hs.2 b (Nat.ne_of_lt (Nat.lt_of_lt_of_le (Heap.lt_size e) (I.ok.cab x c hfn hc)))).trans e1⟩
    · obtain ⟨o', e1⟩ := I.base.there b o e hx
      exact ⟨o', (hs.2 b (Nat.ne_of_lt (Nat.lt_of_lt_of_le (Heap.lt_size e) (I.ok.cab x c hfn hc)))).trans e1⟩
    · by_cases hj : j = i
      · subst hj
        rw [hi] at e1; cases e1
        rw [List.getElem?_set_self hiσ] at e2
        cases e2
        exact ⟨u, r, .inr ⟨.inl hk, c, hc, hc'⟩⟩
      · rw [List.getElem?_set_ne (Ne.symm hj)] at e2
        obtain ⟨u', r', q⟩ := hl j y v' e1 e2 e3
        refine ⟨u', r', ?_⟩
        rcases q with q | ⟨k, c', e, z'⟩
        · exact .inl q
        · refine .inr ⟨k, c', e, z'.sameBut hs ?_⟩
          rintro rfl
          exact hj (nodup_ix hN e1 (I.ok.inj _ _ _ e hc ▸ hi))
    · by_cases hcc : c' = c
      · subst hcc; exact ⟨_, hc'⟩
      · obtain ⟨w2, z2⟩ := I.cell y c' e
        exact ⟨w2, z2.sameBut hs hcc⟩
    · obtain ⟨e, n, ne, nf, d⟩ := I.pin p hp
      refine ⟨(hs.2 p.1 ?_).trans e, n, ne, nf, d⟩
      intro q
      rw [q, hoc] at e
      have q' : oc = p.2 := Option.some.inj e
      exact d w' (by rw [← q']; exact hocd)
theorem store_ok {M : Model} {A : Around} {E : Value → Shared → Prop} {i : Nat} {x : Str} {v : V} {u : Value} {Q : Unit → Shared → Prop} (I : Inv X pins σ H s) (hN : X.N.Nodup) (hi : X.N[i]? = some x) (hx : Loc X.env.scope x) (r : RelV v u)
    (h : ∀ s', Inv X pins (σ.set i (some v)) H s' → Q () s') (hf : X.fn x = true ∨ X.env.scope.names.lookup x = some .local := by first | exact .inl rfl | exact .inr rfl | assumption) : wpAny M A (storeName X.env x u) Q E s :=
  store_ok2 I hN hi hx r (fun s' I' _ => h s' I') hf
theorem Inv.call' {s' : Shared} {ch : List Addr} (I : Inv X pins σ H s) (ho : s'.os = s.os) (u : Un (frs X.stack) ch H H' s.heap s'.heap) (hok : HOk X.prog X.w H' s'.heap) (hg : AllBare s'.gens)
    (hch : ∀ b ∈ ch, (b ∈ X.ex ∨ X.s₀.heap.objs.size ≤ b) ∧ b ≠ X.env.locals ∧ (∀ x c, X.env.cells.lookup x = some c → c ≠ b) ∧ ∀ p ∈ X.pn ++ pins, p.1 ≠ b) : Inv X pins σ H' s' := by
  obtain ⟨h', g', d', t', o'⟩ := s'
  have e : o' = s.os := ho
  subst e
  exact I.call (g' := g') (t' := t') (d' := d') u hok hg hch
end
abbrev XK := Value → Option Addr → Hp → Prop
abbrev St := List (Option V)
abbrev VK := V → Hp → Prop
abbrev TE := St → Hp → VK → Prop
abbrev TT := St → Hp → (Bool → Hp → Prop) → Prop
abbrev TA := St → Hp → (List V → Hp → Prop) → Prop
structure Ends where
  nx : St → Hp → Prop
  rt : VK
  bk : St → Hp → Prop := fun _ _ => False
  ct : St → Hp → Prop := fun _ _ => False
abbrev TS := Ends → St → Hp → Prop
def EP (X : Cx) (pins : List (Addr × Obj)) (σ : St) (Q : VK) (u : Value) (s' : Shared) : Prop := ∃ v H', Inv X pins σ H' s' ∧ RelV v u ∧ Q v H'
def TP (X : Cx) (pins : List (Addr × Obj)) (σ : St) (Q : Bool → Hp → Prop) (b : Bool) (s' : Shared) : Prop := ∃ H', Inv X pins σ H' s' ∧ Q b H'
def AP (X : Cx) (pins : List (Addr × Obj)) (σ : St) (Q : List V → Hp → Prop) (us : List Value) (s' : Shared) : Prop := ∃ vs H', Inv X pins σ H' s' ∧ Vals vs us ∧ Q vs H'
def SP (X : Cx) (pins : List (Addr × Obj)) (D : Ends) (f : Flow) (s' : Shared) : Prop :=
  match f with
  | .next => ∃ σ' H', Inv X pins σ' H' s' ∧ D.nx σ' H'
  | .brk => ∃ σ' H', Inv X pins σ' H' s' ∧ D.bk σ' H'
  | .cont => ∃ σ' H', Inv X pins σ' H' s' ∧ D.ct σ' H'
  | .ret u => ∃ v σ' H', Inv X pins σ' H' s' ∧ RelV v u ∧ D.rt v H'
def PE (X : Cx) (e : Expr) (t : TE) : Prop :=
  ∀ (pins : List (Addr × Obj)) (s : Shared) (σ : St) (H : Hp) (Q : VK), Inv X pins σ H s → t σ H Q → wpAny (model X.prog X.w) X.A (eval e X.env) (EP X pins σ Q) X.xe s
def PT (X : Cx) (e : Expr) (t : TT) : Prop :=
  ∀ (pins : List (Addr × Obj)) (s : Shared) (σ : St) (H : Hp) (Q : Bool → Hp → Prop), Inv X pins σ H s → t σ H Q → wpAny (model X.prog X.w) X.A (isTrue e X.env (eval e X.env)) (TP X pins σ Q) X.xe s
def PW (X : Cx) (e : Expr) (t : TT) : Prop :=
  ∀ (whole : Sem Value) (pins : List (Addr × Obj)) (s : Shared) (σ : St) (H : Hp) (Q : Bool → Hp → Prop), Inv X pins σ H s → t σ H Q → wpAny (model X.prog X.w) X.A (isTrue e X.env whole) (TP X pins σ Q) X.xe s
theorem PW.pt {X : Cx} {e : Expr} {t : TT} (h : PW X e t) : PT X e t := h _
def PA (X : Cx) (es : List Expr) (t : TA) : Prop :=
  ∀ (pos : Pos) (pins : List (Addr × Obj)) (s : Shared) (σ : St) (H : Hp) (Q : List V → Hp → Prop), Inv X pins σ H s → t σ H Q → wpAny (model X.prog X.w) X.A (spliced (backTo pos (starEach es X.env))) (AP X pins σ Q) X.xe s
def PS (X : Cx) (st : Stmt) (t : TS) : Prop :=
  ∀ (pins : List (Addr × Obj)) (s : Shared) (σ : St) (H : Hp) (D : Ends), Inv X pins σ H s → t D σ H → wpAny (model X.prog X.w) X.A (exec st X.env) (SP X pins D) X.xe s
def PSs (X : Cx) (st : List Stmt) (t : TS) : Prop :=
  ∀ (pins : List (Addr × Obj)) (s : Shared) (σ : St) (H : Hp) (D : Ends), Inv X pins σ H s → t D σ H → wpAny (model X.prog X.w) X.A (execs st X.env) (SP X pins D) X.xe s
theorem thn {α : Type} {t : Sem α} {Q Q' : α → Shared → Prop} {M : Model} {A : Around} {E : Value → Shared → Prop} {s : Shared} (h : wpAny M A t Q E s) (hQ : ∀ a s, Q a s → Q' a s) : wpAny M A t Q' E s := wpAny_mono h hQ fun _ _ x => x
end L2
namespace L2
open PySem PySem.Spec PyProof.Rows
section
variable {X : Cx}
def tVar (i : Nat) : TE := fun σ H Q => ∃ v, σ[i]? = some (some v) ∧ Q v H
def tC (v : V) : TE := fun _ H Q => Q v H
theorem pe_var {i : Nat} {x : Str} {pos : Pos} (hN : X.N[i]? = some x) (hv : Vis X.env.scope x) (hd : (x == ("__debug__" : Str)) = false := by decide) (hcd : (x == ("__classdict__" : Str)) = false := by decide) : PE X (.Name x pos) (tVar i) := by
  intro pins s σ H Q I h
  obtain ⟨v, e, h⟩ := h
  obtain ⟨m, hn, hl⟩ := I.loc
  obtain ⟨u, r, l⟩ := hl i x v hN e hv
  have fin : EP X pins σ Q u s := ⟨v, H, I, r, h⟩
  rcases l with ⟨hk, hm⟩ | ⟨hk, c, hc, hcell⟩
  · exact wpAny_Name (wpAny_loadName_local I.ok.kind hk hn hm fin) hd
  · rcases hk with hk | hk
    · exact wpAny_Name (wpAny_loadName_cell I.ok.kind hk hc hcell fin) hd
    · exact wpAny_Name (wpAny_loadName_free I.ok.kind hk hc hcell fin hcd) hd
theorem pe_int {i j pos} : PE X (.Constant (.int i) j pos) (tC (.int i)) := fun _ _ _ H _ I h => wpAny_Constant_int ⟨.int i, H, I.tok _, ⟨_, rfl⟩, h⟩
theorem pe_bl {b j pos} : PE X (.Constant (.bool b) j pos) (tC (.bl b)) := fun _ _ _ H _ I h => Constant_bool ⟨.bl b, H, I, rfl, h⟩
theorem pe_non {j pos} : PE X (.Constant .none j pos) (tC .non) := fun _ _ _ H _ I h => Constant_none ⟨.non, H, I, rfl, h⟩
theorem pe_str {x j pos} : PE X (.Constant (.str x) j pos) (tC (.str x)) := fun _ _ _ H _ I h => Calls.Constant_str ⟨.str x, H, I.tok _, ⟨_, rfl⟩, h⟩
def Gl (X : Cx) (x : Str) : Prop := X.env.kindOf x = some .globalImplicit
theorem ld_glob {E : Value → Shared → Prop} {pins : List (Addr × Obj)} {s : Shared} {σ : St} {H : Hp} {x : Str} {u : Value} {pos : Pos} {Q : Value → Shared → Prop} (I : Inv X pins σ H s) (hg : Gl X x) (hm : X.mg x = some u) (h : Q u s)
    (hd : (x == ("__debug__" : Str)) = false := by decide) : wpAny (model X.prog X.w) X.A (eval (.Name x pos) X.env) Q E s :=
  Calls.Name_function_global I.ok.kind hg (Calls.loadGlobal_global (by rw [I.ok.glob]; exact I.mod.glob.keeps I.bk) hm h) hd
theorem ld_blt {E : Value → Shared → Prop} {pins : List (Addr × Obj)} {s : Shared} {σ : St} {H : Hp} {x : Str} {u : Value} {pos : Pos} {Q : Value → Shared → Prop} (I : Inv X pins σ H s) (hg : Gl X x) (hm : X.mg x = none) (hv : bootBuiltins x = some u) (h : Q u s)
    (hn : x ≠ "__name__" := by decide) (hd : (x == ("__debug__" : Str)) = false := by decide) : wpAny (model X.prog X.w) X.A (eval (.Name x pos) X.env) Q E s := by
  obtain ⟨mb, h1, h2⟩ := I.mod.blt
  exact Calls.Name_function_global I.ok.kind hg (Calls.loadGlobal_builtin (by rw [I.ok.glob]; exact I.mod.glob.keeps I.bk) hm (by rw [I.ok.blt]; exact h1.keeps I.bk) ((h2 x hn).trans hv) h) hd
theorem pe_glob {x : Str} {v : V} {u : Value} {pos : Pos} (hg : Gl X x) (hm : X.mg x = some u) (r : RelV v u) (hd : (x == ("__debug__" : Str)) = false := by decide) : PE X (.Name x pos) (tC v) :=
  fun _ _ _ H _ I h => ld_glob I hg hm ⟨v, H, I, r, h⟩ hd
theorem pe_bltn {x : Str} {v : V} {u : Value} {pos : Pos} (hg : Gl X x) (hm : X.mg x = none) (hv : bootBuiltins x = some u) (r : RelV v u) (hn : x ≠ "__name__" := by decide) (hd : (x == ("__debug__" : Str)) = false := by decide) : PE X (.Name x pos) (tC v) :=
  fun _ _ _ H _ I h => ld_blt I hg hm hv ⟨v, H, I, r, h⟩ hn hd
variable {a b : Expr} {ta tb : TE} {pos : Pos}
variable {tA tB' : TT} {rest : List Expr}
def tOr (t u : TT) : TT := fun σ H Q => t σ H fun c H1 => if c = true then Q true H1 else u σ H1 Q
def tNot (t : TT) : TT := fun σ H Q => t σ H fun c H1 => Q (!c) H1
theorem pw_or1 (ha : PT X a tA) : PW X (.BoolOp .Or [a] pos) tA := by
  intro wh pins s σ H Q I h
  refine isTrue_or (thn (ha pins s σ H Q I h) fun c s1 e => ?_)
  cases c with
  | false => exact isTrue_or_nil e
  | true => exact e
theorem pw_or (ha : PT X a tA) (hb : PW X (.BoolOp .Or (b :: rest) pos) tB') : PW X (.BoolOp .Or (a :: b :: rest) pos) (tOr tA tB') := by
  intro wh pins s σ H Q I h
  refine isTrue_or (thn (ha pins s σ H _ I h) fun c s1 ⟨H1, I1, q1⟩ => ?_)
  cases c with
  | true => exact ⟨H1, I1, q1⟩
  | false => exact hb wh pins s1 σ H1 Q I1 q1
theorem pt_not (ha : PT X a tA) : PT X (.UnaryOp .Not a pos) (tNot tA) := by
  intro pins s σ H Q I h
  exact isTrue_not (ha pins s σ H (fun c H1 => Q (!c) H1) I h)
def tAndV (ta tb : TE) : TE := fun σ H Q => ta σ H fun x H1 => ∃ c, x = .bl c ∧ if c = true then tb σ H1 Q else Q (.bl false) H1
def tNotV (ta : TE) : TE := fun σ H Q => ta σ H fun x H1 => ∃ c, x = .bl c ∧ Q (.bl (!c)) H1
theorem pe_one {op} {t : TE} (h : PE X a t) : PE X (.BoolOp op [a] pos) t := fun pins s σ H Q I hw => BoolOp_one (h pins s σ H Q I hw)
theorem pe_and (ha : PE X a ta) (hb : PE X (.BoolOp .And (b :: rest) pos) tb) : PE X (.BoolOp .And (a :: b :: rest) pos) (tAndV ta tb) := by
  intro pins s σ H Q I h
  refine BoolOp_and (thn (ha pins s σ H _ I h) fun v s1 ⟨x, H1, I1, r1, q1⟩ => ?_)
  obtain ⟨c, rfl, q1⟩ := q1
  cases r1
  refine wpAny_truthy_bool ?_
  cases c with
  | true => exact hb pins s1 σ H1 Q I1 q1
  | false => exact ⟨.bl false, H1, I1, rfl, q1⟩
theorem pe_not (ha : PE X a ta) : PE X (.UnaryOp .Not a pos) (tNotV ta) := by
  intro pins s σ H Q I h
  refine UnaryOp_ (thn (ha pins s σ H _ I h) fun v s1 ⟨x, H1, I1, r1, q1⟩ => ?_)
  obtain ⟨c, rfl, q1⟩ := q1
  cases r1
  exact not_of (wpAny_truthy_bool ⟨.bl (!c), H1, I1, rfl, q1⟩)
def tIf (t : TT) (ta tb : TE) : TE := fun σ H Q => t σ H fun c H1 => if c = true then ta σ H1 Q else tb σ H1 Q
theorem pe_ifExp {c : Expr} (hc : PT X c tA) (ha : PE X a ta) (hb : PE X b tb) : PE X (.IfExp c a b pos) (tIf tA ta tb) := by
  intro pins s σ H Q I h
  refine wpAny_IfExp (thn (hc pins s σ H _ I h) fun d s1 ⟨H1, I1, q1⟩ => ?_)
  cases d with
  | true => exact ha pins s1 σ H1 Q I1 q1
  | false => exact hb pins s1 σ H1 Q I1 q1
end
end L2
namespace L2
open PySem PySem.Spec PyProof.Rows
def SqL (K : PySem.W.Frag) (H : Hp) (a : Addr) (xs : List V) : Prop :=
  Rd H a (.lst xs) ∨
    ∃ (o : Obj) (its : Array Value) (n : Nat), K.lookup a = some o ∧ o.cls = .type "list" ∧ o.dict = none ∧ o.data = .seq its n ∧ its.size ≤ sizeLine ∧ Vals xs its.toList
def SqT (K : PySem.W.Frag) (H : Hp) (a : Addr) (xs : List V) : Prop :=
  Rd H a (.tup xs) ∨
    ∃ (o : Obj) (its : Array Value) (n : Nat), K.lookup a = some o ∧ o.cls = .type "tuple" ∧ o.data = .seq its n ∧ its.size ≤ sizeLine ∧ Vals xs its.toList
def absV : Value → Option V
  | .none => some .non
  | .bool b => some (.bl b)
  | .int i _ => some (.int i)
  | .str x _ => some (.str x)
  | .bytes b _ => some (.byt b)
  | .float b _ => some (.flt b)
  | .ref a => some (.ref a)
  | .type n => some (.ty n)
  | _ => none
theorem RelV.abs {x : V} {u : Value} (r : RelV x u) : absV u = some x := by
  cases x with
  | non => cases r; rfl
  | bl _ => cases r; rfl
  | int _ => obtain ⟨t, rfl⟩ := r; rfl
  | str _ => obtain ⟨t, rfl⟩ := r; rfl
  | byt _ => obtain ⟨t, rfl⟩ := r; rfl
  | flt _ => obtain ⟨t, rfl⟩ := r; rfl
  | ref _ => cases r; rfl
  | ty _ => cases r; rfl
theorem RelV.inj {x y : V} {u : Value} (r : RelV x u) (q : RelV y u) : x = y := Option.some.inj (r.abs.symm.trans q.abs)
theorem Vals.inj : ∀ {xs ys : List V} {us : List Value}, Vals xs us → Vals ys us → xs = ys
  | _, _, _, .nil, .nil => rfl
  | _, _, _, .cons r t, .cons r' t' => by rw [r.inj r', Vals.inj t t']
section
variable {X : Cx} {pins : List (Addr × Obj)} {σ : St} {H : Hp} {s : Shared} {a : Addr} {xs ys : List V}
theorem SqL.of {K : PySem.W.Frag} (h : H a = some (.lst xs)) : SqL K H a xs := .inl (.inl h)
theorem SqT.of {K : PySem.W.Frag} (h : H a = some (.tup xs)) : SqT K H a xs := .inl (.inl h)
theorem Inv.list (I : Inv X pins σ H s) (h : SqL X.K H a xs) : ∃ its : List Value, Vals xs its ∧ PlainL s.heap a its.toArray ∧ xs.length ≤ sizeLine := by
  rcases h with h | ⟨o, its, n, hk, hc, hd, hs, hz, r⟩
  · obtain ⟨z, its, n, r, e⟩ := h.ok I.hok
    exact ⟨its, r, ⟨_, n, e, rfl, rfl, rfl⟩, z⟩
  · refine ⟨its.toList, r, ⟨o, n, I.kIn a o hk, hc, hd, by simpa using hs⟩, ?_⟩
    have e := r.length
    simp only [Array.length_toList] at e
    omega
theorem Inv.tuple (I : Inv X pins σ H s) (h : SqT X.K H a xs) : ∃ its : List Value, Vals xs its ∧ IsTup s.heap a its.toArray ∧ xs.length ≤ sizeLine := by
  rcases h with h | ⟨o, its, n, hk, hc, hs, hz, r⟩
  · obtain ⟨z, its, r, p⟩ := h.ok I.hok
    exact ⟨its, r, p, z⟩
  · refine ⟨its.toList, r, ⟨o, I.kIn a o hk, hc, n, by simpa using hs⟩, ?_⟩
    have e := r.length
    simp only [Array.length_toList] at e
    omega
theorem Inv.list_inj (I : Inv X pins σ H s) (h : SqL X.K H a xs) (h' : SqL X.K H a ys) : xs = ys := by
  obtain ⟨its, r, ⟨o, n, e, _, _, d⟩, _⟩ := I.list h
  obtain ⟨its', r', ⟨o', n', e', _, _, d'⟩, _⟩ := I.list h'
  rw [e] at e'; cases e'
  rw [d] at d'
  injection d' with d1 _
  have : its = its' := by simpa using congrArg Array.toList d1
  subst this
  exact r.inj r'
theorem Inv.tuple_inj (I : Inv X pins σ H s) (h : SqT X.K H a xs) (h' : SqT X.K H a ys) : xs = ys := by
  obtain ⟨its, r, ⟨o, e, _, n, d⟩, _⟩ := I.tuple h
  obtain ⟨its', r', ⟨o', e', _, n', d'⟩, _⟩ := I.tuple h'
  rw [e] at e'; cases e'
  rw [d] at d'
  injection d' with d1 _
  have : its = its' := by simpa using congrArg Array.toList d1
  subst this
  exact r.inj r'
end
abbrev Cx.wish (X : Cx) (E : Value → Shared → Prop) : Cx := { X with xe := E }
abbrev Cx.nox (X : Cx) : Cx := X.wish fun _ _ => False
theorem Cx.Ok.wish {X : Cx} (ok : X.Ok) (E : Value → Shared → Prop) : (X.wish E).Ok :=
  ⟨ok.mod, ok.kind, ok.glob, ok.blt, ok.above, ok.inj, ok.has, ok.cab, ok.hd, ok.frames, ok.stk, ok.exf, ok.bs, ok.bsz, ok.noex, ok.exfs, ok.funs, ok.frf⟩
theorem Cx.Ok.unwish {X : Cx} {E : Value → Shared → Prop} (ok : (X.wish E).Ok) : X.Ok :=
  ⟨ok.mod, ok.kind, ok.glob, ok.blt, ok.above, ok.inj, ok.has, ok.cab, ok.hd, ok.frames, ok.stk, ok.exf, ok.bs, ok.bsz, ok.noex, ok.exfs, ok.funs, ok.frf⟩
section
variable {X : Cx} {pins : List (Addr × Obj)} {σ : St} {H : Hp} {s : Shared} {E : Value → Shared → Prop}
theorem Inv.wish (I : Inv X pins σ H s) (E : Value → Shared → Prop) : Inv (X.wish E) pins σ H s := ⟨I.ok.wish E, I.os, I.bare, I.base, I.loc, I.cell, I.free, I.freeC, I.pin, I.hok, I.len⟩
theorem Inv.unwish (I : Inv (X.wish E) pins σ H s) : Inv X pins σ H s := ⟨I.ok.unwish, I.os, I.bare, I.base, I.loc, I.cell, I.free, I.freeC, I.pin, I.hok, I.len⟩
theorem SP.unwish {D : Ends} {f : Flow} {s' : Shared} (h : SP (X.wish E) pins D f s') : SP X pins D f s' := by
  cases f with
  | next => obtain ⟨σ', H', I, q⟩ := h; exact ⟨σ', H', I.unwish, q⟩
  | brk => obtain ⟨σ', H', I, q⟩ := h; exact ⟨σ', H', I.unwish, q⟩
  | cont => obtain ⟨σ', H', I, q⟩ := h; exact ⟨σ', H', I.unwish, q⟩
  | ret u => obtain ⟨v, σ', H', I, r, q⟩ := h; exact ⟨v, σ', H', I.unwish, r, q⟩
theorem PSs.nox {st : List Stmt} {t : TS} (h : PSs X.nox st t) : PSs X st t := fun pins s σ H D I hw =>
  wpAny_mono (h pins s σ H D (I.wish _) hw) (fun _ _ q => q.unwish) fun _ _ z => False.elim z
end
section
variable {X : Cx} {st : Stmt} {rest : List Stmt} {t u : TS} {e : Expr} {te : TE} {pos : Pos}
def tNext : TS := fun D σ H => D.nx σ H
def tSeq (t u : TS) : TS := fun D σ H => t { D with nx := u D } σ H
theorem pss_nil : PSs X [] tNext := fun _ _ σ H _ I h => wpAny_execs_nil ⟨σ, H, I, h⟩
theorem pss_cons (h1 : PS X st t) (h2 : PSs X rest u) : PSs X (st :: rest) (tSeq t u) := by
  intro pins s σ H D I h
  refine wpAny_execs_cons (thn (h1 pins s σ H { D with nx := u D } I h) fun f s1 q => ?_)
  cases f with
  | next =>
    obtain ⟨σ', H', I', q⟩ := q
    exact h2 pins s1 σ' H' D I' q
  | ret v => exact q
  | brk => exact q
  | cont => exact q
theorem pss_one (h1 : PS X st t) : PSs X [st] t := by
  intro pins s σ H D I h
  refine wpAny_execs_cons (thn (h1 pins s σ H D I h) fun f s1 q => ?_)
  cases f with
  | next => exact wpAny_execs_nil q
  | ret v => exact q
  | brk => exact q
  | cont => exact q
theorem Inv.quiet {pins : List (Addr × Obj)} {σ : St} {H : Hp} {s : Shared} (I : Inv X pins σ H s) : interactive X.env = false := by simp [interactive, I.ok.kind]
def tDrop (te : TE) : TS := fun D σ H => te σ H fun _ H1 => D.nx σ H1
theorem ps_expr (he : PE X e te) (hs : swapsWith e none pos.line X.env = pure false := by rfl) : PS X (.Expr e pos) (tDrop te) := by
  intro pins s σ H D I h
  exact wpAny_Expr_any (thn (he pins s σ H _ I h) fun v s1 ⟨x, H1, I1, r1, q1⟩ => ⟨σ, H1, I1, q1⟩) I.quiet hs
def tRet (te : TE) : TS := fun D σ H => te σ H D.rt
theorem ps_ret (he : PE X e te) : PS X (.Return (some e) pos) (tRet te) := by
  intro pins s σ H D I h
  exact wpAny_Return_some (thn (he pins s σ H _ I h) fun v s1 ⟨x, H1, I1, r1, q1⟩ => ⟨x, σ, H1, I1, r1, q1⟩)
def tIfS (c : TT) (t u : TS) : TS := fun D σ H => c σ H fun b H1 => if b = true then t D σ H1 else u D σ H1
theorem ps_if {c : Expr} {a b : List Stmt} {tc : TT} (hc : PT X c tc) (ha : PSs X a t) (hb : PSs X b u) : PS X (.If c a b pos) (tIfS tc t u) := by
  intro pins s σ H D I h
  refine wpAny_If (thn (hc pins s σ H _ I h) fun d s1 ⟨H1, I1, q1⟩ => ?_)
  cases d with
  | true => exact ha pins s1 σ H1 D I1 q1
  | false => exact hb pins s1 σ H1 D I1 q1
def tNever : TS := fun _ _ _ => False
theorem ps_never : PS X st tNever := fun _ _ _ _ _ _ h => h.elim
theorem pss_never {sts : List Stmt} : PSs X sts tNever := fun _ _ _ _ _ _ h => h.elim
end
abbrev TG := V → St → Hp → (St → Hp → Prop) → Prop
def PG (X : Cx) (target : Expr) (t : TG) : Prop :=
  ∀ (pins : List (Addr × Obj)) (s : Shared) (σ : St) (H : Hp) (v : V) (u : Value) (Q : St → Hp → Prop), Inv X pins σ H s → RelV v u → t v σ H Q →
    wpAny (model X.prog X.w) X.A (assign target X.env u) (fun _ s' => ∃ σ' H', Inv X pins σ' H' s' ∧ Q σ' H') X.xe s
section
variable {X : Cx} {pos : Pos}
def gName (i : Nat) : TG := fun v σ H Q => Q (σ.set i (some v)) H
theorem pg_name {i : Nat} {x : Str} (hN : X.N.Nodup) (hi : X.N[i]? = some x) (hx : Loc X.env.scope x) (hf : X.fn x = true ∨ X.env.scope.names.lookup x = some .local := by first | exact .inl rfl | exact .inr rfl | assumption) : PG X (.Name x pos) (gName i) := by
  intro pins s σ H v u Q I r h
  exact wpAny_assign_Name (store_ok I hN hi hx r (fun s' I' => ⟨_, H, I', h⟩) hf)
def tAsg (te : TE) (g : TG) : TS := fun D σ H => te σ H fun x H1 => g x σ H1 D.nx
theorem ps_set {i : Nat} {x : Str} {e : Expr} {te : TE} {pos' : Pos} (hN : X.N.Nodup) (hi : X.N[i]? = some x) (hx : Loc X.env.scope x) (he : PE X e te) (hs : swapsWith e (some (.Name x pos')) pos.line X.env = pure false := by rfl) (hf : X.fn x = true ∨ X.env.scope.names.lookup x = some .local := by first | exact .inl rfl | exact .inr rfl | assumption) :
    PS X (.Assign [.Name x pos'] e pos) (tAsg te (gName i)) := by
  intro pins s σ H D I h
  refine wpAny_Assign_Name (thn (he pins s σ H _ I h) fun v s1 ⟨y, H1, I1, r1, q1⟩ => ?_) hs
  exact store_ok I1 hN hi hx r1 (fun s2 I2 => ⟨_, H1, I2, q1⟩) hf
end
section
variable {X : Cx} {pos : Pos}
end
structure It where
  go : Nat → Hp → Prop
  yld : Nat → Hp → V → Hp → Prop
  stop : Nat → Hp → Prop
def FpOk (X : Cx) (pins : List (Addr × Obj)) (H : Hp) (b : Addr) : Prop :=
  H b = none ∧ b ≠ X.env.locals ∧ b ∉ X.fs ∧ (b ∈ X.ex ∨ X.s₀.heap.objs.size ≤ b) ∧ (∀ x c, X.env.cells.lookup x = some c → c ≠ b) ∧ ∀ p ∈ X.pn ++ pins, p.1 ≠ b
theorem Inv.fpOk {X : Cx} {pins : List (Addr × Obj)} {σ : St} {H H' : Hp} {s : Shared} {b : Addr} (I : Inv X pins σ H s) (hb : s.heap.objs.size ≤ b) (hn : H' b = none) : FpOk X pins H' b := by
  refine ⟨hn, Nat.ne_of_gt (Nat.lt_of_lt_of_le I.lt hb), I.nofs hb, .inr (Nat.le_trans I.sz hb), fun x c e z => ?_, fun p hp z => ?_⟩
  · obtain ⟨v, q⟩ := I.cell x c e
    exact absurd (Nat.lt_of_lt_of_le q.lt (by rw [z]; exact hb)) (Nat.lt_irrefl _)
  · exact absurd (Nat.lt_of_lt_of_le (Heap.lt_size (I.pin p hp).1) (by rw [z]; exact hb)) (Nat.lt_irrefl _)
structure Turn (P : Program) (w : World) (K : PySem.W.Frag) (tg : Expr) (J : It) (fp : List Addr) (it : Addr) (tn : Nat → Heap → Prop) : Prop where
  mem : it ∈ fp
  obj : ∀ i h, tn i h → ∀ b ∈ fp, ∃ o, h.get? b = some o ∧ ∀ v, o.data ≠ .cell v
  keep : ∀ i h h', tn i h → (∀ b ∈ fp, ∀ o, h.get? b = some o → h'.get? b = some o) → tn i h'
  item : ∀ (X : Cx), X.prog = P → X.w = w → X.K = K → X.calm = true → ∀ (i : Nat) (pins : List (Addr × Obj)) (s : Shared) (σ : St) (H : Hp) (E : Value → Shared → Prop), Inv X pins σ H s → (∀ b ∈ fp, FpOk X pins H b) → tn i s.heap → J.go i H →
    wpAny (model P w) X.A (pyNext (.ref it)) (fun r s1 => ∃ u, r = some u ∧
      wpAny (model P w) X.A (letOwnedTupleGo tg (.ref it) u) (fun _ s2 => ∃ x H', Inv X pins σ H' s2 ∧ RelV x u ∧ J.yld i H x H' ∧ tn (i + 1) s2.heap ∧ ∀ b ∈ fp, H' b = none) E s1) E s
  done : ∀ (X : Cx), X.prog = P → X.w = w → X.K = K → X.calm = true → ∀ (i : Nat) (pins : List (Addr × Obj)) (s : Shared) (σ : St) (H : Hp) (E : Value → Shared → Prop), Inv X pins σ H s → (∀ b ∈ fp, FpOk X pins H b) → tn i s.heap → J.stop i H →
    wpAny (model P w) X.A (pyNext (.ref it)) (fun r s1 => r = none ∧ Inv X pins σ H s1) E s
  self : ∀ (A : Around) (i : Nat) (s : Shared) (Q : Value → Shared → Prop) (E : Value → Shared → Prop), tn i s.heap → Q (.ref it) s → wpAny (model P w) A (pyIter (.ref it)) Q E s
abbrev TI := St → Hp → (It → Hp → Prop) → Prop
def PIE (X : Cx) (pins : List (Addr × Obj)) (σ : St) (tg : Expr) (R : It → Hp → Prop) (itv : Value) (s2 : Shared) : Prop :=
  ∃ (it : Addr) (fp : List Addr) (tn : Nat → Heap → Prop) (J : It) (H' : Hp), itv = .ref it ∧ Inv X pins σ H' s2 ∧ Turn X.prog X.w X.K tg J fp it tn ∧ tn 0 s2.heap ∧ (∀ b ∈ fp, FpOk X pins H' b) ∧ R J H'
def PI (X : Cx) (tg iter : Expr) (wi : TI) : Prop :=
  ∀ (pins : List (Addr × Obj)) (s : Shared) (σ : St) (H : Hp) (R : It → Hp → Prop), Inv X pins σ H s → wi σ H R →
    wpAny (model X.prog X.w) X.A (eval iter X.env) (fun v s1 => wpAny (model X.prog X.w) X.A (pyIter v) (PIE X pins σ tg R) X.xe s1) X.xe s
theorem go_of {M : Model} {A : Around} {E : Value → Shared → Prop} {s : Shared} {tg : Expr} {it : Addr} {u : Value} {o : Obj} {n : String} {vs : Array Value} {Q : Unit → Shared → Prop} (ho : s.heap.get? it = some o) (hc : o.cls = .type n) (hd : o.data = .fields vs)
    (hn : ["enumerate", "zip", "dict_itemiterator", "dict_reverseitemiterator", "odict_iterator", "itertools.zip_longest", "itertools.pairwise"].contains n = false) (hQ : Q () s) : wpAny M A (letOwnedTupleGo tg (.ref it) u) Q E s := by
  unfold letOwnedTupleGo
  cases tg <;> first
    | exact wpAny_pure hQ
    | (cases u <;> first
        | exact wpAny_pure hQ
        | (refine wpAny_bind (wpAny_load ho ?_)
           rw [hc, hd]
           show wpAny M A (if (["enumerate", "zip", "dict_itemiterator", "dict_reverseitemiterator", "odict_iterator", "itertools.zip_longest", "itertools.pairwise"].contains n && vs[0]? == some (rawInt _)) = true then _ else _) Q E s
           rw [if_neg (by intro h; rw [hn, Bool.false_and] at h; cases h)]
           exact wpAny_pure hQ))
def Itl (K : PySem.W.Frag) (a : Addr) : It :=
  ⟨fun i H => ∃ xs x, SqL K H a xs ∧ xs[i]? = some x, fun i H x H' => H' = H ∧ ∀ xs, SqL K H a xs → xs[i]? = some x, fun i H => ∃ xs, SqL K H a xs ∧ xs.length ≤ i⟩
def Itt (K : PySem.W.Frag) (a : Addr) : It :=
  ⟨fun i H => ∃ xs x, SqT K H a xs ∧ xs[i]? = some x, fun i H x H' => H' = H ∧ ∀ xs, SqT K H a xs → xs[i]? = some x, fun i H => ∃ xs, SqT K H a xs ∧ xs.length ≤ i⟩
def Itr (lo : Int) (n : Nat) : It := ⟨fun i _ => i < n, fun i H x H' => H' = H ∧ x = .int (lo + i), fun i _ => n ≤ i⟩
theorem turn_list {P : Program} {w : World} {K : PySem.W.Frag} {tg : Expr} (a it : Addr) : Turn P w K tg (Itl K a) [it] it (fun i h => h.IsListIter it a i) where
  mem := by simp
  obj := fun i h st b hb => by
    have e : b = it := by simpa using hb
    subst e
    obtain ⟨o, e, c, d⟩ := st
    exact ⟨o, e, fun v z => by rw [d] at z; cases z⟩
  keep := fun i h h' st k => st.at fun o e => k it (by simp) o e
  item := by
    intro X hP hw hK hc i pins s σ H E I hf st hg
    subst hP hw hK
    obtain ⟨xs, x, hq, hx⟩ := hg
    obtain ⟨its, rv, p, hz⟩ := I.list hq
    obtain ⟨u, hu, ru⟩ := rv.get hx
    obtain ⟨f0, f1, f2, f3, f4, f5⟩ := hf it (by simp)
    refine wpAny_pyNext_list_item st p.isList (x := u) (by simpa using hu) fun h' st' sb => ?_
    have I1 : Inv X pins σ H { s with heap := h' } := I.turned (t' := s.toks) (fun b o hb e => (sb.2 b hb).trans e) f0 f1 f3 f4 f5
    obtain ⟨o, e, c, d⟩ := id st'
    exact ⟨u, rfl, go_of (s := { s with heap := h' }) e c d (by decide) ⟨x, H, I1, ru, ⟨rfl, fun ys hy => by rw [I.list_inj hy hq]; exact hx⟩, st', fun b hb => (hf b hb).1⟩⟩
  done := by
    intro X hP hw hK hc i pins s σ H E I hf st hg
    subst hP hw hK
    obtain ⟨xs, hq, hx⟩ := hg
    obtain ⟨its, rv, p, hz⟩ := I.list hq
    obtain ⟨f0, f1, f2, f3, f4, f5⟩ := hf it (by simp)
    have hl := rv.length
    exact wpAny_pyNext_list_end (I.ok.hd hc) st p.isList (by simp; omega) fun h' eb => ⟨rfl, I.turned (t' := s.toks) (fun b o hb e => eb b o hb e) f0 f1 f3 f4 f5⟩
  self := fun _ _ _ _ _ st h => wpAny_pyIter_listiter st h
theorem turn_tuple {P : Program} {w : World} {K : PySem.W.Frag} {tg : Expr} (a it : Addr) : Turn P w K tg (Itt K a) [it] it (fun i h => h.IsTupleIter it a i) where
  mem := by simp
  obj := fun i h st b hb => by
    have e : b = it := by simpa using hb
    subst e
    obtain ⟨o, e, c, d⟩ := st
    exact ⟨o, e, fun v z => by rw [d] at z; cases z⟩
  keep := fun i h h' st k => st.at fun o e => k it (by simp) o e
  item := by
    intro X hP hw hK hc i pins s σ H E I hf st hg
    subst hP hw hK
    obtain ⟨xs, x, hq, hx⟩ := hg
    obtain ⟨its, rv, p, hz⟩ := I.tuple hq
    obtain ⟨u, hu, ru⟩ := rv.get hx
    obtain ⟨f0, f1, f2, f3, f4, f5⟩ := hf it (by simp)
    refine wpAny_pyNext_tuple_item st (show s.heap.IsTuple a its.toArray from p) (x := u) (by simpa using hu) fun h' st' sb => ?_
    have I1 : Inv X pins σ H { s with heap := h' } := I.turned (t' := s.toks) (fun b o hb e => (sb.2 b hb).trans e) f0 f1 f3 f4 f5
    obtain ⟨o, e, c, d⟩ := id st'
    exact ⟨u, rfl, go_of (s := { s with heap := h' }) e c d (by decide) ⟨x, H, I1, ru, ⟨rfl, fun ys hy => by rw [I.tuple_inj hy hq]; exact hx⟩, st', fun b hb => (hf b hb).1⟩⟩
  done := by
    intro X hP hw hK hc i pins s σ H E I hf st hg
    subst hP hw hK
    obtain ⟨xs, hq, hx⟩ := hg
    obtain ⟨its, rv, p, hz⟩ := I.tuple hq
    obtain ⟨f0, f1, f2, f3, f4, f5⟩ := hf it (by simp)
    have hl := rv.length
    exact wpAny_pyNext_tuple_end (I.ok.hd hc) st (show s.heap.IsTuple a its.toArray from p) (by simp; omega) fun h' eb => ⟨rfl, I.turned (t' := s.toks) (fun b o hb e => eb b o hb e) f0 f1 f3 f4 f5⟩
  self := fun _ _ _ _ _ st h => wpAny_pyIter_tupleiter st h
theorem turn_range {P : Program} {w : World} {K : PySem.W.Frag} {tg : Expr} (it : Addr) (lo : Int) (n : Nat) : Turn P w K tg (Itr lo n) [it] it (fun i h => IsRangeIter h it (lo + (i : Nat) * 1) ((n : Int) - (i : Nat)) 1) where
  mem := by simp
  obj := fun i h st b hb => by
    have e : b = it := by simpa using hb
    subst e
    exact ⟨_, st, fun v z => by
      have z' : Data.fields _ = Data.cell v := z
      cases z'⟩
  keep := fun i h h' st k => k it (by simp) _ st
  item := by
    intro X hP hw hK hc i pins s σ H E I hf st hg
    subst hP hw hK
    obtain ⟨f0, f1, f2, f3, f4, f5⟩ := hf it (by simp)
    have W := Walks.range (prog := X.prog) (w := X.w) (I.ok.hd hc) it lo 1 n
    refine W.item i s _ _ hg st fun v h' tk hv st' kk => ?_
    obtain ⟨t, rfl⟩ := hv
    have I1 : Inv X pins σ H { s with heap := h', toks := tk } := I.turned (fun b o hb e => kk b o (by simpa using hb) e) f0 f1 f3 f4 f5
    refine ⟨_, rfl, go_of (s := { s with heap := h', toks := tk }) (n := "range_iterator") st' rfl rfl (by decide) ⟨.int (lo + i), H, I1, ⟨t, ?_⟩, ⟨rfl, rfl⟩, st', fun b hb => (hf b hb).1⟩⟩
    rw [Int.mul_one]
  done := by
    intro X hP hw hK hc i pins s σ H E I hf st hg
    subst hP hw hK
    obtain ⟨f0, f1, f2, f3, f4, f5⟩ := hf it (by simp)
    exact wpAny_pyNext_range_end (I.ok.hd hc) st (by have : n ≤ i := hg; omega) fun h' eb => ⟨rfl, I.turned (t' := s.toks) (fun b o hb e => eb b o hb e) f0 f1 f3 f4 f5⟩
  self := fun _ _ _ _ _ st h => wpAny_pyIter_rangeiter st h
end L2
namespace L2
open PySem PySem.Spec PyProof.Rows
section
variable {X : Cx} {tg : Expr}
theorem range_it {pins : List (Addr × Obj)} {σ : St} {H : Hp} {s : Shared} {R : It → Hp → Prop} {E : Value → Shared → Prop} {lo hi : Int} {t u v : Tok} {tk : Nat} (I : Inv X pins σ H s) (h1 : -(2 ^ 62) ≤ lo) (h2 : lo < 2 ^ 62) (h3 : -(2 ^ 62) ≤ hi) (h4 : hi < 2 ^ 62)
    (q : R (Itr lo (hi - lo).toNat) H) : wpAny (model X.prog X.w) X.A (pyIter (.ref s.heap.objs.size)) (PIE X pins σ tg R) E { s with heap := s.heap.push { cls := .type "range", data := .fields #[.int lo t, .int hi u, .int 1 v] }, toks := tk } := by
  refine wpAny_pyIter_range (IsRange.new ..) (small_one h1 h2 h3 h4) ?_
  have I1 : Inv X pins σ H { s with heap := s.heap.push { cls := .type "range", data := .fields #[.int lo t, .int hi u, .int 1 v] }, toks := tk } := I.kept fun b o e => Heap.get?_push_of_some _ e
  refine ⟨(s.heap.push { cls := .type "range", data := .fields #[.int lo t, .int hi u, .int 1 v] }).objs.size, [(s.heap.push { cls := .type "range", data := .fields #[.int lo t, .int hi u, .int 1 v] }).objs.size], _, _, H, rfl,
    I1.kept (t' := tk) fun b o e => Heap.get?_push_of_some _ e, turn_range _ lo (hi - lo).toNat, ?_, fun b hb => ?_, q⟩
  · have e1 : lo + ((0 : Nat) : Int) * 1 = lo := by simp
    have e2 : (((hi - lo).toNat : Nat) : Int) - ((0 : Nat) : Int) = Builtin.Range.rangeSize lo hi 1 := by rw [rangeSize_one]; split <;> omega
    show IsRangeIter _ _ (lo + ((0 : Nat) : Int) * 1) ((((hi - lo).toNat : Nat) : Int) - ((0 : Nat) : Int)) 1
    rw [e1, e2]
    exact Heap.get?_push_size _ rfl
  · have e : b = (s.heap.push { cls := .type "range", data := .fields #[.int lo t, .int hi u, .int 1 v] }).objs.size := by simpa using hb
    subst e
    exact I1.fpOk (Nat.le_refl _) (I1.hok.fresh (Nat.le_refl _))
def iRng1 (ta : TA) : TI := fun σ H R => ta σ H fun vs H1 => ∃ j : Int, vs = [.int j] ∧ -(2 ^ 62) ≤ j ∧ j < 2 ^ 62 ∧ R (Itr 0 j.toNat) H1
theorem pi_range1 {a : Expr} {ta : TA} {p pos : Pos} (hg : Gl X "range") (hm : X.mg "range" = none) (ha : PA X [a] ta) (hs : starEach [a] X.env = [(false, eval a X.env)] := by rfl) : PI X tg (.Call (.Name "range" p) [a] [] pos) (iRng1 ta) := by
  intro pins s σ H R I h
  refine Call_ (ld_blt I hg hm boot_range (PyProof.Rows.callWith_type1 (thn (ha pos pins s σ H _ I h) fun us s1 ⟨vs, H1, I1, r1, q1⟩ => ?_) hs rfl))
  obtain ⟨j, e, q1, q2, q⟩ := q1
  subst e
  cases r1 with
  | cons r rr =>
    cases rr
    obtain ⟨t, rfl⟩ := r
    exact call_range_1 (range_it I1 (by omega) (by omega) q1 q2 (by simpa using q))
def tFor (wi : TI) (g : TG) (tb : TS) : TS := fun D σ H => wi σ H fun J H1 => ∃ W : Nat → Nat → St → Hp → Prop, (∃ m, W 0 m σ H1) ∧ ∀ i m σ H, W i m σ H →
  (J.stop i H ∧ D.nx σ H) ∨ (J.go i H ∧ ∃ N : St → Hp → Prop, (∀ σ' H', N σ' H' → ∃ m', m' < m ∧ W (i + 1) m' σ' H') ∧ ∀ x H', J.yld i H x H' → g x σ H' fun σ2 H2 => tb { D with nx := N, ct := N, bk := D.nx } σ2 H2)
def pinsAt (fp : List Addr) (h : Heap) : List (Addr × Obj) := fp.filterMap fun b => (h.get? b).map fun o => (b, o)
theorem mem_pinsAt {fp : List Addr} {h : Heap} {b : Addr} {o : Obj} (hb : b ∈ fp) (e : h.get? b = some o) : (b, o) ∈ pinsAt fp h := List.mem_filterMap.mpr ⟨b, hb, by rw [e]; rfl⟩
theorem of_pinsAt {fp : List Addr} {h : Heap} {p : Addr × Obj} (hp : p ∈ pinsAt fp h) : p.1 ∈ fp ∧ h.get? p.1 = some p.2 := by
  obtain ⟨b, hb, e⟩ := List.mem_filterMap.mp hp
  cases q : h.get? b with
  | none => rw [q] at e; cases e
  | some o =>
    rw [q] at e
    have e' : (b, o) = p := Option.some.inj e
    subst e'
    exact ⟨hb, q⟩
theorem Inv.pinned {pins : List (Addr × Obj)} {σ : St} {H : Hp} {s : Shared} {fp : List Addr} (I : Inv X pins σ H s) (hf : ∀ b ∈ fp, FpOk X pins H b) (ho : ∀ b ∈ fp, ∃ o, s.heap.get? b = some o ∧ ∀ v, o.data ≠ .cell v) : Inv X (pins ++ pinsAt fp s.heap) σ H s :=
  I.pins_of fun p hp => (List.mem_append.mp hp).elim (fun z => I.pin p (List.mem_append_right _ z)) fun z => by
    obtain ⟨hb, e⟩ := of_pinsAt z
    obtain ⟨f0, f1, f2, _⟩ := hf p.1 hb
    obtain ⟨o, e', d⟩ := ho p.1 hb
    rw [e] at e'; cases e'
    exact ⟨e, f0, f1, f2, d⟩
theorem Inv.unpinned {pins pl : List (Addr × Obj)} {σ : St} {H : Hp} {s : Shared} (I : Inv X (pins ++ pl) σ H s) : Inv X pins σ H s := I.pins_of fun p hp => I.pin p (List.mem_append_right _ (List.mem_append_left _ hp))
theorem ps_for {iter : Expr} {body : List Stmt} {wi : TI} {g : TG} {tb : TS} {pos : Pos} (hp : PassesOwn (model X.prog X.w) X.A X.env X.xe) (hc : X.calm = true) (hi : PI X tg iter wi) (hg : PG X tg g) (hb : PSs X body tb)
    (hs : ∀ x, foldedSetIterable iter X.env x = pure x := by intro _; rfl) : PS X (.For tg iter body [] pos) (tFor wi g tb) := by
  intro pins s σ H D I h
  refine wpAny_For (thn (hi pins s σ H _ I h) fun v s1 h1 => thn h1 fun itv s2 h2 => ?_) hs
  obtain ⟨it, fp, tn, J, H2, e, I2, T, st2, f2, W, ⟨m0, w0⟩, turn⟩ := h2
  subst e
  -- what stays true of the iterator's objects through the loop
  have stat : ∀ {H' : Hp}, (∀ b ∈ fp, H' b = none) → ∀ b ∈ fp, FpOk X pins H' b := fun hn b hb => ⟨hn b hb, (f2 b hb).2⟩
  refine codeAny_forLoop_any (fun n s' => ∃ i σ' H', Inv X pins σ' H' s' ∧ tn i s'.heap ∧ (∀ b ∈ fp, H' b = none) ∧ W i n σ' H') ?_ m0 ⟨0, σ, H2, I2, st2, fun b hb => (f2 b hb).1, w0⟩
  rintro n s3 ⟨i, σ3, H3, I3, st3, fr3, w3⟩
  rcases turn i n σ3 H3 w3 with ⟨stop, qn⟩ | ⟨go, N, hN, step⟩
  · refine wpAny_passesOwn hp (thn (T.done X rfl rfl rfl hc i pins s3 σ3 H3 X.xe I3 (stat fr3) st3 stop) fun r s4 ⟨hr, I4⟩ => ?_)
    subst hr
    exact wpAny_execs_nil ⟨σ3, H3, I4, qn⟩
  · refine wpAny_passesOwn hp (thn (T.item X rfl rfl rfl hc i pins s3 σ3 H3 X.xe I3 (stat fr3) st3 go) fun r s4 ⟨u, hr, h4⟩ => ?_)
    subst hr
    refine wpAny_passesOwn hp (thn h4 fun _ s5 ⟨x, H5, I5, r5, y5, st5, fr5⟩ => ?_)
    have I5' := I5.pinned (stat fr5) (T.obj _ _ st5)
    refine wpAny_passesOwn hp (thn (hg _ s5 σ3 H5 x u _ I5' r5 (step x H5 y5)) fun _ s6 ⟨σ6, H6, I6, q6⟩ => ?_)
    refine wpAny_passesOwn hp (thn (hb _ s6 σ6 H6 _ I6 q6) fun f s7 q7 => ?_)
    have again : ∀ {σ7 : St} {H7 : Hp}, Inv X (pins ++ pinsAt fp s5.heap) σ7 H7 s7 → N σ7 H7 → ∃ m, m < n ∧ ∃ i σ' H', Inv X pins σ' H' s7 ∧ tn i s7.heap ∧ (∀ b ∈ fp, H' b = none) ∧ W i m σ' H' := fun {σ7 H7} I7 n7 => by
      obtain ⟨m', hm, w7⟩ := hN σ7 H7 n7
      refine ⟨m', hm, i + 1, σ7, H7, I7.unpinned, T.keep _ _ _ st5 fun b hb o e => (I7.pin (b, o) (List.mem_append_right _ (List.mem_append_right _ (mem_pinsAt hb e)))).1, fun b hb => ?_, w7⟩
      obtain ⟨o, e, d⟩ := T.obj _ _ st5 b hb
      exact (I7.pin (b, o) (List.mem_append_right _ (List.mem_append_right _ (mem_pinsAt hb e)))).2.1
    cases f with
    | next => obtain ⟨σ7, H7, I7, n7⟩ := q7; exact again I7 n7
    | cont => obtain ⟨σ7, H7, I7, n7⟩ := q7; exact again I7 n7
    | brk => obtain ⟨σ7, H7, I7, q7⟩ := q7; exact ⟨σ7, H7, I7.unpinned, q7⟩
    | ret v => obtain ⟨x7, σ7, H7, I7, r7, q7⟩ := q7; exact ⟨x7, σ7, H7, I7.unpinned, r7, q7⟩
end
end L2
namespace L2
open PySem PySem.Spec PyProof.Rows
abbrev R2 := V → V → Hp → VK → Prop
def OpR (X : Cx) (f : Value → Value → Sem Value) (r : R2) : Prop :=
  ∀ (pins : List (Addr × Obj)) (s : Shared) (σ : St) (H : Hp) (x y : V) (v u : Value) (Q : VK), Inv X pins σ H s → RelV x v → RelV y u → r x y H Q →
    wpAny (model X.prog X.w) X.A (f v u) (EP X pins σ Q) X.xe s
def UnR (X : Cx) (f : Value → Sem Value) (r : V → Hp → VK → Prop) : Prop :=
  ∀ (pins : List (Addr × Obj)) (s : Shared) (σ : St) (H : Hp) (x : V) (v : Value) (Q : VK), Inv X pins σ H s → RelV x v → r x H Q →
    wpAny (model X.prog X.w) X.A (f v) (EP X pins σ Q) X.xe s
def CallR (X : Cx) (f : Value) (r : List V → Hp → VK → Prop) : Prop :=
  ∀ (pins : List (Addr × Obj)) (s : Shared) (σ : St) (H : Hp) (xs : List V) (us : List Value) (Q : VK), Inv X pins σ H s → Vals xs us → r xs H Q →
    wpAny (model X.prog X.w) X.A (call f us) (EP X pins σ Q) X.xe s
def TruR (X : Cx) (r : V → Hp → (Bool → Hp → Prop) → Prop) : Prop :=
  ∀ (pins : List (Addr × Obj)) (s : Shared) (σ : St) (H : Hp) (x : V) (v : Value) (Q : Bool → Hp → Prop), Inv X pins σ H s → RelV x v → r x H Q →
    wpAny (model X.prog X.w) X.A (truthy v) (TP X pins σ Q) X.xe s
def tOp (r : R2) (ta tb : TE) : TE := fun σ H Q => ta σ H fun x H1 => tb σ H1 fun y H2 => r x y H2 Q
def tUn (r : V → Hp → VK → Prop) (ta : TE) : TE := fun σ H Q => ta σ H fun x H1 => r x H1 Q
def rI (C : Int → Int → Prop) (g : Int → Int → V) : R2 := fun x y H Q => ∃ i j, x = .int i ∧ y = .int j ∧ C i j ∧ Q (g i j) H
def rI0 (g : Int → Int → V) : R2 := fun x y H Q => ∃ i j, x = .int i ∧ y = .int j ∧ Q (g i j) H
def rU (g : Int → V) : V → Hp → VK → Prop := fun x H Q => ∃ i, x = .int i ∧ Q (g i) H
section
variable {X : Cx} {a b c : Expr} {ta tb tc : TE} {pos : Pos}
theorem binT (ha : PE X a ta) (hb : PE X b tb) {pins : List (Addr × Obj)} {s : Shared} {σ : St} {H : Hp} {R : V → V → Hp → Prop} (I : Inv X pins σ H s)
    (h : ta σ H fun x H1 => tb σ H1 fun y H2 => R x y H2) {Q : Value → Shared → Prop} {f : Value → Value → Sem Value}
    (hf : ∀ v u s2 x y H2, Inv X pins σ H2 s2 → RelV x v → RelV y u → R x y H2 → wpAny (model X.prog X.w) X.A (f v u) Q X.xe s2) :
    wpAny (model X.prog X.w) X.A (eval a X.env) (fun v s₁ => wpAny (model X.prog X.w) X.A (eval b X.env) (fun u s₂ => wpAny (model X.prog X.w) X.A (f v u) Q X.xe s₂) X.xe s₁) X.xe s := by
  refine thn (ha pins s σ H _ I h) fun v s1 ⟨x, H1, I1, r1, q1⟩ => ?_
  refine thn (hb pins s1 σ H1 _ I1 q1) fun u s2 ⟨y, H2, I2, r2, q2⟩ => ?_
  exact hf v u s2 x y H2 I2 r1 r2 q2
theorem pe_op {op : Operator} {r : R2} (ho : OpR X (binaryOp op) r) (ha : PE X a ta) (hb : PE X b tb) : PE X (.BinOp a op b pos) (tOp r ta tb) := by
  intro pins s σ H Q I h
  exact wpAny_BinOp (binT ha hb I h fun v u s2 x y H2 I2 rx ry q => ho pins s2 σ H2 x y v u Q I2 rx ry q)
theorem pe_un {op : UnaryOp} {r : V → Hp → VK → Prop} (ho : UnR X (unaryOp op) r) (ha : PE X a ta) : PE X (.UnaryOp op a pos) (tUn r ta) := by
  intro pins s σ H Q I h
  exact UnaryOp_ (thn (ha pins s σ H _ I h) fun v s1 ⟨x, H1, I1, r1, q1⟩ => ho pins s1 σ H1 x v Q I1 r1 q1)
theorem opI {f : Value → Value → Sem Value} {C : Int → Int → Prop} {g : Int → Int → Int}
    (rule : ∀ (i j : Int) (t u : Tok) (s : Shared) (Q : Value → Shared → Prop) (E : Value → Shared → Prop), C i j → Q (.int (g i j) s.toks) { s with toks := s.toks + 1 } → wpAny (model X.prog X.w) X.A (f (.int i t) (.int j u)) Q E s) :
    OpR X f (rI C fun i j => .int (g i j)) := by
  intro pins s σ H x y v u Q I rx ry h
  obtain ⟨i, j, rfl, rfl, hc, q⟩ := h
  obtain ⟨t, rfl⟩ := rx
  obtain ⟨t', rfl⟩ := ry
  exact rule i j t t' s _ _ hc ⟨.int (g i j), H, I.tok _, ⟨_, rfl⟩, q⟩
theorem opI0 {f : Value → Value → Sem Value} {g : Int → Int → Int}
    (rule : ∀ (i j : Int) (t u : Tok) (s : Shared) (Q : Value → Shared → Prop) (E : Value → Shared → Prop), Q (.int (g i j) s.toks) { s with toks := s.toks + 1 } → wpAny (model X.prog X.w) X.A (f (.int i t) (.int j u)) Q E s) :
    OpR X f (rI0 fun i j => .int (g i j)) := by
  intro pins s σ H x y v u Q I rx ry h
  obtain ⟨i, j, rfl, rfl, q⟩ := h
  obtain ⟨t, rfl⟩ := rx
  obtain ⟨t', rfl⟩ := ry
  exact rule i j t t' s _ _ ⟨.int (g i j), H, I.tok _, ⟨_, rfl⟩, q⟩
theorem opB0 {f : Value → Value → Sem Value} {g : Int → Int → Bool}
    (rule : ∀ (i j : Int) (t u : Tok) (s : Shared) (Q : Value → Shared → Prop) (E : Value → Shared → Prop), Q (.bool (g i j)) s → wpAny (model X.prog X.w) X.A (f (.int i t) (.int j u)) Q E s) :
    OpR X f (rI0 fun i j => .bl (g i j)) := by
  intro pins s σ H x y v u Q I rx ry h
  obtain ⟨i, j, rfl, rfl, q⟩ := h
  obtain ⟨t, rfl⟩ := rx
  obtain ⟨t', rfl⟩ := ry
  exact rule i j t t' s _ _ ⟨.bl (g i j), H, I, rfl, q⟩
def CDiv (i j : Int) : Prop := 0 < j ∧ j < 1073741824
def CMul (i j : Int) : Prop := (-(2 ^ 64) < i ∧ i < 2 ^ 64) ∨ (-(2 ^ 64) < j ∧ j < 2 ^ 64)
theorem CMul.ok {i j : Int} (h : CMul i j) : IntMulOk i j := by
  rcases h with ⟨h1, h2⟩ | ⟨h1, h2⟩
  · exact .of_left (intBits_le_64 h1 h2)
  · exact .of_right (intBits_le_64 h1 h2)
theorem op_add : OpR X (binaryOp .Add) (rI0 fun i j => .int (i + j)) := opI0 fun _ _ _ _ _ _ _ q => add_int q
theorem op_fdiv : OpR X (binaryOp .FloorDiv) (rI CDiv fun i j => .int (i / j)) := opI fun i j _ _ _ _ _ hc q => by
  have h1 : (0 : Int) < j := hc.1
  have h2 : j < 1073741824 := hc.2
  exact floordiv_int (by omega) (by rw [Int.fdiv_eq_ediv_of_nonneg i (by omega)]; exact q) (.inl (PyProof.noPylong_small (by omega)))
theorem op_mod : OpR X (binaryOp .Mod) (rI (fun _ j => 0 < j) fun i j => .int (i % j)) := opI fun i j _ _ _ _ _ hc q => by
  have h1 : (0 : Int) < j := hc
  exact mod_int' (by omega) (by rw [Int.fmod_eq_emod_of_nonneg i (by omega)]; exact q)
theorem unI {f : Value → Sem Value} {g : Int → Int}
    (rule : ∀ (i : Int) (t : Tok) (s : Shared) (Q : Value → Shared → Prop) (E : Value → Shared → Prop), Q (.int (g i) s.toks) { s with toks := s.toks + 1 } → wpAny (model X.prog X.w) X.A (f (.int i t)) Q E s) :
    UnR X f (rU fun i => .int (g i)) := by
  intro pins s σ H x v Q I rx h
  obtain ⟨i, rfl, q⟩ := h
  obtain ⟨t, rfl⟩ := rx
  exact rule i t s _ _ ⟨.int (g i), H, I.tok _, ⟨_, rfl⟩, q⟩
theorem un_neg : UnR X (unaryOp .USub) (rU fun i => .int (-i)) := unI fun _ _ _ _ _ q => neg_int q
end
def scal : V → V → Bool
  | .non, .non => true | .non, .int _ => true | .int _, .non => true | .non, .bl _ => true | .bl _, .non => true | .non, .str _ => true | .str _, .non => true
  | .int _, .int _ => true | .bl _, .bl _ => true | .str _, .str _ => true | .byt _, .byt _ => true
  | .int _, .str _ => true | .str _, .int _ => true | .bl _, .str _ => true | .str _, .bl _ => true
  | _, _ => false
def rEq : R2 := fun x y H Q => scal x y = true ∧ Q (.bl (decide (x = y))) H
def rNe : R2 := fun x y H Q => scal x y = true ∧ Q (.bl (!decide (x = y))) H
theorem dec_int {i j : Int} : decide (V.int i = V.int j) = (i == j) := by
  rw [Bool.eq_iff_iff]
  simp
theorem dec_bl {i j : Bool} : decide (V.bl i = V.bl j) = (i == j) := by
  rw [Bool.eq_iff_iff]
  simp
theorem dec_str {i j : Str} : decide (V.str i = V.str j) = (i == j) := by
  rw [Bool.eq_iff_iff]
  simp
theorem dec_byt {i j : Array UInt8} : decide (V.byt i = V.byt j) = (i.toList == j.toList) := by
  rw [Bool.eq_iff_iff]
  cases i
  cases j
  simp
section
variable {X : Cx} {a b c : Expr} {ta tb tc : TE} {pos : Pos}
theorem fin_bl {pins : List (Addr × Obj)} {σ : St} {H : Hp} {s : Shared} {Q : VK} {k k' : Bool} (I : Inv X pins σ H s) (q : Q (.bl k) H) (e : k = k') : EP X pins σ Q (.bool k') s := by
  subst e
  exact ⟨.bl k, H, I, rfl, q⟩
theorem op_eq : OpR X (compareOp .Eq) rEq := by
  intro pins s σ H x y v u Q I rx ry h
  obtain ⟨hs, q⟩ := h
  cases x with
  | non =>
    cases rx
    cases y with
    | non => cases ry; exact PySem.EqNone.eq_none_none (fin_bl I q (by simp))
    | bl j => cases ry; exact PySem.EqNone.eq_none_bool (fin_bl I q (by simp))
    | int j => obtain ⟨t', rfl⟩ := ry; exact PySem.EqNone.eq_none_int (fin_bl I q (by simp))
    | str j => obtain ⟨t', rfl⟩ := ry; exact PySem.EqNone.eq_none_str (fin_bl I q (by simp))
    | _ => exact absurd (show false = true from hs) Bool.false_ne_true
  | bl i =>
    cases rx
    cases y with
    | non => cases ry; exact PySem.EqNone.eq_bool_none (fin_bl I q (by simp))
    | bl j => cases ry; exact eq_bool (fin_bl I q dec_bl)
    | str j => obtain ⟨t', rfl⟩ := ry; exact PySem.EqMixed.eq_bool_str (fin_bl I q (by simp))
    | _ => exact absurd (show false = true from hs) Bool.false_ne_true
  | int i =>
    obtain ⟨t, rfl⟩ := rx
    cases y with
    | non => cases ry; exact PySem.EqNone.eq_int_none (fin_bl I q (by simp))
    | int j => obtain ⟨t', rfl⟩ := ry; exact eq_int (fin_bl I q dec_int)
    | str j => obtain ⟨t', rfl⟩ := ry; exact PySem.EqMixed.eq_int_str (fin_bl I q (by simp))
    | _ => exact absurd (show false = true from hs) Bool.false_ne_true
  | str i =>
    obtain ⟨t, rfl⟩ := rx
    cases y with
    | non => cases ry; exact PySem.EqNone.eq_str_none (fin_bl I q (by simp))
    | bl j => cases ry; exact PySem.EqMixed.eq_str_bool (fin_bl I q (by simp))
    | int j => obtain ⟨t', rfl⟩ := ry; exact PySem.EqMixed.eq_str_int (fin_bl I q (by simp))
    | str j => obtain ⟨t', rfl⟩ := ry; exact eq_str (fin_bl I q dec_str)
    | _ => exact absurd (show false = true from hs) Bool.false_ne_true
  | byt i =>
    obtain ⟨t, rfl⟩ := rx
    cases y with
    | byt j => obtain ⟨t', rfl⟩ := ry; exact PySem.W.eq_bytes (fin_bl I q dec_byt)
    | _ => exact absurd (show false = true from hs) Bool.false_ne_true
  | _ => cases y <;> exact absurd (show false = true from hs) Bool.false_ne_true
theorem op_ne : OpR X (compareOp .NotEq) rNe := by
  intro pins s σ H x y v u Q I rx ry h
  obtain ⟨hs, q⟩ := h
  cases x with
  | non =>
    cases rx
    cases y with
    | non => cases ry; exact PySem.EqNone.ne_none_none (fin_bl I q (by simp))
    | bl j => cases ry; exact PySem.EqNone.ne_none_bool (fin_bl I q (by simp))
    | int j => obtain ⟨t', rfl⟩ := ry; exact PySem.EqNone.ne_none_int (fin_bl I q (by simp))
    | str j => obtain ⟨t', rfl⟩ := ry; exact PySem.EqNone.ne_none_str (fin_bl I q (by simp))
    | _ => exact absurd (show false = true from hs) Bool.false_ne_true
  | bl i =>
    cases rx
    cases y with
    | non => cases ry; exact PySem.EqNone.ne_bool_none (fin_bl I q (by simp))
    | bl j => cases ry; exact ne_bool (fin_bl I q (congrArg not dec_bl))
    | str j => obtain ⟨t', rfl⟩ := ry; exact PySem.EqMixed.ne_bool_str (fin_bl I q (by simp))
    | _ => exact absurd (show false = true from hs) Bool.false_ne_true
  | int i =>
    obtain ⟨t, rfl⟩ := rx
    cases y with
    | non => cases ry; exact PySem.EqNone.ne_int_none (fin_bl I q (by simp))
    | int j => obtain ⟨t', rfl⟩ := ry; exact ne_int (fin_bl I q (congrArg not dec_int))
    | str j => obtain ⟨t', rfl⟩ := ry; exact PySem.EqMixed.ne_int_str (fin_bl I q (by simp))
    | _ => exact absurd (show false = true from hs) Bool.false_ne_true
  | str i =>
    obtain ⟨t, rfl⟩ := rx
    cases y with
    | non => cases ry; exact PySem.EqNone.ne_str_none (fin_bl I q (by simp))
    | bl j => cases ry; exact PySem.EqMixed.ne_str_bool (fin_bl I q (by simp))
    | int j => obtain ⟨t', rfl⟩ := ry; exact PySem.EqMixed.ne_str_int (fin_bl I q (by simp))
    | str j => obtain ⟨t', rfl⟩ := ry; exact ne_str (fin_bl I q (congrArg not dec_str))
    | _ => exact absurd (show false = true from hs) Bool.false_ne_true
  | byt i =>
    obtain ⟨t, rfl⟩ := rx
    cases y with
    | byt j => obtain ⟨t', rfl⟩ := ry; exact PySem.W.ne_bytes (fin_bl I q (congrArg not dec_byt))
    | _ => exact absurd (show false = true from hs) Bool.false_ne_true
  | _ => cases y <;> exact absurd (show false = true from hs) Bool.false_ne_true
theorem op_lt : OpR X (compareOp .Lt) (rI0 fun i j => .bl (decide (i < j))) := opB0 fun _ _ _ _ _ _ _ q => lt_int q
theorem op_gt : OpR X (compareOp .Gt) (rI0 fun i j => .bl (decide (j < i))) := opB0 fun _ _ _ _ _ _ _ q => gt_int q
theorem op_in_str : OpR X (compareOp .In) (fun x y H Q => ∃ i j, x = .str i ∧ y = .str j ∧ Q (.bl (!(Builtin.Str.occurrences j i 0 j.length 1).isEmpty)) H) := by
  intro pins s σ H x y v u Q I rx ry h
  obtain ⟨i, j, rfl, rfl, q⟩ := h
  obtain ⟨t, rfl⟩ := rx
  obtain ⟨t', rfl⟩ := ry
  exact in_str (fin_bl I q rfl)
theorem op_isN : OpR X (compareOp .Is) (fun x y H Q => y = .non ∧ Q (.bl (decide (x = .non))) H) := by
  intro pins s σ H x y v u Q I rx ry h
  obtain ⟨rfl, q⟩ := h
  cases ry
  refine is_none_gen (fin_bl I q ?_)
  cases x <;> first
    | (cases rx; rfl)
    | (obtain ⟨t, rfl⟩ := rx; rfl)
theorem op_notin_str : OpR X (compareOp .NotIn) (fun x y H Q => ∃ i j, x = .str i ∧ y = .str j ∧ Q (.bl (!(!(Builtin.Str.occurrences j i 0 j.length 1).isEmpty))) H) := by
  intro pins s σ H x y v u Q I rx ry h
  obtain ⟨i, j, rfl, rfl, q⟩ := h
  obtain ⟨t, rfl⟩ := rx
  obtain ⟨t', rfl⟩ := ry
  exact notIn_str (fin_bl I q rfl)
theorem OpR.or {f : Value → Value → Sem Value} {r r' : R2} (h : OpR X f r) (h' : OpR X f r') : OpR X f (fun x y H Q => r x y H Q ∨ r' x y H Q) := by
  intro pins s σ H x y v u Q I rx ry q
  rcases q with q | q
  · exact h pins s σ H x y v u Q I rx ry q
  · exact h' pins s σ H x y v u Q I rx ry q
theorem nomark (b : Expr) {op : CmpOp} (h : op ≠ .In := by decide) (h2 : op ≠ .NotIn := by decide) : behindInMarks op b = false := by
  have e1 : (op == CmpOp.In) = false := by cases op <;> first | rfl | exact absurd rfl h
  have e2 : (op == CmpOp.NotIn) = false := by cases op <;> first | rfl | exact absurd rfl h2
  cases b <;> simp [behindInMarks, e1, e2]
theorem pe_cmpR {op : CmpOp} {r : R2} (ho : OpR X (compareOp op) r) (ha : PE X a ta) (hb : PE X b tb) (hm : behindInMarks op b = false) : PE X (.Compare a [op] [b] pos) (tOp r ta tb) := by
  intro pins s σ H Q I h
  exact wpAny_Compare1 (binT ha hb I h fun v u s2 x y H2 I2 rx ry q => ho pins s2 σ H2 x y v u Q I2 rx ry q) hm
def tTest (t : TE) : TT := fun σ H Q => t σ H fun x H' => ∃ k, x = .bl k ∧ Q k H'
theorem pt_cmpR {op : CmpOp} {r : R2} (ho : OpR X (compareOp op) r) (ha : PE X a ta) (hb : PE X b tb) (hm : behindInMarks op b = false) : PT X (.Compare a [op] [b] pos) (tTest (tOp r ta tb)) := by
  intro pins s σ H Q I h
  refine wpAny_isTrue_Compare1 (thn (ha pins s σ H _ I h) fun v s1 ⟨x, H1, I1, r1, q1⟩ => thn (hb pins s1 σ H1 _ I1 q1) fun u s2 ⟨y, H2, I2, r2, q2⟩ =>
    thn (ho pins s2 σ H2 x y v u _ I2 r1 r2 q2) fun c s3 ⟨z, H3, I3, r3, k, e, q3⟩ => ?_) hm
  subst e
  cases r3
  exact wpAny_truthy_bool ⟨H3, I3, q3⟩
def TruV (K : PySem.W.Frag) (x : V) (H : Hp) (k : Bool) : Prop :=
  match x with
  | .non => k = false
  | .bl b => k = b
  | .int i => k = (i != 0)
  | .str y => y.length ≤ sizeLine ∧ k = ((y.length : Int) != 0)
  | .byt y => y.size ≤ sizeLine ∧ k = ((y.size : Int) != 0)
  | .ref p => (∃ xs, SqL K H p xs ∧ k = !xs.isEmpty) ∨ (∃ xs, SqT K H p xs ∧ k = !xs.isEmpty) ∨ ∃ kvs, H p = some (.dK kvs) ∧ k = !kvs.isEmpty
  | _ => False
theorem isEmpty_kv {κ : Type} {kvs : List (κ × V)} {vs : List (κ × Value)} (r : KV kvs vs) : (!vs.isEmpty) = !kvs.isEmpty := by
  cases r <;> rfl
theorem isEmpty_of {xs : List V} {its : List Value} (r : Vals xs its) : (!its.toArray.isEmpty) = !xs.isEmpty := by
  cases r <;> simp
theorem line63 : (sizeLine : Nat) < 2 ^ 63 := by rw [sizeLine_eq]; decide
theorem tru_ok : TruR X (fun x H Q => ∃ k, TruV X.K x H k ∧ Q k H) := by
  intro pins s σ H x v Q I rx h
  obtain ⟨k, e, q⟩ := h
  have hl := line63
  have hs : sizeLine = 16777216 := sizeLine_eq
  cases x with
  | non =>
    cases rx
    have e' : k = false := e
    subst e'
    exact truthy_none ⟨H, I, q⟩
  | bl b =>
    cases rx
    have e' : k = b := e
    subst e'
    exact wpAny_truthy_bool ⟨H, I, q⟩
  | int i =>
    obtain ⟨t, rfl⟩ := rx
    have e' : k = (i != 0) := e
    subst e'
    exact PySem.P.truthy_int ⟨H, I, q⟩
  | str y =>
    obtain ⟨t, rfl⟩ := rx
    obtain ⟨hy, e'⟩ : y.length ≤ sizeLine ∧ k = ((y.length : Int) != 0) := e
    subst e'
    exact PySem.P.truthy_str (by omega) ⟨H, I.tok _, q⟩
  | byt y =>
    obtain ⟨t, rfl⟩ := rx
    obtain ⟨hy, e'⟩ : y.size ≤ sizeLine ∧ k = ((y.size : Int) != 0) := e
    subst e'
    exact PySem.W.truthy_bytes (by omega) ⟨H, I.tok _, q⟩
  | ref p =>
    cases rx
    have e' : (∃ xs, SqL X.K H p xs ∧ k = !xs.isEmpty) ∨ (∃ xs, SqT X.K H p xs ∧ k = !xs.isEmpty) ∨ ∃ kvs, H p = some (.dK kvs) ∧ k = !kvs.isEmpty := e
    rcases e' with ⟨xs, hx, e'⟩ | ⟨xs, hx, e'⟩ | ⟨kvs, hx, e'⟩
    · subst e'
      obtain ⟨its, r, pl, hz⟩ := I.list hx
      have hlen := r.length
      exact wpAny_truthy_list pl.isList (by simp only [List.size_toArray]; omega) ⟨H, I.tok _, by rw [isEmpty_of r]; exact q⟩
    · subst e'
      obtain ⟨its, r, pl, hz⟩ := I.tuple hx
      have hlen := r.length
      exact truthy_tuple pl (by simp only [List.size_toArray]; omega) ⟨H, I.tok _, by rw [isEmpty_of r]; exact q⟩
    · subst e'
      obtain ⟨hz, hS, vs, r, m⟩ : kvs.length ≤ sizeLine ∧ (p == sysModules) = false ∧ ∃ vs, KV kvs vs ∧ s.heap.DictOf (mixKind X.prog X.w) p vs := I.hok p _ hx
      have hlen : kvs.length = vs.length := Paired.length r
      exact wpAny_truthy_dict hS m (by omega) ⟨H, I.tok _, by rw [isEmpty_kv r]; exact q⟩
  | _ => exact (show False from e).elim
theorem pt_truth (ha : PE X a ta) (he : ∀ whole, isTrue a X.env whole = (do let v ← whole; standAt a.pos; holding [v] (truthy v))) :
    PT X a (fun σ H Q => ta σ H fun x H' => ∃ k, TruV X.K x H' k ∧ Q k H') := by
  intro pins s σ H Q I h
  exact isTrue_plain (thn (ha pins s σ H _ I h) fun v s1 ⟨x, H1, I1, r1, q1⟩ => tru_ok pins s1 σ H1 x v Q I1 r1 q1) (he _)
theorem op_add_str : OpR X (binaryOp .Add) (fun x y H Q => ∃ i j, x = .str i ∧ y = .str j ∧ i.length + j.length ≤ sizeLine ∧ Q (.str (i ++ j)) H) := by
  intro pins s σ H x y v u Q I rx ry h
  obtain ⟨i, j, rfl, rfl, hz, q⟩ := h
  obtain ⟨t, rfl⟩ := rx
  obtain ⟨t', rfl⟩ := ry
  exact add_str (fun t' tk => ⟨.str (i ++ j), H, I.tok _, ⟨_, rfl⟩, q⟩) hz
theorem vals1 {x : V} {us : List Value} (r : Vals [x] us) : ∃ u, us = [u] ∧ RelV x u := by
  cases r with
  | cons r1 r2 => cases r2; exact ⟨_, rfl, r1⟩
theorem vals2 {x y : V} {us : List Value} (r : Vals [x, y] us) : ∃ u w', us = [u, w'] ∧ RelV x u ∧ RelV y w' := by
  cases r with
  | cons r1 r2 =>
    cases r2 with
    | cons r3 r4 => cases r4; exact ⟨_, _, rfl, r1, r3⟩
def LenV (K : PySem.W.Frag) (x : V) (H : Hp) (n : Nat) : Prop :=
  match x with
  | .str y => y.length ≤ sizeLine ∧ n = y.length
  | .byt y => y.size ≤ sizeLine ∧ n = y.size
  | .ref p => (∃ xs, SqL K H p xs ∧ n = xs.length) ∨ ∃ xs, SqT K H p xs ∧ n = xs.length
  | _ => False
theorem call_len : CallR X (.builtin "len") (fun xs H Q => ∃ x n, xs = [x] ∧ LenV X.K x H n ∧ Q (.int n) H) := by
  intro pins s σ H xs us Q I r h
  obtain ⟨x, n, rfl, e, q⟩ := h
  obtain ⟨u, rfl, rx⟩ := vals1 r
  have hl := line63
  have hs : sizeLine = 16777216 := sizeLine_eq
  cases x with
  | str y =>
    obtain ⟨t, rfl⟩ := rx
    obtain ⟨hy, e'⟩ : y.length ≤ sizeLine ∧ n = y.length := e
    subst e'
    exact len_str (by omega) ⟨.int _, H, I.tok _, ⟨_, rfl⟩, q⟩
  | byt y =>
    obtain ⟨t, rfl⟩ := rx
    obtain ⟨hy, e'⟩ : y.size ≤ sizeLine ∧ n = y.size := e
    subst e'
    exact PySem.W.len_bytes (by omega) ⟨.int _, H, I.tok _, ⟨_, rfl⟩, q⟩
  | ref p =>
    cases rx
    have e' : (∃ xs, SqL X.K H p xs ∧ n = xs.length) ∨ ∃ xs, SqT X.K H p xs ∧ n = xs.length := e
    rcases e' with ⟨xs, hx, e'⟩ | ⟨xs, hx, e'⟩
    · subst e'
      obtain ⟨its, r', pl, hz⟩ := I.list hx
      have hlen := r'.length
      exact Calls.call_len_list pl.isList (by simp only [List.size_toArray]; omega) ⟨.int xs.length, H, I.tok _, ⟨_, by simp only [List.size_toArray]; rw [hlen]⟩, q⟩
    · subst e'
      obtain ⟨its, r', pl, hz⟩ := I.tuple hx
      have hlen := r'.length
      exact len_tuple pl (by simp only [List.size_toArray]; omega) ⟨.int xs.length, H, I.tok _, ⟨_, by simp only [List.size_toArray]; rw [hlen]⟩, q⟩
  | _ => exact (show False from e).elim
end
end L2
namespace L2
open PySem PySem.Spec PyProof.Rows
structure ObjM (h : Heap) (x dx C : Addr) (mA : Str → Option Value) : Prop where
  obj : h.get? x = some (PySem.W.instObj C dx)
  ns : h.Ns1 dx mA
  ne : dx ≠ x
theorem lookIn_ns {h : Heap} {dx : Addr} {mA : Str → Option Value} (n : h.Ns1 dx mA) : ∃ od, h.get? dx = some od ∧ ∀ name, PySem.W.lookIn name od = some (mA name) := by
  obtain ⟨o, es, ep, ho, hd, hk, _, hm⟩ := n
  refine ⟨o, ho, fun name => ?_⟩
  have e := hm name
  unfold nsFind findBy at e
  rw [← Array.find?_toList] at e
  unfold PySem.W.lookIn
  rw [hd]
  dsimp only
  split
  · rename_i y q
    rw [q] at e
    exact congrArg some e
  · rename_i q
    rw [q] at e
    have a : es.toList.any (·.refKey) = false := by
      rw [List.any_eq_false]
      intro y hy
      obtain ⟨z, t, hkey⟩ := hk y (Array.mem_toList_iff.mp hy)
      simp [DictEntry.refKey, hkey]
    have a' : ¬ es.toList.any (·.refKey) = true := by rw [a]; exact Bool.false_ne_true
    rw [if_neg a']
    exact congrArg some e
theorem ObjM.look {h : Heap} {x dx C : Addr} {mA : Str → Option Value} (I : ObjM h x dx C mA) : ∃ od, PySem.W.InstAt h x (PySem.W.instObj C dx) C (some od) ∧ ∀ name, PySem.W.lookIn name od = some (mA name) :=
  let ⟨od, ho, hl⟩ := lookIn_ns I.ns
  ⟨od, ⟨I.obj, rfl, rfl, ho⟩, hl⟩
section
variable {prog : Program} {w : World} {A : Around} {E : Value → Shared → Prop} {s : Shared} {K : PySem.W.Frag} {x dx C f : Addr} {mA : Str → Option Value} {name : Str} {v : Value}
end
def putF (f : Str) (v : V) : List (Str × V) → List (Str × V)
  | [] => [(f, v)]
  | (g, x) :: r => if g = f then (g, v) :: r else (g, x) :: putF f v r
theorem lookup_putF (f g : Str) (v : V) : ∀ fs : List (Str × V), (putF f v fs).lookup g = if g = f then some v else fs.lookup g
  | [] => by
    show List.lookup g [(f, v)] = _
    by_cases h : g = f
    · have hb : (g == f) = true := beq_iff_eq.mpr h
      simp only [List.lookup, hb, if_pos h]
    · have hb : (g == f) = false := beq_eq_false_iff_ne.mpr h
      simp only [List.lookup, hb, if_neg h]
  | (k, x) :: r => by
    have ih := lookup_putF f g v r
    rw [show putF f v ((k, x) :: r) = (if k = f then (k, v) :: r else (k, x) :: putF f v r) from rfl]
    by_cases hk : k = f
    · rw [if_pos hk]
      by_cases h : g = k
      · have hb : (g == k) = true := beq_iff_eq.mpr h
        simp only [List.lookup, hb, if_pos (h.trans hk)]
      · have hb : (g == k) = false := beq_eq_false_iff_ne.mpr h
        simp only [List.lookup, hb, if_neg (fun e : g = f => h (e.trans hk.symm))]
    · rw [if_neg hk]
      by_cases h : g = k
      · have hb : (g == k) = true := beq_iff_eq.mpr h
        simp only [List.lookup, hb, if_neg (fun e : g = f => hk (h.symm.trans e))]
      · have hb : (g == k) = false := beq_eq_false_iff_ne.mpr h
        simp only [List.lookup, hb]
        exact ih
theorem keys_putF (f : Str) (v : V) : ∀ fs : List (Str × V), f ∈ (putF f v fs).map (·.1) ∧ ∀ g, g ∈ fs.map (·.1) → g ∈ (putF f v fs).map (·.1)
  | [] => ⟨by simp [putF], fun g h => by simp at h⟩
  | (k, x) :: r => by
    obtain ⟨i1, i2⟩ := keys_putF f v r
    rw [show putF f v ((k, x) :: r) = (if k = f then (k, v) :: r else (k, x) :: putF f v r) from rfl]
    by_cases hk : k = f
    · rw [if_pos hk]
      subst hk
      exact ⟨by simp, fun g h => by simpa using h⟩
    · rw [if_neg hk]
      refine ⟨?_, fun g h => ?_⟩
      · rw [List.map_cons]
        exact List.mem_cons_of_mem _ i1
      · rw [List.map_cons] at h ⊢
        rcases List.mem_cons.mp h with e | e
        · exact List.mem_cons.mpr (.inl e)
        · exact List.mem_cons_of_mem _ (i2 g e)
theorem RelO.some_of {v : V} {o : Option Value} (r : RelO (some v) o) : ∃ u, o = some u ∧ RelV v u := by
  cases o with
  | none => exact (show False from r).elim
  | some u => exact ⟨u, rfl, r⟩
theorem handed_of {v : V} {u : Value} (r : RelV v u) : PySem.W.handedIn u = true := by
  cases v with
  | non => cases (show u = Value.none from r); rfl
  | bl b => cases (show u = Value.bool b from r); rfl
  | int i => obtain ⟨t, e⟩ := (show ∃ t, u = Value.int i t from r); cases e; rfl
  | str x => obtain ⟨t, e⟩ := (show ∃ t, u = Value.str x t from r); cases e; rfl
  | byt b => obtain ⟨t, e⟩ := (show ∃ t, u = Value.bytes b t from r); cases e; rfl
  | flt b => obtain ⟨t, e⟩ := (show ∃ t, u = Value.float b t from r); cases e; rfl
  | ref a => cases (show u = Value.ref a from r); rfl
  | ty n => cases (show u = Value.type n from r); rfl
section
variable {P : Program} {w : World} {H H' : Hp} {h h' : Heap} {a C dx : Addr} {fs fs' : List (Str × V)}
end
structure Cls (K : PySem.W.Frag) (C : Addr) : Prop where
  pg : PySem.W.plainGet K C Str.empty = true
  hd : PySem.W.hasDictIn K C = true
  po : PySem.W.plainOver K C = true
  sa : PySem.W.findIn K (.ref C) "__setattr__" = some (some (.builtin "object.__setattr__"))
theorem Cls.get {K : PySem.W.Frag} {C : Addr} (c : Cls K C) (f : Str) : PySem.W.plainGet K C f = true := c.pg
section
variable {X : Cx} {pins : List (Addr × Obj)} {σ : St} {H : Hp} {s : Shared} {a C dx : Addr} {fs : List (Str × V)} {f : Str} {v : V} {A : Around} {E : Value → Shared → Prop}
theorem attr_of {prog : Program} {w : World} {env : Env} {e : Expr} {f : Str} {pos : Pos} {s : Shared} {Q : Value → Shared → Prop} (hb : attributeBase e f env (eval e env) = eval e env)
    (h : wpAny (model prog w) A (eval e env) (fun o s₁ => wpAny (model prog w) A (getAttr o f true) Q E s₁) E s) : wpAny (model prog w) A (eval (.Attribute e f pos) env) Q E s :=
  Attribute_any_ h (by rw [arm_eval_Attribute, hb])
end
section
variable {X : Cx} {o e value : Expr} {f : Str} {pos pos' tpos : Pos} {ta tv : TE}
end
section
variable {X : Cx} {pins : List (Addr × Obj)} {σ : St} {H : Hp} {s : Shared} {A : Around} {E : Value → Shared → Prop} {Q : Value → Shared → Prop} {c : Value} {b : Bool}
end
end L2
namespace L2
open PySem PySem.Spec PyProof.Rows
structure Room (k : Nat) (A : Around) : Prop where
  hd : A.handled = none
  dp : A.depth + 3 * k + 5 < recursionLimit
  un : A.units + 16 * k + 200 < cLine
theorem Room.mono {j k : Nat} {A : Around} (r : Room k A) (h : j ≤ k) : Room j A := ⟨r.hd, by have := r.dp; omega, by have := r.un; omega⟩
theorem Room.deeper {k : Nat} {A : Around} (r : Room (k + 1) A) (env : Env) : Room k (A.deeper env) :=
  ⟨r.hd, by have := r.dp; show A.depth + 1 + 3 * k + 5 < _; omega, by have := r.un; show A.units + 3 + 16 * k + 200 < _; omega⟩
theorem make_depth {A : Around} {C : Addr} {us : List Value} {kw : List (Str × Value)} : (A.under (.builtin "type.__call__" ⟨.ref C :: us, kw⟩)).depth = A.depth + 1 := by
  first | rfl | simp [Around.under, Code.weight, Code.isCreation, Code.isGuard, Code.isCaller, Code.frames, Code.isFrame, guardIds]
theorem make_units {A : Around} {C : Addr} {us : List Value} {kw : List (Str × Value)} : (A.under (.builtin "type.__call__" ⟨.ref C :: us, kw⟩)).units = A.units + 1 := by
  first | rfl | simp [Around.under, Code.cUnits, Code.frames, Code.isFrame]
theorem Room.make {k : Nat} {A : Around} (r : Room (k + 1) A) (C : Addr) (us : List Value) (kw : List (Str × Value)) : Room k (A.under (.builtin "type.__call__" ⟨.ref C :: us, kw⟩)) :=
  ⟨r.hd, by have := r.dp; rw [make_depth]; omega, by have := r.un; rw [make_units]; omega⟩
theorem Room.depth {k : Nat} {A : Around} (r : Room k A) : A.depth < recursionLimit := by have := r.dp; omega
theorem Room.units {k : Nat} {A : Around} (r : Room k A) : A.units + 64 < cLine := by have := r.un; omega
def tNil : TA := fun _ H Q => Q [] H
def tCons (ta : TE) (tr : TA) : TA := fun σ H Q => ta σ H fun x H1 => tr σ H1 fun xs H2 => Q (x :: xs) H2
section
variable {X : Cx} {e : Expr} {es : List Expr} {te : TE} {t : TA} {pos : Pos}
theorem pa_nil : PA X [] tNil := fun _ _ _ _ H Q I h => Calls.spliced_nil ⟨[], H, I, .nil, h⟩
theorem pa_cons (ha : PE X e te) (hr : PA X es t) (hs : starEach (e :: es) X.env = (false, eval e X.env) :: starEach es X.env := by rfl) : PA X (e :: es) (tCons te t) := by
  intro pos pins s σ H Q I h
  rw [hs]
  show wpAny _ _ (spliced ((false, eval e X.env) :: backTo pos (starEach es X.env))) _ _ s
  refine Calls.spliced_cons (thn (ha pins s σ H _ I h) fun u s1 ⟨x, H1, I1, r1, q1⟩ => ?_)
  exact thn (hr pos pins s1 σ H1 _ I1 q1) fun us s2 ⟨xs, H2, I2, r2, q2⟩ => ⟨x :: xs, H2, I2, .cons r1 r2, q2⟩
def tTup (t : TA) : TE := fun σ H Q => t σ H fun xs H1 => xs.length ≤ sizeLine ∧ ∀ p, H1 p = none → Q (.ref p) (upd H1 p (.tup xs))
def tLst (t : TA) : TE := fun σ H Q => t σ H fun xs H1 => xs.length ≤ sizeLine ∧ ∀ p, H1 p = none → Q (.ref p) (upd H1 p (.lst xs))
theorem pe_tup {x1} (h : PA X es t) : PE X (.Tuple es x1 pos) (tTup t) := by
  intro pins s σ H Q I hq
  refine wpAny_Tuple_spliced (thn (h pos pins s σ H _ I hq) fun us s1 ⟨xs, H1, I1, r, z, q⟩ => ⟨by rw [← r.length]; exact z, ?_⟩)
  have hf : H1 s1.heap.objs.size = none := I1.hok.fresh (Nat.le_refl _)
  refine ⟨.ref s1.heap.objs.size, upd H1 s1.heap.objs.size (.tup xs), I1.laid (t' := s1.toks) (fun b u e => Heap.get?_push_of_some _ e) (Nat.le_refl _) ?_, rfl, q _ hf⟩
  exact ⟨z, us, r, ⟨_, Heap.get?_push_size _ rfl, rfl, _, rfl⟩⟩
theorem pe_lst (h : PA X es t) : PE X (.List es pos) (tLst t) := by
  intro pins s σ H Q I hq
  refine wpAny_List_spliced (thn (h pos pins s σ H _ I hq) fun us s1 ⟨xs, H1, I1, r, z, q⟩ => ⟨by rw [← r.length]; exact z, ?_⟩)
  have hf : H1 s1.heap.objs.size = none := I1.hok.fresh (Nat.le_refl _)
  refine ⟨.ref s1.heap.objs.size, upd H1 s1.heap.objs.size (.lst xs), I1.laid (t' := s1.toks) (fun b u e => Heap.get?_push_of_some _ e) (Nat.le_refl _) ?_, rfl, q _ hf⟩
  exact ⟨z, us, 0, r, Heap.get?_push_size _ rfl⟩
end
abbrev Sp := List V → Hp → VK → XK → Prop
abbrev CXT := List Env → Hp → Shared → XK → Value → Shared → Prop
structure Env0 (P : Program) (w : World) (K : PySem.W.Frag) (mg : Str → Option Value) (base : Heap) (A : Around) (outer : List Env) (s : Shared) (H : Hp) : Prop where
  frames : A.frames = some outer
  mod : Mod K mg base
  bs : ∀ b o, base.get? b = some o → s.heap.get? b = some o ∧ H b = none
  bsz : base.objs.size ≤ s.heap.objs.size
  funs : s.heap.FunFrames base outer
  frf : ∀ b ∈ frs outer, H b = none
  hok : HOk P w H s.heap
  bare : AllBare s.gens
def CE (outer : List Env) (P : Program) (w : World) (H : Hp) (s : Shared) (Q : VK) (u : Value) (s' : Shared) : Prop :=
  ∃ v H', s'.os = s.os ∧ AllBare s'.gens ∧ Un (frs outer) [] H H' s.heap s'.heap ∧ HOk P w H' s'.heap ∧ RelV v u ∧ Q v H'
def CR (CX : CXT) (outer : List Env) (P : Program) (w : World) (H : Hp) (s : Shared) (Q : VK) (E : XK) (r : Result) (s' : Shared) : Prop :=
  match r with
  | .ok (.ret u) => CE outer P w H s Q u s'
  | .ok _ => False
  | .error e => CX outer H s E e s'
structure FnOk (P : Program) (w : World) (K : PySem.W.Frag) (mg : Str → Option Value) (base : Heap) (CX : CXT) (k : Nat) (f : Addr) (fd : FuncData) (ps : List Str) (sp : Sp) : Prop where
  len : ∀ vs H Q E, sp vs H Q E → vs.length = ps.length
  run : ∀ (A : Around) (outer : List Env) (s : Shared) (H : Hp) (args : Args) (us : List Value) (vs : List V) (Q : VK) (E : XK), Room k A → Env0 P w K mg base A outer s H → BindsTo s fd args (ps.zip us) → Vals vs us → sp vs H Q E →
    codeAny (model P w) A (.call (.ref f) args) (CR CX outer P w H s Q E) s
theorem FnOk.mono {P : Program} {w : World} {K : PySem.W.Frag} {mg : Str → Option Value} {base : Heap} {CX : CXT} {j k : Nat} {f : Addr} {fd : FuncData} {ps : List Str} {sp : Sp} (F : FnOk P w K mg base CX j f fd ps sp) (h : j ≤ k) :
    FnOk P w K mg base CX k f fd ps sp := ⟨F.len, fun A outer s H args us vs Q E hr => F.run A outer s H args us vs Q E (hr.mono h)⟩
theorem Env0.make {P : Program} {w : World} {K : PySem.W.Frag} {mg : Str → Option Value} {base : Heap} {A : Around} {outer : List Env} {s : Shared} {H : Hp} (e : Env0 P w K mg base A outer s H) (C : Addr) (us : List Value) (kw : List (Str × Value)) :
    Env0 P w K mg base (A.under (.builtin "type.__call__" ⟨.ref C :: us, kw⟩)) outer s H := ⟨by first | exact e.frames | (simpa [Around.under, Code.envs, Code.isFrame, pushEnvs] using e.frames), e.mod, e.bs, e.bsz, e.funs, e.frf, e.hok, e.bare⟩
section
variable {X : Cx} {pins : List (Addr × Obj)} {σ : St} {H : Hp} {s s' : Shared}
theorem Inv.env0 (I : Inv X pins σ H s) : Env0 X.prog X.w X.K X.mg X.base X.A X.stack s H :=
  ⟨I.ok.frames, I.ok.mod, I.bs, Nat.le_trans I.ok.bsz I.sz, I.stack, I.stkFree, I.hok, I.bare⟩
theorem Inv.after {Q : VK} {u : Value} (I : Inv X pins σ H s) (h : CE X.stack X.prog X.w H s Q u s') : EP X pins σ Q u s' := by
  obtain ⟨v, H', os, bare, un, hok, r, q⟩ := h
  obtain ⟨hh, g, d, t, os'⟩ := s'
  obtain rfl : os' = s.os := os
  exact ⟨v, H', I.call (h' := hh) (g' := g) (d' := d) (t' := t) (ch := []) un hok bare (fun b z => absurd z (by simp)), r, q⟩
end
def tCall (sp : Sp) (dvs : List V) (E : XK) (t : TA) : TE := fun σ H Q => t σ H fun vs H1 => sp (vs ++ dvs) H1 Q E
def Binds (K : PySem.W.Frag) (fd : FuncData) (ps : List Str) (ds : List Value) : Prop :=
  ∀ (s : Shared) (us : List Value), K.In s.heap → (us ++ ds).length = ps.length → BindsTo s fd ⟨us, []⟩ (ps.zip (us ++ ds))
theorem Binds.all {K : PySem.W.Frag} {fd : FuncData} {ps : List Str} (h : ∀ us : List Value, us.length = ps.length → bindArgs fd ⟨us, []⟩ = pure (ps.zip us)) : Binds K fd ps [] := fun s us _ hl => by
  rw [List.append_nil] at hl ⊢
  exact .of_eq (h us hl)
def Passes (CX : CXT) (X : Cx) (E : XK) : Prop := ∀ (pins : List (Addr × Obj)) (σ : St) (H : Hp) (s : Shared) (e : Value) (s' : Shared), Inv X pins σ H s → CX X.stack H s E e s' → X.xe e s'
section
variable {X : Cx} {CX : CXT} {k : Nat} {f C : Addr} {fd : FuncData} {ps : List Str} {sp : Sp} {dvs : List V} {ds : List Value} {E : XK} {x m : Str} {p pos apos : Pos} {e o : Expr} {es : List Expr} {ta : TE} {t : TA}
theorem run_fn {pins : List (Addr × Obj)} {σ : St} {H : Hp} {s : Shared} {Q : VK} {us : List Value} {vs : List V} (F : FnOk X.prog X.w X.K X.mg X.base CX k f fd ps sp) (hr : Room k X.A) (hb : Binds X.K fd ps ds) (hd : Vals dvs ds) (hx : Passes CX X E)
    (I : Inv X pins σ H s) (r : Vals vs us) (h : sp (vs ++ dvs) H Q E) : wpAny (model X.prog X.w) X.A (call (.ref f) us) (EP X pins σ Q) X.xe s := by
  have r2 : Vals (vs ++ dvs) (us ++ ds) := r.append hd
  have hl : (us ++ ds).length = ps.length := by rw [← r2.length]; exact F.len _ _ _ _ h
  refine wpAny_call (codeAny_mono (F.run X.A X.stack s H ⟨us, []⟩ (us ++ ds) (vs ++ dvs) Q E hr I.env0 (hb s us I.kIn hl) r2 h) fun r s' hq => ?_)
  cases r with
  | error e => exact hx pins σ H s e s' I hq
  | ok fl =>
    cases fl with
    | ret u => exact I.after hq
    | next => exact False.elim hq
    | brk => exact False.elim hq
    | cont => exact False.elim hq
theorem pe_call (F : FnOk X.prog X.w X.K X.mg X.base CX k f fd ps sp) (hr : Room k X.A) (hg : Gl X x) (hm : X.mg x = some (.ref f)) (hk : PySem.W.keepIn X.K (.ref f) = true) (hb : Binds X.K fd ps ds) (hd : Vals dvs ds) (hx : Passes CX X E)
    (ha : PA X (e :: es) t) (hdb : (x == ("__debug__" : Str)) = false := by decide) (he : starEach (e :: es) X.env = (false, eval e X.env) :: starEach es X.env := by rfl) (hpl : (backTo pos (starEach es X.env)).any (·.1) = false := by rfl) :
    PE X (.Call (.Name x p) (e :: es) [] pos) (tCall sp dvs E t) := by
  intro pins s σ H Q I h
  refine wpAny_Call_Name_kw (ld_glob I hg hm ?_ hdb)
  refine PySem.W.callWith_K (h₀ := X.base) I.ok.mod.kin hk (thn (ha pos pins s σ H _ I h) fun us s1 ⟨vs, H1, I1, r, q⟩ => ⟨I1.kIn, ?_⟩) he hpl
  exact run_fn F hr hb hd hx I1 r q
end
section
variable {X : Cx} {CX : CXT} {k : Nat} {f C : Addr} {fd : FuncData} {ps ks : List Str} {sp : Sp} {E : XK} {x m : Str} {p pos apos kpos : Pos} {e o : Expr} {es : List Expr} {kws : List Keyword} {te ta : TE} {t tk : TA} {nm : Option Str}
variable {g : List Value → List Value → List Value} {gV : List V → List V → List V}
end
structure FnScope (N P : List Str) (sc : Scope) : Prop where
  kind : sc.kind = .function
  co : sc.isCoroutine = false
  gen : sc.isGenerator = false
  nd : N.Nodup
  pre : N.take P.length = P
  par : ∀ x ∈ P, sc.names.lookup x = some .local ∨ sc.names.lookup x = some .cell
  nofree : ∀ y ∈ sc.names, y.2 ≠ .free
theorem bindL_out {kindOf : Str → Option NameKind} {x : Str} : ∀ {binds : List (Str × Value)} {m : Str → Option Value}, (∀ v, (x, v) ∉ binds) → bindL kindOf binds m x = m x
  | [], _, _ => rfl
  | (n, v) :: r, m, h => by
    unfold bindL
    rw [bindL_out fun w hw => h w (List.mem_cons_of_mem _ hw)]
    split
    · have : x ≠ n := by rintro rfl; exact h v List.mem_cons_self
      simp [this]
    · rfl
theorem bindC_out {kindOf : Str → Option NameKind} {x : Str} : ∀ {binds : List (Str × Value)} {m : Str → Option Value}, (∀ v, (x, v) ∉ binds) → bindC kindOf binds m x = m x
  | [], _, _ => rfl
  | (n, v) :: r, m, h => by
    unfold bindC
    rw [bindC_out fun w hw => h w (List.mem_cons_of_mem _ hw)]
    split
    · rfl
    · have : x ≠ n := by rintro rfl; exact h v List.mem_cons_self
      simp [this]
theorem bindL_get {kindOf : Str → Option NameKind} {x : Str} {v : Value} : ∀ {P : List Str} {vs : List Value} {i : Nat} {m : Str → Option Value}, P.Nodup → P[i]? = some x → vs[i]? = some v → kindOf x = some .local →
    bindL kindOf (P.zip vs) m x = some v
  | [], _, _, _, _, h, _, _ => by simp at h
  | _ :: _, [], _, _, _, _, h, _ => by simp at h
  | p :: P, w :: vs, 0, m, nd, h1, h2, hk => by
    simp at h1 h2; subst h1; subst h2
    show bindL kindOf ((p, w) :: P.zip vs) m p = _
    unfold bindL
    rw [bindL_out fun v hv => (List.nodup_cons.mp nd).1 (List.of_mem_zip hv).1, if_pos hk]
    simp
  | p :: P, w :: vs, i + 1, m, nd, h1, h2, hk => by
    show bindL kindOf ((p, w) :: P.zip vs) m x = _
    unfold bindL
    exact bindL_get (i := i) (List.nodup_cons.mp nd).2 (by simpa using h1) (by simpa using h2) hk
theorem bindC_get {kindOf : Str → Option NameKind} {x : Str} {v : Value} : ∀ {P : List Str} {vs : List Value} {i : Nat} {m : Str → Option Value}, P.Nodup → P[i]? = some x → vs[i]? = some v → kindOf x ≠ some .local →
    bindC kindOf (P.zip vs) m x = some v
  | [], _, _, _, _, h, _, _ => by simp at h
  | _ :: _, [], _, _, _, _, h, _ => by simp at h
  | p :: P, w :: vs, 0, m, nd, h1, h2, hk => by
    simp at h1 h2; subst h1; subst h2
    show bindC kindOf ((p, w) :: P.zip vs) m p = _
    unfold bindC
    rw [bindC_out fun v hv => (List.nodup_cons.mp nd).1 (List.of_mem_zip hv).1, if_neg hk]
    simp
  | p :: P, w :: vs, i + 1, m, nd, h1, h2, hk => by
    show bindC kindOf ((p, w) :: P.zip vs) m x = _
    unfold bindC
    exact bindC_get (i := i) (List.nodup_cons.mp nd).2 (by simpa using h1) (by simpa using h2) hk
def start (N : List Str) (vs : List V) : St := vs.map some ++ List.replicate (N.length - vs.length) none
def cxOf (CX : CXT) (P : Program) (w : World) (K : PySem.W.Frag) (mg : Str → Option Value) (base : Heap) (N : List Str) (qual : Str) (scope : Scope) (f : Addr) (cd : Value) (A : Around) (outer : List Env) (s : Shared) (H : Hp) (E : XK) : Cx where
  prog := P
  w := w
  K := K
  mg := mg
  base := base
  A := A.deeper (envOfC qual scope s.heap.objs.size f cd)
  N := N
  s₀ := s
  H₀ := H
  env := envOfC qual scope s.heap.objs.size f cd
  outer := outer
  stack := envOfC qual scope s.heap.objs.size f cd :: outer
  ex := []
  calm := true
  fn := fun _ => true
  pn := []
  xe := fun e s' => wpAny (model P w) (A.deeper (envOfC qual scope s.heap.objs.size f cd)) (leaving (envOfC qual scope s.heap.objs.size f cd) e) (fun _ s'' => CX outer H s E e s'') (fun e' s'' => CX outer H s E e' s'') s'
theorem cell_has {sc : Scope} {n : Nat} {x : Str} (h : sc.names.lookup x = some .cell) : ∃ c, (cellsFrom n sc.names []).lookup x = some c := by
  have q := PySem.W.cellsFrom_some sc.names n [] (.inl h)
  exact Option.isSome_iff_exists.mp q
theorem inv_start {CX : CXT} {P : Program} {w : World} {K : PySem.W.Frag} {mg : Str → Option Value} {base : Heap} {N ps : List Str} {qual : Str} {scope : Scope} {f : Addr} {cd : Value} {A : Around} {outer : List Env} {s s1 : Shared} {H : Hp} {E : XK} {us : List Value} {vs : List V}
    (S : FnScope N ps scope) (hd : A.handled = none) (e0 : Env0 P w K mg base A outer s H) (hl : vs.length = ps.length) (r : Vals vs us)
    (x : InCallC s s.heap.objs.size (bindL (envOfC qual scope s.heap.objs.size f cd).kindOf (ps.zip us) fun _ => none) (cellsFrom (s.heap.objs.size + 1) scope.names []) (bindC (envOfC qual scope s.heap.objs.size f cd).kindOf (ps.zip us) fun _ => none) s1) :
    Inv (cxOf CX P w K mg base N qual scope f cd A outer s H E) [] (start N vs) H s1 := by
  have hpl : ps.length ≤ N.length := by have := congrArg List.length S.pre; rw [List.length_take] at this; omega
  obtain ⟨h1, tk, rfl, hk⟩ := x.done
  have noA : ∀ b : Addr, b ∉ (cxOf CX P w K mg base N qual scope f cd A outer s H E).ex := fun b z => absurd (show b ∈ ([] : List Addr) from z) (by simp)
  refine ⟨⟨e0.mod, S.kind, rfl, rfl, Nat.le_refl _, fun y z c h1 h2 => ?_, fun y hy => ?_, fun y c _ h => ?_, fun _ => hd, Around.frames_deeper e0.frames, .inr ⟨rfl, rfl⟩, fun b z => absurd z (noA b), e0.bs, e0.bsz, fun b _ _ => noA b, fun b z => absurd z (noA b), e0.funs, e0.frf⟩,
    rfl, e0.bare, Un.kept hk, ⟨_, x.toInCall.ns, fun i y v h1 h2 h3 => ?_⟩, fun y c h => ⟨_, x.cell y c h⟩, e0.hok.fresh (Nat.le_refl _), fun y c h => ?_, fun p hp => absurd (show p ∈ ([] : List (Addr × Obj)) from hp) (by simp), e0.hok.kept hk, ?_⟩
  · exact name_of_addr x.apart (PySem.mem_of_lookup h1) (PySem.mem_of_lookup h2)
  · have hy : scope.names.lookup y = some .cell ∨ scope.names.lookup y = some .free := hy
    rcases hy with hy | hy
    · exact cell_has hy
    · exact absurd rfl (S.nofree _ (PySem.mem_of_lookup hy))
  · exact Nat.le_of_lt (x.above y c (PySem.mem_of_lookup h))
  · have hi : i < vs.length := by
      unfold start at h2
      by_cases hi : i < vs.length
      · exact hi
      · rw [List.getElem?_append_right (by simpa using hi)] at h2
        rw [List.getElem?_replicate] at h2
        split at h2 <;> cases h2
    have ha : vs[i]? = some v := by
      unfold start at h2
      rw [List.getElem?_append_left (by simpa using hi), List.getElem?_map] at h2
      cases e : vs[i]? with
      | none => rw [e] at h2; cases h2
      | some a => rw [e] at h2; cases h2; rfl
    obtain ⟨u, hu, rv⟩ := r.get ha
    have hp : ps[i]? = some y := by
      rw [← S.pre, List.getElem?_take_of_lt (by omega)]; exact h1
    have ndP : ps.Nodup := by rw [← S.pre]; exact S.nd.sublist (List.take_sublist _ _)
    refine ⟨u, rv, ?_⟩
    rcases S.par y (List.mem_of_getElem? hp) with k | k
    · exact .inl ⟨k, bindL_get ndP hp hu k⟩
    · obtain ⟨c, e⟩ := cell_has (n := s.heap.objs.size + 1) k
      refine .inr ⟨.inl k, c, e, ?_⟩
      have q := x.cell y c e
      rw [bindC_get ndP hp hu (by show scope.names.lookup y ≠ _; rw [k]; decide)] at q
      exact q
  · exact e0.hok.fresh (Nat.le_of_lt (x.above y c (PySem.mem_of_lookup h)))
  · unfold start
    show _ = N.length
    rw [List.length_append, List.length_map, List.length_replicate]
    omega
theorem fn_of {CX : CXT} {P : Program} {w : World} {K : PySem.W.Frag} {mg : Str → Option Value} {base : Heap} {k : Nat} {f : Addr} {name qual : Str} {params : Arguments} {body : List Stmt} {scope : Scope} {dV kV doc pm cdv ct oc : Value} {an od : Option Addr}
    {osl : Array (Option Value)} {N ps : List Str} {sp : Sp} (lk : K.lookup f = some ⟨oc, od, .func (PySem.W.fnOf name qual params body scope dV kV doc pm an cdv ct), osl⟩) (hcd : PySem.W.codeIn K cdv qual = true) (S : FnScope N ps scope)
    (len : ∀ vs H Q E, sp vs H Q E → vs.length = ps.length)
    (hbody : ∀ (A : Around) (outer : List Env) (s : Shared) (H : Hp) (vs : List V) (Q : VK) (E : XK), Room k (A.deeper (envOfC qual scope s.heap.objs.size f cdv)) → sp vs H Q E →
      ∃ t, PSs (cxOf CX P w K mg base N qual scope f cdv A outer s H E) body t ∧ t { nx := fun _ H' => Q .non H', rt := Q } (start N vs) H) :
    FnOk P w K mg base CX (k + 1) f (PySem.W.fnOf name qual params body scope dV kV doc pm an cdv ct) ps sp := by
  refine ⟨len, fun A outer s H args us vs Q E hr e0 hb r hsp => ?_⟩
  have hl := len _ _ _ _ hsp
  have KX : K.In s.heap := e0.mod.kin.keeps fun b o e => (e0.bs b o e).1
  have lim : s.heap.NoLimit := e0.mod.nolimit.keeps fun b o e => (e0.bs b o e).1
  have hkind : ∀ y ∈ ps.zip us, scope.names.lookup y.1 = some .local ∨ (scope.names.lookup y.1 = some .cell ∧ ((cellsFrom (s.heap.objs.size + 1) scope.names []).lookup y.1).isSome = true) := fun ⟨n, v⟩ hy => by
    rcases S.par n (List.of_mem_zip hy).1 with q | q
    · exact .inl q
    · exact .inr ⟨q, PySem.W.cellsFrom_some _ _ _ (.inl q)⟩
  refine codeAny_call_function hr.depth (KX _ _ lk) rfl S.co S.gen rfl (PySem.W.codeRec_of KX hcd) (hb _ _ _ _ ?_)
  refine wpAny_newFunctionEnv_cells S.kind hkind fun env he s1 x => ?_
  subst he
  refine ⟨lim.keeps x.toInCall.keep, codeAny_func ?_⟩
  obtain ⟨t, ht, hq⟩ := hbody A outer s H vs Q E (hr.deeper _) hsp
  have I : Inv (cxOf CX P w K mg base N qual scope f cdv A outer s H E) [] (start N vs) H s1 := inv_start S hr.hd e0 hl r x
  refine wpAny_mono (ht [] s1 (start N vs) H _ I hq) (fun fl s' hs => ?_) fun e s' hs => hs
  have fin : ∀ {σ' : St} {H' : Hp} {v : V} {u : Value}, Inv (cxOf CX P w K mg base N qual scope f cdv A outer s H E) [] σ' H' s' → RelV v u → Q v H' → CE outer P w H s Q u s' :=
    fun {σ' H' v u} J rv q => ⟨v, H', J.os, J.bare, J.base, J.hok, rv, q⟩
  cases fl with
  | ret u =>
    obtain ⟨v, σ', H', J, rv, q⟩ := hs
    exact fin J rv q
  | next =>
    obtain ⟨σ', H', J, q⟩ := hs
    exact fin (v := V.non) (u := Value.none) J rfl q
  | brk =>
    obtain ⟨_, _, _, q⟩ := hs
    exact False.elim q
  | cont =>
    obtain ⟨_, _, _, q⟩ := hs
    exact False.elim q
end L2
namespace L2
open PySem PySem.Spec PyProof.Rows
section
variable {X : Cx} {x : Str} {p pos : Pos} {e : Expr} {es : List Expr} {t : TA} {id T : String} {r : List V → Hp → VK → Prop}
def tCB (r : List V → Hp → VK → Prop) (t : TA) : TE := fun σ H Q => t σ H fun vs H1 => r vs H1 Q
theorem pe_callB (hc : CallR X (.builtin id) r) (hg : Gl X x) (hm : X.mg x = none) (hv : bootBuiltins x = some (.builtin id)) (ha : PA X (e :: es) t) (hn : x ≠ "__name__" := by decide) (hdb : (x == ("__debug__" : Str)) = false := by decide)
    (he : starEach (e :: es) X.env = (false, eval e X.env) :: starEach es X.env := by rfl) (hpl : (backTo pos (starEach es X.env)).any (·.1) = false := by rfl) : PE X (.Call (.Name x p) (e :: es) [] pos) (tCB r t) := by
  intro pins s σ H Q I h
  refine wpAny_Call_Name_kw (ld_blt I hg hm hv ?_ hn hdb)
  exact PyProof.Rows.callWith_builtin1 (thn (ha pos pins s σ H _ I h) fun us s1 ⟨vs, H1, I1, r1, q1⟩ => hc pins s1 σ H1 vs us Q I1 r1 q1) he hpl
theorem pe_callTy (hc : CallR X (.type T) r) (hg : Gl X x) (hm : X.mg x = none) (hv : bootBuiltins x = some (.type T)) (ha : PA X (e :: es) t) (hn : x ≠ "__name__" := by decide) (hdb : (x == ("__debug__" : Str)) = false := by decide)
    (he : starEach (e :: es) X.env = (false, eval e X.env) :: starEach es X.env := by rfl) (hpl : (backTo pos (starEach es X.env)).any (·.1) = false := by rfl) : PE X (.Call (.Name x p) (e :: es) [] pos) (tCB r t) := by
  intro pins s σ H Q I h
  refine wpAny_Call_Name_kw (ld_blt I hg hm hv ?_ hn hdb)
  exact PyProof.Rows.callWith_type1 (thn (ha pos pins s σ H _ I h) fun us s1 ⟨vs, H1, I1, r1, q1⟩ => hc pins s1 σ H1 vs us Q I1 r1 q1) he hpl
end
end L2
namespace HT
open PySem PyProof.Rows
section
open PySem.SeqAt
open PySem.AutoSeq1 (wpAny_loadPart')
open PySem.MeetsSeq PySem.MeetsSeq2 PySem.MeetsSeq3
end
section
variable {prog : Program} {w : World} {A : Around} {E : Value → Shared → Prop} {s : Shared}
theorem cat_tup {t b : Addr} {vs ws : List Value} {Q : Value → Shared → Prop} (ht : IsTup s.heap t vs.toArray) (hb : IsTup s.heap b ws.toArray) (hv : vs ≠ [])
    (h1 : ws = [] → Q (.ref t) s) (h2 : ws ≠ [] → Q (.ref s.heap.objs.size) { s with heap := s.heap.push { cls := .type "tuple", data := .seq (vs ++ ws).toArray } })
    (hsz : vs.length + ws.length ≤ sizeLine) : wpAny (model prog w) A (binaryOp .Add (.ref t) (.ref b)) Q E s := by
  obtain ⟨⟨cls, dd, data, sl⟩, ho, hc, n, hd⟩ := id ht
  obtain ⟨⟨cls2, dd2, data2, sl2⟩, ho2, hc2, n2, hd2⟩ := id hb
  simp only at hc hd hc2 hd2
  subst hc hd hc2 hd2
  have e : vs.toArray ++ ws.toArray = (vs ++ ws).toArray := by simp
  by_cases hw : ws = []
  · exact concat_meets ⟨_, ho, rfl⟩ ⟨_, ho2, rfl⟩ noFill_tuple_add seq_tuple_add PySem.F.slot_tuple_add PySem.F.entry_tuple_add (PySem.F.args_tuple_add_2 _ _)
      (tuple_addW1 t b vs.toArray ws.toArray n n2 dd dd2 sl sl2 (by simpa using hv) (by simp [hw])) ⟨ho, ho2, h1 hw⟩
  · refine concat_meets ⟨_, ho, rfl⟩ ⟨_, ho2, rfl⟩ noFill_tuple_add seq_tuple_add PySem.F.slot_tuple_add PySem.F.entry_tuple_add (PySem.F.args_tuple_add_2 _ _)
      (tuple_addW2 t b vs.toArray ws.toArray n n2 dd dd2 sl sl2 (by simpa using hv) (by simpa using hw) (by rw [List.size_toArray, List.size_toArray]; exact hsz)) ⟨ho, ho2, ?_⟩
    rw [e]
    exact h2 hw
def sIx (n d : Nat) : Option Int → Nat
  | none => d
  | some v => if v < 0 then (v + (n : Int)).toNat else min v.toNat n
theorem sIx_le (n d : Nat) (hd : d ≤ n) (o : Option Int) : sIx n d o ≤ n := by
  cases o with
  | none => exact hd
  | some v =>
    show (if v < 0 then (v + (n : Int)).toNat else min v.toNat n) ≤ n
    by_cases hv : v < 0
    · rw [if_pos hv]; omega
    · rw [if_neg hv]; exact Nat.min_le_right _ _
theorem clip_eq (v : Int) (n d : Nat) : (if v < 0 then max (v + (n : Int)) 0 else min v (n : Int)) = ((sIx n d (some v) : Nat) : Int) := by
  show (if v < 0 then max (v + (n : Int)) 0 else min v (n : Int)) = (((if v < 0 then (v + (n : Int)).toNat else min v.toNat n) : Nat) : Int)
  by_cases hv : v < 0
  · simp only [if_pos hv]; omega
  · simp only [if_neg hv]; omega
theorem adjust_gen (lo hi : Option Int) (n : Nat) : Builtin.Slice.sliceAdjust lo hi 1 (n : Int) = (((sIx n 0 lo : Nat) : Int), ((sIx n n hi : Nat) : Int)) := by
  have h1 : ¬ ((1 : Int) < 0) := by omega
  unfold Builtin.Slice.sliceAdjust
  simp only [h1, if_false]
  refine Prod.ext ?_ ?_
  · cases lo with
    | none => rfl
    | some v => exact clip_eq v n 0
  · cases hi with
    | none => rfl
    | some v => exact clip_eq v n n
theorem places_gen (i j : Nat) : Builtin.Slice.slicePlaces (i : Int) (j : Int) 1 = j - i := by
  unfold Builtin.Slice.slicePlaces
  have h1 : (1 : Int) > 0 := by omega
  simp only [h1, if_true, Int.ediv_one]
  split <;> omega
theorem slicePart_ {v : Value} {o : Option Int} {Q : Option Int → Shared → Prop} (p : IsPart v o) (h : Q o s) : wpAny (model prog w) A (Builtin.Slice.slicePartIndex v) Q E s := by
  cases p with
  | none => exact slicePart_none h
  | int i t => exact slicePart_int h
theorem sliceApplied_gen {sl : Addr} {vl vu : Value} {lo hi : Option Int} {n : Nat} {Q : Int × Int × Nat → Shared → Prop} (hs : s.heap.IsSliceOf sl vl vu .none) (pl : IsPart vl lo) (pu : IsPart vu hi)
    (h : Q (((sIx n 0 lo : Nat) : Int), 1, sIx n n hi - sIx n 0 lo) s) : wpAny (model prog w) A (Builtin.Slice.sliceApplied (.ref sl) (pure (n : Int))) Q E s := by
  obtain ⟨os, hos, hcs, hds⟩ := id hs
  unfold Builtin.Slice.sliceApplied Builtin.Slice.sliceFields
  refine wpAny_bind (wpAny_bind (wpAny_field hos hds (x := vl) rfl (wpAny_bind (wpAny_field hos hds (x := vu) rfl (wpAny_bind (wpAny_field hos hds (x := .none) rfl (wpAny_pure ?_)))))))
  refine wpAny_bind (slicePart_none ?_)
  show wpAny _ _ (if ((1 : Int) == 0) = true then _ else _) _ _ s
  rw [if_neg (by decide)]
  refine wpAny_bind (slicePart_ pl (wpAny_bind (slicePart_ pu (wpAny_bind (wpAny_pure ?_)))))
  show wpAny _ _ (match Builtin.Slice.sliceAdjust lo hi 1 (n : Int) with | (lo, hi) => pure (lo, (1 : Int), Builtin.Slice.slicePlaces lo hi 1)) _ _ s
  rw [adjust_gen lo hi n]
  show wpAny _ _ (pure (((sIx n 0 lo : Nat) : Int), (1 : Int), Builtin.Slice.slicePlaces ((sIx n 0 lo : Nat) : Int) ((sIx n n hi : Nat) : Int) 1)) _ _ s
  rw [places_gen]
  exact wpAny_pure h
theorem pick_gen (xs : Array Value) (i k : Nat) : ((List.range k).filterMap fun (m : Nat) => xs[((i : Int) + (m : Int) * 1).toNat]?).toArray = ((xs.toList.drop i).take k).toArray := by
  have e : (fun (m : Nat) => xs[((i : Int) + (m : Int) * 1).toNat]?) = fun m => xs[i + m]? := by
    funext m
    have : ((i : Int) + (m : Int) * 1).toNat = i + m := by omega
    rw [this]
  rw [e]
  have := pick_run xs i k
  rw [List.filterMap_map] at this
  have e2 : ((fun x => xs[x]?) ∘ fun x => i + x) = fun m => xs[i + m]? := rfl
  rw [e2] at this
  rw [this]
theorem getItem_tuple_cut {t sl : Addr} {items : Array Value} {vl vu : Value} {lo hi : Option Int} {Q : Value → Shared → Prop} (ht : IsTup s.heap t items) (hs : s.heap.IsSliceOf sl vl vu .none) (pl : IsPart vl lo) (pu : IsPart vu hi)
    (hw : ¬ (sIx items.size 0 lo = 0 ∧ sIx items.size items.size hi = items.size))
    (h : Q (.ref s.heap.objs.size) { s with heap := s.heap.push { cls := .type "tuple", data := .seq ((items.toList.drop (sIx items.size 0 lo)).take (sIx items.size items.size hi - sIx items.size 0 lo)).toArray } })
    (hsz : items.size ≤ sizeLine) : wpAny (model prog w) A (getItem (.ref t) (.ref sl)) Q E s := by
  have htake : sizeOk (.seq ((items.toList.drop (sIx items.size 0 lo)).take (sIx items.size items.size hi - sIx items.size 0 lo)).toArray) := by
    show ((items.toList.drop (sIx items.size 0 lo)).take (sIx items.size items.size hi - sIx items.size 0 lo)).toArray.size ≤ sizeLine
    rw [List.size_toArray, List.length_take, List.length_drop, Array.length_toList]
    omega
  have hj : sIx items.size items.size hi ≤ items.size := sIx_le _ _ (Nat.le_refl _) hi
  obtain ⟨os, hos, hcs, hds⟩ := id hs
  have hTs : s.TypeIs (.ref sl) "slice" := ⟨os, hos, hcs⟩
  unfold getItem
  try with_reducible refine wpAny_holding ?_
  first | refine wpAny_bind (wpAny_pure ?_) | skip
  refine wpAny_bind (wpAny_sequenceKey ht.typeIs (by decide) ?_)
  refine wpAny_bind (wpAny_callSpecial?_slot (name := Str.ofString "__getitem__") ht.typeIs PyProof.Rows.slot_tuple_getitem
    (wpAny_call_entry PyProof.Rows.slot_tuple_getitem ht.typeIs entry_tuple_getitem ?_ (args_tuple_getitem _ _)))
  show wpAny _ _ (Builtin.Tuple.tupleItemsOf (.ref t) >>= _) _ _ s
  refine wpAny_bind (tupleItemsOf_ ht ?_)
  refine wpAny_bind (wpAny_typeOf hTs ?_)
  rw [if_pos (by decide)]
  refine wpAny_bind (sliceApplied_gen hs pl pu ?_)
  have hno : ¬ ((((sIx items.size 0 lo : Nat) : Int) == 0 && (1 : Int) == 1 && (sIx items.size items.size hi - sIx items.size 0 lo) == items.size) = true) := by
    intro q
    rw [Bool.and_eq_true, Bool.and_eq_true] at q
    have q1 : ((sIx items.size 0 lo : Nat) : Int) = 0 := eq_of_beq q.1.1
    have q2 : sIx items.size items.size hi - sIx items.size 0 lo = items.size := eq_of_beq q.2
    exact hw ⟨by omega, by omega⟩
  show wpAny _ _ (if (((sIx items.size 0 lo : Nat) : Int) == 0 && (1 : Int) == 1 && (sIx items.size items.size hi - sIx items.size 0 lo) == items.size) = true then _ else _) _ _ s
  rw [if_neg hno, pick_gen]
  first
    | exact wpAny_bind (m := Builtin.Tuple.tupleExact _) (wpAny_newObj_type (wpAny_pure ⟨_, rfl, wpAny_pure h⟩) htake)
    | exact wpAny_bind (m := Builtin.Tuple.tupleExact _) (wpAny_newObj_type (wpAny_bind (wpAny_pure (wpAny_pure ⟨_, rfl, wpAny_pure h⟩))) htake)
    | exact wpAny_bind (wpAny_bind (m := Builtin.Tuple.tupleExact _) (wpAny_newObj_type (wpAny_pure (wpAny_pure ⟨_, rfl, wpAny_pure h⟩)) htake))
    | exact wpAny_bind (wpAny_bind (m := Builtin.Tuple.tupleExact _) (wpAny_newObj_type (wpAny_pure ⟨_, rfl, wpAny_pure h⟩) htake))
end
end HT
namespace L2
open PySem PySem.Spec PyProof.Rows
abbrev TO := St → Hp → (Option Int → Hp → Prop) → Prop
def PO (X : Cx) (e : Option Expr) (t : TO) : Prop :=
  ∀ (pins : List (Addr × Obj)) (s : Shared) (σ : St) (H : Hp) (Q : Option Int → Hp → Prop), Inv X pins σ H s → t σ H Q →
    wpAny (model X.prog X.w) X.A (evalPart e X.env) (fun u s' => ∃ o H', Inv X pins σ H' s' ∧ IsPart u o ∧ Q o H') X.xe s
def tNoPart : TO := fun _ H Q => Q none H
def tPart (t : TE) : TO := fun σ H Q => t σ H fun x H1 => ∃ i, x = .int i ∧ Q (some i) H1
section
variable {X : Cx} {e : Expr} {te : TE} {lo hi : Option Expr} {tl th : TO} {pos p2 : Pos}
theorem po_none : PO X none tNoPart := by
  intro pins s σ H Q I h
  rw [evalPart_none]
  exact wpAny_pure ⟨none, H, I, .none, h⟩
theorem po_some (h : PE X e te) : PO X (some e) (tPart te) := by
  intro pins s σ H Q I hw
  rw [evalPart_some]
  refine thn (h pins s σ H _ I hw) fun u s1 ⟨x, H1, I1, r1, q1⟩ => ?_
  obtain ⟨i, rfl, q⟩ := q1
  obtain ⟨t, rfl⟩ := r1
  exact ⟨some i, H1, I1, .int i t, q⟩
def SlR (X : Cx) (r : V → Option Int → Option Int → Hp → VK → Prop) : Prop :=
  ∀ (pins : List (Addr × Obj)) (s : Shared) (σ : St) (H : Hp) (x : V) (v vl vu : Value) (lo hi : Option Int) (sl : Addr) (Q : VK), Inv X pins σ H s → RelV x v → s.heap.IsSliceOf sl vl vu .none → IsPart vl lo → IsPart vu hi → r x lo hi H Q →
    ∃ T id, typeLookup (.type T) "__getitem__" = pure (some (.builtin id)) ∧ s.TypeIs v T ∧ wpAny (model X.prog X.w) X.A (getItem v (.ref sl)) (EP X pins σ Q) X.xe s
theorem SlR.or {r r' : V → Option Int → Option Int → Hp → VK → Prop} (h : SlR X r) (h' : SlR X r') : SlR X (fun x lo hi H Q => r x lo hi H Q ∨ r' x lo hi H Q) := by
  intro pins s σ H x v vl vu lo hi sl Q I rx hs pl pu q
  rcases q with q | q
  · exact h pins s σ H x v vl vu lo hi sl Q I rx hs pl pu q
  · exact h' pins s σ H x v vl vu lo hi sl Q I rx hs pl pu q
def tSl (r : V → Option Int → Option Int → Hp → VK → Prop) (te : TE) (tl th : TO) : TE := fun σ H Q => te σ H fun x H1 => tl σ H1 fun l H2 => th σ H2 fun u H3 => r x l u H3 Q
theorem pe_slice {r : V → Option Int → Option Int → Hp → VK → Prop} (hr : SlR X r) (he : PE X e te) (hl : PO X lo tl) (hu : PO X hi th) : PE X (.Subscript e (.Slice lo hi none p2) pos) (tSl r te tl th) := by
  intro pins s σ H Q I h
  refine Subscript_ (thn (he pins s σ H _ I h) fun v s1 ⟨x, H1, I1, r1, q1⟩ => ?_)
  refine wpAny_Slice (thn (hl pins s1 σ H1 _ I1 q1) fun vl s2 ⟨l, H2, I2, pl, q2⟩ => thn (hu pins s2 σ H2 _ I2 q2) fun vu s3 ⟨u, H3, I3, pu, q3⟩ => ?_)
  rw [evalPart_none]
  refine wpAny_pure ?_
  have I4 : Inv X pins σ H3 { s3 with heap := s3.heap.push { cls := .type "slice", data := .fields #[vl, vu, .none] } } := I3.kept (t' := s3.toks) fun b ob q => Heap.get?_push_of_some _ q
  obtain ⟨T, id, hT, ht, hg⟩ := hr pins { s3 with heap := s3.heap.push { cls := .type "slice", data := .fields #[vl, vu, .none] } } σ H3 x v vl vu l u s3.heap.objs.size Q I4 r1 (Heap.IsSliceOf.new ..) pl pu q3
  show wpAny (model X.prog X.w) X.A (subscriptTail e (.Slice lo hi none p2) v (.ref s3.heap.objs.size)) (EP X pins σ Q) X.xe { s3 with heap := s3.heap.push { cls := .type "slice", data := .fields #[vl, vu, .none] } }
  exact tail_any (ops := [.ref s3.heap.objs.size, v]) ht hT hg (by with_unfolding_all rfl)
def cutV (xs : List V) (lo hi : Option Int) : List V := (xs.drop (HT.sIx xs.length 0 lo)).take (HT.sIx xs.length xs.length hi - HT.sIx xs.length 0 lo)
theorem cutV_length (xs : List V) (lo hi : Option Int) : (cutV xs lo hi).length ≤ xs.length := by
  unfold cutV
  rw [List.length_take, List.length_drop]
  omega
def rSlT (K : PySem.W.Frag) : V → Option Int → Option Int → Hp → VK → Prop := fun x lo hi H Q => ∃ a xs, x = .ref a ∧ SqT K H a xs ∧
  ¬ (HT.sIx xs.length 0 lo = 0 ∧ HT.sIx xs.length xs.length hi = xs.length) ∧ ∀ p, H p = none → Q (.ref p) (upd H p (.tup (cutV xs lo hi)))
theorem sl_tup : SlR X (rSlT X.K) := by
  intro pins s σ H x v vl vu lo hi sl Q I rx hs pl pu h
  obtain ⟨a, xs, rfl, hx, hw, q⟩ := h
  cases rx
  obtain ⟨its, r, ht, hz⟩ := I.tuple hx
  have hlen : its.toArray.size = xs.length := by rw [List.size_toArray]; exact r.length.symm
  refine ⟨"tuple", _, PyProof.Rows.slot_tuple_getitem.lookup, ht.typeIs, ?_⟩
  refine HT.getItem_tuple_cut ht hs pl pu (by rw [hlen]; exact hw) ?_ (by rw [hlen]; exact hz)
  rw [hlen]
  refine ⟨.ref s.heap.objs.size, _, I.laid (t' := s.toks) (o := .tup (cutV xs lo hi)) (fun b ob q => Heap.get?_push_of_some _ q) (Nat.le_refl _) ?_, rfl, q _ (I.hok.fresh (Nat.le_refl _))⟩
  exact ⟨Nat.le_trans (cutV_length xs lo hi) hz, _, (r.drop (HT.sIx xs.length 0 lo)).take (HT.sIx xs.length xs.length hi - HT.sIx xs.length 0 lo), IsTup.new _ _⟩
def rCatT (K : PySem.W.Frag) : R2 := fun x y H Q => ∃ a b xs ys, x = .ref a ∧ y = .ref b ∧ SqT K H a xs ∧ SqT K H b ys ∧ xs ≠ [] ∧ xs.length + ys.length ≤ sizeLine ∧
  (ys = [] → Q (.ref a) H) ∧ (ys ≠ [] → ∀ p, H p = none → Q (.ref p) (upd H p (.tup (xs ++ ys))))
theorem Vals.nil_iff {xs : List V} {us : List Value} (r : Vals xs us) : us = [] ↔ xs = [] := by
  cases r with
  | nil => simp
  | cons _ _ => simp
theorem op_catT : OpR X (binaryOp .Add) (rCatT X.K) := by
  intro pins s σ H x y v u Q I rx ry h
  obtain ⟨a, b, xs, ys, rfl, rfl, ha, hb, hx, hz, q1, q2⟩ := h
  cases rx
  cases ry
  obtain ⟨its, r1, p1, _⟩ := I.tuple ha
  obtain ⟨its2, r2, p2, _⟩ := I.tuple hb
  refine HT.cat_tup p1 p2 (fun z => hx (r1.nil_iff.mp z)) (fun z => ⟨.ref a, H, I, rfl, q1 (r2.nil_iff.mp z)⟩) (fun z => ?_) (by rw [← r1.length, ← r2.length]; exact hz)
  refine ⟨.ref s.heap.objs.size, _, I.laid (t' := s.toks) (o := .tup (xs ++ ys)) (fun b ob q => Heap.get?_push_of_some _ q) (Nat.le_refl _) ?_, rfl, q2 (fun w => z (r2.nil_iff.mpr w)) _ (I.hok.fresh (Nat.le_refl _))⟩
  exact ⟨by rw [List.length_append]; exact hz, _, r1.append r2, IsTup.new _ _⟩
end
end L2
namespace L2
open PySem PySem.Spec PyProof.Rows
def ixN (n : Nat) (i : Int) : Option Nat := if 0 ≤ i then (if i < n then some i.toNat else none) else if -(n : Int) ≤ i then some (i + n).toNat else none
def atI {α : Type} (xs : List α) (i : Int) : Option α := (ixN xs.length i).bind fun j => xs[j]?
theorem ixN_seq {n : Nat} {i : Int} {j : Nat} (h : ixN n i = some j) : seqIndex? i n = some j ∧ j < n ∧ -(n : Int) ≤ i ∧ i < n := by
  unfold ixN at h
  by_cases h0 : 0 ≤ i
  · rw [if_pos h0] at h
    by_cases h1 : i < n
    · rw [if_pos h1] at h
      have e : i.toNat = j := Option.some.inj h
      exact ⟨by rw [seqIndex_of h0 h1, e], by omega, by omega, h1⟩
    · rw [if_neg h1] at h; cases h
  · rw [if_neg h0] at h
    by_cases h1 : -(n : Int) ≤ i
    · rw [if_pos h1] at h
      have e : (i + n).toNat = j := Option.some.inj h
      exact ⟨by rw [seqIndex_neg (by omega) h1, e], by omega, h1, by omega⟩
    · rw [if_neg h1] at h; cases h
theorem atI_get {α : Type} {xs : List α} {i : Int} {v : α} (h : atI xs i = some v) : ∃ j, seqIndex? i xs.length = some j ∧ xs[j]? = some v ∧ j < xs.length ∧ -(xs.length : Int) ≤ i ∧ i < xs.length := by
  unfold atI at h
  cases e : ixN xs.length i with
  | none => rw [e] at h; cases h
  | some j =>
    rw [e] at h
    obtain ⟨h1, h2, h3, h4⟩ := ixN_seq e
    exact ⟨j, h1, h, h2, h3, h4⟩
def PlainIx (b : Expr) : Prop := ∀ o i, subscripted b false o i = operate [o, i] (getItem o i)
def IxR (X : Cx) (r : R2) : Prop :=
  ∀ (value slice : Expr) (pins : List (Addr × Obj)) (s : Shared) (σ : St) (H : Hp) (x y : V) (v u : Value) (Q : VK), Inv X pins σ H s → RelV x v → RelV y u → r x y H Q →
    subscripted slice false v u = operate [v, u] (getItem v u) → wpAny (model X.prog X.w) X.A (subscriptTail value slice v u) (EP X pins σ Q) X.xe s
def MtR (X : Cx) (id : String) (r : V → List V → Hp → VK → Prop) : Prop :=
  ∀ (pins : List (Addr × Obj)) (s : Shared) (σ : St) (H : Hp) (x : V) (xs : List V) (v : Value) (us : List Value) (Q : VK), Inv X pins σ H s → RelV x v → Vals xs us → r x xs H Q →
    wpAny (model X.prog X.w) X.A (call (.builtin id) (v :: us)) (EP X pins σ Q) X.xe s
section
variable {X : Cx} {a b : Expr} {ta tb : TE} {pos : Pos}
theorem IxR.or {r r' : R2} (h : IxR X r) (h' : IxR X r') : IxR X (fun x y H Q => r x y H Q ∨ r' x y H Q) := by
  intro value slice pins s σ H x y v u Q I rx ry q hs
  rcases q with q | q
  · exact h value slice pins s σ H x y v u Q I rx ry q hs
  · exact h' value slice pins s σ H x y v u Q I rx ry q hs
theorem pe_ix {r : R2} (hr : IxR X r) (ha : PE X a ta) (hb : PE X b tb) (hs : PlainIx b) : PE X (.Subscript a b pos) (tOp r ta tb) := by
  intro pins s σ H Q I h
  exact Subscript_ (binT ha hb I h fun v u s2 x y H2 I2 rx ry q => hr a b pins s2 σ H2 x y v u Q I2 rx ry q (hs _ _))
def rIxL (K : PySem.W.Frag) : R2 := fun x y H Q => ∃ p xs i v, x = .ref p ∧ y = .int i ∧ SqL K H p xs ∧ atI xs i = some v ∧ Q v H
def rIxT (K : PySem.W.Frag) : R2 := fun x y H Q => ∃ p xs i v, x = .ref p ∧ y = .int i ∧ SqT K H p xs ∧ atI xs i = some v ∧ Q v H
def rIxS : R2 := fun x y H Q => ∃ z i c, x = .str z ∧ y = .int i ∧ z.length ≤ sizeLine ∧ atI z.cps.toList i = some c ∧ Q (.str ⟨#[c]⟩) H
theorem ix_list : IxR X (rIxL X.K) := by
  intro value slice pins s σ H x y v u Q I rx ry h hs
  obtain ⟨p, xs, i, z, rfl, rfl, hq, he, q⟩ := h
  cases rx
  obtain ⟨t, rfl⟩ := ry
  obtain ⟨its, r, pl, hz⟩ := I.list hq
  obtain ⟨j, h1, h2, h3, h4, h5⟩ := atI_get he
  obtain ⟨w, ew, rw'⟩ := r.get h2
  have hl := r.length
  have hn := line63
  have fin : EP X pins σ Q w s := ⟨z, H, I, rw', q⟩
  by_cases h0 : 0 ≤ i
  · have hj : i.toNat = j := by
      rw [seqIndex_of h0 h5] at h1
      exact Option.some.inj h1
    exact item_listR pl.isList h0 (by omega) (by rw [hj]; simpa using ew) fin hs
  · have hj : (i + (its.toArray.size : Int)).toNat = j := by
      rw [seqIndex_neg (by omega) h4] at h1
      rw [List.size_toArray, ← hl]
      exact Option.some.inj h1
    exact subscriptTail_builtinR (x := w) pl.isList.typeIs slot_list_getitem.lookup
      (wpAny_getItem_list_neg (Q := fun r s' => r = w ∧ EP X pins σ Q r s') pl.isList (by omega) (by rw [List.size_toArray] <;> omega) (by omega) (by rw [hj]; simpa using ew) ⟨rfl, fin⟩) hs
theorem ix_tup : IxR X (rIxT X.K) := by
  intro value slice pins s σ H x y v u Q I rx ry h hs
  obtain ⟨p, xs, i, z, rfl, rfl, hq, he, q⟩ := h
  cases rx
  obtain ⟨t, rfl⟩ := ry
  obtain ⟨its, r, pl, hz⟩ := I.tuple hq
  obtain ⟨j, h1, h2, h3, h4, h5⟩ := atI_get he
  obtain ⟨w, ew, rw'⟩ := r.get h2
  have hl := r.length
  have hn := line63
  have fin : EP X pins σ Q w s := ⟨z, H, I, rw', q⟩
  exact subscriptTail_builtinR (x := w) pl.typeIs slot_tuple_getitem.lookup
    (getItem_tuple (j := j) (Q := fun r s' => r = w ∧ EP X pins σ Q r s') pl (by omega) (by omega) (by rw [List.size_toArray, ← hl]; exact h1) (by simpa using ew) ⟨rfl, fin⟩) hs
theorem ix_str : IxR X rIxS := by
  intro value slice pins s σ H x y v u Q I rx ry h hs
  obtain ⟨z, i, c, rfl, rfl, hz, he, q⟩ := h
  obtain ⟨t, rfl⟩ := rx
  obtain ⟨t', rfl⟩ := ry
  obtain ⟨j, h1, h2, h3, h4, h5⟩ := atI_get he
  have hl : z.cps.toList.length = z.length := by simp [Str.length]
  rw [hl] at h1 h4 h5
  have hn := line63
  exact tail_any (typeIs_str s z t) slot_str_getitem.lookup (getItem_str (c := c) (by
    have e1 : decide (i < -(2 ^ 63 : Int)) = false := decide_eq_false (by omega)
    have e2 : decide (i ≥ 2 ^ 63) = false := decide_eq_false (by omega)
    rw [e1, e2, Bool.or_false]) (by rw [h1]; simpa using h2) ⟨.str ⟨#[c]⟩, H, I.tok _, ⟨_, rfl⟩, q⟩) hs
def rIx (K : PySem.W.Frag) : R2 := fun x y H Q => rIxL K x y H Q ∨ rIxT K x y H Q ∨ rIxS x y H Q
theorem ix_seq : IxR X (rIx X.K) := ix_list.or (ix_tup.or ix_str)
theorem slice_bounds (lo hi : Option Int) (n : Nat) : (sliceBounds lo hi none n).1 = ((HT.sIx n 0 lo : Nat) : Int) ∧ (sliceBounds lo hi none n).2.1 = ((HT.sIx n n hi : Nat) : Int) ∧ (sliceBounds lo hi none n).2.2 = 1 := by
  refine ⟨?_, ?_, rfl⟩
  · cases lo with
    | none => simp [sliceBounds, HT.sIx]
    | some i =>
      simp only [sliceBounds, HT.sIx, Option.getD_none, show (1 : Int) > 0 by decide, if_true]
      by_cases h : i < 0
      · simp only [h, if_true] <;> omega
      · simp only [h, if_false] <;> omega
  · cases hi with
    | none => simp [sliceBounds, HT.sIx]
    | some i =>
      simp only [sliceBounds, HT.sIx, Option.getD_none, show (1 : Int) > 0 by decide, if_true]
      by_cases h : i < 0
      · simp only [h, if_true] <;> omega
      · simp only [h, if_false] <;> omega
theorem slicePick_cut (its : List Value) (lo hi : Option Int) : slicePick its.toArray lo hi none = ((its.drop (HT.sIx its.length 0 lo)).take (HT.sIx its.length its.length hi - HT.sIx its.length 0 lo)).toArray := by
  obtain ⟨h1, h2, h3⟩ := slice_bounds lo hi its.toArray.size
  unfold slicePick
  rw [h1, h2, h3]
  simp only [sliceRange_one, pick_run, List.size_toArray] <;> rfl
def rSlL (K : PySem.W.Frag) : V → Option Int → Option Int → Hp → VK → Prop := fun x lo hi H Q => ∃ a xs, x = .ref a ∧ SqL K H a xs ∧ ∀ p, H p = none → Q (.ref p) (upd H p (.lst (cutV xs lo hi)))
theorem sl_list : SlR X (rSlL X.K) := by
  intro pins s σ H x v vl vu lo hi sl Q I rx hs pl pu h
  obtain ⟨a, xs, rfl, hx, q⟩ := h
  cases rx
  obtain ⟨its, r, ht, hz⟩ := I.list hx
  have hlen := r.length
  refine ⟨"list", _, slot_list_getitem.lookup, ht.isList.typeIs, ?_⟩
  refine wpAny_getItem_list_slice ht.isList hs pl pu .none (by simp) ?_ (by rw [List.size_toArray] <;> omega)
  rw [slicePick_cut, ← hlen]
  refine ⟨.ref s.heap.objs.size, _, I.laid (t' := s.toks) (o := .lst (cutV xs lo hi)) (fun b ob q => Heap.get?_push_of_some _ q) (Nat.le_refl _) ?_, rfl, q _ (I.hok.fresh (Nat.le_refl _))⟩
  exact ⟨Nat.le_trans (cutV_length xs lo hi) hz, _, 0, (r.drop (HT.sIx xs.length 0 lo)).take (HT.sIx xs.length xs.length hi - HT.sIx xs.length 0 lo), Heap.get?_push_size _ rfl⟩
def flatV : V → Bool
  | .non => true
  | .bl _ => true
  | .int _ => true
  | .str _ => true
  | _ => false
def eqV : V → V → Bool
  | .non, .non => true
  | .bl a, .bl b => a == b
  | .bl a, .int b => (if a then 1 else 0) == b
  | .int a, .bl b => a == (if b then 1 else 0)
  | .int a, .int b => a == b
  | .str a, .str b => a == b
  | _, _ => false
theorem eqAt_V {A : Around} {s : Shared} {y x : V} {u v : Value} (ry : RelV y u) (rx : RelV x v) (fy : flatV y = true) (fx : flatV x = true) : SeqAt.EqAt A s u v (eqV y x) := by
  cases y with
  | non =>
    cases ry
    cases x with
    | non => cases rx; exact SeqAt.EqAt.same _
    | bl b => cases rx; exact SeqAt.EqAt.none_bool b
    | int b => obtain ⟨t, rfl⟩ := rx; exact SeqAt.EqAt.none_int b t
    | str b => obtain ⟨t, rfl⟩ := rx; exact SeqAt.EqAt.none_str b t
    | _ => exact absurd (show false = true from fx) Bool.false_ne_true
  | bl a =>
    cases ry
    cases x with
    | non => cases rx; exact SeqAt.EqAt.bool_none a
    | bl b => cases rx; exact SeqAt.EqAt.bool_bool a b
    | int b => obtain ⟨t, rfl⟩ := rx; exact SeqAt.EqAt.bool_int a b t
    | str b => obtain ⟨t, rfl⟩ := rx; exact SeqAt.EqAt.bool_str a b t
    | _ => exact absurd (show false = true from fx) Bool.false_ne_true
  | int a =>
    obtain ⟨t', rfl⟩ := ry
    cases x with
    | non => cases rx; exact SeqAt.EqAt.int_none a t'
    | bl b => cases rx; exact SeqAt.EqAt.int_bool a t' b
    | int b => obtain ⟨t, rfl⟩ := rx; exact SeqAt.EqAt.int_int a t' b t
    | str b => obtain ⟨t, rfl⟩ := rx; exact SeqAt.EqAt.int_str a t' b t
    | _ => exact absurd (show false = true from fx) Bool.false_ne_true
  | str a =>
    obtain ⟨t', rfl⟩ := ry
    cases x with
    | non => cases rx; exact SeqAt.EqAt.str_none a t'
    | bl b => cases rx; exact SeqAt.EqAt.str_bool a t' b
    | int b => obtain ⟨t, rfl⟩ := rx; exact SeqAt.EqAt.str_int a t' b t
    | str b => obtain ⟨t, rfl⟩ := rx; exact SeqAt.EqAt.str_str a t' b t
    | _ => exact absurd (show false = true from fx) Bool.false_ne_true
  | _ => exact absurd (show false = true from fy) Bool.false_ne_true
def eqU (x : V) (u : Value) : Bool := match u with
  | .none => eqV .non x
  | .bool b => eqV (.bl b) x
  | .int i _ => eqV (.int i) x
  | .str z _ => eqV (.str z) x
  | _ => false
theorem eqU_of {x y : V} {u : Value} (r : RelV y u) (f : flatV y = true) : eqU x u = eqV y x := by
  cases y with
  | non => cases r; rfl
  | bl b => cases r; rfl
  | int i => obtain ⟨t, rfl⟩ := r; rfl
  | str z => obtain ⟨t, rfl⟩ := r; rfl
  | _ => exact absurd (show false = true from f) Bool.false_ne_true
theorem any_eqU {x : V} : ∀ {xs : List V} {us : List Value}, Vals xs us → xs.all flatV = true → us.any (eqU x) = xs.any fun y => eqV y x
  | _, _, .nil, _ => rfl
  | y :: xs, u :: us, .cons r t, f => by
    rw [List.all_cons, Bool.and_eq_true] at f
    rw [List.any_cons, List.any_cons, eqU_of r f.1, any_eqU t f.2]
theorem mem_eqAt {A : Around} {s : Shared} {x : V} {v : Value} (rx : RelV x v) (fx : flatV x = true) : ∀ {xs : List V} {us : List Value}, Vals xs us → xs.all flatV = true → ∀ u ∈ us, SeqAt.EqAt A s u v (eqU x u)
  | _, _, .nil, _ => fun u hu => by cases hu
  | y :: xs, u :: us, .cons r t, f => fun u' hu => by
    rw [List.all_cons, Bool.and_eq_true] at f
    rcases List.mem_cons.mp hu with rfl | hu
    · rw [eqU_of r f.1]; exact eqAt_V r rx f.1 fx
    · exact mem_eqAt rx fx t f.2 u' hu
def inV (x : V) (xs : List V) : Bool := xs.any fun y => eqV y x
def rIn (K : PySem.W.Frag) (neg : Bool) : R2 := fun x y H Q => ∃ p xs, y = .ref p ∧ (SqL K H p xs ∨ SqT K H p xs) ∧ flatV x = true ∧ xs.all flatV = true ∧ Q (.bl (if neg then !inV x xs else inV x xs)) H
theorem op_in_seq : OpR X (compareOp .In) (rIn X.K false) := by
  intro pins s σ H x y v u Q I rx ry h
  obtain ⟨p, xs, rfl, hq, fx, fs, q⟩ := h
  cases ry
  rcases hq with hq | hq
  · obtain ⟨its, r, pl, hz⟩ := I.list hq
    refine SeqAt.in_listAt (eqU x) pl.isList (fun w hw => mem_eqAt rx fx r fs w (by simpa using hw)) ⟨.bl _, H, I, rfl, ?_⟩
    rw [show its.toArray.any (eqU x) = its.any (eqU x) by simp, any_eqU r fs]
    exact q
  · obtain ⟨its, r, pl, hz⟩ := I.tuple hq
    refine SeqAt.in_tupleAt (eqU x) pl (fun w hw => mem_eqAt rx fx r fs w (by simpa using hw)) ⟨.bl _, H, I, rfl, ?_⟩
    rw [show its.toArray.any (eqU x) = its.any (eqU x) by simp, any_eqU r fs]
    exact q
theorem op_notIn_seq : OpR X (compareOp .NotIn) (rIn X.K true) := by
  intro pins s σ H x y v u Q I rx ry h
  obtain ⟨p, xs, rfl, hq, fx, fs, q⟩ := h
  cases ry
  rcases hq with hq | hq
  · obtain ⟨its, r, pl, hz⟩ := I.list hq
    refine SeqAt.notIn_listAt (eqU x) pl.isList (fun w hw => mem_eqAt rx fx r fs w (by simpa using hw)) ⟨.bl _, H, I, rfl, ?_⟩
    rw [show its.toArray.any (eqU x) = its.any (eqU x) by simp, any_eqU r fs]
    exact q
  · obtain ⟨its, r, pl, hz⟩ := I.tuple hq
    refine SeqAt.notIn_tupleAt (eqU x) pl (fun w hw => mem_eqAt rx fx r fs w (by simpa using hw)) ⟨.bl _, H, I, rfl, ?_⟩
    rw [show its.toArray.any (eqU x) = its.any (eqU x) by simp, any_eqU r fs]
    exact q
theorem CallR.or {f : Value} {r r' : List V → Hp → VK → Prop} (h : CallR X f r) (h' : CallR X f r') : CallR X f (fun xs H Q => r xs H Q ∨ r' xs H Q) := by
  intro pins s σ H xs us Q I rs q
  rcases q with q | q
  · exact h pins s σ H xs us Q I rs q
  · exact h' pins s σ H xs us Q I rs q
theorem call_list_of : CallR X (.type "list") (fun xs H Q => ∃ p ys, xs = [.ref p] ∧ (SqL X.K H p ys ∨ SqT X.K H p ys) ∧ ∀ l, H l = none → Q (.ref l) (upd H l (.lst ys))) := by
  intro pins s σ H xs us Q I r h
  obtain ⟨p, ys, rfl, hq, q⟩ := h
  obtain ⟨u, rfl, rx⟩ := vals1 r
  cases rx
  have fin : ∀ (its : List Value), Vals ys its → ys.length ≤ sizeLine → ∀ (h' : Heap) (c' : Nat), (∀ b o', s.heap.get? b = some o' → h'.get? b = some o') →
      h'.get? s.heap.objs.size = some { cls := .type "list", dict := none, data := .seq its.toArray c', slots := #[] } → EP X pins σ Q (.ref s.heap.objs.size) { s with heap := h' } := fun its r' hz h' c' kp e =>
    ⟨.ref s.heap.objs.size, _, I.laid (t' := s.toks) kp (Nat.le_refl _) (show ObjOk X.prog X.w _ h' _ (.lst ys) from ⟨hz, its, c', r', e⟩), rfl, q _ (I.hok.fresh (Nat.le_refl _))⟩
  rcases hq with hq | hq
  · obtain ⟨its, r', pl, hz⟩ := I.list hq
    have hlen := r'.length
    obtain ⟨o, ho, hc, n, hd⟩ := pl.isList
    exact call_list_seq p (.inl rfl) ho hc hd (fun h' c' kp e => fin its r' hz h' c' kp e) (by simp only [List.size_toArray] <;> omega)
  · obtain ⟨its, r', pl, hz⟩ := I.tuple hq
    have hlen := r'.length
    obtain ⟨o, ho, hc, n, hd⟩ := pl
    exact call_list_seq p (.inr rfl) ho hc hd (fun h' c' kp e => fin its r' hz h' c' kp e) (by simp only [List.size_toArray] <;> omega)
def tyV (K : PySem.W.Frag) (T : String) (x : V) (H : Hp) : Prop := match x with
  | .str _ => T = "str"
  | .int _ => T = "int"
  | .ref p => (T = "list" ∧ ∃ xs, SqL K H p xs) ∨ (T = "tuple" ∧ ∃ o, K.lookup p = some o ∧ o.cls = .type "tuple" ∧ o.dict = none) ∨
      (T = "dict" ∧ ((∃ kvs, H p = some (.dK kvs)) ∨ ∃ kvs, H p = some (.dT kvs))) ∨ (T = "set" ∧ ∃ S n, H p = some (.set S n))
  | _ => False
theorem tyV_is {pins : List (Addr × Obj)} {σ : St} {H : Hp} {s : Shared} {T : String} {x : V} {v : Value} (I : Inv X pins σ H s) (r : RelV x v) (ty : tyV X.K T x H) :
    s.TypeIs v T ∧ ∀ a, v = .ref a → ∃ ob, s.heap.get? a = some ob ∧ ob.dict = none := by
  cases x with
  | str z =>
    obtain ⟨t, rfl⟩ := r
    cases (show T = "str" from ty)
    exact ⟨typeIs_str s z t, fun _ e => nomatch e⟩
  | int i =>
    obtain ⟨t, rfl⟩ := r
    cases (show T = "int" from ty)
    exact ⟨typeIs_int s i t, fun _ e => nomatch e⟩
  | ref p =>
    cases r
    rcases ty with ⟨rfl, xs, hq⟩ | ⟨rfl, o, hk, hc, hd⟩ | ⟨rfl, hk⟩ | ⟨rfl, S, n, hk⟩
    · obtain ⟨its, _, pl, _⟩ := I.list hq
      refine ⟨pl.isList.typeIs, fun a e => ?_⟩
      cases e
      obtain ⟨o, n, e, c, hd, _⟩ := pl
      exact ⟨o, e, hd⟩
    · refine ⟨⟨o, I.kIn p o hk, hc⟩, fun a e => ?_⟩
      cases e
      exact ⟨o, I.kIn _ o hk, hd⟩
    · have z : ∃ o, s.heap.get? p = some o ∧ o.ExactDict := by
        rcases hk with ⟨kvs, hk⟩ | ⟨kvs, hk⟩
        · obtain ⟨_, _, _, _, o, _, _, e, ex, _⟩ := I.hok p _ hk
          exact ⟨o, e, ex⟩
        · obtain ⟨_, _, _, _, o, _, _, e, ex, _⟩ := I.hok p _ hk
          exact ⟨o, e, ex⟩
      obtain ⟨o, e, ex⟩ := z
      refine ⟨⟨o, e, ex.1⟩, fun a e2 => ?_⟩
      cases e2
      exact ⟨o, e, ex.2.1⟩
    · obtain ⟨o, _, _, _, e, ex, _⟩ := I.hok p _ hk
      refine ⟨⟨o, e, ex.1⟩, fun a e2 => ?_⟩
      cases e2
      exact ⟨o, e, ex.2.1⟩
  | _ => exact False.elim ty
def tBM0 (K : PySem.W.Frag) (T : String) (r : V → List V → Hp → VK → Prop) (to : TE) : TE := fun σ H Q => to σ H fun x H1 => tyV K T x H1 ∧ r x [] H1 Q
def tBM (K : PySem.W.Frag) (T : String) (r : V → List V → Hp → VK → Prop) (to : TE) (t : TA) : TE := fun σ H Q => to σ H fun x H1 => tyV K T x H1 ∧ t σ H1 fun xs H2 => r x xs H2 Q
variable {o e : Expr} {es : List Expr} {to : TE} {t : TA} {name : Str} {apos cpos : Pos} {T id : String} {r : V → List V → Hp → VK → Prop}
theorem pe_bm0 (pa : PlainAttrs T) (slot : Slot T name id) (hty : typeOf (.builtin id) = pure (.type "method_descriptor")) (hm : MtR X id r) (ho : PE X o to)
    (hbase : attributeBase o name X.env (eval o X.env) = eval o X.env := by rfl) (hline : (apos.endLine == cpos.line) = true := by rfl) : PE X (.Call (.Attribute o name apos) [] [] cpos) (tBM0 X.K T r to) := by
  intro pins s σ H Q I h
  refine wpAny_Call_method0_late hbase hline (thn (ho pins s σ H _ I h) fun v s1 ⟨x, H1, I1, r1, ty, q1⟩ => ?_)
  obtain ⟨h1, h2⟩ := tyV_is I1 r1 ty
  exact ⟨T, id, pa, slot, hty, h1, h2, Calls.callWith_builtin rfl (PySem.evalArgs_none (hm pins s1 σ H1 x [] v [] Q I1 r1 .nil q1))⟩
theorem pe_bm (pa : PlainAttrs T) (slot : Slot T name id) (hty : typeOf (.builtin id) = pure (.type "method_descriptor")) (hm : MtR X id r) (ho : PE X o to) (ha : PA X (e :: es) t)
    (hbase : attributeBase o name X.env (eval o X.env) = eval o X.env := by rfl)
    (hfew : ((backTo cpos (starEach (e :: es) X.env)).all (fun x => !x.1) && (backToKw cpos (keywordEach [] X.env)).all (fun x => x.1.isSome)
      && decide ((e :: es).length + ([] : List Keyword).length + (if ([] : List Keyword).isEmpty then 0 else 1) < 30)) = true := by rfl)
    (hline : (apos.endLine == cpos.line) = true := by rfl) (hs : starEach (e :: es) X.env = (false, eval e X.env) :: starEach es X.env := by rfl) (hplain : (backTo cpos (starEach es X.env)).any (·.1) = false := by rfl) :
    PE X (.Call (.Attribute o name apos) (e :: es) [] cpos) (tBM X.K T r to t) := by
  intro pins s σ H Q I h
  refine wpAny_Call_method_late hbase hfew hline rfl (thn (ho pins s σ H _ I h) fun v s1 ⟨x, H1, I1, r1, ty, q1⟩ => ?_)
  obtain ⟨h1, h2⟩ := tyV_is I1 r1 ty
  refine ⟨T, id, pa, slot, hty, h1, h2, ?_⟩
  have hA := ha cpos pins s1 σ H1 _ I1 q1
  rw [hs] at hA ⊢
  refine Calls.callWith_builtin (by show (false || (backTo cpos (starEach es X.env)).any (·.1)) = false; rw [hplain] <;> rfl) (Calls.evalArgs_plain ?_)
  exact thn hA fun us s2 ⟨vs, H2, I2, r2, q2⟩ => hm pins s2 σ H2 x vs v us Q I2 r1 r2 q2
end
end L2
namespace L2
open PySem PySem.Spec PyProof.Rows
def MtM (X : Cx) (id : String) (r : V → List V → Hp → VK → Prop) : Prop :=
  ∀ (pins : List (Addr × Obj)) (s : Shared) (σ : St) (H : Hp) (x : V) (xs : List V) (v : Value) (us : List Value) (Q : VK), Inv X pins σ H s → RelV x v → Vals xs us → r x xs H Q →
    wpAny (model X.prog X.w) X.A (call (.builtin id) (v :: us)) (EP X pins σ Q) X.xe s
theorem Vals.one : ∀ {x : V} {us : List Value}, Vals [x] us → ∃ u, us = [u] ∧ RelV x u
  | _, _, .cons r .nil => ⟨_, rfl, r⟩
theorem Vals.zero : ∀ {us : List Value}, Vals [] us → us = []
  | _, .nil => rfl
theorem Vals.rep {xs : List V} {us : List Value} (h : Vals xs us) : ∀ k : Nat, Vals (List.replicate k xs).flatten (List.replicate k us).flatten
  | 0 => .nil
  | k + 1 => by
    rw [List.replicate_succ, List.replicate_succ, List.flatten_cons, List.flatten_cons]
    exact Vals.append h (Vals.rep h k)
theorem foldl_rep (its : List Value) : ∀ (k : Nat) (acc : List Value),
    List.foldl (fun x1 x2 => x1 ++ x2) acc.toArray (List.replicate k its.toArray) = (acc ++ (List.replicate k its).flatten).toArray
  | 0, acc => by simp
  | k + 1, acc => by
    have e : acc.toArray ++ its.toArray = (acc ++ its).toArray := by simp
    have e2 : (acc ++ its) ++ (List.replicate k its).flatten = acc ++ (List.replicate (k + 1) its).flatten := by
      rw [List.replicate_succ, List.flatten_cons, List.append_assoc]
    rw [← e2, ← foldl_rep its k (acc ++ its), ← e, List.replicate_succ, List.foldl_cons]
section
variable {X : Cx} {pins : List (Addr × Obj)} {σ : St} {H : Hp} {s : Shared} {l b : Addr} {xs ys zs : List V}
theorem Inv.lset {its its' : List Value} {n : Nat} {f : Array Value → Array Value} {t' : Nat} (I : Inv X pins σ H s) (hH : H l = some (.lst xs))
    (e : s.heap.get? l = some { cls := .type "list", data := .seq its.toArray n }) (hf : f its.toArray = its'.toArray) (hv : Vals ys its') (hz : ys.length ≤ sizeLine) :
    Inv X pins σ (upd H l (.lst ys)) { s with heap := s.heap.update l (Obj.mapSeq f), toks := t' } := by
  have q := PySem.IsL.update e f
  rw [hf] at q
  refine I.write (x := l) (e := l) (by rw [hH]; exact trivial) (.inl rfl) (fun b' u hb hu => (Heap.get?_update_other s.heap (Obj.mapSeq f) (Ne.symm hb)).trans hu) ⟨_, q⟩ ?_
  exact ⟨hz, its', _, hv, q⟩
theorem Inv.lnew {its : List Value} {t' : Nat} (I : Inv X pins σ H s) (hv : Vals ys its) (hz : ys.length ≤ sizeLine) :
    Inv X pins σ (upd H s.heap.objs.size (.lst ys)) { s with heap := s.heap.push { cls := .type "list", data := .seq its.toArray }, toks := t' } :=
  I.laid (fun _ _ q => Heap.get?_push_of_some _ q) (Nat.le_refl _) ⟨hz, its, 0, hv, Heap.get?_push_size _ rfl⟩
theorem Inv.fresh (I : Inv X pins σ H s) : H s.heap.objs.size = none := I.hok.fresh (Nat.le_refl _)
theorem Inv.lstM (I : Inv X pins σ H s) (hH : H l = some (.lst xs)) : xs.length ≤ sizeLine ∧ ∃ (its : List Value) (n : Nat), Vals xs its ∧ xs.length = its.length ∧ s.heap.get? l = some { cls := .type "list", data := .seq its.toArray n } := by
  obtain ⟨z, its, n, r, e⟩ := I.hok l _ hH
  exact ⟨z, its, n, r, r.length, e⟩
theorem notLongL {n : Nat} (h : n ≤ sizeLine) : Builtin.List.listTooLong n = false := by
  unfold Builtin.List.listTooLong
  exact decide_eq_false (by omega)
end
section
variable {X : Cx}
def rAppend : V → List V → Hp → VK → Prop := fun x vs H Q => ∃ l xs y, x = .ref l ∧ vs = [y] ∧ H l = some (.lst xs) ∧ xs.length < sizeLine ∧ Q .non (upd H l (.lst (xs ++ [y])))
theorem mt_append : MtM X "list.append" rAppend := by
  intro pins s σ H x vs v us Q I rx rv h
  obtain ⟨l, xs, y, rfl, rfl, hH, hz, q⟩ := h
  cases rx
  obtain ⟨u, rfl, ru⟩ := rv.one
  obtain ⟨z, its, n, r, hl, e⟩ := I.lstM hH
  refine call_meets F.slot_list_append ⟨_, e, rfl⟩ F.entry_list_append (F.args_list_append_2 _ _) (PySem.list_append l its.toArray n u (by rw [List.size_toArray]; omega)) ⟨e, ?_⟩
  refine ⟨.non, _, I.lset (its' := its ++ [u]) hH e (by simp) (r.append (.cons ru .nil)) ?_, rfl, q⟩
  rw [List.length_append, List.length_singleton]
  omega
def rRep : R2 := fun x y H Q => ∃ l k xs, x = .ref l ∧ y = .int k ∧ H l = some (.lst xs) ∧ -(2 ^ 63) ≤ k ∧ k < 2 ^ 63 ∧ xs.length * k.toNat ≤ sizeLine ∧
  ∀ p, H p = none → Q (.ref p) (upd H p (.lst (List.replicate k.toNat xs).flatten))
theorem len_rep {α : Type} (xs : List α) (k : Nat) : (List.replicate k xs).flatten.length = k * xs.length := by
  induction k with
  | zero => simp
  | succ k ih => rw [List.replicate_succ, List.flatten_cons, List.length_append, ih, Nat.succ_mul, Nat.add_comm]
theorem op_rep : OpR X (binaryOp .Mult) rRep := by
  intro pins s σ H x y v u Q I rx ry h
  obtain ⟨l, k, xs, rfl, rfl, hH, h1, h2, hz, q⟩ := h
  cases rx
  obtain ⟨t, rfl⟩ := ry
  obtain ⟨z, its, n, r, hl, e⟩ := I.lstM hH
  have hlen : its.toArray.size * k.toNat ≤ sizeLine := by rw [List.size_toArray, ← hl]; exact hz
  have hcap : ¬ its.toArray.size * k.toNat > (2 ^ 63 - 1) / 8 := by
    have : (sizeLine : Nat) ≤ (2 ^ 63 - 1) / 8 := by decide
    omega
  have hfit : ¬ (!Builtin.List.listFitsIndex k) = true := by
    rw [fitsIndex_both h1 h2]
    exact Bool.false_ne_true
  have hlong : ¬ Builtin.List.listTooLong (its.toArray.size * k.toNat) = true := by
    rw [notLongL hlen]
    exact Bool.false_ne_true
  have hnew : List.foldl (fun x1 x2 => x1 ++ x2) #[] (List.replicate (if its.toArray.isEmpty = true then 0 else k.toNat) its.toArray) = (List.replicate k.toNat its).flatten.toArray := by
    have f0 : ∀ m : Nat, List.foldl (fun x1 x2 => x1 ++ x2) #[] (List.replicate m its.toArray) = (List.replicate m its).flatten.toArray := fun m => by
      have := foldl_rep its m []
      rw [List.nil_append] at this
      exact this
    rw [f0]
    cases its with
    | nil => simp
    | cons a r' => rw [if_neg (by simp)]
  refine wpAny_binaryOp_repeat_ref (T := "list") (U := "int") (by decide) ⟨_, e, rfl⟩ (fun s' => typeIs_int s' k t) noFill_list_mul F.fills_int_mul F.slot_int_rmul repeat_list F.slot_int_index.lookup
    (call_meets F.slot_int_rmul (typeIs_int s k t) F.entry_int_rmul (F.args_int_rmul_2 _ _) (int___rmul___int_list k t l its.toArray n)
      ⟨e, rfl, ⟨_, e, rfl⟩, call_meets F.slot_list_mul ⟨_, e, rfl⟩ F.entry_list_mul (F.args_list_mul_2 _ _) (AutoListH.list___mul___list_int_3 l its.toArray n k t hfit hcap hlong) ⟨e, ?_⟩⟩)
  rw [hnew]
  exact ⟨.ref _, _, I.lnew (t' := s.toks) (r.rep k.toNat) (by rw [len_rep, Nat.mul_comm]; exact hz), rfl, q _ I.fresh⟩
end
section
variable {prog : Program} {w : World} {A : Around} {E : Value → Shared → Prop} {s : Shared}
end
section
variable {X : Cx}
end
end L2
namespace Att
open PySem PySem.W PySem.Calls PyProof.Rows
theorem ints_of_wellAll {P : Params} {h : Heap} : ∀ (ns : List Int) (vs : List Value), WellAll P h vs (ns.map WData.int) → IntsAre vs ns := by
  intro ns
  induction ns with
  | nil =>
    intro vs w
    rw [List.map_nil] at w
    cases w
    exact .nil
  | cons n ns ih =>
    intro vs w
    rw [List.map_cons] at w
    cases w with
    | cons a b =>
      cases a
      exact .cons _ _ (ih _ b)
theorem script_of {l : OpenLaw} {n : Nat} (hn : l.most = some n) {P : Params} {h : Heap} {args : List WData} {vals : List Value}
    (hpre : l.row.toRowW.claim.pre args = true) (hwl : WellAll P h vals args) :
    ∃ a vs ns, vals = [Value.ref a] ∧ args = [WData.list (ns.map WData.int)] ∧ h.get? a = some { cls := .type "list", data := .seq vs.toArray } ∧ IntsAre vs ns ∧ ns.length ≤ n := by
  have hsh : WShape.hasAll [] args [.list .int] = true := (pre_splitW hpre).1
  have hc : l.pre.holds [] { args := args } = true := (pre_splitW hpre).2
  obtain ⟨d, r, rfl, h1, h2⟩ := hasAllW_cons hsh
  obtain rfl := hasAllW_nil h2
  obtain ⟨xs, rfl, h3⟩ := hasW_list h1
  obtain ⟨ns, rfl⟩ := items_int h3
  have hlen : ns.length ≤ n := by
    unfold OpenLaw.pre at hc
    have h4 : (WTm.not (.lt (.lit (.int (n : Int))) (.len (.arg 0)))).holds [] { args := [.list (ns.map .int)] } = true := by
      have h4 := (holds_andW hc).1
      rw [hn] at h4
      exact h4
    have h5 := condW_of h4 (w_not (w_lt w_lit (w_len_list (w_arg rfl))))
    rw [List.length_map] at h5
    refine Nat.le_of_not_lt fun q => ?_
    have q' : (n : Int) < ((ns.length : Nat) : Int) := by omega
    first
      | (rw [decide_eq_true q'] at h5; exact absurd h5 (by decide))
      | (simp at h5; omega)
  cases hwl with
  | cons w1 w2 =>
    cases w2
    cases w1 with
    | list ho hall => exact ⟨_, _, ns, rfl, rfl, ho, ints_of_wellAll ns _ hall, hlen⟩
theorem post_true (l : OpenLaw) (args : List WData) : l.row.toRowW.claim.post args (.bool true) args = true :=
  postW_of (r := l.row.toRowW) (X := (true == true))
    (show WShape.has [] (.bool true) .bool = true by first | rfl | decide | simp [WShape.has, WShape.arms, WShape.armsAll])
    (show (WTm.eq .res (.lit (.bool true))).value [] { args := args, res := some (.bool true), after := args } = some (.bool (true == true)) from w_eq_bool (w_res rfl) w_lit) rfl
theorem attach_call {l : OpenLaw} {n : Nat} {q : Program} {loose : List Str} {XP : (Str → Option Value) → Heap → Prop} {YP : World → Heap → Prop} {d : DefRec}
    (hn : l.most = some n) (hdf : d.params.defaults = [])
    (call : ∀ (w : World) (s₀ s₁ : Shared) (mg mb : Str → Option Value) (fa : Addr) (o : Obj) (pm cd doc : Value) (a : Addr) (vs : List Value) (ns : List Int),
      Ground q loose [] XP w s₀ mg mb s₁.heap → YP w s₁.heap →
      s₁.heap.get? fa = some o → o.data = .func (docDef d.name d.params d.body d.scope pm cd doc) → s₁.heap.CodeRec cd d.name → mg d.name = some (.ref fa) →
      s₁.heap.get? a = some { cls := .type "list", data := .seq vs.toArray } → IntsAre vs ns → ns.length ≤ n → s₁.gens = #[] →
      codeAny (model l.prog w) callerA (.call (.ref fa) ⟨[.ref a], []⟩) (fun r s' => r = .ok (.ret (.bool true)) ∧ OldK s₁.heap s'.heap ∧ s'.os = s₁.os ∧ AllBare s'.gens) s₁) :
    WalkO q loose XP YP l.row.toRowW d [] (fun f vs => PySem.call f vs) := by
  intro w s₀ s₁ mg mb G Y fa o pm cd doc dV kV ho hd hcd hD hmg hg args vals as hpre hlay hrd hwl hlo
  obtain rfl : dV = .none := Dflts.none hD hdf
  obtain rfl : kV = .none := Dflts.noKw hD
  obtain ⟨a, vs, ns, rfl, rfl, hobj, hints, hlen⟩ := script_of hn hpre hwl
  refine enter_call (codeAny_mono (call w s₀ s₁ mg mb fa o pm cd doc a vs ns G Y ho (fd_plain hd) hcd hmg hobj hints hlen hg) fun r s' hq => ?_)
  obtain ⟨rfl, h2, h3, h4⟩ := hq
  exact ⟨.inl ⟨.bool true, .bool true, [], rfl, fun _ => rfl, .bool true, post_true l _, fun _ => ⟨List.Pairwise.nil, fun _ hm => (nomatch hm)⟩⟩, h2, h3, h4⟩
section
variable {prog : Program} {w : World} {A : Around} {E : Value → Shared → Prop} {s : Shared} {K : Frag}
end
end Att
namespace L2
open PySem PySem.Spec PyProof.Rows
theorem vals_ints : ∀ {vs : List Value} {ns : List Int}, IntsAre vs ns → Vals (ns.map V.int) vs
  | _, _, .nil => .nil
  | _, _, .cons n t h => .cons ⟨t, rfl⟩ (vals_ints h)
def Only (H : Hp) : Prop := ∀ b, H b = none ∨ ∃ o xs, H b = some (.frz o (.lst xs))
theorem law_call {P : Program} {w : World} {K : PySem.W.Frag} {mg mb : Str → Option Value} {CX : CXT} {k : Nat} {fa a : Addr} {fd : FuncData} {x : Str} {sp : Sp} {s₁ : Shared} {vs : List Value} {ns : List Int}
    (KX : K.In s₁.heap) (hns : s₁.heap.Ns mainGlobals mg) (hb : s₁.heap.Ns builtinsNs mb) (hbb : ∀ x : Str, x ≠ "__name__" → mb x = bootBuiltins x) (hlim : s₁.heap.NoLimit) (hg : s₁.gens = #[])
    (ha : s₁.heap.get? a = some { cls := .type "list", data := .seq vs.toArray }) (hi : IntsAre vs ns) (hl : ns.length ≤ sizeLine) (hr : Room k callerA)
    (F : ∀ base : Heap, K.In base → base.Ns mainGlobals mg → FnOk P w K mg base CX k fa fd [x] sp) (hbind : ∀ (s : Shared) (u : Value), BindsTo s fd ⟨[u], []⟩ [(x, u)])
    (hsp : ∀ H : Hp, Only H → SqL K H a (ns.map V.int) → sp [.ref a] H (fun v _ => v = .bl true) fun _ _ _ => False)
    (hCX : ∀ H e s', CX [] H s₁ (fun _ _ _ => False) e s' → False) :
    codeAny (model P w) callerA (.call (.ref fa) ⟨[.ref a], []⟩) (fun r s' => r = .ok (.ret (.bool true)) ∧ OldK s₁.heap s'.heap ∧ s'.os = s₁.os ∧ AllBare s'.gens) s₁ := by
  have rv := vals_ints hi
  have lenV := hi.length
  -- from an abstract heap in which nothing but the script may be tracked
  have core : ∀ H : Hp, Only H → SqL K H a (ns.map V.int) → HOk P w H s₁.heap → (∀ b, H b ≠ none → b = a) → (H a ≠ none → K.lookup a = none) →
      codeAny (model P w) callerA (.call (.ref fa) ⟨[.ref a], []⟩) (fun r s' => r = .ok (.ret (.bool true)) ∧ OldK s₁.heap s'.heap ∧ s'.os = s₁.os ∧ AllBare s'.gens) s₁ := by
    intro H hO hS hok hA hK
    have base_of : ∀ {b : Addr} {o : Obj}, s₁.heap.get? b = some o → H b = none → (hidT s₁.heap H).get? b = some o := fun e n => hidT_get e n
    have noA : ∀ {b : Addr} {o : Obj} {es : Array DictEntry} {ep : Nat}, s₁.heap.get? b = some o → o.data = .dict es ep → H b = none := fun {b o es ep} e d => by
      cases q : H b with
      | none => rfl
      | some u =>
        have e' : b = a := hA b (by rw [q]; simp)
        subst e'
        rw [ha] at e; cases e
        have d' : Data.seq vs.toArray _ = Data.dict es ep := d
        cases d'
    have nsK : ∀ {b : Addr} {m : Str → Option Value}, s₁.heap.Ns b m → (hidT s₁.heap H).Ns b m := fun {b m} ⟨o, es, ep, e, d, r⟩ => ⟨o, es, ep, base_of e (noA e d), d, r⟩
    have hKb : K.In (hidT s₁.heap H) := fun b o e => base_of (KX b o e) (by
      cases q : H b with
      | none => rfl
      | some u =>
        have e' : b = a := hA b (by rw [q]; simp)
        subst e'
        rw [hK (by rw [q]; simp)] at e; cases e)
    have hM : Mod K mg (hidT s₁.heap H) := ⟨hKb, nsK hns, ⟨mb, nsK hb, hbb⟩, let ⟨mc, h1, h2⟩ := hlim; ⟨mc, nsK h1, h2⟩⟩
    have e0 : Env0 P w K mg (hidT s₁.heap H) callerA [] s₁ H := ⟨rfl, hM, fun b o e => of_hidT e, Nat.le_of_eq (hidT_size _ _), trivial, fun b hb => absurd (show b ∈ ([] : List Addr) from hb) (by simp), hok, .of_eq hg⟩
    refine codeAny_mono ((F _ hKb (nsK hns)).run callerA [] s₁ H ⟨[.ref a], []⟩ [.ref a] [.ref a] _ _ hr e0 (hbind s₁ (.ref a)) (.cons rfl .nil) (hsp H hO hS)) fun r s' h => ?_
    cases r with
    | error e => exact (hCX H e s' h).elim
    | ok fl =>
      cases fl with
      | next => exact False.elim h
      | brk => exact False.elim h
      | cont => exact False.elim h
      | ret u =>
        obtain ⟨v, H', os, bare, un, hok', r', q⟩ := h
        have q' : v = .bl true := q
        subst q'
        obtain rfl : u = Value.bool true := r'
        refine ⟨rfl, OldK.of_keep fun b o e => ?_, os, bare⟩
        cases q : H b with
        | none => exact un.keep b o e q (by intro z; exact absurd (show b ∈ ([] : List Addr) from z) (by simp)) (by simp)
        | some u =>
          rcases hO b with z | ⟨ob, xs, z⟩
          · rw [q] at z; cases z
          · have z2 := un.frzs b ob _ z
            obtain ⟨e1, _⟩ := hok b _ z
            obtain ⟨e2, _⟩ := hok' b _ z2
            rw [e] at e1; cases e1
            exact e2
  cases hk : K.lookup a with
  | some o =>
    -- the script is one of the module's own objects
    have e := KX a o hk
    rw [ha] at e
    cases e
    refine core (fun _ => none) (fun _ => .inl rfl) (.inr ⟨_, vs.toArray, _, hk, rfl, rfl, rfl, by rw [List.size_toArray, lenV]; exact hl, by simpa using rv⟩) (fun b u z => by have z' : (none : Option HO) = some u := z; cases z') (fun b z => absurd rfl z) fun z => absurd rfl z
  | none =>
    refine core (fun b => if b = a then some (.frz { cls := .type "list", data := .seq vs.toArray } (.lst (ns.map V.int))) else none) (fun b => ?_) (.inl (.inr ⟨{ cls := .type "list", data := .seq vs.toArray }, if_pos rfl⟩)) (fun b u z => ?_) (fun b z => ?_) fun _ => hk
    · by_cases hb : b = a
      · exact .inr ⟨_, _, if_pos hb⟩
      · exact .inl (if_neg hb)
    · by_cases hb : b = a
      · have z' := (if_pos hb).symm.trans z
        cases z'
        subst hb
        exact ⟨ha, by rw [List.length_map]; exact hl, vs, _, rv, ha⟩
      · have z' := (if_neg hb).symm.trans z
        cases z'
    · by_cases hb : b = a
      · exact hb
      · exact absurd (if_neg hb) z
end L2
namespace L2
open PySem PySem.Spec PyProof.Rows
theorem walk_of {l : PySem.W.OpenLaw} {n k : Nat} {q : Program} {loose : List Str} {XP : (Str → Option Value) → Heap → Prop} {YP : World → Heap → Prop} {d : DefRec} {K : Params → PySem.W.Frag} {CX : World → CXT} {sp : World → Sp} {x : Str}
    (hn : l.most = some n) (hn2 : n ≤ sizeLine) (hdf : d.params.defaults = []) (hr : Room k callerA)
    (hY : ∀ (w : World) (h : Heap), YP w h → (K w.params).In h)
    (F : ∀ (w : World) (mg : Str → Option Value) (fa : Addr) (h : Heap), (K w.params).In h → h.Ns mainGlobals mg → mg d.name = some (.ref fa) →
      ∃ fd : FuncData, (∀ (s : Shared) (u : Value), BindsTo s fd ⟨[u], []⟩ [(x, u)]) ∧
        ∀ base : Heap, (K w.params).In base → base.Ns mainGlobals mg → FnOk l.prog w (K w.params) mg base (CX w) k fa fd [x] (sp w))
    (hsp : ∀ (w : World) (H : Hp) (a : Addr) (ns : List Int), ns.length ≤ n → Only H → SqL (K w.params) H a (ns.map V.int) → sp w [.ref a] H (fun v _ => v = .bl true) fun _ _ _ => False)
    (hCX : ∀ (w : World) (H : Hp) (s : Shared) (e : Value) (s' : Shared), CX w [] H s (fun _ _ _ => False) e s' → False) :
    PySem.W.WalkO q loose XP YP l.row.toRowW d [] (fun f vs => PySem.call f vs) := by
  refine Att.attach_call hn hdf fun w s₀ s₁ mg mb fa o pm cd doc a vs ns G Y ho hd hcd hmg hobj hints hlen hg => ?_
  have KX := hY w _ Y
  obtain ⟨fd, hb, hF⟩ := F w mg fa _ KX G.T.g hmg
  exact law_call KX G.T.g G.T.b G.T.builtins G.T.nolimit hg hobj hints (Nat.le_trans hlen hn2) hr hF hb (fun H hO hS => hsp w H a ns hlen hO hS) fun H e s' => hCX w H s₁ e s'
end L2
namespace L2
open PySem PySem.Spec PyProof.Rows
def defArgs (s : Stmt) : Arguments := match s with
  | .FunctionDef _ a _ _ _ _ _ _ _ _ => a
  | _ => { posonlyargs := [], args := [], vararg := none, kwonlyargs := [], kw_defaults := [], kwarg := none, defaults := [] }
def defBody (s : Stmt) : List Stmt := match s with
  | .FunctionDef _ _ b _ _ _ _ _ _ _ => b
  | _ => []
def defScope (s : Stmt) : Scope := match s with
  | .FunctionDef _ _ _ _ _ _ sc _ _ _ => sc
  | _ => { kind := .function, names := [], isGenerator := false, isCoroutine := false }
abbrev CX0 : CXT := fun _ _ _ _ _ _ => False
abbrev E0 : XK := fun _ _ _ => False
theorem pass0 {X : Cx} : Passes CX0 X E0 := fun _ _ _ _ _ _ _ h => h.elim
structure Fun (K : PySem.W.Frag) (x qual : Str) (st : Stmt) (f : Addr) (fd : FuncData) : Prop where
  ex : ∃ (oc : Value) (od : Option Addr) (kV doc pm : Value) (an : Option Addr) (cdv ct : Value) (osl : Array (Option Value)),
    fd = PySem.W.fnOf x qual (defArgs st) (defBody st) (defScope st) .none kV doc pm an cdv ct ∧ K.lookup f = some ⟨oc, od, .func fd, osl⟩ ∧ PySem.W.codeIn K cdv qual = true
  kp : PySem.W.keepIn K (.ref f) = true
section
variable {P : Program} {w : World} {K : PySem.W.Frag} {mg : Str → Option Value} {base : Heap}
theorem Fun.ok {x qual : Str} {st : Stmt} {f : Addr} {fd : FuncData} {N ps : List Str} {k : Nat} {sp : Sp} (F : Fun K x qual st f fd) (S : FnScope N ps (defScope st)) (len : ∀ vs H Q E, sp vs H Q E → vs.length = ps.length)
    (hbody : ∀ (cdv : Value) (A : Around) (outer : List Env) (s : Shared) (H : Hp) (vs : List V) (Q : VK) (E : XK), Room k (A.deeper (envOfC qual (defScope st) s.heap.objs.size f cdv)) → sp vs H Q E →
      ∃ t, PSs (cxOf CX0 P w K mg base N qual (defScope st) f cdv A outer s H E).nox (defBody st) t ∧ t { nx := fun _ H' => Q .non H', rt := Q } (start N vs) H) : FnOk P w K mg base CX0 (k + 1) f fd ps sp := by
  obtain ⟨oc, od, kV, doc, pm, an, cdv, ct, osl, rfl, lk, hcd⟩ := F.ex
  refine fn_of lk hcd S len fun A outer s H vs Q E hr hsp => ?_
  obtain ⟨t, h, q⟩ := hbody cdv A outer s H vs Q E hr hsp
  exact ⟨t, h.nox, q⟩
theorem Fun.binds {x qual : Str} {st : Stmt} {f : Addr} {fd : FuncData} {ps : List Str} (F : Fun K x qual st f fd)
    (h : ∀ (kV doc pm : Value) (an : Option Addr) (cdv ct : Value) (us : List Value), us.length = ps.length → bindArgs (PySem.W.fnOf x qual (defArgs st) (defBody st) (defScope st) .none kV doc pm an cdv ct) ⟨us, []⟩ = pure (ps.zip us)) : Binds K fd ps [] := by
  obtain ⟨oc, od, kV, doc, pm, an, cdv, ct, osl, rfl, lk, hcd⟩ := F.ex
  exact .all (h kV doc pm an cdv ct)
theorem fun_mk {x qual : Str} {st : Stmt} {f : Addr} {oc : Value} {od an : Option Addr} {osl : Array (Option Value)} {kV doc pm cdv ct : Value} (l : K.lookup f = some ⟨oc, od, .func (PySem.W.fnOf x qual (defArgs st) (defBody st) (defScope st) .none kV doc pm an cdv ct), osl⟩)
    (c : PySem.W.codeIn K cdv qual = true) (k : PySem.W.keepIn K (.ref f) = true) : Fun K x qual st f (PySem.W.fnOf x qual (defArgs st) (defBody st) (defScope st) .none kV doc pm an cdv ct) := ⟨⟨oc, od, kV, doc, pm, an, cdv, ct, osl, rfl, l, c⟩, k⟩
end
section
variable {X : Cx}
theorem pv (i : Nat) {x : Str} {pos : Pos} (hN : X.N[i]? = some x := by rfl) (hv : Vis X.env.scope x := by first | exact Or.inl rfl | exact Or.inr (Or.inl rfl) | exact Or.inr (Or.inr rfl)) (hd : (x == ("__debug__" : Str)) = false := by decide)
    (hcd : (x == ("__classdict__" : Str)) = false := by decide) : PE X (.Name x pos) (tVar i) := pe_var hN hv hd hcd
end
theorem iteF {A B : Prop} (h : B) : if false = true then A else B := by
  rw [if_neg Bool.false_ne_true]
  exact h
theorem iteT {A B : Prop} (h : A) : if true = true then A else B := by
  rw [if_pos rfl]
  exact h
def Same (H H' : Hp) : Prop := ∀ b o, H b = some o → H' b = some o
theorem Same.refl (H : Hp) : Same H H := fun _ _ h => h
theorem Same.trans {H H1 H2 : Hp} (a : Same H H1) (b : Same H1 H2) : Same H H2 := fun c o h => b c o (a c o h)
theorem Same.seq {K : PySem.W.Frag} {H H' : Hp} {a : Addr} {xs : List V} (e : Same H H') (h : SqL K H a xs) : SqL K H' a xs := by
  rcases h with (h | ⟨o, h⟩) | h
  · exact .inl (.inl (e _ _ h))
  · exact .inl (.inr ⟨o, e _ _ h⟩)
  · exact .inr h
end L2

set_option maxHeartbeats 4000000
namespace L2
open PySem PySem.Spec PyProof.Rows
section
variable {κ : Type} [DecidableEq κ]
def valV (kvs : List (κ × V)) (k : κ) : Option V := (kvs.find? fun kv => decide (kv.1 = k)).map (·.2)
def putK (kvs : List (κ × V)) (k : κ) (v : V) : List (κ × V) :=
  if (kvs.any fun kv => decide (kv.1 = k)) = true then kvs.map (fun kv => if kv.1 = k then (kv.1, v) else kv) else kvs ++ [(k, v)]
theorem valV_pos {p : κ × V} {r : List (κ × V)} {k : κ} (e : p.1 = k) : valV (p :: r) k = some p.2 := by simp [valV, List.find?_cons, e]
theorem valV_neg {p : κ × V} {r : List (κ × V)} {k : κ} (e : ¬ p.1 = k) : valV (p :: r) k = valV r k := by simp [valV, List.find?_cons, e]
theorem valV_any (k : κ) : ∀ kvs : List (κ × V), (kvs.any fun kv => decide (kv.1 = k)) = (valV kvs k).isSome
  | [] => rfl
  | p :: r => by
    rw [List.any_cons]
    by_cases e : p.1 = k
    · simp only [valV_pos e, decide_eq_true e, Bool.true_or, Option.isSome_some]
    · rw [valV_neg e, decide_eq_false e, Bool.false_or]; exact valV_any k r
theorem length_putK (kvs : List (κ × V)) (k : κ) (v : V) : (putK kvs k v).length ≤ kvs.length + 1 := by
  unfold putK
  split
  · rw [List.length_map]; omega
  · rw [List.length_append, List.length_cons, List.length_nil]; omega
theorem RelO.isSome_eq {o : Option V} {u : Option Value} (r : RelO o u) : o.isSome = u.isSome := by
  cases o with
  | none => cases u with
    | none => rfl
    | some _ => exact (show False from r).elim
  | some _ => cases u with
    | none => exact (show False from r).elim
    | some _ => rfl
theorem KV.val {kvs : List (κ × V)} {vs : List (κ × Value)} (r : KV kvs vs) (k : κ) : RelO (valV kvs k) (valueAt vs k) := by
  unfold KV at r
  induction r with
  | nil => exact True.intro
  | @cons p q ps qs h t ih =>
    obtain ⟨h1, h2⟩ := h
    by_cases e : p.1 = k
    · have e' : q.1 = k := h1.symm.trans e
      have b : valueAt (q :: qs) k = some q.2 := by simp [valueAt, List.find?_cons, e']
      rw [valV_pos e, b]; exact h2
    · have e' : ¬ q.1 = k := fun z => e (h1.trans z)
      have b : valueAt (q :: qs) k = valueAt qs k := by simp [valueAt, List.find?_cons, e']
      rw [valV_neg e, b]; exact ih
theorem KV.any {kvs : List (κ × V)} {vs : List (κ × Value)} (r : KV kvs vs) (k : κ) : (kvs.any fun kv => decide (kv.1 = k)) = vs.any fun kv => decide (kv.1 = k) := by
  unfold KV at r
  induction r with
  | nil => rfl
  | cons h t ih => rw [List.any_cons, List.any_cons, ih, h.1]
theorem KV.repl {kvs : List (κ × V)} {vs : List (κ × Value)} (r : KV kvs vs) (k : κ) {y : V} {u : Value} (ry : RelV y u) :
    KV (kvs.map fun kv => if kv.1 = k then (kv.1, y) else kv) (vs.map fun kv => if kv.1 = k then (kv.1, u) else kv) := by
  unfold KV at r ⊢
  induction r with
  | nil => exact .nil
  | @cons p q ps qs h t ih =>
    rw [List.map_cons, List.map_cons]
    refine .cons ?_ ih
    obtain ⟨h1, h2⟩ := h
    by_cases e : p.1 = k
    · rw [if_pos e, if_pos (h1.symm.trans e)]; exact ⟨h1, ry⟩
    · rw [if_neg e, if_neg (fun z => e (h1.trans z))]; exact ⟨h1, h2⟩
theorem KV.put {kvs : List (κ × V)} {vs : List (κ × Value)} (r : KV kvs vs) (k : κ) {y : V} {u : Value} (ry : RelV y u) : KV (putK kvs k y) (stored vs k u) := by
  unfold putK stored
  rw [r.any k]
  by_cases e : (vs.any fun kv => decide (kv.1 = k)) = true
  · rw [if_pos e, if_pos e]; exact r.repl k ry
  · rw [if_neg e, if_neg e]; exact Paired.snoc r ⟨rfl, ry⟩
theorem KV.length {kvs : List (κ × V)} {vs : List (κ × Value)} (r : KV kvs vs) : kvs.length = vs.length := Paired.length r
end
theorem kV_is {P : Program} {w : World} {k : Key} {u : Value} (r : RelV (kV k) u) : (mixKind P w).is k u = true := by
  cases k with
  | inl i => obtain ⟨t, e⟩ := (show ∃ t, u = Value.int i t from r); subst e; exact mixKind_int P w i t
  | inr x => obtain ⟨t, e⟩ := (show ∃ t, u = Value.str x t from r); subst e; exact mixKind_str P w x t
theorem items_are {P : Program} {w : World} : ∀ {ks : List Key} {us : List Value}, Vals (ks.map kV) us → ItemsAre (mixKind P w) ks us
  | [], _, r => by rw [List.map_nil] at r; cases r; exact .nil
  | k :: ks, _, r => by
    rw [List.map_cons] at r
    cases r with
    | cons h t => exact .cons (kV_is h) (items_are t)
abbrev KT (H : Hp) : List (List Key × V) → List (List Key × Addr × Value) → Prop := Paired fun p q => p.1 = q.1 ∧ H q.2.1 = some (.tup (p.1.map kV)) ∧ RelV p.2 q.2.2
theorem KT.val {H : Hp} {kvs : List (List Key × V)} {xs : List (List Key × Addr × Value)} (r : KT H kvs xs) (k : List Key) : RelO (valV kvs k) ((atKey xs k).map (·.2)) := by
  induction r with
  | nil => exact True.intro
  | @cons p q ps qs h t ih =>
    obtain ⟨h1, _, h2⟩ := h
    by_cases e : p.1 = k
    · have e' : q.1 = k := h1.symm.trans e
      have b : atKey (q :: qs) k = some q.2 := by simp [atKey, List.find?_cons, e']
      rw [valV_pos e, b]; exact h2
    · have e' : ¬ q.1 = k := fun z => e (h1.trans z)
      have b : atKey (q :: qs) k = atKey qs k := by simp [atKey, List.find?_cons, e']
      rw [valV_neg e, b]; exact ih
theorem KT.repl {H : Hp} {kvs : List (List Key × V)} {xs : List (List Key × Addr × Value)} (r : KT H kvs xs) (k : List Key) {y : V} {u : Value} (ry : RelV y u) :
    KT H (kvs.map fun kv => if kv.1 = k then (kv.1, y) else kv) (xs.map (putAt k u)) := by
  induction r with
  | nil => exact .nil
  | @cons p q ps qs h t ih =>
    rw [List.map_cons, List.map_cons]
    refine .cons ?_ ih
    obtain ⟨h1, h2, h3⟩ := h
    unfold putAt
    by_cases e : p.1 = k
    · rw [if_pos e, if_pos (h1.symm.trans e)]; exact ⟨h1, h2, ry⟩
    · rw [if_neg e, if_neg (fun z => e (h1.trans z))]; exact ⟨h1, h2, h3⟩
theorem KT.put {H : Hp} {kvs : List (List Key × V)} {xs : List (List Key × Addr × Value)} (r : KT H kvs xs) (k : List Key) {b : Addr} {y : V} {u : Value} (hb : H b = some (.tup (k.map kV))) (ry : RelV y u) :
    KT H (putK kvs k y) (storedH xs k b u) := by
  have e : (kvs.any fun kv => decide (kv.1 = k)) = (atKey xs k).isSome := by
    rw [valV_any, (r.val k).isSome_eq, Option.isSome_map]
  unfold putK storedH
  rw [e]
  by_cases q : (atKey xs k).isSome = true
  · rw [if_pos q, if_pos q]; exact r.repl k ry
  · rw [if_neg q, if_neg q]; exact Paired.snoc r ⟨rfl, hb, ry⟩
theorem KT.keeps {H H' : Hp} {kvs : List (List Key × V)} {xs : List (List Key × Addr × Value)} (r : KT H kvs xs) (ht : ∀ b ys, H b = some (.tup ys) → H' b = some (.tup ys)) : KT H' kvs xs :=
  Paired.mapP r fun _ _ z => ⟨z.1, ht _ _ z.2.1, z.2.2⟩
section
variable {P : Program} {w : World} {H : Hp} {h : Heap} {a : Addr}
theorem rd_of {u : HO} (ok : HOk P w H h) (e : Rd H a u) : ObjOk P w H h a u := e.ok ok
theorem dk_rd {kvs : List (Key × V)} (ok : HOk P w H h) (e : Rd H a (.dK kvs)) : kvs.length ≤ sizeLine ∧ (a == sysModules) = false ∧ ∃ vs, KV kvs vs ∧ h.DictOf (mixKind P w) a vs :=
  show ObjOk P w H h a (.dK kvs) from rd_of ok e
theorem dk_of {kvs : List (Key × V)} (ok : HOk P w H h) (e : H a = some (.dK kvs)) : kvs.length ≤ sizeLine ∧ (a == sysModules) = false ∧ ∃ vs, KV kvs vs ∧ h.DictOf (mixKind P w) a vs := dk_rd ok (.inl e)
theorem key_of {ks : List Key} (ok : HOk P w H h) (e : H a = some (.tup (ks.map kV))) : (tupleKind (mixKind P w)).is h ks a := by
  obtain ⟨_, its, r, o, h1, h2, n, h3⟩ := (show ObjOk P w H h a (.tup (ks.map kV)) from ok a _ e)
  exact ⟨o, its.toArray, n, h1, h2, h3, by simpa using items_are r⟩
theorem dt_rd {kvs : List (List Key × V)} (ok : HOk P w H h) (e : Rd H a (.dT kvs)) : kvs.length ≤ sizeLine ∧ (a == sysModules) = false ∧
    ∃ xs, KT H kvs xs ∧ h.DictOfH (tupleKind (mixKind P w)) a xs := by
  obtain ⟨z, y, xs, r, o, es, ep, h1, h2, h3, h4, h5⟩ := (show ObjOk P w H h a (.dT kvs) from rd_of ok e)
  refine ⟨z, y, xs, r, o, es, ep, h1, h2, h3, h4, fun x hx => ?_, h5⟩
  have all : ∀ {l : List (List Key × V)} {m : List (List Key × Addr × Value)}, KT H l m → ∀ x ∈ m, (tupleKind (mixKind P w)).is h x.1 x.2.1 := by
    intro l m q
    induction q with
    | nil => intro x hx; exact nomatch hx
    | @cons p q ps qs hq t ih =>
      intro x hx
      rcases List.mem_cons.mp hx with e | hx
      · subst e
        exact key_of ok (by rw [← hq.1]; exact hq.2.1)
      · exact ih x hx
  exact all r x hx
theorem dt_of {kvs : List (List Key × V)} (ok : HOk P w H h) (e : H a = some (.dT kvs)) : kvs.length ≤ sizeLine ∧ (a == sysModules) = false ∧
    ∃ xs, KT H kvs xs ∧ h.DictOfH (tupleKind (mixKind P w)) a xs := dt_rd ok (.inl e)
end
def DGet (H : Hp) (a : Addr) (y : V) (r : Option V) : Prop :=
  (∃ kvs k, Rd H a (.dK kvs) ∧ y = kV k ∧ r = valV kvs k) ∨ ∃ kvs k b, Rd H a (.dT kvs) ∧ y = .ref b ∧ H b = some (.tup (k.map kV)) ∧ r = valV kvs k
def DPut (H : Hp) (a : Addr) (y v : V) (H' : Hp) : Prop :=
  (∃ kvs k, H a = some (.dK kvs) ∧ y = kV k ∧ kvs.length < sizeLine ∧ H' = upd H a (.dK (putK kvs k v))) ∨
  ∃ kvs k b, H a = some (.dT kvs) ∧ y = .ref b ∧ H b = some (.tup (k.map kV)) ∧ kvs.length < sizeLine ∧ H' = upd H a (.dT (putK kvs k v))
theorem DPut.k {H : Hp} {a : Addr} {kvs : List (Key × V)} {k : Key} {v : V} (e : H a = some (.dK kvs)) (hl : kvs.length < sizeLine) : DPut H a (kV k) v (upd H a (.dK (putK kvs k v))) := .inl ⟨kvs, k, e, rfl, hl, rfl⟩
section
variable {X : Cx} {pins : List (Addr × Obj)} {σ : St} {H : Hp} {s : Shared} {a : Addr} {y v : V} {u r : Value} {o : Option V} {A : Around} {E : Value → Shared → Prop}
theorem Inv.big (I : Inv X pins σ H s) : sysModules < s.heap.objs.size := by
  have h : mainGlobals < s.heap.objs.size := (I.mod.glob.keeps I.bk).lt
  exact Nat.lt_trans (by decide) h
theorem d_getItem {Q : Value → Shared → Prop} (hu : A.units + 1 < cLine) (I : Inv X pins σ H s) (g : DGet H a y (some v)) (ry : RelV y u) (h : ∀ w' s', Inv X pins σ H s' → RelV v w' → Q w' s') :
    wpAny (model X.prog X.w) A (getItem (.ref a) u) Q E s := by
  rcases g with ⟨kvs, k, e, ey, l⟩ | ⟨kvs, k, b, e, ey, eb, l⟩
  · subst ey
    obtain ⟨z, hd, vs, rel, dd⟩ := dk_rd I.hok e
    obtain ⟨w', hw, rw'⟩ := RelO.some_of (v := v) (o := valueAt vs k) (by rw [l]; exact rel.val k)
    exact wpAny_getItem_of (kV_is ry) dd.mapOf hw (h w' _ (I.tok _) rw')
  · subst ey
    cases (show u = Value.ref b from ry)
    obtain ⟨z, hd, xs, rel, dd⟩ := dt_rd I.hok e
    obtain ⟨w', hw, rw'⟩ := RelO.some_of (v := v) (o := (atKey xs k).map (·.2)) (by rw [l]; exact rel.val k)
    obtain ⟨p, hp, hp2⟩ := Option.map_eq_some_iff.mp hw
    refine wpAny_getItem_heap (tupleKind_room_in1 hu) (key_of I.hok eb) dd hp ?_
    rw [hp2]
    exact h w' _ (I.tok _) rw'
theorem d_write {h' : Heap} {t' : Nat} {ob : HO} (I : Inv X pins σ H s) (mu : Mut (H a)) (hs : Heap.SameBut a s.heap h') (he : ∃ q, h'.get? a = some q) (new : ObjOk X.prog X.w (upd H a ob) h' a ob) :
    Inv X pins σ (upd H a ob) { s with heap := h', toks := t' } :=
  I.write (x := a) (e := a) mu (.inl rfl) (fun b q hb z => (hs.2 b hb).trans z) he new
theorem dk_new {P : Program} {w : World} {H' : Hp} {h' : Heap} {kvs : List (Key × V)} {vs : List (Key × Value)} (z : kvs.length ≤ sizeLine) (hd : (a == sysModules) = false) (rel : KV kvs vs) (dd : h'.DictOf (mixKind P w) a vs) :
    ObjOk P w H' h' a (.dK kvs) := ⟨z, hd, vs, rel, dd⟩
theorem d_setItem {H' : Hp} {Q : Unit → Shared → Prop} (hu : A.units + 1 < cLine) (I : Inv X pins σ H s) (g : DPut H a y v H') (ry : RelV y u) (rv : RelV v r) (h : ∀ s', Inv X pins σ H' s' → Q () s') :
    wpAny (model X.prog X.w) A (setItem (.ref a) u r) Q E s := by
  rcases g with ⟨kvs, k, e, ey, l, eH⟩ | ⟨kvs, k, b, e, ey, eb, l, eH⟩
  · subst ey eH
    obtain ⟨z, hd, vs, rel, dd⟩ := dk_of I.hok e
    have hz : vs.length ≤ sizeLine := by rw [← rel.length]; exact z
    have hl : (putK kvs k v).length ≤ sizeLine := by have := length_putK kvs k v; omega
    refine wpAny_setItem_pairs (hsz := hz) (kV_is ry) dd fun h' dd' hs => h _ ?_
    have he : ∃ q, h'.get? a = some q := let ⟨q, _, _, hq, _⟩ := dd'; ⟨q, hq⟩
    exact d_write I (by rw [e]; exact True.intro) hs he (dk_new hl hd (rel.put k rv) dd')
  · subst ey eH
    cases (show u = Value.ref b from ry)
    obtain ⟨z, hd, xs, rel, dd⟩ := dt_of I.hok e
    have hz : xs.length ≤ sizeLine := by rw [← Paired.length rel]; exact z
    have hl : (putK kvs k v).length ≤ sizeLine := by have := length_putK kvs k v; omega
    refine wpAny_setItem_heap (hsz := hz) (tupleKind_room_in1 hu) (key_of I.hok eb) dd fun h' dd' hs => h _ ?_
    obtain ⟨q, es, ep, hq, h2, h3, h4, _, h5⟩ := dd'
    refine d_write I (by rw [e]; exact True.intro) hs ⟨q, hq⟩ ⟨hl, hd, _, (rel.put k eb rv).keeps fun c ys ec => ?_, q, es, ep, hq, h2, h3, h4, h5⟩
    rw [upd_ne (ne_of ec e (fun z => nomatch z))]
    exact ec
end
section
variable {X : Cx} {pins : List (Addr × Obj)} {σ : St} {H : Hp} {s : Shared} {a : Addr} {kvs : List (Key × V)} {k : Key} {u : Value} {A : Around} {E : Value → Shared → Prop}
theorem d_clear {Q : Value → Shared → Prop} (I : Inv X pins σ H s) (e : H a = some (.dK kvs)) (h : ∀ s', Inv X pins σ (upd H a (.dK [])) s' → Q .none s') : wpAny (model X.prog X.w) A (call (.builtin "dict.clear") [.ref a]) Q E s := by
  obtain ⟨z, hd, vs, rel, dd⟩ := dk_of I.hok e
  refine call_meetsIn PySem.F.slot_dict_clear dd.typeIs PySem.F.entry_dict_clear (PySem.F.args_dict_clear_1 _) (meets_dict_clear (mixKind X.prog X.w) a) ⟨vs, dd, by rw [← rel.length]; exact z, fun h' dd' hs => h _ ?_⟩
  have he : ∃ q, h'.get? a = some q := let ⟨q, _, _, hq, _⟩ := dd'; ⟨q, hq⟩
  exact d_write (t' := s.toks) I (by rw [e]; exact True.intro) hs he (dk_new (Nat.zero_le _) hd .nil dd')
end
def NoSl (i : Expr) : Prop := ∀ ov iv, subscripted i false ov iv = operate [ov, iv] (getItem ov iv)
theorem subD_of {prog : Program} {w : World} {A : Around} {E : Value → Shared → Prop} {s : Shared} {env : Env} {value slice : Expr} {pos : Pos} {T id : String} {Q : Value → Shared → Prop}
    (hl : typeLookup (.type T) "__getitem__" = pure (some (.builtin id))) (hs : NoSl slice)
    (h : wpAny (model prog w) A (eval value env) (fun o s₁ => wpAny (model prog w) A (eval slice env) (fun i s₂ => s₂.TypeIs o T ∧ wpAny (model prog w) A (getItem o i) Q E s₂) E s₁) E s) :
    wpAny (model prog w) A (eval (.Subscript value slice pos) env) Q E s := by
  refine Subscript_ (wpAny_mono h (fun o s₁ h₁ => wpAny_mono h₁ (fun i s₂ h₂ => ?_) fun _ _ x => x) fun _ _ x => x)
  obtain ⟨hT, h₂⟩ := h₂
  unfold subscriptTail
  refine wpAny_bind ?_
  rw [getitemInPython_of_ne hT.not_modules]
  refine wpAny_bind (wpAny_specialOf hT hl ?_)
  have fin : wpAny (model prog w) A (subscripted slice false o i) (fun r s₃ => wpAny (model prog w) A (letTemporaryGo value o r >>= fun _ => pure r) Q E s₃) E s₂ := by
    rw [hs o i]
    exact wpAny_operating (wpAny_mono h₂ (fun r s₃ h₃ => wpAny_bind (wpAny_letTemporaryGo (wpAny_pure h₃))) fun _ _ x => x)
  first
    | exact wpAny_pure (wpAny_bind fin)
    | exact wpAny_bind (wpAny_pure (wpAny_bind fin))
    | exact wpAny_bind fin
theorem dict_typeIs {X : Cx} {pins : List (Addr × Obj)} {σ : St} {H : Hp} {s : Shared} {a : Addr} {y : V} {o : Option V} (I : Inv X pins σ H s) (g : DGet H a y o) : s.TypeIs (.ref a) "dict" := by
  rcases g with ⟨kvs, k, e, _, _⟩ | ⟨kvs, k, b, e, _, _, _⟩
  · obtain ⟨_, _, vs, _, dd⟩ := dk_rd I.hok e
    exact dd.typeIs
  · obtain ⟨_, _, xs, _, dd⟩ := dt_rd I.hok e
    exact dd.typeIs
def tDGet (td ty : TE) : TE := fun σ H Q => td σ H fun x H1 => ty σ H1 fun y H2 => ∃ a v, x = .ref a ∧ DGet H2 a y (some v) ∧ Q v H2
def sDPut (td ty tv : TE) : TS := fun D σ H => tv σ H fun v H1 => td σ H1 fun x H2 => ty σ H2 fun y H3 => ∃ a H4, x = .ref a ∧ DPut H3 a y v H4 ∧ D.nx σ H4
section
variable {X : Cx} {o i e value : Expr} {pos pos' tpos : Pos} {td ty tv : TE}
theorem pe_dget (hu : X.A.units + 1 < cLine) (ho : PE X o td) (hi : PE X i ty) (hs : NoSl i) : PE X (.Subscript o i pos) (tDGet td ty) := by
  intro pins s σ H Q I h
  refine subD_of PySem.F.slot_dict_getitem.lookup hs (thn (ho pins s σ H _ I h) fun u s1 ⟨x, H1, I1, rx, q1⟩ => thn (hi pins s1 σ H1 _ I1 q1) fun iv s2 ⟨y, H2, I2, ry, a, v, ex, g, q2⟩ => ?_)
  subst ex
  obtain rfl : u = Value.ref a := rx
  exact ⟨dict_typeIs I2 g, d_getItem hu I2 g ry fun w' s3 I3 rw' => ⟨v, H2, I3, rw', q2⟩⟩
theorem ps_dput (hu : X.A.units + 1 < cLine) (ho : PE X o td) (hi : PE X i ty) (hv : PE X value tv) (hs : swapsWith value (some (.Subscript o i pos')) pos.line X.env = pure false) :
    PS X (.Assign [.Subscript o i pos'] value pos) (sDPut td ty tv) := by
  intro pins s σ H D I h
  refine wpAny_Assign_Subscript (thn (hv pins s σ H _ I h) fun r s1 ⟨v, H1, I1, rv, q1⟩ => thn (ho pins s1 σ H1 _ I1 q1) fun u s2 ⟨x, H2, I2, rx, q2⟩ => thn (hi pins s2 σ H2 _ I2 q2) fun iv s3 ⟨y, H3, I3, ry, a, H4, ex, g, q3⟩ => ?_) hs
  subst ex
  obtain rfl : u = Value.ref a := rx
  exact d_setItem hu I3 g ry rv fun s4 I4 => ⟨σ, H4, I4, q3⟩
end
theorem dk_empty {P : Program} {w : World} {H : Hp} (h : Heap) (hb : sysModules < h.objs.size) : ObjOk P w H (h.push { cls := .type "dict", data := .dict #[] }) h.objs.size (.dK []) :=
  ⟨Nat.zero_le _, beq_eq_false_iff_ne.mpr (Ne.symm (Nat.ne_of_lt hb)), [], .nil, Heap.DictOf.new h⟩
def tDNewK : TE := fun _ H Q => ∀ p, H p = none → Q (.ref p) (upd H p (.dK []))
section
variable {X : Cx} {pos : Pos}
theorem pe_dnewK : PE X (.Dict [] [] pos) tDNewK := fun pins s σ H Q I h =>
  wpAny_Dict_empty ⟨.ref s.heap.objs.size, _, I.laid (a := s.heap.objs.size) (o := .dK []) (t' := s.toks) (fun _ _ q => Heap.get?_push_of_some _ q) (Nat.le_refl _) (dk_empty s.heap I.big), rfl, h _ (I.hok.fresh (Nat.le_refl _))⟩
end
section
variable {X : Cx} {pins : List (Addr × Obj)} {σ : St} {H : Hp} {s : Shared} {a : Addr} {y d : V} {u r : Value} {o : Option V} {A : Around} {E : Value → Shared → Prop}
end
section
variable {X : Cx} {o e f : Expr} {apos cpos : Pos} {td ty tx : TE}
end
section
variable {X : Cx} {pins : List (Addr × Obj)} {σ : St} {H : Hp} {s : Shared} {a : Addr} {kvs : List (Key × V)} {A : Around} {E : Value → Shared → Prop}
end
section
variable {X : Cx} {pins : List (Addr × Obj)} {σ : St} {H : Hp} {s : Shared} {a : Addr} {y : V} {u : Value} {A : Around} {E : Value → Shared → Prop}
end
end L2
namespace L2
open PySem PySem.Spec PyProof.Rows
section
variable {X : Cx}
end
section
variable {κ : Type} [DecidableEq κ]
end
end L2

set_option maxHeartbeats 4000000
namespace L2
open PySem PySem.Spec PyProof.Rows
def cxComp (X : Cx) (scope : Scope) (cl : List (Str × Addr)) (C : Addr) (N : List Str) (fp : List Addr) (s₂ : Shared) (H₂ : Hp) : Cx where
  prog := X.prog
  w := X.w
  K := X.K
  mg := X.mg
  base := X.base
  A := X.A
  N := N
  s₀ := s₂
  H₀ := H₂
  env := compEnvC scope cl C X.env
  outer := X.stack
  stack := X.stack
  ex := fp
  fn := fun _ => false
  calm := X.calm
  pn := []
  xe := fun _ _ => False
theorem relabel_free {scope : Scope} {env : Env} {y : Str} (nc : ∀ z ∈ scope.names, z.2 ≠ .cell) (h : (relabel scope env).names.lookup y = some .cell ∨ (relabel scope env).names.lookup y = some .free) : scope.names.lookup y = some .free := by
  have key : ∀ (l : List (Str × NameKind)), (∀ z ∈ l, z.2 ≠ .cell) → ((l.map fun (n, k) => if (k == NameKind.free && env.scope.kind == .function && env.kindOf n == some .cell) then (n, NameKind.cell) else (n, k)).lookup y = some .cell ∨
      (l.map fun (n, k) => if (k == NameKind.free && env.scope.kind == .function && env.kindOf n == some .cell) then (n, NameKind.cell) else (n, k)).lookup y = some .free) → l.lookup y = some .free := by
    intro l
    induction l with
    | nil => intro _ h; rcases h with h | h <;> simp at h
    | cons p r ih =>
      obtain ⟨n, k⟩ := p
      intro hn h
      have hr := ih (fun z hz => hn z (List.mem_cons_of_mem _ hz))
      have hk : k ≠ .cell := hn (n, k) List.mem_cons_self
      by_cases hc : (k == NameKind.free && env.scope.kind == .function && env.kindOf n == some .cell) = true
      · have kf : k = .free := by
          rw [Bool.and_eq_true, Bool.and_eq_true] at hc
          exact eq_of_beq hc.1.1
        subst kf
        simp only [List.map_cons, if_pos hc] at h
        cases hx : y == n with
        | true => simp only [List.lookup_cons, hx]
        | false =>
          simp only [List.lookup_cons, hx] at h ⊢
          exact hr h
      · simp only [List.map_cons, if_neg hc] at h
        cases hx : y == n with
        | true =>
          simp only [List.lookup_cons, hx] at h ⊢
          rcases h with h | h
          · cases h; exact absurd rfl hk
          · exact h
        | false =>
          simp only [List.lookup_cons, hx] at h ⊢
          exact hr h
  exact key scope.names nc h
theorem free_relabel {scope : Scope} {env : Env} {y : Str} (h : scope.names.lookup y = some .free) : (relabel scope env).names.lookup y = some .cell ∨ (relabel scope env).names.lookup y = some .free := by
  have key : ∀ (l : List (Str × NameKind)), l.lookup y = some .free → ((l.map fun (n, k) => if (k == NameKind.free && env.scope.kind == .function && env.kindOf n == some .cell) then (n, NameKind.cell) else (n, k)).lookup y = some .cell ∨
      (l.map fun (n, k) => if (k == NameKind.free && env.scope.kind == .function && env.kindOf n == some .cell) then (n, NameKind.cell) else (n, k)).lookup y = some .free) := by
    intro l
    induction l with
    | nil => intro h; simp at h
    | cons p r ih =>
      obtain ⟨n, k⟩ := p
      intro h
      by_cases hc : (k == NameKind.free && env.scope.kind == .function && env.kindOf n == some .cell) = true
      · simp only [List.map_cons, if_pos hc]
        cases hx : y == n with
        | true => simp only [List.lookup_cons, hx]; exact .inl trivial
        | false =>
          simp only [List.lookup_cons, hx] at h ⊢
          exact ih h
      · simp only [List.map_cons, if_neg hc]
        cases hx : y == n with
        | true => simp only [List.lookup_cons, hx] at h ⊢; exact .inr h
        | false =>
          simp only [List.lookup_cons, hx] at h ⊢
          exact ih h
  exact key scope.names h
structure CompScope (X : Cx) (scope : Scope) (cl : List (Str × Addr)) (T : List Str) (caps : List Nat) (cn : List Str) : Prop where
  kind : scope.kind = .function
  clos : closureFor scope X.env = pure cl
  ncell : ∀ y ∈ scope.names, y.2 ≠ .cell
  names : ∀ y ∈ scope.names, y.2 = .local → scope.names.lookup y.1 = some .local
  sub : ∀ y c, cl.lookup y = some c → X.env.cells.lookup y = some c
  has : ∀ y, scope.names.lookup y = some .free → ∃ c, cl.lookup y = some c
  cap : Paired (fun (j : Nat) (y : Str) => X.N[j]? = some y ∧ (X.env.kindOf y = some .cell ∨ X.env.kindOf y = some .free) ∧ scope.names.lookup y = some .free) caps cn
def st0 (n : Nat) (caps : List Nat) (σ : St) : St := List.replicate n none ++ caps.map fun j => (σ[j]?).getD none
def Le (σ σ' : St) : Prop := σ.length = σ'.length ∧ ∀ (i : Nat) v, σ[i]? = some (some v) → σ'[i]? = some (some v)
theorem Le.one {r : St} {x : Option V} : Le (none :: r) (x :: r) := ⟨rfl, fun i v h => by
  cases i with
  | zero => simp at h
  | succ i => simpa using h⟩
def PTs (X : Cx) (ifs : List Expr) (t : TT) : Prop :=
  ∀ (pins : List (Addr × Obj)) (s : Shared) (σ : St) (H : Hp) (Q : Bool → Hp → Prop), Inv X pins σ H s → t σ H Q →
    wpAny (model X.prog X.w) X.A (forIn ifs true fun c r => if r = true then do let ok ← isTrue c X.env (eval c X.env); pure (ForInStep.yield ok) else pure (ForInStep.yield r)) (TP X pins σ Q) X.xe s
def tYes : TT := fun _ H Q => Q true H
theorem pts_nil {X : Cx} : PTs X [] tYes := fun pins s σ H Q I h => wpAny_tests_nil ⟨H, I, h⟩
theorem pts_one {X : Cx} {c : Expr} {t : TT} (h : PT X c t) : PTs X [c] t := fun pins s σ H Q I q => wpAny_tests_one (h pins s σ H Q I q)
theorem compLoop_all {prog : Program} {w : World} {A : Around} {R : Result → Shared → Prop} {s : Shared} {elt target iter : Expr} {ifs : List Expr} {scope : Scope} {pos : Pos} {it acc : Value} {env : Env} (I : Nat → Shared → Prop)
    (turn : ∀ n s, I n s → wpAny (model prog w) A (pyNext it) (fun r s₁ => match r with
      | none => R (.ok .next) s₁
      | some v => wpAny (model prog w) A (letOwnedTupleGo target it v) (fun _ s₀ => wpAny (model prog w) A (assign target env v) (fun _ s₂ =>
          wpAny (model prog w) A (forIn ifs true fun c r => if r = true then do let ok ← isTrue c env (eval c env); pure (ForInStep.yield ok) else pure (ForInStep.yield r)) (fun ok s₃ =>
            if ok = true then wpAny (model prog w) A (eval elt env) (fun x s₄ =>
              wpAny (model prog w) A (call (.builtin "list.append") [acc, x]) (fun _ s₅ => ∃ m, m < n ∧ I m s₅) (fun _ _ => False) s₄) (fun _ _ => False) s₃
            else ∃ m, m < n ∧ I m s₃) (fun _ _ => False) s₂) (fun _ _ => False) s₀) (fun _ _ => False) s₁) (fun _ _ => False) s)
    (n : Nat) (h : I n s) :
    codeAny (model prog w) A (.compLoop (.ListComp elt [⟨target, iter, ifs, 0⟩] scope pos) 0 it acc env) R s := by
  refine codeAny_loop rfl I (fun n s hI => ?_) n h
  show wpAny _ A ((compTurn (.ListComp elt [⟨target, iter, ifs, 0⟩] scope pos) 0 it acc env).onRaise (fun x => do noteFrame x env; theTreesLotGoes x)) _ _ s
  refine wpAny_noted ?_
  rw [compTurn_list]
  refine wpAny_bind (wpAny_standAt (wpAny_bind (wpAny_mono (turn n s hI) (fun r s₁ h₁ => ?_) fun _ _ h' => h'.elim)))
  cases r with
  | none => exact wpAny_pure h₁
  | some v =>
    refine wpAny_bind (wpAny_mono h₁ (fun _ s₀ h₀ => ?_) fun _ _ h' => h'.elim)
    refine wpAny_bind (wpAny_mono h₀ (fun _ s₂ h₂ => wpAny_bind (wpAny_mono h₂ (fun ok s₃ h₃ => ?_) fun _ _ h' => h'.elim)) fun _ _ h' => h'.elim)
    cases ok with
    | false => exact wpAny_pure ⟨rfl, h₃⟩
    | true =>
      exact wpAny_bind (wpAny_bind (wpAny_mono h₃ (fun x s₄ h₄ => wpAny_bind (wpAny_mono h₄ (fun _ s₅ h₅ => wpAny_pure (wpAny_pure ⟨rfl, h₅⟩)) fun _ _ h' => h'.elim)) fun _ _ h' => h'.elim))
section
variable {X : Cx} {scope : Scope} {cl : List (Str × Addr)} {T cn : List Str} {caps : List Nat} {pins : List (Addr × Obj)} {σ : St} {H2 : Hp} {s2 : Shared} {C : Addr} {h₁ : Heap} {tk : Nat} {fp : List Addr} {ix : Addr}
theorem comp_start (S : CompScope X scope cl T caps cn) (I2 : Inv X pins σ H2 s2) (f2 : ∀ b ∈ fp, FpOk X pins H2 b) (fo : ∀ b ∈ fp, b < s2.heap.objs.size)
    (hC : C = s2.heap.objs.size + 1) (old : ∀ b o, s2.heap.get? b = some o → h₁.get? b = some o) (hacc : ∃ n, h₁.get? s2.heap.objs.size = some { cls := .type "list", data := .seq #[] n }) (hns : h₁.Ns C fun _ => none) :
    Inv (cxComp X scope cl C (T ++ cn) fp s2 H2) [] (st0 T.length caps σ) (upd H2 s2.heap.objs.size (.lst [])) { s2 with heap := h₁, toks := tk } := by
  have hfr : H2 s2.heap.objs.size = none := I2.fresh
  have lt_of : ∀ y c, cl.lookup y = some c → c < s2.heap.objs.size := fun y c e => by
    obtain ⟨v, o, ho, _⟩ := I2.cell y c (S.sub y c e)
    exact Heap.lt_size ho
  refine ⟨⟨I2.ok.mod, S.kind, I2.ok.glob, I2.ok.blt, by show s2.heap.objs.size ≤ C; rw [hC]; exact Nat.le_succ _, fun y z c h1 h2 => I2.ok.inj y z c (S.sub y c h1) (S.sub z c h2), fun y hy => S.has y (relabel_free S.ncell hy), fun y c hf _ => (Bool.false_ne_true hf).elim,
    I2.ok.hd, I2.ok.frames, .inl rfl, fun b hb => ⟨?_, fun y c e => ?_⟩, I2.bs, Nat.le_trans I2.ok.bsz I2.sz, fun b o e hb => ?_, fun b hb hs => ?_, I2.stack, I2.stkFree⟩, rfl, I2.bare, Un.laid old (Nat.le_refl _) hfr, ⟨_, hns, fun i y v e1 e2 e3 => ?_⟩, fun y c e => ?_, ?_, fun y c e => ?_, fun p hp => ?_, I2.hok.laid old (Nat.le_refl _) ?_, ?_⟩
  · show b ≠ C
    rw [hC]
    exact Nat.ne_of_lt (Nat.lt_succ_of_lt (fo b hb))
  · exact (f2 b hb).2.2.2.2.1 y c (S.sub y c e)
  · have h0 := I2.ok.bs b o e
    rcases (f2 b hb).2.2.2.1 with z | z
    · exact I2.ok.noex b o e z
    · exact absurd (Nat.lt_of_lt_of_le (Heap.lt_size h0.1) z) (Nat.lt_irrefl _)
  · rcases List.mem_cons.mp (I2.stkSub b hs) with z | z
    · exact (f2 b hb).2.1 z
    · exact (f2 b hb).2.2.1 z
  · -- the slots
    have hT : T.length ≤ i := by
      by_cases hi : i < T.length
      · unfold st0 at e2
        rw [List.getElem?_append_left (by simpa using hi), List.getElem?_replicate] at e2
        split at e2 <;> cases e2
      · omega
    obtain ⟨k, rfl⟩ : ∃ k, i = T.length + k := ⟨i - T.length, by omega⟩
    have e1' : cn[k]? = some y := by
      have q : (T ++ cn)[T.length + k]? = some y := e1
      rw [List.getElem?_append_right (by omega)] at q
      simpa using q
    have e2' : (caps.map fun j => (σ[j]?).getD none)[k]? = some (some v) := by
      unfold st0 at e2
      rw [List.getElem?_append_right (by simp)] at e2
      simpa using e2
    have pr : ∀ {cs : List Nat} {ns : List Str} {k : Nat}, Paired (fun (j : Nat) (y : Str) => X.N[j]? = some y ∧ (X.env.kindOf y = some .cell ∨ X.env.kindOf y = some .free) ∧ scope.names.lookup y = some .free) cs ns →
        ns[k]? = some y → (cs.map fun j => (σ[j]?).getD none)[k]? = some (some v) → ∃ (j : Nat), X.N[j]? = some y ∧ (X.env.kindOf y = some .cell ∨ X.env.kindOf y = some .free) ∧ scope.names.lookup y = some .free ∧ σ[j]? = some (some v) := by
      intro cs ns k p
      induction p generalizing k with
      | nil => intro q; simp at q
      | cons a t ih =>
        rename_i j0 y0 l1 l2
        cases k with
        | zero =>
          intro q1 q2
          simp at q1 q2
          subst q1
          refine ⟨j0, a.1, a.2.1, a.2.2, ?_⟩
          cases e : σ[j0]? with
          | none => rw [e] at q2; simp at q2
          | some z => rw [e] at q2; simp at q2; rw [q2]
        | succ k => intro q1 q2; exact ih (by simpa using q1) (by simpa using q2)
    obtain ⟨j, n1, kd, fr, sv⟩ := pr S.cap e1' e2'
    obtain ⟨m, hn, hl⟩ := I2.loc
    obtain ⟨u, r, lk⟩ := hl j y v n1 sv (by rcases kd with z | z; exact .inr (.inl z); exact .inr (.inr z))
    refine ⟨u, r, .inr ⟨free_relabel fr, ?_⟩⟩
    obtain ⟨c, hc⟩ := S.has y fr
    rcases lk with ⟨z, _⟩ | ⟨_, c', hc', hcell⟩
    · rcases kd with q | q <;> (rw [z] at q; cases q)
    · have : c = c' := by
        have := S.sub y c hc
        rw [hc'] at this
        exact (Option.some.inj this).symm
      subst this
      obtain ⟨o, ho, hd⟩ := hcell
      exact ⟨c, hc, o, old c o ho, hd⟩
  · obtain ⟨v, o, ho, hd⟩ := I2.cell y c (S.sub y c e)
    exact ⟨v, o, old c o ho, hd⟩
  · show upd H2 s2.heap.objs.size (.lst []) C = none
    rw [upd_ne (by rw [hC]; exact Nat.succ_ne_self _)]
    exact I2.hok.fresh (by rw [hC]; exact Nat.le_succ _)
  · rw [upd_ne (Nat.ne_of_lt (lt_of y c e))]
    exact I2.freeC y c (S.sub y c e)
  · exact absurd (show p ∈ ([] : List (Addr × Obj)) from hp) (by simp)
  · obtain ⟨n, e⟩ := hacc
    exact ⟨Nat.zero_le _, [], n, .nil, e⟩
  · have hp : ∀ {cs : List Nat} {ns : List Str} {F : Nat → Str → Prop}, Paired F cs ns → cs.length = ns.length := fun p => Paired.length p
    show (st0 T.length caps σ).length = (T ++ cn).length
    unfold st0
    rw [List.length_append, List.length_replicate, List.length_map, List.length_append, hp S.cap]
theorem comp_end (I2 : Inv X pins σ H2 s2) (f2 : ∀ b ∈ fp, FpOk X pins H2 b) (hC : s2.heap.objs.size ≤ C) {N : List Str} {σ' : St} {H' : Hp} {s' : Shared} (J : Inv (cxComp X scope cl C N fp s2 H2) [] σ' H' s') :
    ∃ oC m, s'.heap.get? C = some oC ∧ s'.heap.Ns C m ∧ Inv X (pins ++ [(C, oC)]) σ H' s' ∧ FpOk X pins H' C := by
  obtain ⟨m, hn, _⟩ := J.loc
  obtain ⟨oC, es, ep, ho, hd, hrest⟩ := id hn
  have I3 : Inv X pins σ H' s' := I2.call' (ch := fp) J.os J.base J.hok J.bare fun b hb => ⟨(f2 b hb).2.2.2.1, (f2 b hb).2.1, (f2 b hb).2.2.2.2.1, (f2 b hb).2.2.2.2.2⟩
  have fC : FpOk X pins H' C := I2.fpOk hC J.free
  refine ⟨oC, m, ho, hn, I3.pins_of fun p hp => ?_, fC⟩
  rcases List.mem_append.mp hp with z | z
  · exact I3.pin p (List.mem_append_right _ z)
  · have e : p = (C, oC) := by simpa using z
    subst e
    exact ⟨ho, fC.1, fC.2.1, fC.2.2.1, fun v q => by rw [hd] at q; cases q⟩
end
def CompW (J : It) (D : Addr) (H1 : Hp) (σ0 : St) (g : TG) (tt : TT) (te : TE) (Q : VK) : Prop := ∃ W : Nat → Nat → List V → Hp → Prop, (∃ m, W 0 m [] (upd H1 D (.lst []))) ∧
  ∀ i m ys H, W i m ys H → H D = some (.lst ys) ∧ ((J.stop i H ∧ Q (.ref D) H) ∨ (J.go i H ∧ ∀ x H', J.yld i H x H' → g x σ0 H' fun σ2 H2 => Le σ0 σ2 ∧ tt σ2 H2 fun b H3 =>
    if b = true then te σ2 H3 fun y H4 => H4 D = some (.lst ys) ∧ ys.length < sizeLine ∧ ∃ m', m' < m ∧ W (i + 1) m' (ys ++ [y]) (upd H4 D (.lst (ys ++ [y]))) else ∃ m', m' < m ∧ W (i + 1) m' ys H3))
def rComp (n : Nat) (caps : List Nat) (wi : TI) (g : TG) (tt : TT) (te : TE) : TE := fun σ H Q => wi σ H fun J H1 => ∀ D, H1 D = none → CompW J D H1 (st0 n caps σ) g tt te Q
section
variable {X : Cx} {scope : Scope} {cl : List (Str × Addr)} {T cn : List Str} {caps : List Nat} {elt tg iter : Expr} {ifs : List Expr} {wi : TI} {g : TG} {tt : TT} {te : TE} {pos : Pos}
theorem comp_block (S : CompScope X scope cl T caps cn) (hc : X.calm = true) (hg : ∀ C fp s₂ H₂, PG (cxComp X scope cl C (T ++ cn) fp s₂ H₂) tg g) (ht : ∀ C fp s₂ H₂, PTs (cxComp X scope cl C (T ++ cn) fp s₂ H₂) ifs tt)
    (he : ∀ C fp s₂ H₂, PE (cxComp X scope cl C (T ++ cn) fp s₂ H₂) elt te) {pins : List (Addr × Obj)} {σ : St} {H2 : Hp} {s2 : Shared} {it : Addr} {fp : List Addr} {tn : Nat → Heap → Prop} {J : It} {E : Value → Shared → Prop} {Q : VK}
    {RR : Value → Addr → Result → Shared → Prop} (I2 : Inv X pins σ H2 s2) (Tn : Turn X.prog X.w X.K tg J fp it tn) (st2 : tn 0 s2.heap) (f2 : ∀ b ∈ fp, FpOk X pins H2 b)
    (q : ∀ D, H2 D = none → CompW J D H2 (st0 T.length caps σ) g tt te Q)
    (fin : ∀ D C oC m H' s', Inv X (pins ++ [(C, oC)]) σ H' s' → s'.heap.get? C = some oC → s'.heap.Ns C m → FpOk X pins H' C → Q (.ref D) H' → RR (.ref D) C (.ok .next) s') :
    wpAny (model X.prog X.w) X.A (newList []) (fun acc s₃ => wpAny (model X.prog X.w) X.A (newFunctionEnv scope X.env.globals cl [] X.env.qual none .none (some X.env)) (fun cenv s₄ =>
      codeAny (model X.prog X.w) X.A (.compStart (.ListComp elt [⟨tg, iter, ifs, 0⟩] scope pos) 0 (.ref it) acc { cenv with scope := relabel scope X.env }) (RR acc cenv.locals) s₄) E s₃) E s2 := by
  refine wpAny_newObj_type (wpAny_newFunctionEnv S.ncell (by intro y hy; simp at hy) (fun h₁ hns₁ hsb₁ => ?_) S.kind)
  dsimp only at hns₁ hsb₁ ⊢
  generalize hH2 : s2.heap.push { cls := .type "list", dict := none, data := .seq ([] : List Value).toArray } = G2 at hns₁ hsb₁ ⊢
  have hC : G2.objs.size = s2.heap.objs.size + 1 := by rw [← hH2, Heap.size_push]
  have hDC : s2.heap.objs.size ≠ G2.objs.size := by omega
  have old : ∀ b o, s2.heap.get? b = some o → h₁.get? b = some o := fun b o e => hsb₁.extBut b o (by rw [hC]; exact Nat.ne_of_lt (Nat.lt_succ_of_lt (Heap.lt_size e))) (Heap.get?_push_of_some _ (hH2 ▸ Heap.get?_push_of_some _ e))
  have hacc : ∃ n, h₁.get? s2.heap.objs.size = some { cls := .type "list", data := .seq #[] n } := ⟨_, hsb₁.extBut _ _ hDC (Heap.get?_push_of_some _ (hH2 ▸ Heap.get?_push_size _ rfl))⟩
  have fo : ∀ b ∈ fp, b < s2.heap.objs.size := fun b hb => by
    obtain ⟨o, e, _⟩ := Tn.obj 0 _ st2 b hb
    exact Heap.lt_size e
  obtain ⟨W, ⟨m0, w0⟩, turn⟩ := q s2.heap.objs.size I2.fresh
  have st1 : tn 0 h₁ := Tn.keep 0 _ _ st2 fun b hb o e => old b o e
  have fr0 : ∀ b ∈ fp, upd H2 s2.heap.objs.size (.lst []) b = none := fun b hb => by rw [upd_ne (Nat.ne_of_lt (fo b hb))]; exact (f2 b hb).1
  have loop : ∀ s₃ : Shared, s₃ = { s2 with heap := h₁, toks := s2.toks + ([] : List (Str × Value)).length } →
      codeAny (model X.prog X.w) X.A (.compLoop (.ListComp elt [⟨tg, iter, ifs, 0⟩] scope pos) 0 (.ref it) (.ref s2.heap.objs.size) (compEnvC scope cl G2.objs.size X.env)) (RR (.ref s2.heap.objs.size) G2.objs.size) s₃ := by
    intro s₃ hs3
    have I0 : Inv (cxComp X scope cl G2.objs.size (T ++ cn) fp s2 H2) [] (st0 T.length caps σ) (upd H2 s2.heap.objs.size (.lst [])) s₃ := by
      rw [hs3]
      exact comp_start S I2 f2 fo hC old hacc (by simpa using hns₁)
    have st3 : tn 0 s₃.heap := by rw [hs3]; exact st1
    have stat : ∀ {H' : Hp}, (∀ b ∈ fp, H' b = none) → ∀ b ∈ fp, FpOk (cxComp X scope cl G2.objs.size (T ++ cn) fp s2 H2) [] H' b := fun {H'} hn b hb => by
      refine ⟨hn b hb, ?_, fun hs => ?_, .inl hb, fun y c e => (f2 b hb).2.2.2.2.1 y c (S.sub y c e), fun p hp => absurd (show p ∈ ([] : List (Addr × Obj)) from hp) (by simp)⟩
      · show b ≠ G2.objs.size
        rw [hC]
        exact Nat.ne_of_lt (Nat.lt_succ_of_lt (fo b hb))
      · rcases List.mem_cons.mp (I2.stkSub b hs) with z | z
        · exact (f2 b hb).2.1 z
        · exact (f2 b hb).2.2.1 z
    refine compLoop_all (fun n s' => ∃ i ys H', Inv (cxComp X scope cl G2.objs.size (T ++ cn) fp s2 H2) [] (st0 T.length caps σ) H' s' ∧ tn i s'.heap ∧ (∀ b ∈ fp, H' b = none) ∧ W i n ys H') ?_ m0 ⟨0, [], _, I0, st3, fr0, w0⟩
    rintro n s4 ⟨i, ys, H4, I4, st4, fr4, w4⟩
    obtain ⟨hD, tr⟩ := turn i n ys H4 w4
    rcases tr with ⟨stop, qn⟩ | ⟨go, step⟩
    · refine thn (Tn.done (cxComp X scope cl G2.objs.size (T ++ cn) fp s2 H2) rfl rfl rfl hc i [] s4 (st0 T.length caps σ) H4 (fun _ _ => False) I4 (stat fr4) st4 stop) fun r s5 ⟨hr, I5⟩ => ?_
      subst hr
      obtain ⟨oC, m, a1, a2, a3, a4⟩ := comp_end I2 f2 (by omega) I5
      exact fin _ _ oC m H4 s5 a3 a1 a2 a4 qn
    · refine thn (Tn.item (cxComp X scope cl G2.objs.size (T ++ cn) fp s2 H2) rfl rfl rfl hc i [] s4 (st0 T.length caps σ) H4 (fun _ _ => False) I4 (stat fr4) st4 go) fun r s5 ⟨u, hr, h5⟩ => ?_
      subst hr
      refine thn h5 fun _ s6 ⟨x, H6, I6, r6, y6, st6, fr6⟩ => ?_
      have I6' := I6.pinned (stat fr6) (Tn.obj _ _ st6)
      refine thn (hg _ fp s2 H2 _ s6 _ H6 x u _ I6' r6 (step x H6 y6)) fun _ s7 ⟨σ7, H7, I7, le7, q7⟩ => ?_
      have again : ∀ {σ8 : St} {H8 : Hp} {s8 : Shared} {zs : List V} {m' : Nat}, Le (st0 T.length caps σ) σ8 → Inv (cxComp X scope cl G2.objs.size (T ++ cn) fp s2 H2) ([] ++ pinsAt fp s6.heap) σ8 H8 s8 → m' < n → W (i + 1) m' zs H8 →
          ∃ m, m < n ∧ ∃ i ys H', Inv (cxComp X scope cl G2.objs.size (T ++ cn) fp s2 H2) [] (st0 T.length caps σ) H' s8 ∧ tn i s8.heap ∧ (∀ b ∈ fp, H' b = none) ∧ W i m ys H' := fun {σ8 H8 s8 zs m'} le I8 hm w8 => by
        refine ⟨m', hm, i + 1, zs, H8, I8.unpinned.weak le.1 le.2, Tn.keep _ _ _ st6 fun b hb o e => (I8.pin (b, o) (List.mem_append_right _ (List.mem_append_right _ (mem_pinsAt hb e)))).1, fun b hb => ?_, w8⟩
        obtain ⟨o, e, d⟩ := Tn.obj _ _ st6 b hb
        exact (I8.pin (b, o) (List.mem_append_right _ (List.mem_append_right _ (mem_pinsAt hb e)))).2.1
      refine thn (ht _ fp s2 H2 _ s7 σ7 H7 _ I7 q7) fun ok s8 ⟨H8, I8, q8⟩ => ?_
      cases ok with
      | false =>
        rw [if_neg Bool.false_ne_true] at q8 ⊢
        obtain ⟨m', hm, w8⟩ := q8
        exact again le7 I8 hm w8
      | true =>
        rw [if_pos rfl] at q8 ⊢
        refine thn (he _ fp s2 H2 _ s8 σ7 H8 _ I8 q8) fun v9 s9 ⟨y, H9, I9, r9, hD9, hz9, m', hm, w9⟩ => ?_
        refine thn (mt_append _ s9 σ7 H9 (.ref s2.heap.objs.size) [y] (.ref s2.heap.objs.size) [v9] (fun _ H => H = upd H9 s2.heap.objs.size (.lst (ys ++ [y]))) I9 rfl (.cons r9 .nil) ⟨_, ys, y, rfl, rfl, hD9, hz9, rfl⟩) fun _ s10 ⟨_, H10, I10, _, e10⟩ => ?_
        subst e10
        exact again le7 I10 hm w9
  exact codeAny_compStart_list (loop _ rfl) (Tn.self X.A 0 _ _ _ st1 (loop _ rfl))
theorem pe_comp (S : CompScope X scope cl T caps cn) (hc : X.calm = true) (hi : PI X tg iter wi) (hg : ∀ C fp s₂ H₂, PG (cxComp X scope cl C (T ++ cn) fp s₂ H₂) tg g) (ht : ∀ C fp s₂ H₂, PTs (cxComp X scope cl C (T ++ cn) fp s₂ H₂) ifs tt)
    (he : ∀ C fp s₂ H₂, PE (cxComp X scope cl C (T ++ cn) fp s₂ H₂) elt te) (hs : ∀ x, foldedSetIterable iter X.env x = pure x := by intro _; rfl) :
    PE X (.ListComp elt [⟨tg, iter, ifs, 0⟩] scope pos) (rComp T.length caps wi g tt te) := by
  intro pins s σ H Q I h
  rw [eval_ListComp]
  refine wpAny_comprehension_free (use := none) rfl hs S.clos S.kind S.names (thn (hi pins s σ H _ I h) fun v s1 h1 => thn h1 fun itv s2 h2 => ?_)
  obtain ⟨it, fp, tn, J, H2, e, I2, Tn, st2, f2, q⟩ := h2
  subst e
  refine comp_block (RR := fun acc C => compPost (model X.prog X.w) X.A X.xe none (EP X pins σ Q) acc C) S hc hg ht he I2 Tn st2 f2 q fun D C oC m H' s' I' ho hn fC qD => ?_
  refine ⟨m, hn, fun h' hs' => ⟨.ref D, H', ?_, rfl, qD⟩⟩
  obtain ⟨hp, g, d, t, os⟩ := s'
  exact I'.unpinned.turned (fun b o hb e => (hs'.2 b hb).trans e) fC.1 fC.2.1 fC.2.2.2.1 fC.2.2.2.2.1 fC.2.2.2.2.2
end
end L2

set_option maxHeartbeats 4000000
namespace L2
open PySem PySem.Spec PyProof.Rows
section
variable {X : Cx}
theorem op_is_bl : OpR X (compareOp .Is) (fun x y H Q => ∃ a b, x = .bl a ∧ y = .bl b ∧ Q (.bl (a == b)) H) := by
  intro pins s σ H x y v u Q I rx ry h
  obtain ⟨a, b, rfl, rfl, q⟩ := h
  cases rx
  cases ry
  exact is_bool (fin_bl I q rfl)
theorem op_mulB : OpR X (binaryOp .Mult) (rI IntMulOk fun i j => .int (i * j)) := opI fun _ _ _ _ _ _ _ hc q => mul_int q hc
end
mutual
inductive DatV (K : PySem.W.Frag) (H : Hp) : V → PyData → Prop
  | non : DatV K H .non .none
  | bl (b : Bool) : DatV K H (.bl b) (.bool b)
  | int (i : Int) : DatV K H (.int i) (.int i)
  | str (x : Str) : DatV K H (.str x) (.str x)
  | lst {a : Addr} {xs : List V} {ds : List PyData} : SqL K H a xs → DatVs K H xs ds → DatV K H (.ref a) (.list ds)
  | tup {a : Addr} {xs : List V} {ds : List PyData} : SqT K H a xs → DatVs K H xs ds → DatV K H (.ref a) (.tuple ds)
inductive DatVs (K : PySem.W.Frag) (H : Hp) : List V → List PyData → Prop
  | nil : DatVs K H [] []
  | cons {x : V} {d : PyData} {xs : List V} {ds : List PyData} : DatV K H x d → DatVs K H xs ds → DatVs K H (x :: xs) (d :: ds)
end
theorem IsTup.of_get {h : Heap} {a : Addr} {its : Array Value} (p : IsTup h a its) : ∃ o n, h.get? a = some o ∧ o.cls = .type "tuple" ∧ o.data = .seq its n := by
  obtain ⟨o, h1, h2, n, h3⟩ := p
  exact ⟨o, n, h1, h2, h3⟩
mutual
theorem DatV.reads {X : Cx} {pins : List (Addr × Obj)} {σ : St} {H : Hp} {s : Shared} (I : Inv X pins σ H s) : ∀ {v : V} {d : PyData} {u : Value}, DatV X.K H v d → RelV v u → ∃ as, Reads s.heap u d as
  | _, _, u, .non, r => by cases (show u = Value.none from r); exact ⟨_, .none⟩
  | _, _, u, .bl b, r => by cases (show u = Value.bool b from r); exact ⟨_, .bool b⟩
  | _, _, u, .int i, r => by obtain ⟨t, q⟩ := (show ∃ t, u = Value.int i t from r); cases q; exact ⟨_, .int i t⟩
  | _, _, u, .str x, r => by obtain ⟨t, q⟩ := (show ∃ t, u = Value.str x t from r); cases q; exact ⟨_, .str x t⟩
  | _, _, u, @DatV.lst _ _ a xs ds h1 h2, r => by
    cases (show u = Value.ref a from r)
    obtain ⟨its, rv, pl, _⟩ := I.list h1
    obtain ⟨as, q⟩ := DatVs.reads I h2 rv
    obtain ⟨o, n, e1, e2, _, e3⟩ := pl
    exact ⟨_, reads_list_at e1 e2 e3 (by simpa using q)⟩
  | _, _, u, @DatV.tup _ _ a xs ds h1 h2, r => by
    cases (show u = Value.ref a from r)
    obtain ⟨its, rv, pl, _⟩ := I.tuple h1
    obtain ⟨as, q⟩ := DatVs.reads I h2 rv
    obtain ⟨o, n, e1, e2, e3⟩ := IsTup.of_get pl
    exact ⟨_, reads_tuple_at e1 e2 e3 (by simpa using q)⟩
theorem DatVs.reads {X : Cx} {pins : List (Addr × Obj)} {σ : St} {H : Hp} {s : Shared} (I : Inv X pins σ H s) : ∀ {vs : List V} {ds : List PyData} {us : List Value}, DatVs X.K H vs ds → Vals vs us → ∃ as, ReadsAll s.heap us ds as
  | _, _, us, .nil, r => by cases r; exact ⟨_, .nil⟩
  | _, _, us, .cons h1 h2, r => by
    cases r with
    | cons r1 r2 =>
      obtain ⟨as, q⟩ := DatV.reads I h1 r1
      obtain ⟨bs, p⟩ := DatVs.reads I h2 r2
      exact ⟨_, .cons q p⟩
end
def rEqD (K : PySem.W.Frag) (neg : Bool) : R2 := fun x y H Q => ∃ d e, DatV K H x d ∧ DatV K H y e ∧ SeqAt.shaped d = true ∧ SeqAt.shaped e = true ∧ Q (.bl (if neg then !PyData.eqv d e else PyData.eqv d e)) H
section
variable {X : Cx}
theorem op_eqD (hu : X.A.units + 64 < cLine) : OpR X (compareOp .Eq) (rEqD X.K false) := by
  intro pins s σ H x y v u Q I rx ry h
  obtain ⟨d, e, hx, hy, sx, sy, q⟩ := h
  obtain ⟨as, p1⟩ := hx.reads I rx
  obtain ⟨bs, p2⟩ := hy.reads I ry
  exact eq_dataH p1 p2 sx sy hu ⟨.bl _, H, I, rfl, q⟩
theorem op_neD (hu : X.A.units + 64 < cLine) : OpR X (compareOp .NotEq) (rEqD X.K true) := by
  intro pins s σ H x y v u Q I rx ry h
  obtain ⟨d, e, hx, hy, sx, sy, q⟩ := h
  obtain ⟨as, p1⟩ := hx.reads I rx
  obtain ⟨bs, p2⟩ := hy.reads I ry
  exact ne_dataH p1 p2 sx sy hu ⟨.bl _, H, I, rfl, q⟩
theorem bools_get {bs : List Bool} : ∀ {us : List Value}, Vals (bs.map V.bl) us → ∀ (i : Nat) (v : Value), us[i]? = some v → ∃ b, bs[i]? = some b ∧ v = .bool b := by
  intro us r i v e
  have hl := r.length
  rw [List.length_map] at hl
  have hi : i < us.length := (List.getElem?_eq_some_iff.mp e).1
  have hb : bs[i]? = some bs[i] := List.getElem?_eq_getElem (by omega)
  obtain ⟨u, h1, h2⟩ := r.get (i := i) (x := V.bl bs[i]) (by rw [List.getElem?_map, hb]; rfl)
  rw [e] at h1
  cases h1
  exact ⟨_, hb, h2⟩
theorem range_allB (bs : List Bool) : ((List.range bs.length).all fun i => (bs[i]?).getD true) = bs.all id := PyProof.Rows.LSm.range_all bs
theorem call_all : CallR X (.builtin "all") (fun xs H Q => ∃ (p : Addr) (bs : List Bool), xs = [.ref p] ∧ X.A.handled = none ∧ SqL X.K H p (bs.map V.bl) ∧ Q (.bl (bs.all id)) H) := by
  intro pins s σ H xs us Q I r h
  obtain ⟨p, bs, rfl, hh, hS, q⟩ := h
  obtain ⟨u, rfl, ru⟩ := vals1 r
  cases (show u = Value.ref p from ru)
  obtain ⟨its, rv, pl, _⟩ := I.list hS
  have hl := pl.isList
  have hlt : p < s.heap.objs.size := pl.lt
  have hb := bools_get rv
  have hlen : its.length = bs.length := by have := rv.length; rw [List.length_map] at this; exact this.symm
  refine call_all_walk (wpAny_pyIter_list hl ?_)
  refine ⟨s.heap.objs.size, [s.heap.objs.size, p], [s.heap.objs.size], its.toArray.size, _, _, fun i => (bs[i]?).getD true, rfl, Walks.list (A := X.A.in1) hh _ p (Nat.ne_of_lt hlt) its.toArray,
    ⟨⟨_, Heap.get?_push_size _ rfl, rfl, rfl⟩, hl.push _⟩, fun i v s' Q' E' hP hQ => ?_, fun h' tk hk => ?_⟩
  · obtain ⟨b, e, rfl⟩ := hb i v (by simpa using hP)
    simp only [e, Option.getD_some] at hQ
    exact wpAny_truthy_bool hQ
  · have e : ((List.range its.toArray.size).all fun i => (bs[i]?).getD true) = bs.all id := by
      rw [List.size_toArray, hlen]; exact range_allB bs
    rw [e]
    exact ⟨.bl (bs.all id), H, I.kept (PyProof.Rows.LSm.kept_iter hk), rfl, q⟩
end
end L2
namespace L2
open PySem PySem.Spec PyProof.Rows
section
variable {X : Cx} {a b c : Expr} {ta tb : TE} {pos : Pos} {k : Int} {op op' : CmpOp} {p p' : Int → Int → Bool}
end
theorem same_upd {H : Hp} {p : Addr} {o : HO} (h : H p = none) : Same H (upd H p o) := fun b u e => by
  rw [upd_ne (ne_of_none e h)]
  exact e
theorem PE.imp {X : Cx} {e : Expr} {t t' : TE} (h : PE X e t) (f : ∀ σ H Q, t' σ H Q → t σ H Q) : PE X e t' := fun pins s σ H Q I q => h pins s σ H Q I (f σ H Q q)
end L2

set_option maxHeartbeats 4000000
namespace L2
open PySem PySem.Spec PyProof.Rows
def Its (x : Str) : It := ⟨fun i _ => i < x.cps.size, fun i H v H' => H' = H ∧ ∃ c, x.cps[i]? = some c ∧ v = .str ⟨#[c]⟩, fun i _ => x.cps.size ≤ i⟩
theorem turn_strA {P : Program} {w : World} {K : PySem.W.Frag} {tg : Expr} (x : Str) (t : Tok) (it : Addr) : Turn P w K tg (Its x) [it] it (fun i h => h.IsStrIter it "str_ascii_iterator" x t i) where
  mem := by simp
  obj := fun i h st b hb => by
    have e : b = it := by simpa using hb
    subst e
    obtain ⟨o, e, c, d⟩ := st
    exact ⟨o, e, fun v z => by rw [d] at z; cases z⟩
  keep := fun i h h' st k => by
    obtain ⟨o, e, r⟩ := st
    exact ⟨o, k it (by simp) o e, r⟩
  item := by
    intro X hP hw hK hc i pins s σ H E I hf st hg
    subst hP hw hK
    obtain ⟨f0, f1, f2, f3, f4, f5⟩ := hf it (by simp)
    have hi : i < x.cps.size := hg
    refine wpAny_pyNext_ascii_item st (c := x.cps[i]) (by simp [hi]) fun h' st' sb => ?_
    have I1 : Inv X pins σ H { s with heap := h', toks := s.toks + 1 } := I.turned (fun b o hb e => (sb.2 b hb).trans e) f0 f1 f3 f4 f5
    obtain ⟨o, e, c, d⟩ := id st'
    exact ⟨_, rfl, go_of (s := { s with heap := h', toks := s.toks + 1 }) e c d (by decide) ⟨.str ⟨#[x.cps[i]]⟩, H, I1, ⟨_, rfl⟩, ⟨rfl, _, by simp [hi], rfl⟩, st', fun b hb => (hf b hb).1⟩⟩
  done := by
    intro X hP hw hK hc i pins s σ H E I hf st hg
    subst hP hw hK
    obtain ⟨f0, f1, f2, f3, f4, f5⟩ := hf it (by simp)
    have hi : x.cps.size ≤ i := hg
    exact wpAny_pyNext_ascii_end (I.ok.hd hc) st (by simp [hi]) fun h' eb => ⟨rfl, I.turned (t' := s.toks) (fun b o hb e => eb b o hb e) f0 f1 f3 f4 f5⟩
  self := fun _ _ _ _ _ st h => wpAny_pyIter_striter_ascii st h
theorem turn_strW {P : Program} {w : World} {K : PySem.W.Frag} {tg : Expr} (x : Str) (t : Tok) (it : Addr) : Turn P w K tg (Its x) [it] it (fun i h => h.IsStrIter it "str_iterator" x t i) where
  mem := by simp
  obj := fun i h st b hb => by
    have e : b = it := by simpa using hb
    subst e
    obtain ⟨o, e, c, d⟩ := st
    exact ⟨o, e, fun v z => by rw [d] at z; cases z⟩
  keep := fun i h h' st k => by
    obtain ⟨o, e, r⟩ := st
    exact ⟨o, k it (by simp) o e, r⟩
  item := by
    intro X hP hw hK hc i pins s σ H E I hf st hg
    subst hP hw hK
    obtain ⟨f0, f1, f2, f3, f4, f5⟩ := hf it (by simp)
    have hi : i < x.cps.size := hg
    refine wpAny_pyNext_wide_item st (c := x.cps[i]) (by simp [hi]) fun h' st' sb => ?_
    have I1 : Inv X pins σ H { s with heap := h', toks := s.toks + 1 } := I.turned (fun b o hb e => (sb.2 b hb).trans e) f0 f1 f3 f4 f5
    obtain ⟨o, e, c, d⟩ := id st'
    exact ⟨_, rfl, go_of (s := { s with heap := h', toks := s.toks + 1 }) e c d (by decide) ⟨.str ⟨#[x.cps[i]]⟩, H, I1, ⟨_, rfl⟩, ⟨rfl, _, by simp [hi], rfl⟩, st', fun b hb => (hf b hb).1⟩⟩
  done := by
    intro X hP hw hK hc i pins s σ H E I hf st hg
    subst hP hw hK
    obtain ⟨f0, f1, f2, f3, f4, f5⟩ := hf it (by simp)
    have hi : x.cps.size ≤ i := hg
    exact wpAny_pyNext_wide_end (I.ok.hd hc) st (by simp [hi]) fun h' eb => ⟨rfl, I.turned (t' := s.toks) (fun b o hb e => eb b o hb e) f0 f1 f3 f4 f5⟩
  self := fun _ _ _ _ _ st h => wpAny_pyIter_striter_wide st h
section
variable {X : Cx} {tg : Expr}
end
section
variable {X : Cx}
theorem isPart_opt {v : Value} {o : Option Int} (p : IsPart v o) : ∃ l : Option (Int × Tok), v = partValue l ∧ o = l.map (·.1) := by
  cases p with
  | none => exact ⟨none, rfl, rfl⟩
  | int i t => exact ⟨some (i, t), rfl, rfl⟩
theorem sl_str : SlR X (fun x lo hi H Q => ∃ z, x = .str z ∧ z.length ≤ sizeLine ∧ Q (.str (Txt.slice z lo hi)) H) := by
  intro pins s σ H x v vl vu lo hi sl Q I rx hs pl pu h
  obtain ⟨z, rfl, hz, q⟩ := h
  obtain ⟨t, rfl⟩ := rx
  obtain ⟨l, rfl, rfl⟩ := isPart_opt pl
  obtain ⟨u, rfl, rfl⟩ := isPart_opt pu
  refine ⟨"str", _, F.slot_str_getitem.lookup, typeIs_str _ _ _, wpAny_getItem_str_slice (l := l) (u := u) (st := none) hs rfl ?_⟩
  exact post_val_or_str ⟨Nat.le_trans (Txt.slice_le z _ _) hz, fun t' k => ⟨.str (Txt.slice z _ _), H, I.tok _, ⟨t', rfl⟩, q⟩⟩
end
theorem mem_of_lookup {β : Type} {y : Str} {v : β} : ∀ {l : List (Str × β)}, l.lookup y = some v → (y, v) ∈ l
  | [], h => by simp at h
  | (x, u) :: r, h => by
    rw [List.lookup_cons] at h
    cases e : y == x with
    | true =>
      rw [e] at h
      have h1 := Option.some.inj h
      have h2 := eq_of_beq e
      subst h1 h2
      exact List.mem_cons_self
    | false =>
      rw [e] at h
      exact List.mem_cons_of_mem _ (mem_of_lookup h)
theorem comp0 {X : Cx} {scope : Scope} {T : List Str} (hk : scope.kind = .function) (hc : closureFor scope X.env = pure []) (h1 : ∀ y ∈ scope.names, y.2 ≠ .cell) (h2 : ∀ y ∈ scope.names, y.2 ≠ .free)
    (h3 : ∀ y ∈ scope.names, y.2 = .local → scope.names.lookup y.1 = some .local) : CompScope X scope [] T [] [] :=
  ⟨hk, hc, h1, h3, fun y c h => by simp at h, fun y h => absurd rfl (h2 _ (mem_of_lookup h)), .nil⟩
theorem compN {X : Cx} {scope : Scope} {T cn : List Str} {caps : List Nat} {cl : List (Str × Addr)} (hk : scope.kind = .function) (hc : closureFor scope X.env = pure cl) (h1 : ∀ y ∈ scope.names, y.2 ≠ .cell)
    (h2 : ∀ y ∈ scope.names, y.2 = .free → (cl.lookup y.1).isSome = true) (h3 : ∀ y ∈ scope.names, y.2 = .local → scope.names.lookup y.1 = some .local) (hs : ∀ p ∈ cl, X.env.cells.lookup p.1 = some p.2)
    (hp : Paired (fun (j : Nat) (y : Str) => X.N[j]? = some y ∧ (X.env.kindOf y = some .cell ∨ X.env.kindOf y = some .free) ∧ scope.names.lookup y = some .free) caps cn) : CompScope X scope cl T caps cn :=
  ⟨hk, hc, h1, h3, fun y c h => hs (y, c) (mem_of_lookup h), fun y h => Option.isSome_iff_exists.mp (h2 _ (mem_of_lookup h) rfl), hp⟩
end L2

set_option maxHeartbeats 4000000
namespace L2
open PySem PySem.Spec PyProof.Rows
def del (H : Hp) (a : Addr) : Hp := fun b => if b = a then none else H b
theorem del_same {H : Hp} {a : Addr} : del H a a = none := if_pos rfl
theorem del_ne {H : Hp} {a b : Addr} (h : b ≠ a) : del H a b = H b := if_neg h
section
variable {X : Cx} {pins : List (Addr × Obj)} {σ : St} {H : Hp} {s : Shared} {a : Addr} {ys : List V}
end
section
variable {X : Cx} {e : Expr} {te : TE} {tt : TT}
def tFrame (te : TE) : TE := fun σ H Q => ∃ D ys, H D = some (.lst ys) ∧ te σ (del H D) fun y H4 => H4 D = none → Q y (upd H4 D (.lst ys))
def uFrame (tt : TT) : TT := fun σ H Q => ∃ D ys, H D = some (.lst ys) ∧ tt σ (del H D) fun b H4 => H4 D = none → Q b (upd H4 D (.lst ys))
end
theorem del_upd {H : Hp} {a : Addr} {o : HO} (h : H a = none) : del (upd H a o) a = H := by
  funext b
  unfold del upd
  by_cases hb : b = a
  · rw [if_pos hb, hb, h]
  · rw [if_neg hb, if_neg hb]
end L2

set_option maxHeartbeats 4000000
namespace L2
open PySem PySem.Spec PyProof.Rows
section
variable {X : Cx} {pins : List (Addr × Obj)} {σ : St} {H : Hp} {s : Shared} {a dx C : Addr} {fs : List (Str × V)}
theorem Inv.notfs {o : HO} (I : Inv X pins σ H s) (e : H a = some o) : a ∉ X.fs ∧ (∀ b o, X.s₀.heap.get? b = some o → X.H₀ b = none → b ∉ X.ex → b ≠ a) ∧ (∀ p ∈ X.pn ++ pins, p.1 ≠ a) ∧ ∀ x c, X.env.cells.lookup x = some c → c ≠ a := by
  refine ⟨fun hb => ?_, fun b o q n hx z => ?_, fun p hp z => ?_, fun x c q z => ?_⟩
  · have h1 := I.ok.frf a hb
    obtain ⟨_, o, ho, _⟩ := I.ok.funs.mem hb
    have hx : a ∉ X.ex := fun hx => I.ok.exfs a hx hb
    have := I.base.free a o ho h1 hx
    rw [e] at this
    cases this
  · have := I.base.free b o q n hx
    rw [z, e] at this
    cases this
  · have := (I.pin p hp).2.1
    rw [z, e] at this
    cases this
  · have := I.freeC x c q
    rw [z, e] at this
    cases this
end
section
variable {X : Cx} {e : Expr} {te : TE} {st : Stmt} {ts : TS}
end
end L2

set_option maxHeartbeats 4000000
namespace L2
open PySem PySem.Spec PyProof.Rows
def hidL (H : Hp) (L : List Addr) : Hp := fun b => if b ∈ L then none else H b
def showL (H' H : Hp) (L : List Addr) : Hp := fun b => if b ∈ L then H b else H' b
theorem hidL_in {H : Hp} {L : List Addr} {b : Addr} (h : b ∈ L) : hidL H L b = none := if_pos h
theorem hidL_out {H : Hp} {L : List Addr} {b : Addr} (h : b ∉ L) : hidL H L b = H b := if_neg h
theorem hidL_none {H : Hp} {L : List Addr} {b : Addr} (h : H b = none) : hidL H L b = none := by unfold hidL; split <;> first | rfl | exact h
theorem hidL_some {H : Hp} {L : List Addr} {b : Addr} {o : HO} (h : hidL H L b = some o) : b ∉ L ∧ H b = some o := by
  unfold hidL at h
  split at h
  · cases h
  · rename_i z; exact ⟨z, h⟩
theorem hidL_same {H : Hp} {L : List Addr} : Same (hidL H L) H := fun b o h => (hidL_some h).2
theorem hidL_nil {H : Hp} : hidL H [] = H := by funext b; exact if_neg (fun h => nomatch h)
theorem showL_in {H H' : Hp} {L : List Addr} {b : Addr} (h : b ∈ L) : showL H' H L b = H b := if_pos h
theorem showL_out {H H' : Hp} {L : List Addr} {b : Addr} (h : b ∉ L) : showL H' H L b = H' b := if_neg h
theorem hidL_showL {H H' : Hp} {L : List Addr} (h : ∀ b ∈ L, H' b = none) : hidL (showL H' H L) L = H' := by
  funext b
  by_cases hb : b ∈ L
  · rw [hidL_in hb, h b hb]
  · rw [hidL_out hb, showL_out hb]
inductive HidOk (H : Hp) (L : List Addr) (a : Addr) : Prop
  | lst (xs : List V) (h : H a = some (.lst xs))
  | dK (kvs : List (Key × V)) (h : H a = some (.dK kvs))
  | ins (C dx : Addr) (fs : List (Str × V)) (h : H a = some (.ins C dx fs)) (hd : dx ∈ L)
  | own (C b : Addr) (fs : List (Str × V)) (h : H a = some (.own b)) (hb : b ∈ L) (hi : H b = some (.ins C a fs))
section
variable {X : Cx} {pins : List (Addr × Obj)} {σ : St} {H : Hp} {s : Shared} {L : List Addr}
theorem HidOk.there {a : Addr} (h : HidOk H L a) : ∃ o, H a = some o := by cases h <;> exact ⟨_, by assumption⟩
theorem HidOk.notup {a : Addr} (h : HidOk H L a) : (∀ xs, H a ≠ some (.tup xs)) ∧ (∀ o u, H a ≠ some (.frz o u)) ∧ (∀ ps, H a ≠ some (.tbl ps)) ∧ ∀ b, H a = some (.own b) → b ∈ L := by
  cases h with
  | lst xs h => rw [h]; exact ⟨fun _ q => (nomatch q), fun _ _ q => (nomatch q), fun _ q => (nomatch q), fun _ q => (nomatch q)⟩
  | dK xs h => rw [h]; exact ⟨fun _ q => (nomatch q), fun _ _ q => (nomatch q), fun _ q => (nomatch q), fun _ q => (nomatch q)⟩
  | ins C dx fs h hd => rw [h]; exact ⟨fun _ q => (nomatch q), fun _ _ q => (nomatch q), fun _ q => (nomatch q), fun _ q => (nomatch q)⟩
  | own C b fs h hb hi => rw [h]; exact ⟨fun _ q => (nomatch q), fun _ _ q => (nomatch q), fun _ q => (nomatch q), fun c q => by cases q; exact hb⟩
theorem HidOk.obj {a : Addr} (h : HidOk H L a) (I : Inv X pins σ H s) : ∃ o, s.heap.get? a = some o ∧ ∀ v, o.data ≠ .cell v := by
  cases h with
  | lst xs h =>
    obtain ⟨_, its, n, _, ho⟩ := (show ObjOk X.prog X.w H s.heap a (.lst xs) from I.hok a _ h)
    exact ⟨_, ho, fun v q => by cases q⟩
  | dK kvs h =>
    obtain ⟨_, _, vs, _, ob, es, ep, e, c⟩ := (show ObjOk X.prog X.w H s.heap a (.dK kvs) from I.hok a _ h)
    exact ⟨_, e, fun v q => by rw [c.2.1] at q; cases q⟩
  | ins C dx fs h hd =>
    obtain ⟨_, _, _, e, _⟩ := (show ObjOk X.prog X.w H s.heap a (.ins C dx fs) from I.hok a _ h)
    exact ⟨_, e, fun v q => by cases q⟩
  | own C b fs h hb hi =>
    obtain ⟨_, _, _, _, mA, ⟨od, es, ep, e2, c⟩, r⟩ := (show ObjOk X.prog X.w H s.heap b (.ins C a fs) from I.hok b _ hi)
    exact ⟨_, e2, fun v q => by rw [c.1] at q; cases q⟩
theorem frameM {G : Prop} (I : Inv X pins σ H s) (hL : ∀ a ∈ L, HidOk H L a)
    (h : ∀ pl : List (Addr × Obj), Inv X (pins ++ pl) σ (hidL H L) s → (∀ b ∈ L, ∃ o, (b, o) ∈ pl) → (∀ (σ' : St) (H' : Hp) (s' : Shared), Inv X (pins ++ pl) σ' H' s' → (∀ b ∈ L, H' b = none) ∧ Inv X pins σ' (showL H' H L) s') → G) : G := by
  have memL : ∀ {b : Addr} {o : Obj}, (b, o) ∈ pinsAt L s.heap ↔ b ∈ L ∧ s.heap.get? b = some o := fun {b o} => ⟨fun q => of_pinsAt q, fun q => mem_pinsAt q.1 q.2⟩
  refine h (pinsAt L s.heap) ?_ (fun b hb => let ⟨o, e, _⟩ := (hL b hb).obj I; ⟨o, memL.mpr ⟨hb, e⟩⟩) fun σ' H' s' J => ?_
  · refine ⟨I.ok, I.os, I.bare, ⟨I.base.keep, I.base.slot, fun b o q n hx => hidL_none (I.base.free b o q n hx), I.base.there, fun b xs q => ?_, fun b o u q => ?_, fun b ps q => ?_⟩, I.loc, I.cell, hidL_none I.free, fun x c q => hidL_none (I.freeC x c q), fun p hp => ?_, fun b o q => ?_, I.len⟩
    · have z := I.base.tups b xs q
      rw [hidL_out (fun w => (hL b w).notup.1 _ z)]; exact z
    · have z := I.base.frzs b o u q
      rw [hidL_out (fun w => (hL b w).notup.2.1 _ _ z)]; exact z
    · obtain ⟨more, z⟩ := I.base.tbls b ps q
      exact ⟨more, by rw [hidL_out (fun w => (hL b w).notup.2.2.1 _ z)]; exact z⟩
    · rw [← List.append_assoc] at hp
      rcases List.mem_append.mp hp with z | z
      · obtain ⟨p1, p2, p3, p4, p5⟩ := I.pin p z
        exact ⟨p1, hidL_none p2, p3, p4, p5⟩
      · obtain ⟨z1, z2⟩ := of_pinsAt z
        obtain ⟨o, e⟩ := (hL p.1 z1).there
        refine ⟨z2, hidL_in z1, fun w => ?_, (I.notfs e).1, fun v q => ?_⟩
        · have f := I.free
          rw [← w, e] at f
          cases f
        · obtain ⟨ob, e2, nc⟩ := (hL p.1 z1).obj I
          rw [z2] at e2
          cases e2
          exact nc v q
    · obtain ⟨hb, q⟩ := hidL_some q
      refine (I.hok b o q).stay (fun _ _ _ z => z) (fun c hc => ?_) (fun c xs hc => ?_)
      · rw [hidL_out (fun w => hb ((hL c w).notup.2.2.2 _ hc))]; exact hc
      · rw [hidL_out (fun w => (hL c w).notup.1 _ hc)]; exact hc
  · have pin : ∀ b ∈ L, H' b = none ∧ ∀ o, s.heap.get? b = some o → s'.heap.get? b = some o := fun b hb => by
      obtain ⟨o, e, _⟩ := (hL b hb).obj I
      obtain ⟨g1, g2, _⟩ := J.pin (b, o) (List.mem_append_right _ (List.mem_append_right _ (memL.mpr ⟨hb, e⟩)))
      exact ⟨g2, fun o' e' => by rw [e] at e'; cases e'; exact g1⟩
    refine ⟨fun b hb => (pin b hb).1, ⟨J.ok, J.os, J.bare, ⟨J.base.keep, J.base.slot, fun b o q n hx => ?_, J.base.there, fun b xs q => ?_, fun b o u q => ?_, fun b ps q => ?_⟩, J.loc, J.cell, ?_, fun x c q => ?_, fun p hp => ?_, fun b o q => ?_, J.len⟩⟩
    · rw [showL_out (fun w => let ⟨o', e⟩ := (hL b w).there; (I.notfs e).2.1 b o q n hx rfl)]
      exact J.base.free b o q n hx
    · have z := J.base.tups b xs q
      rw [showL_out (fun w => by rw [(pin b w).1] at z; cases z)]; exact z
    · have z := J.base.frzs b o u q
      rw [showL_out (fun w => by rw [(pin b w).1] at z; cases z)]; exact z
    · obtain ⟨more, z⟩ := J.base.tbls b ps q
      exact ⟨more, by rw [showL_out (fun w => by rw [(pin b w).1] at z; cases z)]; exact z⟩
    · rw [showL_out (fun w => let ⟨o', e⟩ := (hL _ w).there; by rw [I.free] at e; cases e)]
      exact J.free
    · rw [showL_out (fun w => let ⟨o', e⟩ := (hL _ w).there; by rw [I.freeC x c q] at e; cases e)]
      exact J.freeC x c q
    · obtain ⟨p1, p2, p3, p4, p5⟩ := J.pin p (by rw [← List.append_assoc]; exact List.mem_append_left _ hp)
      refine ⟨p1, ?_, p3, p4, p5⟩
      rw [showL_out (fun w => let ⟨o', e⟩ := (hL _ w).there; (I.notfs e).2.2.1 p hp rfl)]
      exact p2
    · by_cases hb : b ∈ L
      · rw [showL_in hb] at q
        have k := (pin b hb).2
        have w := hL b hb
        cases w with
        | lst xs h =>
          rw [h] at q; cases q
          obtain ⟨hz, its, n, hv, ho⟩ := (show ObjOk X.prog X.w H s.heap b (.lst xs) from I.hok b _ h)
          exact ⟨hz, its, n, hv, k _ ho⟩
        | dK kvs h =>
          rw [h] at q; cases q
          obtain ⟨z1, z2, vs, hv, ob, es, ep, e, c⟩ := (show ObjOk X.prog X.w H s.heap b (.dK kvs) from I.hok b _ h)
          exact ⟨z1, z2, vs, hv, ob, es, ep, k _ e, c⟩
        | ins C dx fs h hd =>
          rw [h] at q; cases q
          obtain ⟨d, z, ne, ea, mA, ⟨od, es, ep, e2, c⟩, r⟩ := (show ObjOk X.prog X.w H s.heap b (.ins C dx fs) from I.hok b _ h)
          exact ⟨by rw [showL_in hd]; exact d, z, ne, k _ ea, mA, ⟨od, es, ep, (pin dx hd).2 _ e2, c⟩, r⟩
        | own C a fs h ha hi =>
          rw [h] at q; cases q
          obtain ⟨o, e⟩ := (show ObjOk X.prog X.w H s.heap b (.own a) from I.hok b _ h)
          exact ⟨o, k _ e⟩
      · rw [showL_out hb] at q
        refine (J.hok b o q).stay (fun _ _ _ z => z) (fun c hc => ?_) (fun c xs hc => ?_)
        · rw [showL_out (fun w => by rw [(pin c w).1] at hc; cases hc)]; exact hc
        · rw [showL_out (fun w => by rw [(pin c w).1] at hc; cases hc)]; exact hc
end
section
variable {X : Cx} {e : Expr} {te : TE} {tt : TT} {st : Stmt} {ts : TS} {tg iter : Expr} {wi : TI}
def frE (te : TE) : TE := fun σ H Q => ∃ L, (∀ a ∈ L, HidOk H L a) ∧ te σ (hidL H L) fun y H4 => (∀ b ∈ L, H4 b = none) → Q y (showL H4 H L)
theorem pe_frM (he : PE X e te) : PE X e (frE te) := by
  intro pins s σ H Q I ⟨L, hL, q⟩
  refine frameM I hL fun pl I' _ back => ?_
  refine thn (he (pins ++ pl) s σ _ _ I' q) fun v s1 ⟨y, H4, I4, r, k⟩ => ?_
  obtain ⟨z, J⟩ := back _ _ _ I4
  exact ⟨y, _, J, r, k z⟩
def frT (tt : TT) : TT := fun σ H Q => ∃ L, (∀ a ∈ L, HidOk H L a) ∧ tt σ (hidL H L) fun y H4 => (∀ b ∈ L, H4 b = none) → Q y (showL H4 H L)
def frEnds (D : Ends) (H : Hp) (L : List Addr) : Ends := ⟨fun σ' H4 => (∀ b ∈ L, H4 b = none) → D.nx σ' (showL H4 H L), fun v H4 => (∀ b ∈ L, H4 b = none) → D.rt v (showL H4 H L),
  fun σ' H4 => (∀ b ∈ L, H4 b = none) → D.bk σ' (showL H4 H L), fun σ' H4 => (∀ b ∈ L, H4 b = none) → D.ct σ' (showL H4 H L)⟩
def frS (ts : TS) : TS := fun D σ H => ∃ L, (∀ a ∈ L, HidOk H L a) ∧ ts (frEnds D H L) σ (hidL H L)
theorem sp_back {pins pl : List (Addr × Obj)} {D : Ends} {H : Hp} {L : List Addr} {f : Flow} {s1 : Shared} (back : ∀ (σ' : St) (H' : Hp) (s' : Shared), Inv X (pins ++ pl) σ' H' s' → (∀ b ∈ L, H' b = none) ∧ Inv X pins σ' (showL H' H L) s')
    (hq : SP X (pins ++ pl) (frEnds D H L) f s1) : SP X pins D f s1 := by
  cases f with
  | next => obtain ⟨σ', H', J, k⟩ := hq; obtain ⟨z, J'⟩ := back _ _ _ J; exact ⟨σ', _, J', k z⟩
  | brk => obtain ⟨σ', H', J, k⟩ := hq; obtain ⟨z, J'⟩ := back _ _ _ J; exact ⟨σ', _, J', k z⟩
  | cont => obtain ⟨σ', H', J, k⟩ := hq; obtain ⟨z, J'⟩ := back _ _ _ J; exact ⟨σ', _, J', k z⟩
  | ret u => obtain ⟨v, σ', H', J, r, k⟩ := hq; obtain ⟨z, J'⟩ := back _ _ _ J; exact ⟨v, σ', _, J', r, k z⟩
theorem ps_frM (he : PS X st ts) : PS X st (frS ts) := by
  intro pins s σ H D I ⟨L, hL, q⟩
  refine frameM I hL fun pl I' _ back => ?_
  exact thn (he (pins ++ pl) s σ _ _ I' q) fun f s1 hq => sp_back back hq
theorem pss_frM {rest : List Stmt} (he : PSs X rest ts) : PSs X rest (frS ts) := by
  intro pins s σ H D I ⟨L, hL, q⟩
  refine frameM I hL fun pl I' _ back => ?_
  exact thn (he (pins ++ pl) s σ _ _ I' q) fun f s1 hq => sp_back back hq
def frI (wi : TI) : TI := fun σ H R => ∃ L, (∀ a ∈ L, HidOk H L a) ∧ wi σ (hidL H L) fun J H4 => (∀ b ∈ L, H4 b = none) → R J (showL H4 H L)
theorem pi_frM (he : PI X tg iter wi) : PI X tg iter (frI wi) := by
  intro pins s σ H R I ⟨L, hL, q⟩
  refine frameM I hL fun pl I' hpl back => ?_
  refine thn (he (pins ++ pl) s σ _ _ I' q) fun v s1 h1 => thn h1 fun itv s2 ⟨it, fp, tn, J, H', e1, I2, T, t0, hf, k⟩ => ?_
  obtain ⟨z, J2⟩ := back _ _ _ I2
  have hn : ∀ b ∈ fp, b ∉ L := fun b hb hl => let ⟨o, ho⟩ := hpl b hl; (hf b hb).2.2.2.2.2 (b, o) (List.mem_append_right _ (List.mem_append_right _ ho)) rfl
  refine ⟨it, fp, tn, J, _, e1, J2, T, t0, fun b hb => ?_, k z⟩
  obtain ⟨f1, f2, f3, f4, f5, f6⟩ := hf b hb
  exact ⟨by rw [showL_out (hn b hb)]; exact f1, f2, f3, f4, f5, fun p hp => f6 p (by rw [← List.append_assoc]; exact List.mem_append_left _ hp)⟩
end
theorem hidL_one {H : Hp} {a : Addr} : hidL H [a] = del H a := by
  funext b
  by_cases h : b = a
  · rw [h, hidL_in List.mem_cons_self, del_same]
  · rw [hidL_out (fun z => h (List.mem_singleton.mp z)), del_ne h]
theorem showL_one {H H' : Hp} {a : Addr} {o : HO} (e : H a = some o) : showL H' H [a] = upd H' a o := by
  funext b
  by_cases h : b = a
  · rw [h, showL_in List.mem_cons_self, upd_same, e]
  · rw [showL_out (fun z => h (List.mem_singleton.mp z)), upd_ne h]
section
variable {X : Cx} {e : Expr} {te : TE} {tt : TT} {st : Stmt} {ts : TS}
theorem pe_frameN (he : PE X e te) : PE X e (tFrame te) := fun pins s σ H Q I ⟨D, ys, hD, q⟩ =>
  pe_frM he pins s σ H Q I ⟨[D], fun a ha => by rw [List.mem_singleton.mp ha]; exact .lst ys hD, by rw [hidL_one]; simpa only [showL_one hD, List.mem_singleton, forall_eq] using q⟩
theorem pts_frM {ifs : List Expr} (he : PTs X ifs tt) : PTs X ifs (frT tt) := by
  intro pins s σ H Q I ⟨L, hL, q⟩
  refine frameM I hL fun pl I' _ back => ?_
  refine thn (he (pins ++ pl) s σ _ _ I' q) fun v s1 ⟨H4, I4, k⟩ => ?_
  obtain ⟨z, J⟩ := back _ _ _ I4
  exact ⟨_, J, k z⟩
theorem pts_frameN {ifs : List Expr} (he : PTs X ifs tt) : PTs X ifs (uFrame tt) := fun pins s σ H Q I ⟨D, ys, hD, q⟩ =>
  pts_frM he pins s σ H Q I ⟨[D], fun a ha => by rw [List.mem_singleton.mp ha]; exact .lst ys hD, by rw [hidL_one]; simpa only [showL_one hD, List.mem_singleton, forall_eq] using q⟩
end
end L2

set_option maxHeartbeats 4000000
namespace DC
open PySem PySem.Spec PyProof.Rows L2
inductive D where
  | non | bl (b : Bool) | int (i : Int) | str (x : Str)
  | lst (xs : List D) | tup (xs : List D)
  | obj (C : Addr) (fs : List (Str × D))
  | dK (kvs : List (Key × D)) | dT (kvs : List (List Key × D))
  | adr (a : Addr)
  | exc (a C : Addr) (fs : List (Str × D))
def ExcO (a C : Addr) (dx : Option Addr) : HO := .ext fun h => ∃ oe vs, h.get? a = some oe ∧ oe.cls = .ref C ∧ oe.dict = dx ∧ oe.data = .fields vs ∧ vs[2]? = some .none
def XdO (d : Addr) (fs : List (Str × V)) : HO := .ext fun h => ∃ mA, h.Ns1 d mA ∧ (∀ f, RelO (fs.lookup f) (mA f)) ∧ PySem.Within mA (fs.map (·.1))
def XDict (H : Hp) (dx : Option Addr) (fs : List (Str × V)) : Prop := match dx with
  | none => fs = []
  | some d => Rd H d (XdO d fs)
theorem rd_same {H H' : Hp} {a : Addr} {u : HO} (s : Same H H') (r : Rd H a u) : Rd H' a u := by
  rcases r with r | ⟨o, r⟩
  · exact .inl (s _ _ r)
  · exact .inr ⟨o, s _ _ r⟩
theorem XDict.same {H H' : Hp} {dx : Option Addr} {fs : List (Str × V)} (s : Same H H') (h : XDict H dx fs) : XDict H' dx fs := by
  cases dx with
  | none => exact h
  | some d => exact rd_same s h
mutual
inductive Dv (K : PySem.W.Frag) (H : Hp) : V → D → Prop
  | non : Dv K H .non .non
  | bl (b : Bool) : Dv K H (.bl b) (.bl b)
  | int (i : Int) : Dv K H (.int i) (.int i)
  | str (x : Str) : Dv K H (.str x) (.str x)
  | lst {a : Addr} {xs : List V} {ds : List D} : SqL K H a xs → Dvs K H xs ds → Dv K H (.ref a) (.lst ds)
  | tup {a : Addr} {xs : List V} {ds : List D} : SqT K H a xs → Dvs K H xs ds → Dv K H (.ref a) (.tup ds)
  | obj {a C dx : Addr} {fs : List (Str × V)} {gs : List (Str × D)} : Rd H a (.ins C dx fs) → Dvf K H fs gs → Dv K H (.ref a) (.obj C gs)
  | dK {a : Addr} {kvs : List (Key × V)} {gs : List (Key × D)} : Rd H a (.dK kvs) → Dvk K H kvs gs → Dv K H (.ref a) (.dK gs)
  | dT {a : Addr} {kvs : List (List Key × V)} {gs : List (List Key × D)} : Rd H a (.dT kvs) → Dvt K H kvs gs → Dv K H (.ref a) (.dT gs)
  | adr (a : Addr) : Dv K H (.ref a) (.adr a)
  | exc {a C : Addr} {dx : Option Addr} {fs : List (Str × V)} {gs : List (Str × D)} : Rd H a (ExcO a C dx) → XDict H dx fs → Dvf K H fs gs → Dv K H (.ref a) (.exc a C gs)
inductive Dvs (K : PySem.W.Frag) (H : Hp) : List V → List D → Prop
  | nil : Dvs K H [] []
  | cons {x : V} {d : D} {xs : List V} {ds : List D} : Dv K H x d → Dvs K H xs ds → Dvs K H (x :: xs) (d :: ds)
inductive Dvf (K : PySem.W.Frag) (H : Hp) : List (Str × V) → List (Str × D) → Prop
  | nil : Dvf K H [] []
  | cons {k : Str} {x : V} {d : D} {xs : List (Str × V)} {ds : List (Str × D)} : Dv K H x d → Dvf K H xs ds → Dvf K H ((k, x) :: xs) ((k, d) :: ds)
inductive Dvk (K : PySem.W.Frag) (H : Hp) : List (Key × V) → List (Key × D) → Prop
  | nil : Dvk K H [] []
  | cons {k : Key} {x : V} {d : D} {xs : List (Key × V)} {ds : List (Key × D)} : Dv K H x d → Dvk K H xs ds → Dvk K H ((k, x) :: xs) ((k, d) :: ds)
inductive Dvt (K : PySem.W.Frag) (H : Hp) : List (List Key × V) → List (List Key × D) → Prop
  | nil : Dvt K H [] []
  | cons {k : List Key} {x : V} {d : D} {xs : List (List Key × V)} {ds : List (List Key × D)} : Dv K H x d → Dvt K H xs ds → Dvt K H ((k, x) :: xs) ((k, d) :: ds)
end
theorem sameT {K : PySem.W.Frag} {H H' : Hp} {a : Addr} {xs : List V} (e : Same H H') (h : SqT K H a xs) : SqT K H' a xs := by
  rcases h with (h | ⟨o, h⟩) | h
  · exact .inl (.inl (e _ _ h))
  · exact .inl (.inr ⟨o, e _ _ h⟩)
  · exact .inr h
section
variable {K : PySem.W.Frag} {H H' : Hp}
mutual
theorem Dv.same (s : Same H H') : ∀ {v : V} {d : D}, Dv K H v d → Dv K H' v d
  | _, _, .non => .non
  | _, _, .bl b => .bl b
  | _, _, .int i => .int i
  | _, _, .str x => .str x
  | _, _, .lst h1 h2 => .lst (s.seq h1) (Dvs.same s h2)
  | _, _, .tup h1 h2 => .tup (sameT s h1) (Dvs.same s h2)
  | _, _, .obj h1 h2 => .obj (rd_same s h1) (Dvf.same s h2)
  | _, _, .dK h1 h2 => .dK (rd_same s h1) (Dvk.same s h2)
  | _, _, .dT h1 h2 => .dT (rd_same s h1) (Dvt.same s h2)
  | _, _, .adr a => .adr a
  | _, _, .exc h1 h2 h3 => .exc (rd_same s h1) (h2.same s) (Dvf.same s h3)
theorem Dvs.same (s : Same H H') : ∀ {vs : List V} {ds : List D}, Dvs K H vs ds → Dvs K H' vs ds
  | _, _, .nil => .nil
  | _, _, .cons h1 h2 => .cons (Dv.same s h1) (Dvs.same s h2)
theorem Dvf.same (s : Same H H') : ∀ {vs : List (Str × V)} {ds : List (Str × D)}, Dvf K H vs ds → Dvf K H' vs ds
  | _, _, .nil => .nil
  | _, _, .cons h1 h2 => .cons (Dv.same s h1) (Dvf.same s h2)
theorem Dvk.same (s : Same H H') : ∀ {vs : List (Key × V)} {ds : List (Key × D)}, Dvk K H vs ds → Dvk K H' vs ds
  | _, _, .nil => .nil
  | _, _, .cons h1 h2 => .cons (Dv.same s h1) (Dvk.same s h2)
theorem Dvt.same (s : Same H H') : ∀ {vs : List (List Key × V)} {ds : List (List Key × D)}, Dvt K H vs ds → Dvt K H' vs ds
  | _, _, .nil => .nil
  | _, _, .cons h1 h2 => .cons (Dv.same s h1) (Dvt.same s h2)
end
theorem Dvs.length : ∀ {vs : List V} {ds : List D}, Dvs K H vs ds → vs.length = ds.length
  | _, _, .nil => rfl
  | _, _, .cons _ h => congrArg (· + 1) (Dvs.length h)
theorem Dvs.get : ∀ {vs : List V} {ds : List D} {i : Nat} {d : D}, Dvs K H vs ds → ds[i]? = some d → ∃ v, vs[i]? = some v ∧ Dv K H v d
  | _, _, _, _, .nil, e => by simp at e
  | _, _, 0, _, .cons h _, e => by simp at e; subst e; exact ⟨_, rfl, h⟩
  | _, _, i + 1, d, .cons _ h, e => by
    obtain ⟨v, h1, h2⟩ := Dvs.get (i := i) (d := d) h (by simpa using e)
    exact ⟨v, by simpa using h1, h2⟩
theorem Dvs.getV : ∀ {vs : List V} {ds : List D} {i : Nat} {v : V}, Dvs K H vs ds → vs[i]? = some v → ∃ d, ds[i]? = some d ∧ Dv K H v d
  | _, _, _, _, .nil, e => by simp at e
  | _, _, 0, _, .cons h _, e => by simp at e; subst e; exact ⟨_, rfl, h⟩
  | _, _, i + 1, v, .cons _ h, e => by
    obtain ⟨d, h1, h2⟩ := Dvs.getV (i := i) (v := v) h (by simpa using e)
    exact ⟨d, by simpa using h1, h2⟩
theorem Dvs.append : ∀ {vs ws : List V} {ds es : List D}, Dvs K H vs ds → Dvs K H ws es → Dvs K H (vs ++ ws) (ds ++ es)
  | _, _, _, _, .nil, h => h
  | _, _, _, _, .cons a r, h => .cons a (Dvs.append r h)
theorem Dvs.take : ∀ {vs : List V} {ds : List D} (n : Nat), Dvs K H vs ds → Dvs K H (vs.take n) (ds.take n)
  | _, _, 0, _ => .nil
  | _, _, _ + 1, .nil => .nil
  | _, _, n + 1, .cons r t => .cons r (Dvs.take n t)
theorem Dvs.drop : ∀ {vs : List V} {ds : List D} (n : Nat), Dvs K H vs ds → Dvs K H (vs.drop n) (ds.drop n)
  | _, _, 0, r => r
  | _, _, _ + 1, .nil => .nil
  | _, _, n + 1, .cons _ t => Dvs.drop n t
theorem Dvf.look : ∀ {fs : List (Str × V)} {gs : List (Str × D)} {f : Str} {d : D}, Dvf K H fs gs → gs.lookup f = some d → ∃ v, fs.lookup f = some v ∧ Dv K H v d
  | _, _, _, _, .nil, e => by simp at e
  | _, _, f, d, .cons (k := k) h r, e => by
    rw [List.lookup_cons] at e ⊢
    cases q : f == k with
    | true =>
      rw [q] at e
      cases e
      exact ⟨_, rfl, h⟩
    | false =>
      rw [q] at e
      exact Dvf.look r e
end
section
variable {X : Cx} {pins : List (Addr × Obj)} {σ : L2.St} {H : Hp} {s : Shared} {a C dx : Addr} {fs : List (Str × V)} {f : Str} {v : V} {A : Around} {E : Value → Shared → Prop}
theorem ins_getR {P : Program} {w : World} {h : Heap} (hok : HOk P w H h) (e : Rd H a (.ins C dx fs)) : ∃ mA, ObjM h a dx C mA ∧ (∀ f, RelO (fs.lookup f) (mA f)) ∧ PySem.Within mA (fs.map (·.1)) ∧ fs.length ≤ 1000 ∧ H dx = some (.own a) := by
  obtain ⟨d, z, ne, ob, mA, n, r, q⟩ := (show ObjOk P w H h a (.ins C dx fs) from e.ok hok)
  exact ⟨mA, ⟨ob, n, ne⟩, r, q, z, d⟩
end
abbrev SD := List (Option D)
abbrev ED := SD → (D → Prop) → Prop
abbrev TD := SD → (Bool → Prop) → Prop
abbrev AD := SD → (List D → Prop) → Prop
structure RelS (K : PySem.W.Frag) (H : Hp) (σ : L2.St) (δ : SD) : Prop where
  len : σ.length = δ.length
  get : ∀ (i : Nat) (d : D), δ[i]? = some (some d) → ∃ v, σ[i]? = some (some v) ∧ Dv K H v d
theorem RelS.same {K : PySem.W.Frag} {H H' : Hp} {σ : L2.St} {δ : SD} (r : RelS K H σ δ) (s : Same H H') : RelS K H' σ δ :=
  ⟨r.len, fun i d h => let ⟨v, h1, h2⟩ := r.get i d h; ⟨v, h1, h2.same s⟩⟩
theorem RelS.set {K : PySem.W.Frag} {H : Hp} {σ : L2.St} {δ : SD} (r : RelS K H σ δ) {v : V} {d : D} (i : Nat) (h : Dv K H v d) : RelS K H (σ.set i (some v)) (δ.set i (some d)) := by
  refine ⟨by rw [List.length_set, List.length_set]; exact r.len, fun j e hj => ?_⟩
  rw [List.getElem?_set] at hj ⊢
  split at hj
  · rename_i q
    subst q
    have hl := r.len
    split at hj
    · rename_i q2
      cases hj
      exact ⟨v, by rw [if_pos rfl, if_pos (by omega)], h⟩
    · cases hj
  · rename_i q
    rw [if_neg q]
    exact r.get j e hj
def kD (K : PySem.W.Frag) (H : Hp) (Q : VK) : D → Prop := fun d => ∀ v H', Same H H' → Dv K H' v d → Q v H'
def kB (H : Hp) (Q : Bool → Hp → Prop) : Bool → Prop := fun b => ∀ H', Same H H' → Q b H'
def kA (K : PySem.W.Frag) (H : Hp) (Q : List V → Hp → Prop) : List D → Prop := fun ds => ∀ vs H', Same H H' → Dvs K H' vs ds → Q vs H'
theorem kD.on {K : PySem.W.Frag} {H H1 : Hp} {Q : VK} {d : D} (s : Same H H1) (h : kD K H Q d) : kD K H1 Q d := fun v H' s' dv => h v H' (s.trans s') dv
theorem kB.on {H H1 : Hp} {Q : Bool → Hp → Prop} {b : Bool} (s : Same H H1) (h : kB H Q b) : kB H1 Q b := fun H' s' => h H' (s.trans s')
def oE (K : PySem.W.Frag) (t : ED) : TE := fun σ H Q => ∃ δ, RelS K H σ δ ∧ t δ (kD K H Q)
def oT (K : PySem.W.Frag) (t : TD) : TT := fun σ H Q => ∃ δ, RelS K H σ δ ∧ t δ (kB H Q)
def oA (K : PySem.W.Frag) (t : AD) : TA := fun σ H Q => ∃ δ, RelS K H σ δ ∧ t δ (kA K H Q)
abbrev MonoE (t : ED) : Prop := ∀ δ (P P' : D → Prop), (∀ d, P d → P' d) → t δ P → t δ P'
structure PD (X : Cx) (e : Expr) (t : ED) : Prop where
  pe : PE X e (oE X.K t)
  mono : MonoE t
structure PTd (X : Cx) (e : Expr) (t : TD) : Prop where
  pt : PT X e (oT X.K t)
  mono : ∀ δ (P P' : Bool → Prop), (∀ d, P d → P' d) → t δ P → t δ P'
structure PWd (X : Cx) (e : Expr) (t : TD) : Prop where
  pw : PW X e (oT X.K t)
  mono : ∀ δ (P P' : Bool → Prop), (∀ d, P d → P' d) → t δ P → t δ P'
structure PAd (X : Cx) (es : List Expr) (t : AD) : Prop where
  pa : PA X es (oA X.K t)
  mono : ∀ δ (P P' : List D → Prop), (∀ d, P d → P' d) → t δ P → t δ P'
theorem PT.imp {X : Cx} {e : Expr} {t t' : TT} (h : PT X e t) (f : ∀ σ H Q, t' σ H Q → t σ H Q) : PT X e t' := fun pins s σ H Q I q => h pins s σ H Q I (f σ H Q q)
theorem PW.imp {X : Cx} {e : Expr} {t t' : TT} (h : PW X e t) (f : ∀ σ H Q, t' σ H Q → t σ H Q) : PW X e t' := fun wh pins s σ H Q I q => h wh pins s σ H Q I (f σ H Q q)
theorem PA.imp {X : Cx} {es : List Expr} {t t' : TA} (h : PA X es t) (f : ∀ σ H Q, t' σ H Q → t σ H Q) : PA X es t' := fun p pins s σ H Q I q => h p pins s σ H Q I (f σ H Q q)
section
variable {X : Cx} {e a b c : Expr} {es rest : List Expr} {pos : Pos} {ta tb tc : ED}
def vVar (i : Nat) : ED := fun δ Q => ∃ d, δ[i]? = some (some d) ∧ Q d
def vC (d : D) : ED := fun _ Q => Q d
theorem d_pe {i : Nat} (h : PE X e (tVar i)) : PD X e (vVar i) :=
  ⟨h.imp fun σ H Q ⟨δ, r, d, hd, k⟩ => let ⟨v, hv, dv⟩ := r.get i d hd; ⟨v, hv, k v H (Same.refl _) dv⟩, fun δ P P' f ⟨d, hd, k⟩ => ⟨d, hd, f d k⟩⟩
theorem dv (i : Nat) {x : Str} {pos : Pos} (hN : X.N[i]? = some x := by rfl) (hv : Vis X.env.scope x := by first | exact Or.inl rfl | exact Or.inr (Or.inl rfl) | exact Or.inr (Or.inr rfl)) (hd : (x == ("__debug__" : Str)) = false := by decide)
    (hcd : (x == ("__classdict__" : Str)) = false := by decide) : PD X (.Name x pos) (vVar i) := d_pe (pv i hN hv hd hcd)
theorem d_c {v : V} {d : D} (h : PE X e (tC v)) (hv : ∀ H, Dv X.K H v d) : PD X e (vC d) :=
  ⟨h.imp fun σ H Q ⟨δ, r, k⟩ => k v H (Same.refl _) (hv H), fun δ P P' f k => f d k⟩
theorem d_int {i j pos} : PD X (.Constant (.int i) j pos) (vC (.int i)) := d_c pe_int fun _ => .int i
theorem d_bl {i j pos} : PD X (.Constant (.bool i) j pos) (vC (.bl i)) := d_c pe_bl fun _ => .bl i
theorem d_str {i j pos} : PD X (.Constant (.str i) j pos) (vC (.str i)) := d_c pe_str fun _ => .str i
theorem d_non {j pos} : PD X (.Constant .none j pos) (vC .non) := d_c pe_non fun _ => .non
abbrev F2 := D → D → (D → Prop) → Prop
abbrev MonoF (f : F2) : Prop := ∀ d e (P P' : D → Prop), (∀ r, P r → P' r) → f d e P → f d e P'
def vOp (f : F2) (ta tb : ED) : ED := fun δ Q => ta δ fun d => tb δ fun e => f d e Q
def Does (K : PySem.W.Frag) (r : R2) (f : F2) : Prop := ∀ H x y d e Q, Dv K H x d → Dv K H y e → f d e (kD K H Q) → r x y H Q
theorem d_bin {t : TE} {r : R2} {f : F2} (hp : PE X e (tOp r (oE X.K ta) (oE X.K tb))) (ma : MonoE ta) (mb : MonoE tb) (hd : Does X.K r f) (hf : MonoF f) : PD X e (vOp f ta tb) := by
  refine ⟨hp.imp fun σ H Q ⟨δ, r, h⟩ => ⟨δ, r, ma _ _ _ (fun d hd' v H1 s1 dv => ⟨δ, r.same s1, mb _ _ _ (fun e he w H2 s2 ew => hd H2 v w d e Q (dv.same s2) ew (hf d e _ _ (fun z hz => hz.on (s1.trans s2)) he)) hd'⟩) h⟩, ?_⟩
  exact fun δ P P' g h => ma _ _ _ (fun d h' => mb _ _ _ (fun e h'' => hf d e _ _ g h'') h') h
theorem d_op {op : Operator} {r : R2} {f : F2} (ho : OpR X (binaryOp op) r) (hd : Does X.K r f) (hf : MonoF f) (ha : PD X a ta) (hb : PD X b tb) : PD X (.BinOp a op b pos) (vOp f ta tb) :=
  d_bin (t := oE X.K ta) (pe_op ho ha.pe hb.pe) ha.mono hb.mono hd hf
theorem d_cmp {op : CmpOp} {r : R2} {f : F2} (ho : OpR X (compareOp op) r) (hd : Does X.K r f) (hf : MonoF f) (ha : PD X a ta) (hb : PD X b tb) (hm : behindInMarks op b = false) : PD X (.Compare a [op] [b] pos) (vOp f ta tb) :=
  d_bin (t := oE X.K ta) (pe_cmpR ho ha.pe hb.pe hm) ha.mono hb.mono hd hf
end
end DC

set_option maxHeartbeats 4000000
namespace DC
open PySem PySem.Spec PyProof.Rows L2
section
variable {X : Cx}
theorem op_catL : OpR X (binaryOp .Add) (fun x y H Q => ∃ a b xs ys, x = .ref a ∧ y = .ref b ∧ SqL X.K H a xs ∧ SqL X.K H b ys ∧ xs.length + ys.length ≤ sizeLine ∧ ∀ p, H p = none → Q (.ref p) (upd H p (.lst (xs ++ ys)))) := by
  intro pins s σ H x y v u Q I rx ry h
  obtain ⟨a, b, xs, ys, rfl, rfl, ha, hb, hz, q⟩ := h
  cases (show v = Value.ref a from rx)
  cases (show u = Value.ref b from ry)
  obtain ⟨its, r1, p1, _⟩ := I.list ha
  obtain ⟨its2, r2, p2, _⟩ := I.list hb
  have hl1 := r1.length
  have hl2 := r2.length
  obtain ⟨⟨cls, dd, data, sl⟩, ho, hc, n, hd⟩ := id p1.isList
  obtain ⟨⟨cls2, dd2, data2, sl2⟩, ho2, hc2, n2, hd2⟩ := id p2.isList
  simp only at hc hd hc2 hd2
  subst hc hd hc2 hd2
  have e : its.toArray ++ its2.toArray = (its ++ its2).toArray := by simp
  refine concat_meets ⟨_, ho, rfl⟩ ⟨_, ho2, rfl⟩ noFill_list_add seq_list_add PySem.F.slot_list_add PySem.F.entry_list_add (PySem.F.args_list_add_2 _ _)
    (list_addW a b its.toArray its2.toArray n n2 dd dd2 sl sl2 (by rw [List.size_toArray, List.size_toArray]; omega)) ⟨ho, ho2, ?_⟩
  rw [e]
  exact ⟨.ref _, _, I.lnew (t' := s.toks) (r1.append r2) (by rw [List.length_append]; omega), rfl, q _ I.fresh⟩
theorem op_catN : OpR X (binaryOp .Add) (fun x y H Q => ∃ a b ys, x = .ref a ∧ y = .ref b ∧ SqT X.K H a [] ∧ SqT X.K H b ys ∧ Q (.ref b) H) := by
  intro pins s σ H x y v u Q I rx ry h
  obtain ⟨a, b, ys, rfl, rfl, ha, hb, q⟩ := h
  cases (show v = Value.ref a from rx)
  cases (show u = Value.ref b from ry)
  obtain ⟨its, r1, p1, _⟩ := I.tuple ha
  obtain ⟨its2, r2, p2, _⟩ := I.tuple hb
  have e1 : its = [] := r1.zero
  subst e1
  obtain ⟨⟨cls, dd, data, sl⟩, ho, hc, n, hd⟩ := id p1
  obtain ⟨⟨cls2, dd2, data2, sl2⟩, ho2, hc2, n2, hd2⟩ := id p2
  simp only at hc hd hc2 hd2
  subst hc hd hc2 hd2
  exact concat_meets ⟨_, ho, rfl⟩ ⟨_, ho2, rfl⟩ noFill_tuple_add seq_tuple_add PySem.F.slot_tuple_add PySem.F.entry_tuple_add (PySem.F.args_tuple_add_2 _ _)
    (tuple_addW0 a b #[] its2.toArray n n2 dd dd2 sl sl2 rfl) ⟨ho, ho2, ⟨.ref b, H, I, rfl, q⟩⟩
end
section
variable {K : PySem.W.Frag}
def fAdd : F2 := fun d e Q => match d, e with
  | .int i, .int j => Q (.int (i + j))
  | .str x, .str y => x.length + y.length ≤ sizeLine ∧ Q (.str (x ++ y))
  | .lst xs, .lst ys => xs.length + ys.length ≤ sizeLine ∧ Q (.lst (xs ++ ys))
  | .tup xs, .tup ys => xs.length + ys.length ≤ sizeLine ∧ Q (.tup (xs ++ ys))
  | _, _ => False
theorem m_add : MonoF fAdd := by
  intro d e P P' g h
  unfold fAdd at h ⊢
  split at h
  · exact g _ h
  · exact ⟨h.1, g _ h.2⟩
  · exact ⟨h.1, g _ h.2⟩
  · exact ⟨h.1, g _ h.2⟩
  · exact h.elim
def rAddU (K : PySem.W.Frag) : R2 := fun x y H Q => (∃ i j, x = .int i ∧ y = .int j ∧ Q (.int (i + j)) H) ∨ (∃ i j, x = .str i ∧ y = .str j ∧ i.length + j.length ≤ sizeLine ∧ Q (.str (i ++ j)) H) ∨
  (∃ a b xs ys, x = .ref a ∧ y = .ref b ∧ SqL K H a xs ∧ SqL K H b ys ∧ xs.length + ys.length ≤ sizeLine ∧ ∀ p, H p = none → Q (.ref p) (upd H p (.lst (xs ++ ys)))) ∨
  rCatT K x y H Q ∨ (∃ a b ys, x = .ref a ∧ y = .ref b ∧ SqT K H a [] ∧ SqT K H b ys ∧ Q (.ref b) H)
theorem op_addU {X : Cx} : OpR X (binaryOp .Add) (rAddU X.K) := op_add.or (op_add_str.or (op_catL.or (op_catT.or op_catN)))
theorem does_add : Does K (rAddU K) fAdd := by
  intro H x y d e Q hx hy h
  cases hx with
  | int i => cases hy with
    | int j => exact .inl ⟨i, j, rfl, rfl, h _ H (Same.refl _) (.int _)⟩
    | _ => exact h.elim
  | str i => cases hy with
    | str j => exact .inr (.inl ⟨i, j, rfl, rfl, h.1, h.2 _ H (Same.refl _) (.str _)⟩)
    | _ => exact h.elim
  | lst h1 h2 => cases hy with
    | lst g1 g2 =>
      refine .inr (.inr (.inl ⟨_, _, _, _, rfl, rfl, h1, g1, ?_, fun p hp => ?_⟩))
      · rw [h2.length, g2.length]; exact h.1
      · exact h.2 _ _ (same_upd hp) (.lst (SqL.of upd_same) ((h2.append g2).same (same_upd hp)))
    | _ => exact h.elim
  | tup h1 h2 => cases hy with
    | tup g1 g2 =>
      have z := h.1
      rw [← h2.length, ← g2.length] at z
      cases h2 with
      | nil => exact .inr (.inr (.inr (.inr ⟨_, _, _, rfl, rfl, h1, g1, h.2 _ H (Same.refl _) (.tup g1 g2)⟩)))
      | cons a r =>
        refine .inr (.inr (.inr (.inl ⟨_, _, _, _, rfl, rfl, h1, g1, (fun q => nomatch q), z, fun e => ?_, fun e p hp => ?_⟩)))
        · subst e
          cases g2
          have q := h.2
          rw [List.append_nil] at q
          exact q _ H (Same.refl _) (.tup h1 (.cons a r))
        · exact h.2 _ _ (same_upd hp) (.tup (SqT.of upd_same) (((Dvs.cons a r).append g2).same (same_upd hp)))
    | _ => exact h.elim
  | _ => exact h.elim
def fI (C : Int → Int → Prop) (g : Int → Int → D) : F2 := fun d e Q => match d, e with
  | .int i, .int j => C i j ∧ Q (g i j)
  | _, _ => False
theorem m_I {C : Int → Int → Prop} {g : Int → Int → D} : MonoF (fI C g) := by
  intro d e P P' f h
  unfold fI at h ⊢
  split at h
  · exact ⟨h.1, f _ h.2⟩
  · exact h.elim
theorem does_I {C : Int → Int → Prop} {g : Int → Int → V} {g' : Int → Int → D} (hg : ∀ H i j, Dv K H (g i j) (g' i j)) : Does K (rI C g) (fI C g') := by
  intro H x y d e Q hx hy h
  cases hx with
  | int i => cases hy with
    | int j => exact ⟨i, j, rfl, rfl, h.1, h.2 _ H (Same.refl _) (hg H i j)⟩
    | _ => exact h.elim
  | _ => exact h.elim
def fI0 (g : Int → Int → D) : F2 := fun d e Q => match d, e with
  | .int i, .int j => Q (g i j)
  | _, _ => False
theorem m_I0 {g : Int → Int → D} : MonoF (fI0 g) := by
  intro d e P P' f h
  unfold fI0 at h ⊢
  split at h
  · exact f _ h
  · exact h.elim
theorem does_I0 {g : Int → Int → V} {g' : Int → Int → D} (hg : ∀ H i j, Dv K H (g i j) (g' i j)) : Does K (rI0 g) (fI0 g') := by
  intro H x y d e Q hx hy h
  cases hx with
  | int i => cases hy with
    | int j => exact ⟨i, j, rfl, rfl, h _ H (Same.refl _) (hg H i j)⟩
    | _ => exact h.elim
  | _ => exact h.elim
end
section
variable {X : Cx} {a b c : Expr} {es rest : List Expr} {pos : Pos} {ta tb tc : ED}
def vAdd : ED → ED → ED := vOp fAdd
def vMul : ED → ED → ED := vOp (fI IntMulOk fun i j => .int (i * j))
def vMod : ED → ED → ED := vOp (fI (fun _ j => 0 < j) fun i j => .int (i % j))
def vDiv : ED → ED → ED := vOp (fI CDiv fun i j => .int (i / j))
theorem d_add (ha : PD X a ta) (hb : PD X b tb) : PD X (.BinOp a .Add b pos) (vAdd ta tb) := d_op op_addU does_add m_add ha hb
theorem d_mul (ha : PD X a ta) (hb : PD X b tb) : PD X (.BinOp a .Mult b pos) (vMul ta tb) := d_op op_mulB (does_I fun _ _ _ => .int _) m_I ha hb
theorem d_mod (ha : PD X a ta) (hb : PD X b tb) : PD X (.BinOp a .Mod b pos) (vMod ta tb) := d_op op_mod (does_I fun _ _ _ => .int _) m_I ha hb
theorem d_div (ha : PD X a ta) (hb : PD X b tb) : PD X (.BinOp a .FloorDiv b pos) (vDiv ta tb) := d_op op_fdiv (does_I fun _ _ _ => .int _) m_I ha hb
def vNeg (ta : ED) : ED := fun δ Q => ta δ fun d => ∃ i, d = .int i ∧ Q (.int (-i))
theorem d_neg (ha : PD X a ta) : PD X (.UnaryOp .USub a pos) (vNeg ta) :=
  ⟨(pe_un un_neg ha.pe).imp fun σ H Q ⟨δ, r, h⟩ => ⟨δ, r, ha.mono _ _ _ (fun d ⟨i, e, k⟩ v H1 s1 dv => by subst e; cases dv; exact ⟨i, rfl, k _ H1 s1 (.int _)⟩) h⟩,
   fun δ P P' g h => ha.mono _ _ _ (fun d ⟨i, e, k⟩ => ⟨i, e, g _ k⟩) h⟩
def vLt : ED → ED → ED := vOp (fI0 fun i j => .bl (decide (i < j)))
def vGt : ED → ED → ED := vOp (fI0 fun i j => .bl (decide (j < i)))
end
end DC

set_option maxHeartbeats 4000000
namespace DC
open PySem PySem.Spec PyProof.Rows L2
mutual
def toP : D → PyData
  | .non => .none
  | .bl b => .bool b
  | .int i => .int i
  | .str x => .str x
  | .lst xs => .list (toPs xs)
  | .tup xs => .tuple (toPs xs)
  | .obj _ _ => .none
  | .dK _ => .none
  | .dT _ => .none
  | .adr _ => .none
  | .exc _ _ _ => .none
def toPs : List D → List PyData
  | [] => []
  | d :: ds => toP d :: toPs ds
end
mutual
def plain : D → Bool
  | .lst xs => plains xs
  | .tup xs => plains xs
  | .obj _ _ => false
  | .dK _ => false
  | .dT _ => false
  | .adr _ => false
  | .exc _ _ _ => false
  | _ => true
def plains : List D → Bool
  | [] => true
  | d :: ds => plain d && plains ds
end
section
variable {K : PySem.W.Frag} {H : Hp}
mutual
theorem Dv.dat : ∀ {v : V} {d : D}, plain d = true → Dv K H v d → DatV K H v (toP d)
  | _, _, _, .non => by rw [toP]; exact .non
  | _, _, _, .bl b => by rw [toP]; exact .bl b
  | _, _, _, .int i => by rw [toP]; exact .int i
  | _, _, _, .str x => by rw [toP]; exact .str x
  | _, _, p, .lst h1 h2 => by rw [toP]; rw [plain] at p; exact .lst h1 (Dvs.dat p h2)
  | _, _, p, .tup h1 h2 => by rw [toP]; rw [plain] at p; exact .tup h1 (Dvs.dat p h2)
  | _, _, p, .obj _ _ => by rw [plain] at p; cases p
  | _, _, p, .dK _ _ => by rw [plain] at p; cases p
  | _, _, p, .dT _ _ => by rw [plain] at p; cases p
  | _, _, p, .adr _ => by rw [plain] at p; cases p
  | _, _, p, .exc _ _ _ => by rw [plain] at p; cases p
theorem Dvs.dat : ∀ {vs : List V} {ds : List D}, plains ds = true → Dvs K H vs ds → DatVs K H vs (toPs ds)
  | _, _, _, .nil => by rw [toPs]; exact .nil
  | _, _, p, .cons h1 h2 => by
    rw [toPs]
    rw [plains, Bool.and_eq_true] at p
    exact .cons (Dv.dat p.1 h1) (Dvs.dat p.2 h2)
end
end
def eqScal : D → D → Option Bool
  | .non, .non => some true
  | .bl a, .bl b => some (decide (a = b))
  | .int i, .int j => some (decide (i = j))
  | .str x, .str y => some (decide (x = y))
  | .non, .bl _ => some false
  | .non, .int _ => some false
  | .non, .str _ => some false
  | .bl _, .non => some false
  | .bl _, .str _ => some false
  | .int _, .non => some false
  | .int _, .str _ => some false
  | .str _, .non => some false
  | .str _, .bl _ => some false
  | .str _, .int _ => some false
  | _, _ => none
def fEq (neg : Bool) : F2 := fun d e Q => match eqScal d e with
  | some b => Q (.bl (if neg then !b else b))
  | none => plain d = true ∧ plain e = true ∧ SeqAt.shaped (toP d) = true ∧ SeqAt.shaped (toP e) = true ∧ Q (.bl (if neg then !PyData.eqv (toP d) (toP e) else PyData.eqv (toP d) (toP e)))
theorem m_eq {neg : Bool} : MonoF (fEq neg) := by
  intro d e P P' f h
  unfold fEq at h ⊢
  split at h
  · exact f _ h
  · exact ⟨h.1, h.2.1, h.2.2.1, h.2.2.2.1, f _ h.2.2.2.2⟩
theorem does_eq {K : PySem.W.Frag} : Does K (fun x y H Q => rEq x y H Q ∨ rEqD K false x y H Q) (fEq false) := by
  intro H x y d e Q hx hy h
  unfold fEq at h
  split at h
  · rename_i b hb
    left
    have q := h _ H (Same.refl _) (.bl _)
    cases hx <;> cases hy <;> simp only [eqScal, Option.some.injEq, reduceCtorEq] at hb <;> subst hb <;> refine ⟨rfl, ?_⟩ <;> simpa using q
  · obtain ⟨p1, p2, s1, s2, q⟩ := h
    exact .inr ⟨_, _, hx.dat p1, hy.dat p2, s1, s2, q _ H (Same.refl _) (.bl _)⟩
theorem does_ne {K : PySem.W.Frag} : Does K (fun x y H Q => rNe x y H Q ∨ rEqD K true x y H Q) (fEq true) := by
  intro H x y d e Q hx hy h
  unfold fEq at h
  split at h
  · rename_i b hb
    left
    have q := h _ H (Same.refl _) (.bl _)
    cases hx <;> cases hy <;> simp only [eqScal, Option.some.injEq, reduceCtorEq] at hb <;> subst hb <;> refine ⟨rfl, ?_⟩ <;> simpa using q
  · obtain ⟨p1, p2, s1, s2, q⟩ := h
    exact .inr ⟨_, _, hx.dat p1, hy.dat p2, s1, s2, q _ H (Same.refl _) (.bl _)⟩
def fIs (neg : Bool) : F2 := fun d e Q => match e with
  | .non => Q (.bl (match d with | .non => !neg | _ => neg))
  | .bl b => ∃ a, d = .bl a ∧ Q (.bl (if neg then a != b else a == b))
  | _ => False
theorem m_is {neg : Bool} : MonoF (fIs neg) := by
  intro d e P P' f h
  unfold fIs at h ⊢
  split at h
  · exact f _ h
  · obtain ⟨a, ha, q⟩ := h; exact ⟨a, ha, f _ q⟩
  · exact h.elim
theorem does_is {K : PySem.W.Frag} : Does K (fun x y H Q => (y = .non ∧ Q (.bl (decide (x = .non))) H) ∨ ∃ a b, x = .bl a ∧ y = .bl b ∧ Q (.bl (a == b)) H) (fIs false) := by
  intro H x y d e Q hx hy h
  cases hy with
  | non =>
    refine .inl ⟨rfl, ?_⟩
    have q := h _ H (Same.refl _) (.bl _)
    cases hx <;> exact q
  | bl b =>
    obtain ⟨a, rfl, q⟩ := h
    cases hx
    exact .inr ⟨a, b, rfl, rfl, q _ H (Same.refl _) (.bl _)⟩
  | _ => exact h.elim
def flatD : D → Bool
  | .non => true
  | .bl _ => true
  | .int _ => true
  | .str _ => true
  | _ => false
def eqFlat : D → D → Bool
  | .non, .non => true
  | .bl a, .bl b => a == b
  | .bl a, .int j => (if a then 1 else 0) == j
  | .int i, .bl b => i == (if b then 1 else 0)
  | .int i, .int j => i == j
  | .str x, .str y => x == y
  | _, _ => false
def inD (x : D) (xs : List D) : Bool := xs.any fun y => eqFlat y x
def subStr (x y : Str) : Bool := !(Builtin.Str.occurrences y x 0 y.length 1).isEmpty
def fIn (neg : Bool) : F2 := fun d e Q => match e with
  | .lst xs => flatD d = true ∧ xs.all flatD = true ∧ Q (.bl (if neg then !inD d xs else inD d xs))
  | .tup xs => flatD d = true ∧ xs.all flatD = true ∧ Q (.bl (if neg then !inD d xs else inD d xs))
  | .str y => ∃ x, d = .str x ∧ Q (.bl (if neg then !subStr x y else subStr x y))
  | _ => False
theorem m_in {neg : Bool} : MonoF (fIn neg) := by
  intro d e P P' f h
  unfold fIn at h ⊢
  split at h
  · exact ⟨h.1, h.2.1, f _ h.2.2⟩
  · exact ⟨h.1, h.2.1, f _ h.2.2⟩
  · obtain ⟨a, ha, q⟩ := h; exact ⟨a, ha, f _ q⟩
  · exact h.elim
section
variable {K : PySem.W.Frag} {H : Hp}
theorem Dv.flat {v : V} {d : D} (h : Dv K H v d) (f : flatD d = true) : flatV v = true := by
  cases h <;> first | rfl | cases f
theorem Dv.eqFlat {v w : V} {d e : D} (h : Dv K H v d) (g : Dv K H w e) (f : flatD d = true) (f' : flatD e = true) : eqV v w = DC.eqFlat d e := by
  cases h <;> cases g <;> first | rfl | cases f | cases f'
theorem Dvs.flat : ∀ {vs : List V} {ds : List D}, Dvs K H vs ds → ds.all flatD = true → vs.all flatV = true
  | _, _, .nil, _ => rfl
  | _, _, .cons h r, f => by
    rw [List.all_cons, Bool.and_eq_true] at f ⊢
    exact ⟨h.flat f.1, Dvs.flat r f.2⟩
theorem Dvs.inV {w : V} {e : D} (g : Dv K H w e) (f' : flatD e = true) : ∀ {vs : List V} {ds : List D}, Dvs K H vs ds → ds.all flatD = true → L2.inV w vs = inD e ds
  | _, _, .nil, _ => rfl
  | _, _, .cons h r, f => by
    rw [List.all_cons, Bool.and_eq_true] at f
    have q := Dvs.inV g f' r f.2
    unfold L2.inV inD at q ⊢
    rw [List.any_cons, List.any_cons, q, h.eqFlat g f.1 f']
end
theorem does_in {K : PySem.W.Frag} : Does K (fun x y H Q => rIn K false x y H Q ∨ ∃ i j, x = .str i ∧ y = .str j ∧ Q (.bl (!(Builtin.Str.occurrences j i 0 j.length 1).isEmpty)) H) (fIn false) := by
  intro H x y d e Q hx hy h
  cases hy with
  | lst g1 g2 => exact .inl ⟨_, _, rfl, .inl g1, hx.flat h.1, g2.flat h.2.1, by rw [Dvs.inV hx h.1 g2 h.2.1]; exact h.2.2 _ H (Same.refl _) (.bl _)⟩
  | tup g1 g2 => exact .inl ⟨_, _, rfl, .inr g1, hx.flat h.1, g2.flat h.2.1, by rw [Dvs.inV hx h.1 g2 h.2.1]; exact h.2.2 _ H (Same.refl _) (.bl _)⟩
  | str j =>
    obtain ⟨i, rfl, q⟩ := h
    cases hx
    exact .inr ⟨i, j, rfl, rfl, q _ H (Same.refl _) (.bl _)⟩
  | _ => exact h.elim
theorem does_notIn {K : PySem.W.Frag} : Does K (fun x y H Q => rIn K true x y H Q ∨ ∃ i j, x = .str i ∧ y = .str j ∧ Q (.bl (!(!(Builtin.Str.occurrences j i 0 j.length 1).isEmpty))) H) (fIn true) := by
  intro H x y d e Q hx hy h
  cases hy with
  | lst g1 g2 => exact .inl ⟨_, _, rfl, .inl g1, hx.flat h.1, g2.flat h.2.1, by rw [Dvs.inV hx h.1 g2 h.2.1]; exact h.2.2 _ H (Same.refl _) (.bl _)⟩
  | tup g1 g2 => exact .inl ⟨_, _, rfl, .inr g1, hx.flat h.1, g2.flat h.2.1, by rw [Dvs.inV hx h.1 g2 h.2.1]; exact h.2.2 _ H (Same.refl _) (.bl _)⟩
  | str j =>
    obtain ⟨i, rfl, q⟩ := h
    cases hx
    exact .inr ⟨i, j, rfl, rfl, q _ H (Same.refl _) (.bl _)⟩
  | _ => exact h.elim
section
variable {X : Cx} {a b c : Expr} {es rest : List Expr} {pos : Pos} {ta tb tc : ED}
def vEq : ED → ED → ED := vOp (fEq false)
def vNe : ED → ED → ED := vOp (fEq true)
def vIs : ED → ED → ED := vOp (fIs false)
def vIn : ED → ED → ED := vOp (fIn false)
def vNotIn : ED → ED → ED := vOp (fIn true)
theorem d_eq (hu : X.A.units + 64 < cLine) (ha : PD X a ta) (hb : PD X b tb) : PD X (.Compare a [.Eq] [b] pos) (vEq ta tb) := d_cmp (op_eq.or (op_eqD hu)) does_eq m_eq ha hb (nomark _)
theorem d_ne (hu : X.A.units + 64 < cLine) (ha : PD X a ta) (hb : PD X b tb) : PD X (.Compare a [.NotEq] [b] pos) (vNe ta tb) := d_cmp (op_ne.or (op_neD hu)) does_ne m_eq ha hb (nomark _)
theorem d_is (ha : PD X a ta) (hb : PD X b tb) : PD X (.Compare a [.Is] [b] pos) (vIs ta tb) := d_cmp (op_isN.or op_is_bl) does_is m_is ha hb (nomark _)
theorem d_in (ha : PD X a ta) (hb : PD X b tb) (hm : behindInMarks .In b = false) : PD X (.Compare a [.In] [b] pos) (vIn ta tb) := d_cmp (op_in_seq.or op_in_str) does_in m_in ha hb hm
end
end DC

set_option maxHeartbeats 4000000
namespace DC
open PySem PySem.Spec PyProof.Rows L2
abbrev MonoT (t : TD) : Prop := ∀ δ (P P' : Bool → Prop), (∀ d, P d → P' d) → t δ P → t δ P'
abbrev MonoA (t : AD) : Prop := ∀ δ (P P' : List D → Prop), (∀ d, P d → P' d) → t δ P → t δ P'
def vTest (t : ED) : TD := fun δ Q => t δ fun d => ∃ b, d = .bl b ∧ Q b
theorem m_test {t : ED} (m : MonoE t) : MonoT (vTest t) := fun δ P P' g h => m _ _ _ (fun d ⟨b, e, q⟩ => ⟨b, e, g b q⟩) h
theorem test_of {K : PySem.W.Frag} {t : ED} (m : MonoE t) {δ : SD} {H : Hp} {Q : Bool → Hp → Prop} (h : vTest t δ (kB H Q)) : t δ (kD K H fun x H' => ∃ k, x = .bl k ∧ Q k H') :=
  m _ _ _ (fun d ⟨b, e, q⟩ v H' s dv => by subst e; cases dv; exact ⟨b, rfl, q H' s⟩) h
section
variable {X : Cx} {a b c e : Expr} {es rest : List Expr} {pos : Pos} {ta tb tc : ED} {ua ub : TD}
theorem PTd.of {t : TE} {v : ED} (h : PT X e (tTest t)) (p : ∀ σ H Q, oE X.K v σ H Q → t σ H Q) (m : MonoE v) : PTd X e (vTest v) :=
  ⟨PT.imp h fun σ H Q ⟨δ, r, q⟩ => p σ H _ ⟨δ, r, test_of m q⟩, m_test m⟩
theorem bin_of {r : R2} {f : F2} (ma : MonoE ta) (mb : MonoE tb) (hd : Does X.K r f) (hf : MonoF f) : (∀ σ H Q, oE X.K (vOp f ta tb) σ H Q → tOp r (oE X.K ta) (oE X.K tb) σ H Q) ∧ MonoE (vOp f ta tb) := by
  refine ⟨fun σ H Q ⟨δ, r, h⟩ => ⟨δ, r, ma _ _ _ (fun d hd' v H1 s1 dv => ⟨δ, r.same s1, mb _ _ _ (fun e he w H2 s2 ew => hd H2 v w d e Q (dv.same s2) ew (hf d e _ _ (fun z hz => hz.on (s1.trans s2)) he)) hd'⟩) h⟩, ?_⟩
  exact fun δ P P' g h => ma _ _ _ (fun d h' => mb _ _ _ (fun e h'' => hf d e _ _ g h'') h') h
theorem t_cmp {op : CmpOp} {r : R2} {f : F2} (ho : OpR X (compareOp op) r) (hd : Does X.K r f) (hf : MonoF f) (ha : PD X a ta) (hb : PD X b tb) (hm : behindInMarks op b = false) : PTd X (.Compare a [op] [b] pos) (vTest (vOp f ta tb)) :=
  let q := bin_of ha.mono hb.mono hd hf
  PTd.of (pt_cmpR ho ha.pe hb.pe hm) q.1 q.2
theorem t_lt (ha : PD X a ta) (hb : PD X b tb) : PTd X (.Compare a [.Lt] [b] pos) (vTest (vLt ta tb)) := t_cmp op_lt (does_I0 fun _ _ _ => .bl _) m_I0 ha hb (nomark _)
theorem t_gt (ha : PD X a ta) (hb : PD X b tb) : PTd X (.Compare a [.Gt] [b] pos) (vTest (vGt ta tb)) := t_cmp op_gt (does_I0 fun _ _ _ => .bl _) m_I0 ha hb (nomark _)
theorem t_eq (hu : X.A.units + 64 < cLine) (ha : PD X a ta) (hb : PD X b tb) : PTd X (.Compare a [.Eq] [b] pos) (vTest (vEq ta tb)) := t_cmp (op_eq.or (op_eqD hu)) does_eq m_eq ha hb (nomark _)
theorem t_ne (hu : X.A.units + 64 < cLine) (ha : PD X a ta) (hb : PD X b tb) : PTd X (.Compare a [.NotEq] [b] pos) (vTest (vNe ta tb)) := t_cmp (op_ne.or (op_neD hu)) does_ne m_eq ha hb (nomark _)
theorem t_notin (ha : PD X a ta) (hb : PD X b tb) (hm : behindInMarks .NotIn b = false) : PTd X (.Compare a [.NotIn] [b] pos) (vTest (vNotIn ta tb)) := t_cmp (op_notIn_seq.or op_notin_str) does_notIn m_in ha hb hm
def truD : D → Option Bool
  | .non => some false
  | .bl b => some b
  | .int i => some (i != 0)
  | .str y => if y.length ≤ sizeLine then some ((y.length : Int) != 0) else none
  | .lst xs => some (!xs.isEmpty)
  | .tup xs => some (!xs.isEmpty)
  | _ => none
def vTru (t : ED) : TD := fun δ Q => t δ fun d => ∃ b, truD d = some b ∧ Q b
theorem Dvs.isEmpty {K : PySem.W.Frag} {H : Hp} {vs : List V} {ds : List D} (h : Dvs K H vs ds) : vs.isEmpty = ds.isEmpty := by cases h <;> rfl
theorem Dv.tru {K : PySem.W.Frag} {H : Hp} {v : V} {d : D} {b : Bool} (h : Dv K H v d) (e : truD d = some b) : TruV K v H b := by
  cases h with
  | non => cases e; rfl
  | bl x => cases e; rfl
  | int i => cases e; rfl
  | str x =>
    have e' : (if x.length ≤ sizeLine then some ((x.length : Int) != 0) else none) = some b := e
    by_cases hz : x.length ≤ sizeLine
    · rw [if_pos hz] at e'
      exact ⟨hz, (Option.some.inj e').symm⟩
    · rw [if_neg hz] at e'
      cases e'
  | lst h1 h2 => cases e; exact .inl ⟨_, h1, by rw [h2.isEmpty]⟩
  | tup h1 h2 => cases e; exact .inr (.inl ⟨_, h1, by rw [h2.isEmpty]⟩)
  | dK _ _ => cases e
  | exc _ _ _ => cases e
  | obj _ _ => cases e
  | dT _ _ => cases e
  | adr _ => cases e
theorem t_tru (ha : PD X a ta) (he : ∀ whole, isTrue a X.env whole = (do let v ← whole; standAt a.pos; holding [v] (truthy v)) := by intro _; rfl) : PTd X a (vTru ta) :=
  ⟨PT.imp (pt_truth ha.pe he) fun σ H Q ⟨δ, r, h⟩ => ⟨δ, r, ha.mono _ _ _ (fun d ⟨b, e, q⟩ v H1 s1 dv => ⟨b, dv.tru e, q H1 s1⟩) h⟩, fun δ P P' g h => ha.mono _ _ _ (fun d ⟨b, e, q⟩ => ⟨b, e, g b q⟩) h⟩
def uNot (t : TD) : TD := fun δ Q => t δ fun b => Q (!b)
def uOr (t u : TD) : TD := fun δ Q => t δ fun b => if b = true then Q true else u δ Q
theorem t_not (ha : PTd X a ua) : PTd X (.UnaryOp .Not a pos) (uNot ua) :=
  ⟨PT.imp (pt_not ha.pt) fun σ H Q ⟨δ, r, h⟩ => ⟨δ, r, ha.mono _ _ _ (fun b q H' s => q H' s) h⟩, fun δ P P' g h => ha.mono _ _ _ (fun b q => g _ q) h⟩
theorem m_or (ma : MonoT ua) (mb : MonoT ub) : MonoT (uOr ua ub) := fun δ P P' g h => ma _ _ _ (fun b q => by
  cases b with
  | true => rw [if_pos rfl] at q ⊢; exact g _ q
  | false => rw [if_neg Bool.false_ne_true] at q ⊢; exact mb _ _ _ g q) h
theorem PWd.td (h : PWd X e ua) : PTd X e ua := ⟨h.pw.pt, h.mono⟩
theorem w_or1 (ha : PTd X a ua) : PWd X (.BoolOp .Or [a] pos) ua := ⟨pw_or1 ha.pt, ha.mono⟩
theorem w_or (ha : PTd X a ua) (hb : PWd X (.BoolOp .Or (b :: rest) pos) ub) : PWd X (.BoolOp .Or (a :: b :: rest) pos) (uOr ua ub) := by
  refine ⟨PW.imp (pw_or ha.pt hb.pw) fun σ H Q ⟨δ, r, h⟩ => ⟨δ, r, ha.mono _ _ _ (fun b q H' s => ?_) h⟩, m_or ha.mono hb.mono⟩
  cases b with
  | true => rw [if_pos rfl] at q ⊢; exact q H' s
  | false => rw [if_neg Bool.false_ne_true] at q ⊢; exact ⟨δ, r.same s, hb.mono _ _ _ (fun b k => k.on s) q⟩
def vAnd (ta tb : ED) : ED := fun δ Q => ta δ fun d => ∃ b, d = .bl b ∧ if b = true then tb δ Q else Q (.bl false)
def vNot (ta : ED) : ED := fun δ Q => ta δ fun d => ∃ b, d = .bl b ∧ Q (.bl (!b))
theorem d_one {op} (h : PD X a ta) : PD X (.BoolOp op [a] pos) ta := ⟨pe_one h.pe, h.mono⟩
theorem d_and (ha : PD X a ta) (hb : PD X (.BoolOp .And (b :: rest) pos) tb) : PD X (.BoolOp .And (a :: b :: rest) pos) (vAnd ta tb) := by
  refine ⟨(pe_and ha.pe hb.pe).imp fun σ H Q ⟨δ, r, h⟩ => ⟨δ, r, ha.mono _ _ _ (fun d ⟨b, e, q⟩ v H1 s1 dv => ?_) h⟩, fun δ P P' g h => ha.mono _ _ _ (fun d ⟨b, e, q⟩ => ⟨b, e, ?_⟩) h⟩
  · subst e
    cases dv
    refine ⟨b, rfl, ?_⟩
    cases b with
    | true => rw [if_pos rfl] at q ⊢; exact ⟨δ, r.same s1, hb.mono _ _ _ (fun b k => k.on s1) q⟩
    | false => rw [if_neg Bool.false_ne_true] at q ⊢; exact q _ H1 s1 (.bl _)
  · cases b with
    | true => rw [if_pos rfl] at q ⊢; exact hb.mono _ _ _ g q
    | false => rw [if_neg Bool.false_ne_true] at q ⊢; exact g _ q
theorem d_not (ha : PD X a ta) : PD X (.UnaryOp .Not a pos) (vNot ta) :=
  ⟨(pe_not ha.pe).imp fun σ H Q ⟨δ, r, h⟩ => ⟨δ, r, ha.mono _ _ _ (fun d ⟨b, e, q⟩ v H1 s1 dv => by subst e; cases dv; exact ⟨b, rfl, q _ H1 s1 (.bl _)⟩) h⟩,
   fun δ P P' g h => ha.mono _ _ _ (fun d ⟨b, e, q⟩ => ⟨b, e, g _ q⟩) h⟩
def vIf (u : TD) (ta tb : ED) : ED := fun δ Q => u δ fun b => if b = true then ta δ Q else tb δ Q
theorem d_if (hc : PTd X c ua) (ha : PD X a ta) (hb : PD X b tb) : PD X (.IfExp c a b pos) (vIf ua ta tb) := by
  refine ⟨(pe_ifExp hc.pt ha.pe hb.pe).imp fun σ H Q ⟨δ, r, h⟩ => ⟨δ, r, hc.mono _ _ _ (fun k q H1 s1 => ?_) h⟩, fun δ P P' g h => hc.mono _ _ _ (fun k q => ?_) h⟩
  · cases k with
    | true => rw [if_pos rfl] at q ⊢; exact ⟨δ, r.same s1, ha.mono _ _ _ (fun b k => k.on s1) q⟩
    | false => rw [if_neg Bool.false_ne_true] at q ⊢; exact ⟨δ, r.same s1, hb.mono _ _ _ (fun b k => k.on s1) q⟩
  · cases k with
    | true => rw [if_pos rfl] at q ⊢; exact ha.mono _ _ _ g q
    | false => rw [if_neg Bool.false_ne_true] at q ⊢; exact hb.mono _ _ _ g q
end
end DC

set_option maxHeartbeats 4000000
namespace DC
open PySem PySem.Spec PyProof.Rows L2
section
variable {X : Cx} {a b c e : Expr} {es rest : List Expr} {pos : Pos} {ta tb tc : ED} {ua ub : TD} {t : AD}
def aNil : AD := fun _ Q => Q []
def aCons (ta : ED) (t : AD) : AD := fun δ Q => ta δ fun d => t δ fun ds => Q (d :: ds)
theorem a_nil : PAd X [] aNil := ⟨PA.imp pa_nil fun σ H Q ⟨δ, r, h⟩ => h [] H (Same.refl _) .nil, fun δ P P' g h => g _ h⟩
theorem a_cons (ha : PD X e ta) (hr : PAd X es t) (hs : starEach (e :: es) X.env = (false, eval e X.env) :: starEach es X.env := by rfl) : PAd X (e :: es) (aCons ta t) :=
  ⟨PA.imp (pa_cons ha.pe hr.pa hs) fun σ H Q ⟨δ, r, h⟩ => ⟨δ, r, ha.mono _ _ _ (fun d h1 v H1 s1 dv => ⟨δ, r.same s1, hr.mono _ _ _ (fun ds h2 vs H2 s2 dvs => h2 (v :: vs) H2 (s1.trans s2) (.cons (dv.same s2) dvs)) h1⟩) h⟩,
   fun δ P P' g h => ha.mono _ _ _ (fun d h1 => hr.mono _ _ _ (fun ds h2 => g _ h2) h1) h⟩
def vTup (t : AD) : ED := fun δ Q => t δ fun ds => ds.length ≤ sizeLine ∧ Q (.tup ds)
def vLst (t : AD) : ED := fun δ Q => t δ fun ds => ds.length ≤ sizeLine ∧ Q (.lst ds)
theorem d_tup {x1} (h : PAd X es t) : PD X (.Tuple es x1 pos) (vTup t) :=
  ⟨(pe_tup h.pa).imp fun σ H Q ⟨δ, r, q⟩ => ⟨δ, r, h.mono _ _ _ (fun ds ⟨hl, k⟩ vs H1 s1 dvs => ⟨by rw [dvs.length]; exact hl, fun p hp => k _ _ (s1.trans (same_upd hp)) (.tup (SqT.of upd_same) (dvs.same (same_upd hp)))⟩) q⟩,
   fun δ P P' g q => h.mono _ _ _ (fun ds ⟨hl, k⟩ => ⟨hl, g _ k⟩) q⟩
theorem d_lst (h : PAd X es t) : PD X (.List es pos) (vLst t) :=
  ⟨(pe_lst h.pa).imp fun σ H Q ⟨δ, r, q⟩ => ⟨δ, r, h.mono _ _ _ (fun ds ⟨hl, k⟩ vs H1 s1 dvs => ⟨by rw [dvs.length]; exact hl, fun p hp => k _ _ (s1.trans (same_upd hp)) (.lst (SqL.of upd_same) (dvs.same (same_upd hp)))⟩) q⟩,
   fun δ P P' g q => h.mono _ _ _ (fun ds ⟨hl, k⟩ => ⟨hl, g _ k⟩) q⟩
def constD : Expr → Option D
  | .Constant (.str x) _ _ => some (.str x)
  | .Constant (.int i) _ _ => some (.int i)
  | .Constant (.bool b) _ _ => some (.bl b)
  | .Constant .none _ _ => some .non
  | .UnaryOp .USub (.Constant (.int i) _ _) _ => some (.int (-i))
  | _ => none
def constDs : List Expr → List D
  | [] => []
  | e :: es => (constD e).getD .non :: constDs es
def aVals (ds : List D) : AD := fun _ Q => Q ds
theorem a_ck : ∀ {es : List Expr} (_ : es.all (fun e => (constD e).isSome) = true), PAd X es (aVals (constDs es))
  | [], _ => ⟨a_nil.pa, fun δ P P' g h => g _ h⟩
  | e :: es, h => by
    rw [List.all_cons, Bool.and_eq_true] at h
    have ih := a_ck h.2
    obtain ⟨v, hv⟩ := Option.isSome_iff_exists.mp h.1
    have e1 : constDs (e :: es) = v :: constDs es := by
      show (constD e).getD .non :: constDs es = _
      rw [hv]
      rfl
    rw [e1]
    refine ⟨?_, fun δ P P' g h => g _ h⟩
    have one : PAd X (e :: es) (aCons (vC v) (aVals (constDs es))) := by
      unfold constD at hv
      split at hv
      · cases hv; exact a_cons d_str ih rfl
      · cases hv; exact a_cons d_int ih rfl
      · cases hv; exact a_cons d_bl ih rfl
      · cases hv; exact a_cons d_non ih rfl
      · cases hv
        refine a_cons ⟨(d_neg d_int).pe.imp ?_, fun δ P P' g h => g _ h⟩ ih rfl
        exact fun σ H Q ⟨δ, r, q⟩ => ⟨δ, r, _, rfl, q⟩
      · cases hv
    exact one.pa
def fIx : F2 := fun d e Q => match d, e with
  | .lst xs, .int i => ∃ r, atI xs i = some r ∧ Q r
  | .tup xs, .int i => ∃ r, atI xs i = some r ∧ Q r
  | .str z, .int i => z.length ≤ sizeLine ∧ ∃ c, atI z.cps.toList i = some c ∧ Q (.str ⟨#[c]⟩)
  | _, _ => False
theorem m_ix : MonoF fIx := by
  intro d e P P' f h
  unfold fIx at h ⊢
  split at h
  · obtain ⟨r, hr, q⟩ := h; exact ⟨r, hr, f _ q⟩
  · obtain ⟨r, hr, q⟩ := h; exact ⟨r, hr, f _ q⟩
  · obtain ⟨hz, r, hr, q⟩ := h; exact ⟨hz, r, hr, f _ q⟩
  · exact h.elim
theorem Dvs.atI {K : PySem.W.Frag} {H : Hp} {vs : List V} {ds : List D} {i : Int} {d : D} (h : Dvs K H vs ds) (e : L2.atI ds i = some d) : ∃ v, L2.atI vs i = some v ∧ Dv K H v d := by
  unfold L2.atI at e ⊢
  rw [h.length]
  cases q : ixN ds.length i with
  | none => rw [q] at e; cases e
  | some j =>
    rw [q] at e
    exact h.get e
theorem does_ix {K : PySem.W.Frag} : Does K (rIx K) fIx := by
  intro H x y d e Q hx hy h
  cases hy with
  | int i => cases hx with
    | lst h1 h2 =>
      obtain ⟨r, hr, q⟩ := h
      obtain ⟨v, hv, dv⟩ := h2.atI hr
      exact .inl ⟨_, _, i, v, rfl, rfl, h1, hv, q _ H (Same.refl _) dv⟩
    | tup h1 h2 =>
      obtain ⟨r, hr, q⟩ := h
      obtain ⟨v, hv, dv⟩ := h2.atI hr
      exact .inr (.inl ⟨_, _, i, v, rfl, rfl, h1, hv, q _ H (Same.refl _) dv⟩)
    | str z =>
      obtain ⟨hz, c, hc, q⟩ := h
      exact .inr (.inr ⟨z, i, c, rfl, rfl, hz, hc, q _ H (Same.refl _) (.str _)⟩)
    | _ => exact h.elim
  | _ => cases hx <;> exact h.elim
def vIx : ED → ED → ED := vOp fIx
theorem d_ix (ha : PD X a ta) (hb : PD X b tb) (hs : PlainIx b) : PD X (.Subscript a b pos) (vIx ta tb) := d_bin (t := oE X.K ta) (pe_ix ix_seq ha.pe hb.pe hs) ha.mono hb.mono does_ix m_ix
def cutD (xs : List D) (lo hi : Option Int) : List D := (xs.drop (HT.sIx xs.length 0 lo)).take (HT.sIx xs.length xs.length hi - HT.sIx xs.length 0 lo)
theorem Dvs.cut {K : PySem.W.Frag} {H : Hp} {vs : List V} {ds : List D} (h : Dvs K H vs ds) (lo hi : Option Int) : Dvs K H (cutV vs lo hi) (cutD ds lo hi) := by
  unfold cutV cutD
  rw [h.length]
  exact (h.drop _).take _
def fSl (d : D) (lo hi : Option Int) (Q : D → Prop) : Prop := match d with
  | .lst xs => Q (.lst (cutD xs lo hi))
  | .tup xs => ¬ (HT.sIx xs.length 0 lo = 0 ∧ HT.sIx xs.length xs.length hi = xs.length) ∧ Q (.tup (cutD xs lo hi))
  | .str z => z.length ≤ sizeLine ∧ Q (.str (Txt.slice z lo hi))
  | _ => False
theorem m_sl {d : D} {lo hi : Option Int} {P P' : D → Prop} (f : ∀ r, P r → P' r) (h : fSl d lo hi P) : fSl d lo hi P' := by
  unfold fSl at h ⊢
  split at h
  · exact f _ h
  · exact ⟨h.1, f _ h.2⟩
  · exact ⟨h.1, f _ h.2⟩
  · exact h.elim
theorem sl_U : SlR X (fun x lo hi H Q => rSlL X.K x lo hi H Q ∨ rSlT X.K x lo hi H Q ∨ ∃ z, x = .str z ∧ z.length ≤ sizeLine ∧ Q (.str (Txt.slice z lo hi)) H) := sl_list.or (sl_tup.or sl_str)
abbrev OD := SD → (Option Int → Prop) → Prop
structure POd (X : Cx) (e : Option Expr) (t : OD) : Prop where
  po : PO X e (fun σ H Q => ∃ δ, RelS X.K H σ δ ∧ t δ fun o => ∀ H', Same H H' → Q o H')
  mono : ∀ δ (P P' : Option Int → Prop), (∀ d, P d → P' d) → t δ P → t δ P'
def oNone : OD := fun _ Q => Q none
def oSome (t : ED) : OD := fun δ Q => t δ fun d => ∃ i, d = .int i ∧ Q (some i)
theorem PO.imp {e : Option Expr} {t t' : TO} (h : PO X e t) (f : ∀ σ H Q, t' σ H Q → t σ H Q) : PO X e t' := fun pins s σ H Q I q => h pins s σ H Q I (f σ H Q q)
theorem o_none : POd X none oNone := ⟨PO.imp po_none fun σ H Q ⟨δ, r, h⟩ => h H (Same.refl _), fun δ P P' g h => g _ h⟩
theorem o_some (h : PD X e ta) : POd X (some e) (oSome ta) :=
  ⟨PO.imp (po_some h.pe) fun σ H Q ⟨δ, r, q⟩ => ⟨δ, r, h.mono _ _ _ (fun d ⟨i, ed, k⟩ v H1 s1 dv => by subst ed; cases dv; exact ⟨i, rfl, k H1 s1⟩) q⟩, fun δ P P' g q => h.mono _ _ _ (fun d ⟨i, ed, k⟩ => ⟨i, ed, g _ k⟩) q⟩
def vSl (ta : ED) (tl th : OD) : ED := fun δ Q => ta δ fun d => tl δ fun lo => th δ fun hi => fSl d lo hi Q
theorem d_slice {lo hi : Option Expr} {tl th : OD} {p2 : Pos} (he : PD X e ta) (hl : POd X lo tl) (hh : POd X hi th) : PD X (.Subscript e (.Slice lo hi none p2) pos) (vSl ta tl th) := by
  refine ⟨(pe_slice sl_U he.pe hl.po hh.po).imp fun σ H Q ⟨δ, r, h⟩ => ⟨δ, r, he.mono _ _ _ (fun d h1 v H1 s1 dv => ⟨δ, r.same s1, hl.mono _ _ _ (fun lo h2 H2 s2 => ⟨δ, r.same (s1.trans s2), hh.mono _ _ _ (fun hi h3 H3 s3 => ?_) h2⟩) h1⟩) h⟩,
    fun δ P P' g h => he.mono _ _ _ (fun d h1 => hl.mono _ _ _ (fun lo h2 => hh.mono _ _ _ (fun hi h3 => m_sl g h3) h2) h1) h⟩
  have s := s1.trans (s2.trans s3)
  have dv3 := dv.same (s2.trans s3)
  clear h1 h2 dv
  cases dv3 with
  | lst h1 h2 => exact .inl ⟨_, _, rfl, h1, fun p hp => h3 _ _ (s.trans (same_upd hp)) (.lst (SqL.of upd_same) ((h2.cut lo hi).same (same_upd hp)))⟩
  | tup h1 h2 => exact .inr (.inl ⟨_, _, rfl, h1, by rw [h2.length]; exact h3.1, fun p hp => h3.2 _ _ (s.trans (same_upd hp)) (.tup (SqT.of upd_same) ((h2.cut lo hi).same (same_upd hp)))⟩)
  | str z => exact .inr (.inr ⟨z, rfl, h3.1, h3.2 _ H3 s (.str _)⟩)
  | _ => exact h3.elim
abbrev SpD := List D → (D → Prop) → Prop
abbrev MonoS (sd : SpD) : Prop := ∀ ds (P P' : D → Prop), (∀ d, P d → P' d) → sd ds P → sd ds P'
def spOf (K : PySem.W.Frag) (sd : SpD) : Sp := fun vs H Q _ => ∃ ds, Dvs K H vs ds ∧ sd ds (kD K H Q)
def vCall (sd : SpD) (t : AD) : ED := fun δ Q => t δ fun ds => sd ds Q
theorem d_call {k : Nat} {f : Addr} {fd : FuncData} {ps : List Str} {x : Str} {p : Pos} {sd : SpD} (F : FnOk X.prog X.w X.K X.mg X.base CX0 k f fd ps (spOf X.K sd)) (ms : MonoS sd) (hr : Room k X.A) (hg : Gl X x) (hm : X.mg x = some (.ref f))
    (hk : PySem.W.keepIn X.K (.ref f) = true) (hb : Binds X.K fd ps []) (ha : PAd X (e :: es) t) (hdb : (x == ("__debug__" : Str)) = false := by decide)
    (hp : PE X (.Call (.Name x p) (e :: es) [] pos) (tCall (spOf X.K sd) [] E0 (oA X.K t)) := by exact pe_call F hr hg hm hk hb .nil pass0 ha.pa) : PD X (.Call (.Name x p) (e :: es) [] pos) (vCall sd t) :=
  ⟨hp.imp fun σ H Q ⟨δ, r, h⟩ => ⟨δ, r, ha.mono _ _ _ (fun ds h1 vs H1 s1 dvs => ⟨ds, by rw [List.append_nil]; exact dvs, ms _ _ _ (fun d k => k.on s1) h1⟩) h⟩, fun δ P P' g h => ha.mono _ _ _ (fun ds h1 => ms _ _ _ g h1) h⟩
def vB (sd : SpD) (t : AD) : ED := fun δ Q => t δ fun ds => sd ds Q
def DoesB (K : PySem.W.Frag) (r : List V → Hp → VK → Prop) (sd : SpD) : Prop := ∀ H vs ds Q, Dvs K H vs ds → sd ds (kD K H Q) → r vs H Q
theorem d_cb {r : List V → Hp → VK → Prop} {sd : SpD} (hp : PE X e (tCB r (oA X.K t))) (ha : MonoA t) (hd : DoesB X.K r sd) (ms : MonoS sd) : PD X e (vB sd t) :=
  ⟨hp.imp fun σ H Q ⟨δ, r, h⟩ => ⟨δ, r, ha _ _ _ (fun ds h1 vs H1 s1 dvs => hd H1 vs ds Q dvs (ms _ _ _ (fun d k => k.on s1) h1)) h⟩, fun δ P P' g h => ha _ _ _ (fun ds h1 => ms _ _ _ g h1) h⟩
end
end DC

set_option maxHeartbeats 4000000
namespace DC
open PySem PySem.Spec PyProof.Rows L2
structure EndsD where
  nx : SD → Prop
  rt : D → Prop
  bk : SD → Prop := fun _ => False
  ct : SD → Prop := fun _ => False
abbrev TSD := EndsD → SD → Prop
structure EndsD.Le (E E' : EndsD) : Prop where
  nx : ∀ δ, E.nx δ → E'.nx δ
  rt : ∀ d, E.rt d → E'.rt d
  bk : ∀ δ, E.bk δ → E'.bk δ
  ct : ∀ δ, E.ct δ → E'.ct δ
abbrev MonoQ (t : TSD) : Prop := ∀ E E' δ, EndsD.Le E E' → t E δ → t E' δ
def kS (K : PySem.W.Frag) (H : Hp) (Q : L2.St → Hp → Prop) : SD → Prop := fun δ => ∀ σ H', Same H H' → RelS K H' σ δ → Q σ H'
def endsOf (K : PySem.W.Frag) (H : Hp) (D : Ends) : EndsD := ⟨kS K H D.nx, kD K H D.rt, kS K H D.bk, kS K H D.ct⟩
theorem kS.on {K : PySem.W.Frag} {H H1 : Hp} {Q : L2.St → Hp → Prop} {δ : SD} (s : Same H H1) (h : kS K H Q δ) : kS K H1 Q δ := fun σ H' s' r => h σ H' (s.trans s') r
theorem ends_on {K : PySem.W.Frag} {H H1 : Hp} {D : Ends} (s : Same H H1) : EndsD.Le (endsOf K H D) (endsOf K H1 D) := ⟨fun _ h => h.on s, fun _ h => h.on s, fun _ h => h.on s, fun _ h => h.on s⟩
def oS (K : PySem.W.Frag) (t : TSD) : TS := fun D σ H => ∃ δ, RelS K H σ δ ∧ t (endsOf K H D) δ
structure PSd (X : Cx) (st : Stmt) (t : TSD) : Prop where
  ps : PS X st (oS X.K t)
  mono : MonoQ t
structure PSsd (X : Cx) (st : List Stmt) (t : TSD) : Prop where
  ps : PSs X st (oS X.K t)
  mono : MonoQ t
section
variable {X : Cx} {st : Stmt} {rest body els : List Stmt} {t u : TSD} {e c : Expr} {te : ED} {uc : TD} {pos : Pos}
theorem PS.imp {t t' : TS} (h : PS X st t) (f : ∀ D σ H, t' D σ H → t D σ H) : PS X st t' := fun pins s σ H D I q => h pins s σ H D I (f D σ H q)
theorem PSs.imp {t t' : TS} (h : PSs X rest t) (f : ∀ D σ H, t' D σ H → t D σ H) : PSs X rest t' := fun pins s σ H D I q => h pins s σ H D I (f D σ H q)
def qNext : TSD := fun E δ => E.nx δ
def qSeq (t u : TSD) : TSD := fun E δ => t { E with nx := u E } δ
theorem ss_nil : PSsd X [] qNext := ⟨PSs.imp pss_nil fun D σ H ⟨δ, r, h⟩ => h σ H (Same.refl _) r, fun E E' δ l h => l.nx _ h⟩
theorem ss_cons (h1 : PSd X st t) (h2 : PSsd X rest u) : PSsd X (st :: rest) (qSeq t u) :=
  ⟨PSs.imp (pss_cons h1.ps h2.ps) fun D σ H ⟨δ, r, h⟩ => ⟨δ, r, h1.mono { endsOf X.K H D with nx := u (endsOf X.K H D) } _ _ ⟨fun δ' q σ' H' s' r' => ⟨δ', r', h2.mono _ _ _ (ends_on s') q⟩, fun _ q => q, fun _ q => q, fun _ q => q⟩ h⟩,
   fun E E' δ l h => h1.mono { E with nx := u E } _ _ ⟨fun δ' q => h2.mono _ _ _ l q, l.rt, l.bk, l.ct⟩ h⟩
theorem ss_one (h1 : PSd X st t) : PSsd X [st] t := ⟨pss_one h1.ps, h1.mono⟩
def qRet (te : ED) : TSD := fun E δ => te δ E.rt
theorem s_ret (he : PD X e te) : PSd X (.Return (some e) pos) (qRet te) := ⟨PS.imp (ps_ret he.pe) fun D σ H ⟨δ, r, h⟩ => ⟨δ, r, h⟩, fun E E' δ l h => he.mono _ _ _ l.rt h⟩
def qSet (i : Nat) (te : ED) : TSD := fun E δ => te δ fun d => E.nx (δ.set i (some d))
theorem s_set {i : Nat} {x : Str} {pos' : Pos} (hN : X.N.Nodup) (hi : X.N[i]? = some x) (hx : Loc X.env.scope x) (he : PD X e te) (hs : swapsWith e (some (.Name x pos')) pos.line X.env = pure false := by rfl)
    (hf : X.fn x = true ∨ X.env.scope.names.lookup x = some .local := by first | exact .inl rfl | exact .inr rfl | assumption) : PSd X (.Assign [.Name x pos'] e pos) (qSet i te) :=
  ⟨PS.imp (ps_set hN hi hx he.pe hs hf) fun D σ H ⟨δ, r, h⟩ => ⟨δ, r, he.mono _ _ _ (fun d q v H1 s1 dv => q _ H1 s1 ((r.same s1).set i dv)) h⟩, fun E E' δ l h => he.mono _ _ _ (fun d q => l.nx _ q) h⟩
def qIf (uc : TD) (t u : TSD) : TSD := fun E δ => uc δ fun b => if b = true then t E δ else u E δ
theorem s_if (hc : PTd X c uc) (ha : PSsd X body t) (hb : PSsd X els u) : PSd X (.If c body els pos) (qIf uc t u) := by
  refine ⟨PS.imp (ps_if hc.pt ha.ps hb.ps) fun D σ H ⟨δ, r, h⟩ => ⟨δ, r, hc.mono _ _ _ (fun k q H1 s1 => ?_) h⟩, fun E E' δ l h => hc.mono _ _ _ (fun k q => ?_) h⟩
  · cases k with
    | true => rw [if_pos rfl] at q ⊢; exact ⟨δ, r.same s1, ha.mono _ _ _ (ends_on s1) q⟩
    | false => rw [if_neg Bool.false_ne_true] at q ⊢; exact ⟨δ, r.same s1, hb.mono _ _ _ (ends_on s1) q⟩
  · cases k with
    | true => rw [if_pos rfl] at q ⊢; exact ha.mono _ _ _ l q
    | false => rw [if_neg Bool.false_ne_true] at q ⊢; exact hb.mono _ _ _ l q
def qNever : TSD := fun _ _ => False
theorem s_never : PSd X st qNever := ⟨PS.imp ps_never fun D σ H ⟨δ, r, h⟩ => h, fun E E' δ l h => h⟩
theorem ss_never : PSsd X rest qNever := ⟨PSs.imp pss_never fun D σ H ⟨δ, r, h⟩ => h, fun E E' δ l h => h⟩
end
def startD (N : List Str) (ds : List D) : SD := ds.map some ++ List.replicate (N.length - ds.length) none
theorem start_rel {K : PySem.W.Frag} {H : Hp} {N : List Str} {vs : List V} {ds : List D} (h : Dvs K H vs ds) : RelS K H (L2.start N vs) (startD N ds) := by
  unfold L2.start startD
  have hl := h.length
  refine ⟨by rw [List.length_append, List.length_append, List.length_map, List.length_map, List.length_replicate, List.length_replicate, hl], fun i d e => ?_⟩
  by_cases hi : i < ds.length
  · rw [List.getElem?_append_left (by rw [List.length_map]; exact hi), List.getElem?_map] at e
    cases q : ds[i]? with
    | none => rw [q] at e; cases e
    | some d' =>
      rw [q] at e
      cases e
      obtain ⟨v, hv, dv⟩ := h.get q
      exact ⟨v, by rw [List.getElem?_append_left (by rw [List.length_map]; omega), List.getElem?_map, hv]; rfl, dv⟩
  · rw [List.getElem?_append_right (by rw [List.length_map]; omega), List.getElem?_replicate] at e
    split at e <;> cases e
section
variable {P : Program} {w : World} {K : PySem.W.Frag} {mg : Str → Option Value} {base : Heap}
abbrev Bx (P : Program) (w : World) (K : PySem.W.Frag) (mg : Str → Option Value) (base : Heap) (N : List Str) (qual : Str) (st : Stmt) (f : Addr) (cdv : Value) (A : Around) (outer : List Env) (s : Shared) (H : Hp) (E : XK) : Cx := (cxOf CX0 P w K mg base N qual (defScope st) f cdv A outer s H E).nox
theorem okD {x qual : Str} {st : Stmt} {f : Addr} {fd : FuncData} {N ps : List Str} {k : Nat} {sd : SpD} {t : TSD} (F : Fun K x qual st f fd) (S : FnScope N ps (defScope st)) (len : ∀ ds Q, sd ds Q → ds.length = ps.length)
    (hb : ∀ (cdv : Value) (A : Around) (outer : List Env) (s : Shared) (H : Hp) (E : XK), Room k (A.deeper (envOfC qual (defScope st) s.heap.objs.size f cdv)) → PSsd (Bx P w K mg base N qual st f cdv A outer s H E) (defBody st) t)
    (hr : ∀ ds Q, sd ds Q → t { nx := fun _ => Q .non, rt := Q } (startD N ds)) : FnOk P w K mg base CX0 (k + 1) f fd ps (spOf K sd) := by
  refine F.ok S (fun vs H Q E ⟨ds, dvs, h⟩ => by rw [dvs.length]; exact len ds _ h) (fun cdv A outer s H vs Q E hroom ⟨ds, dvs, h⟩ => ?_)
  have B := hb cdv A outer s H E hroom
  refine ⟨_, B.ps, startD N ds, start_rel dvs, ?_⟩
  refine B.mono { nx := fun _ => kD K H Q .non, rt := kD K H Q } _ _ ⟨fun δ q σ H' s' r => q _ H' s' .non, fun d q => q, fun _ q => q.elim, fun _ q => q.elim⟩ (hr ds _ h)
end
end DC

set_option maxHeartbeats 4000000
namespace DC
open PySem PySem.Spec PyProof.Rows L2
structure ItD (K : PySem.W.Frag) (J : It) (H1 : Hp) (ds : List D) : Prop where
  go : ∀ i H', Same H1 H' → i < ds.length → J.go i H'
  stop : ∀ H', Same H1 H' → J.stop ds.length H'
  yld : ∀ i H' x H'', Same H1 H' → i < ds.length → J.yld i H' x H'' → Same H' H'' ∧ ∃ d, ds[i]? = some d ∧ ∃ Hx, Same H1 Hx ∧ Dv K Hx x d ∧ (∀ a o, Hx a = some o → H1 a = some o ∨ H' a = none) ∧ Same Hx H''
structure PId (X : Cx) (tg iter : Expr) (ti : AD) : Prop where
  pi : PI X tg iter (fun σ H R => ∃ δ, RelS X.K H σ δ ∧ ti δ fun ds => ∀ J H1, Same H H1 → ItD X.K J H1 ds → R J H1)
  mono : MonoA ti
def itemsD : D → Option (List D)
  | .lst xs => some xs
  | .tup xs => some xs
  | .str y => some (y.cps.toList.map fun c => .str ⟨#[c]⟩)
  | _ => none
def aItems (te : ED) : AD := fun δ Q => te δ fun d => ∃ ds, itemsD d = some ds ∧ Q ds
section
variable {X : Cx} {tg : Expr} {l : Expr} {te : ED}
theorem PI.imp {wi wi' : TI} (h : PI X tg l wi) (f : ∀ σ H R, wi' σ H R → wi σ H R) : PI X tg l wi' := fun pins s σ H R I q => h pins s σ H R I (f σ H R q)
theorem pi_any {tl : TE} (hl : PE X l tl) : PI X tg l (fun σ H R => tl σ H fun x H1 => (∃ a, x = .ref a ∧ (∃ xs, SqL X.K H1 a xs) ∧ R (Itl X.K a) H1) ∨ (∃ a, x = .ref a ∧ (∃ xs, SqT X.K H1 a xs) ∧ R (Itt X.K a) H1) ∨ ∃ y, x = .str y ∧ R (Its y) H1) := by
  intro pins s σ H R I h
  refine thn (hl pins s σ H _ I h) fun v s1 ⟨x, H1, I1, r1, q1⟩ => ?_
  have hf : ∀ b ∈ [s1.heap.objs.size], FpOk X pins H1 b := fun b hb => by
    have e : b = s1.heap.objs.size := by simpa using hb
    subst e
    exact I1.fpOk (Nat.le_refl _) (I1.hok.fresh (Nat.le_refl _))
  rcases q1 with ⟨a, e, ⟨xs, hq⟩, q⟩ | ⟨a, e, ⟨xs, hq⟩, q⟩ | ⟨y, e, q⟩
  · subst e
    cases (show v = Value.ref a from r1)
    obtain ⟨its, rv, p, hz⟩ := I1.list hq
    exact wpAny_pyIter_list p.isList ⟨s1.heap.objs.size, [s1.heap.objs.size], _, _, H1, rfl, I1.kept (t' := s1.toks) fun b o e => Heap.get?_push_of_some _ e, turn_list a _, ⟨_, Heap.get?_push_size _ rfl, rfl, rfl⟩, hf, q⟩
  · subst e
    cases (show v = Value.ref a from r1)
    obtain ⟨its, rv, p, hz⟩ := I1.tuple hq
    exact wpAny_pyIter_tuple (show s1.heap.IsTuple a its.toArray from p) ⟨s1.heap.objs.size, [s1.heap.objs.size], _, _, H1, rfl, I1.kept (t' := s1.toks) fun b o e => Heap.get?_push_of_some _ e, turn_tuple a _, ⟨_, Heap.get?_push_size _ rfl, rfl, rfl⟩, hf, q⟩
  · subst e
    obtain ⟨t, rfl⟩ := r1
    cases ha : y.cps.all (· < 128)
    · exact wpAny_pyIter_wide ha ⟨s1.heap.objs.size, [s1.heap.objs.size], _, _, H1, rfl, I1.kept (t' := s1.toks) fun b o e => Heap.get?_push_of_some _ e, turn_strW y t _, ⟨_, Heap.get?_push_size _ rfl, rfl, rfl⟩, hf, q⟩
    · exact wpAny_pyIter_ascii ha ⟨s1.heap.objs.size, [s1.heap.objs.size], _, _, H1, rfl, I1.kept (t' := s1.toks) fun b o e => Heap.get?_push_of_some _ e, turn_strA y t _, ⟨_, Heap.get?_push_size _ rfl, rfl, rfl⟩, hf, q⟩
theorem i_any (he : PD X l te) : PId X tg l (aItems te) := by
  refine ⟨PI.imp (pi_any he.pe) fun σ H R ⟨δ, r, h⟩ => ⟨δ, r, he.mono _ _ _ (fun d ⟨ds, e, q⟩ v H1 s1 dv => ?_) h⟩, fun δ P P' g h => he.mono _ _ _ (fun d ⟨ds, e, q⟩ => ⟨ds, e, g _ q⟩) h⟩
  cases dv with
  | lst h1 h2 =>
    cases e
    refine .inl ⟨_, rfl, ⟨_, h1⟩, q _ H1 s1 ⟨fun i H' s' hi => ?_, fun H' s' => ⟨_, s'.seq h1, by rw [h2.length]; exact Nat.le_refl _⟩, fun i H' x H'' s' hi y => ?_⟩⟩
    · obtain ⟨v, hv, _⟩ := h2.get (List.getElem?_eq_getElem hi)
      exact ⟨_, v, s'.seq h1, hv⟩
    · obtain ⟨rfl, y2⟩ := y
      obtain ⟨d, hd, dv⟩ := h2.getV (y2 _ (s'.seq h1))
      exact ⟨Same.refl _, d, hd, H1, Same.refl _, dv, fun _ _ z => .inl z, s'⟩
  | tup h1 h2 =>
    cases e
    refine .inr (.inl ⟨_, rfl, ⟨_, h1⟩, q _ H1 s1 ⟨fun i H' s' hi => ?_, fun H' s' => ⟨_, sameT s' h1, by rw [h2.length]; exact Nat.le_refl _⟩, fun i H' x H'' s' hi y => ?_⟩⟩)
    · obtain ⟨v, hv, _⟩ := h2.get (List.getElem?_eq_getElem hi)
      exact ⟨_, v, sameT s' h1, hv⟩
    · obtain ⟨rfl, y2⟩ := y
      obtain ⟨d, hd, dv⟩ := h2.getV (y2 _ (sameT s' h1))
      exact ⟨Same.refl _, d, hd, H1, Same.refl _, dv, fun _ _ z => .inl z, s'⟩
  | str y =>
    cases e
    refine .inr (.inr ⟨_, rfl, q _ H1 s1 ⟨fun i H' s' hi => ?_, fun H' s' => ?_, fun i H' x H'' s' hi y => ?_⟩⟩)
    · have hi' : i < y.cps.size := by simpa using hi
      exact hi'
    · show y.cps.size ≤ _
      simp
    · obtain ⟨rfl, c, hc, rfl⟩ := y
      refine ⟨Same.refl _, .str ⟨#[c]⟩, ?_, H1, Same.refl _, .str _, fun _ _ z => .inl z, s'⟩
      rw [List.getElem?_map, Array.getElem?_toList, hc]
      rfl
  | _ => cases e
def aRange1 (t : AD) : AD := fun δ Q => t δ fun ds => ∃ n : Int, ds = [.int n] ∧ -(2 ^ 62) ≤ n ∧ n < 2 ^ 62 ∧ Q ((List.range n.toNat).map fun i : Nat => .int (0 + (i : Int)))
theorem it_range {K : PySem.W.Frag} {H : Hp} (lo : Int) (n : Nat) : ItD K (Itr lo n) H ((List.range n).map fun i : Nat => .int (lo + (i : Int))) := by
  refine ⟨fun i H' s' hi => ?_, fun H' s' => ?_, fun i H' x H'' s' hi y => ?_⟩
  · have hi' : i < n := by simpa using hi
    exact hi'
  · show n ≤ _
    simp
  · obtain ⟨rfl, rfl⟩ := y
    have hi' : i < n := by simpa using hi
    exact ⟨Same.refl _, .int (lo + i), by rw [List.getElem?_map, List.getElem?_range hi']; rfl, H, Same.refl _, .int _, fun _ _ z => .inl z, s'⟩
theorem i_range1 {a : Expr} {ta : AD} {p pos : Pos} (hg : Gl X "range") (hm : X.mg "range" = none) (ha : PAd X [a] ta) (hs : starEach [a] X.env = [(false, eval a X.env)] := by rfl) : PId X tg (.Call (.Name "range" p) [a] [] pos) (aRange1 ta) := by
  refine ⟨PI.imp (pi_range1 hg hm ha.pa hs) fun σ H R ⟨δ, r, h⟩ => ⟨δ, r, ha.mono _ _ _ (fun ds ⟨n, e, h1, h2, q⟩ vs H1 s1 dvs => ?_) h⟩, fun δ P P' g h => ha.mono _ _ _ (fun ds ⟨n, e, h1, h2, q⟩ => ⟨n, e, h1, h2, g _ q⟩) h⟩
  subst e
  cases dvs with
  | cons a b =>
    cases a
    cases b
    exact ⟨n, rfl, h1, h2, q _ H1 s1 (it_range 0 n.toNat)⟩
end
abbrev TGD := D → SD → (SD → Prop) → Prop
structure PGd (X : Cx) (tg : Expr) (g : TGD) : Prop where
  pg : PG X tg (fun v σ H Q => ∃ d δ, Dv X.K H v d ∧ RelS X.K H σ δ ∧ g d δ (kS X.K H Q))
  mono : ∀ d δ (P P' : SD → Prop), (∀ δ, P δ → P' δ) → g d δ P → g d δ P'
def hName (i : Nat) : TGD := fun d δ Q => Q (δ.set i (some d))
section
variable {X : Cx} {tg iter : Expr} {body : List Stmt} {ti : AD} {g : TGD} {tb : TSD} {pos : Pos}
theorem PG.imp {t t' : TG} (h : PG X tg t) (f : ∀ v σ H Q, t' v σ H Q → t v σ H Q) : PG X tg t' := fun pins s σ H v u Q I r q => h pins s σ H v u Q I r (f v σ H Q q)
theorem g_name {i : Nat} {x : Str} (hN : X.N.Nodup) (hi : X.N[i]? = some x) (hx : Loc X.env.scope x) (hf : X.fn x = true ∨ X.env.scope.names.lookup x = some .local := by first | exact .inl rfl | exact .inr rfl | assumption) : PGd X (.Name x pos) (hName i) :=
  ⟨PG.imp (pg_name hN hi hx hf) fun v σ H Q ⟨d, δ, dv, r, q⟩ => q _ H (Same.refl _) (r.set i dv), fun d δ P P' f q => f _ q⟩
def qFor (ti : AD) (g : TGD) (tb : TSD) : TSD := fun E δ => ti δ fun ds => ∃ inv : Nat → SD → Prop, inv 0 δ ∧
  (∀ i d δ', ds[i]? = some d → inv i δ' → g d δ' fun δ2 => tb { E with nx := inv (i + 1), ct := inv (i + 1), bk := E.nx } δ2) ∧ ∀ δ', inv ds.length δ' → E.nx δ'
theorem s_for (hp : PassesOwn (model X.prog X.w) X.A X.env X.xe) (hc : X.calm = true) (hi : PId X tg iter ti) (hg : PGd X tg g) (hb : PSsd X body tb) (hs : ∀ x, foldedSetIterable iter X.env x = pure x := by intro _; rfl) :
    PSd X (.For tg iter body [] pos) (qFor ti g tb) := by
  refine ⟨PS.imp (ps_for hp hc hi.pi hg.pg hb.ps hs) fun D σ H ⟨δ, r, h⟩ => ⟨δ, r, hi.mono _ _ _ (fun ds ⟨inv, i0, step, fin⟩ J H1 s1 it => ?_) h⟩, fun E E' δ l h => hi.mono _ _ _ (fun ds ⟨inv, i0, step, fin⟩ => ⟨inv, i0, fun i d δ' hd hin => hg.mono _ _ _ _ (fun δ2 q => hb.mono { E with nx := inv (i + 1), ct := inv (i + 1), bk := E.nx } _ _ ⟨fun _ q => q, l.rt, l.nx, fun _ q => q⟩ q) (step i d δ' hd hin), fun δ' q => l.nx _ (fin δ' q)⟩) h⟩
  refine ⟨fun i m σ' H' => m = ds.length - i ∧ i ≤ ds.length ∧ Same H1 H' ∧ ∃ δ', RelS X.K H' σ' δ' ∧ inv i δ', ⟨ds.length, rfl, Nat.zero_le _, Same.refl _, δ, r.same s1, i0⟩, ?_⟩
  rintro i m σ' H' ⟨rfl, hle, s', δ', r', hin⟩
  by_cases hlt : i < ds.length
  · refine .inr ⟨it.go i H' s' hlt, fun σ2 H2 => Same H1 H2 ∧ ∃ δ2, RelS X.K H2 σ2 δ2 ∧ inv (i + 1) δ2, fun σ2 H2 ⟨s2, δ2, r2, h2⟩ => ⟨ds.length - (i + 1), by omega, rfl, hlt, s2, δ2, r2, h2⟩, fun x H'' y => ?_⟩
    obtain ⟨s2, d, hd, Hx, _, dvx, _, sx⟩ := it.yld i H' x H'' s' hlt y
    have dv := dvx.same sx
    have sA := s'.trans s2
    refine ⟨d, δ', dv, r'.same s2, hg.mono _ _ _ _ (fun δ2 q σ3 H3 s3 r3 => ⟨δ2, r3, hb.mono { endsOf X.K H D with nx := inv (i + 1), ct := inv (i + 1), bk := (endsOf X.K H D).nx } _ _ ?_ q⟩) (step i d δ' hd hin)⟩
    have sB := s1.trans (sA.trans s3)
    exact ⟨fun δ3 q3 σ4 H4 s4 r4 => ⟨sA.trans (s3.trans s4), δ3, r4, q3⟩, fun _ q3 => q3.on sB, fun _ q3 => q3.on sB, fun δ3 q3 σ4 H4 s4 r4 => ⟨sA.trans (s3.trans s4), δ3, r4, q3⟩⟩
  · have e : i = ds.length := by omega
    subst e
    exact .inl ⟨it.stop H' s', fin δ' hin σ' H' (s1.trans s') r'⟩
end
end DC

set_option maxHeartbeats 4000000
namespace DC
open PySem PySem.Spec PyProof.Rows L2
structure PTsd (X : Cx) (ifs : List Expr) (t : TD) : Prop where
  pts : PTs X ifs (oT X.K t)
  mono : MonoT t
def uYes : TD := fun _ Q => Q true
section
variable {X : Cx} {c : Expr} {ut : TD}
theorem PTs.imp {ifs : List Expr} {t t' : TT} (h : PTs X ifs t) (f : ∀ σ H Q, t' σ H Q → t σ H Q) : PTs X ifs t' := fun pins s σ H Q I q => h pins s σ H Q I (f σ H Q q)
theorem ts_nil : PTsd X [] uYes := ⟨PTs.imp pts_nil fun σ H Q ⟨δ, r, h⟩ => h H (Same.refl _), fun δ P P' g h => g _ h⟩
theorem ts_one (h : PTd X c ut) : PTsd X [c] ut := ⟨pts_one h.pt, h.mono⟩
end
def capD (caps : List Nat) (δ : SD) : SD := caps.map fun j => (δ[j]?).getD none
def vComp (caps : List Nat) (ti : AD) (tt : TD) (te : ED) : ED := fun δ Q => ti δ fun ds => ∃ outs : List (Option D), outs.length = ds.length ∧
  (∀ (i : Nat) (d : D) (o : Option D), ds[i]? = some d → outs[i]? = some o → tt (some d :: capD caps δ) fun b => b = o.isSome ∧ (b = true → te (some d :: capD caps δ) fun y => o = some y)) ∧ ds.length < sizeLine ∧ Q (.lst (outs.filterMap id))
theorem outs_eq (p : D → Bool) (gg : D → D) : ∀ ds : List D, (ds.map fun d => if p d = true then some (gg d) else none).filterMap id = (ds.filter p).map gg
  | [] => rfl
  | d :: ds => by
    rw [List.map_cons, List.filter_cons]
    cases hp : p d with
    | true =>
      rw [if_pos rfl, if_pos rfl, List.map_cons, ← outs_eq p gg ds]
      rfl
    | false =>
      rw [if_neg Bool.false_ne_true, if_neg Bool.false_ne_true, ← outs_eq p gg ds]
      rfl
theorem cap_rel {K : PySem.W.Frag} {H : Hp} {σ : L2.St} {δ : SD} (r : RelS K H σ δ) {x : V} {d : D} (dv : Dv K H x d) (caps : List Nat) : RelS K H (some x :: caps.map fun j => (σ[j]?).getD none) (some d :: capD caps δ) := by
  refine ⟨by unfold capD; simp, fun i e h => ?_⟩
  cases i with
  | zero => simp at h; subst h; exact ⟨x, rfl, dv⟩
  | succ i =>
    unfold capD at h
    simp only [List.getElem?_cons_succ, List.getElem?_map] at h ⊢
    cases q : caps[i]? with
    | none => rw [q] at h; cases h
    | some j =>
      rw [q] at h
      have h' : (δ[j]?).getD none = some e := by simpa using h
      have h2 : δ[j]? = some (some e) := by
        cases z : δ[j]? with
        | none => rw [z] at h'; cases h'
        | some o => rw [z] at h'; exact congrArg some h'
      obtain ⟨v, hv, dv⟩ := r.get j e h2
      exact ⟨v, by simp [hv], dv⟩
theorem comp_imp {K : PySem.W.Frag} {caps : List Nat} {ti : AD} {tt : TD} {te : ED} (mi : MonoA ti) (mt : MonoT tt) (me : MonoE te) {σ : L2.St} {H : Hp} {Q : VK} (h : oE K (vComp caps ti tt te) σ H Q) :
    rComp 1 caps (fun σ H R => ∃ δ, RelS K H σ δ ∧ ti δ fun ds => ∀ J H1, Same H H1 → ItD K J H1 ds → R J H1) (gName 0) (uFrame (oT K tt)) (tFrame (oE K te)) σ H Q := by
  obtain ⟨δ, r, h⟩ := h
  refine ⟨δ, r, mi _ _ _ (fun ds ⟨outs, hol, each, hlen, q⟩ J H1 s1 it D hD => ?_) h⟩
  refine ⟨fun i m ys H' => m = ds.length - i ∧ i ≤ ds.length ∧ ∃ H0, H0 D = none ∧ Same H1 H0 ∧ Dvs K H0 ys ((outs.take i).filterMap id) ∧ H' = upd H0 D (.lst ys), ⟨ds.length, rfl, Nat.zero_le _, H1, hD, Same.refl _, .nil, rfl⟩, ?_⟩
  rintro i m ys H' ⟨rfl, hle, H0, h0, s0, dys, rfl⟩
  refine ⟨upd_same, ?_⟩
  have sU : Same H1 (upd H0 D (.lst ys)) := s0.trans (same_upd h0)
  by_cases hlt : i < ds.length
  · refine .inr ⟨it.go i _ sU hlt, fun x H'' y => ?_⟩
    obtain ⟨s2, d, hd, Hx, sx1, dvx, only, sx⟩ := it.yld i _ x H'' sU hlt y
    have hD2 : H'' D = some (.lst ys) := s2 _ _ upd_same
    have ne1 : ∀ a o, H1 a = some o → a ≠ D := fun a o z => ne_of_none z hD
    have nex : ∀ a o, Hx a = some o → a ≠ D := fun a o z w => by
      rcases only a o z with z1 | z1
      · exact ne1 a o z1 w
      · rw [w, upd_same] at z1; cases z1
    have sd1 : Same H0 (del H'' D) := fun a o z => by
      rw [del_ne (ne_of_none z h0)]
      exact s2 a o (same_upd h0 a o z)
    have sdx : Same Hx (del H'' D) := fun a o z => by
      rw [del_ne (nex a o z)]
      exact sx a o z
    obtain ⟨o, ho⟩ : ∃ o, outs[i]? = some o := ⟨_, List.getElem?_eq_getElem (show i < outs.length by omega)⟩
    have rel : RelS K (del H'' D) (some x :: caps.map fun j => (σ[j]?).getD none) (some d :: capD caps δ) := cap_rel (r.same (s1.trans (s0.trans sd1))) (dvx.same sdx) caps
    refine ⟨Le.one, D, ys, hD2, _, rel, mt _ _ _ (fun b ⟨eb, hb⟩ H3 s3 h3 => ?_) (each i d o hd ho)⟩
    have ht : outs.take (i + 1) = outs.take i ++ [o] := by rw [List.take_succ, ho]; rfl
    have s03 : Same H0 H3 := sd1.trans s3
    cases b with
    | false =>
      refine iteF ?_
      refine ⟨ds.length - (i + 1), by omega, rfl, hlt, H3, h3, s0.trans s03, ?_, rfl⟩
      have on : o = none := by cases o with | none => rfl | some z => cases eb
      rw [ht, on, List.filterMap_append]
      simpa using dys.same s03
    | true =>
      refine iteT ?_
      refine ⟨D, ys, upd_same, ?_⟩
      rw [del_upd h3]
      refine ⟨_, rel.same s3, me _ _ _ (fun y ey v H4 s4 dv h4 => ⟨upd_same, ?_, ds.length - (i + 1), by omega, rfl, hlt, H4, h4, s0.trans (s03.trans s4), ?_, upd_upd⟩) (hb rfl)⟩
      · rw [dys.length]
        exact Nat.lt_of_le_of_lt (Nat.le_trans (List.length_filterMap_le _ _) (List.length_take_le' _ _)) (by rw [hol]; exact hlen)
      · rw [ht, ey, List.filterMap_append]
        exact (dys.same (s03.trans s4)).append (.cons dv .nil)
  · have e : i = ds.length := by omega
    subst e
    refine .inl ⟨it.stop _ sU, ?_⟩
    rw [← hol, List.take_length] at dys
    exact q _ _ (s1.trans sU) (.lst (SqL.of upd_same) (dys.same (same_upd h0)))
section
variable {X : Cx} {scope : Scope} {cl : List (Str × Addr)} {x : Str} {cn : List Str} {caps : List Nat} {elt tg iter : Expr} {ifs : List Expr} {ti : AD} {tt : TD} {te : ED} {pos : Pos}
theorem m_comp (mi : MonoA ti) : MonoE (vComp caps ti tt te) := fun δ P P' g h => mi _ _ _ (fun ds ⟨outs, hol, each, hlen, q⟩ => ⟨outs, hol, each, hlen, g _ q⟩) h
theorem d_comp (S : CompScope X scope cl [x] caps cn) (hc : X.calm = true) (hi : PId X tg iter ti) (hg : ∀ C fp s₂ H₂, PG (cxComp X scope cl C ([x] ++ cn) fp s₂ H₂) tg (gName 0)) (ht : ∀ C fp s₂ H₂, PTsd (cxComp X scope cl C ([x] ++ cn) fp s₂ H₂) ifs tt)
    (he : ∀ C fp s₂ H₂, PD (cxComp X scope cl C ([x] ++ cn) fp s₂ H₂) elt te) (mt : MonoT tt) (me : MonoE te) (hs : ∀ x, foldedSetIterable iter X.env x = pure x := by intro _; rfl) : PD X (.ListComp elt [⟨tg, iter, ifs, 0⟩] scope pos) (vComp caps ti tt te) :=
  ⟨(pe_comp S hc hi.pi hg (fun C fp s₂ H₂ => pts_frameN (ht C fp s₂ H₂).pts) (fun C fp s₂ H₂ => pe_frameN (he C fp s₂ H₂).pe) hs).imp fun σ H Q h => comp_imp hi.mono mt me h, m_comp hi.mono⟩
end
end DC

set_option maxHeartbeats 4000000
namespace DC
open PySem PySem.Spec PyProof.Rows L2
def kindD : D → Option String
  | .non => some "NoneType"
  | .bl _ => some "bool"
  | .int _ => some "int"
  | .str _ => some "str"
  | .lst _ => some "list"
  | .tup _ => some "tuple"
  | .dK _ => some "dict"
  | .dT _ => some "dict"
  | .obj _ _ => none
  | .adr _ => none
  | .exc _ _ _ => none
structure OwnTy (K : PySem.W.Frag) (C : Addr) : Prop where
  cl : Cls K C
  ha : PySem.W.findIn K (.ref C) "__class__" = some (some (.builtin "object.__class__"))
  hn : PySem.W.specialIn K (.builtin "object.__class__") "__get__" = some (some (.builtin "getset_descriptor.__get__"))
  htk : PySem.W.takesIn K (.builtin "object.__class__") = some true
  hm : PySem.W.mroIn K C (.type "object") = some true
inductive TyD (K : PySem.W.Frag) : D → Value → Prop
  | k {d : D} {T : String} (h : kindD d = some T) : TyD K d (.type T)
  | o {C : Addr} {gs : List (Str × D)} (h : OwnTy K C) : TyD K (.obj C gs) (.ref C)
section
variable {X : Cx} {pins : List (Addr × Obj)} {σ : L2.St} {H : Hp} {s : Shared}
theorem isi_run {x : V} {u t : Value} {d : D} (I : Inv X pins σ H s) (rx : RelV x u) (dv : Dv X.K H x d) (ty : TyD X.K d t) : ∃ Hh, PySem.W.KitX X.K u t Hh ∧ Hh s.heap ∧ u ≠ .builtin "__main__.__loader__#opaque" := by
  cases ty with
  | k h =>
    cases dv with
    | non => cases h; cases (show u = Value.none from rx); exact ⟨_, PySem.W.kitx_none, True.intro, fun z => nomatch z⟩
    | bl y => cases h; cases (show u = Value.bool y from rx); exact ⟨_, PySem.W.kitx_bool, True.intro, fun z => nomatch z⟩
    | int i => cases h; obtain ⟨t, q⟩ := (show ∃ t, u = Value.int i t from rx); cases q; exact ⟨_, PySem.W.kitx_int, True.intro, fun z => nomatch z⟩
    | str y => cases h; obtain ⟨t, q⟩ := (show ∃ t, u = Value.str y t from rx); cases q; exact ⟨_, PySem.W.kitx_str, True.intro, fun z => nomatch z⟩
    | @lst a xs ds h1 h2 =>
      cases h
      cases (show u = Value.ref a from rx)
      obtain ⟨its, _, pl, _⟩ := I.list h1
      obtain ⟨o, n, e1, e2, _⟩ := pl
      exact ⟨_, PySem.W.kitx_list, ⟨o, e1, e2⟩, fun z => nomatch z⟩
    | @tup a xs ds h1 h2 =>
      cases h
      cases (show u = Value.ref a from rx)
      obtain ⟨its, _, pl, _⟩ := I.tuple h1
      obtain ⟨o, n, e1, e2, _⟩ := IsTup.of_get pl
      exact ⟨_, PySem.W.kitx_tuple, ⟨o, e1, e2⟩, fun z => nomatch z⟩
    | @dK a kvs gs h1 h2 =>
      cases h
      cases (show u = Value.ref a from rx)
      obtain ⟨_, _, vs, _, p⟩ := (show ObjOk X.prog X.w H s.heap a (.dK kvs) from h1.ok I.hok)
      obtain ⟨o, es, ep, g1, g2, _⟩ := p
      exact ⟨_, PySem.W.kitx_dict, ⟨o, g1, g2.1⟩, fun z => nomatch z⟩
    | @dT a kvs gs h1 h2 =>
      cases h
      cases (show u = Value.ref a from rx)
      obtain ⟨_, _, xs, _, o, es, ep, g1, g2, _⟩ := (show ObjOk X.prog X.w H s.heap a (.dT kvs) from h1.ok I.hok)
      exact ⟨_, PySem.W.kitx_dict, ⟨o, g1, g2.1⟩, fun z => nomatch z⟩
    | obj h1 h2 => cases h
    | adr _ => cases h
    | exc _ _ _ => cases h
  | o h =>
    cases dv with
    | @obj a C dx fs gs h1 h2 =>
      cases (show u = Value.ref a from rx)
      obtain ⟨mA, O, _⟩ := ins_getR I.hok h1
      obtain ⟨od, J, _⟩ := O.look
      exact ⟨_, PySem.W.kitx_own (h.cl.get _) h.cl.hd h.ha h.hn h.htk h.hm, J, fun z => nomatch z⟩
end
section
variable {X : Cx} {e : Expr} {te : ED} {pos p p2 : Pos}
theorem call_isiD {c : Value} {vc : V} (rc : ∀ u, RelV vc u → u = c) : CallR X (.builtin "isinstance") (fun xs H Q => ∃ x d t b, xs = [x, vc] ∧ Dv X.K H x d ∧ TyD X.K d t ∧ PySem.W.kitOne X.K t c = some b ∧ Q (.bl b) H) := by
  intro pins s σ H xs us Q I r h
  obtain ⟨x, d, t, b, rfl, dv, ty, e, q⟩ := h
  obtain ⟨u, w', rfl, r1, r2⟩ := vals2 r
  obtain rfl := rc w' r2
  obtain ⟨Hh, Z, hh, hx⟩ := isi_run I r1 dv ty
  exact PySem.W.kia_one Z I.kIn hh e hx fun tk => ⟨.bl b, H, I.tok _, rfl, q⟩
def vIsi (K : PySem.W.Frag) (c : Value) (te : ED) : ED := fun δ Q => te δ fun d => ∃ t b, TyD K d t ∧ PySem.W.kitOne K t c = some b ∧ Q (.bl b)
theorem d_isi_of {c : Value} {vc : V} (he : PD X e te) {ec : Expr} (hp : PE X (.Call (.Name "isinstance" p) [e, ec] [] pos) (tCB (fun xs H Q => ∃ x d t b, xs = [x, vc] ∧ Dv X.K H x d ∧ TyD X.K d t ∧ PySem.W.kitOne X.K t c = some b ∧ Q (.bl b) H) (tCons (oE X.K te) (tCons (tC vc) tNil)))) :
    PD X (.Call (.Name "isinstance" p) [e, ec] [] pos) (vIsi X.K c te) :=
  ⟨hp.imp fun σ H Q ⟨δ, r, h⟩ => ⟨δ, r, he.mono _ _ _ (fun d ⟨t, b, ty, ek, k⟩ v H1 s1 dv => ⟨v, d, t, b, rfl, dv, ty, ek, k _ H1 s1 (.bl _)⟩) h⟩, fun δ P P' g h => he.mono _ _ _ (fun d ⟨t, b, ty, ek, k⟩ => ⟨t, b, ty, ek, g _ k⟩) h⟩
theorem d_isiT {T : String} {x : Str} (he : PD X e te) (hg : Gl X "isinstance") (hm : X.mg "isinstance" = none) (hg2 : Gl X x) (hm2 : X.mg x = none) (hv2 : bootBuiltins x = some (.type T)) (hn : x ≠ "__name__" := by decide) (hd : (x == ("__debug__" : Str)) = false := by decide)
    (hs : starEach [e, .Name x p2] X.env = (false, eval e X.env) :: starEach [.Name x p2] X.env := by rfl) : PD X (.Call (.Name "isinstance" p) [e, .Name x p2] [] pos) (vIsi X.K (.type T) te) :=
  d_isi_of (vc := .ty T) he (pe_callB (call_isiD fun u z => z) hg hm boot_isinstance (pa_cons he.pe (pa_cons (pe_bltn (v := .ty T) hg2 hm2 hv2 rfl hn hd) pa_nil) hs) (he := hs))
end
def isiT (T : String) (d : D) : Option Bool := (kindD d).map fun k => k == T || (k == "bool" && T == "int")
theorem kit_tbl {K : PySem.W.Frag} {d : D} {k T : String} (hk : kindD d = some k) (hT : T ∈ ["bool", "int", "str", "list", "tuple", "dict"]) : PySem.W.kitOne K (.type k) (.type T) = some (k == T || (k == "bool" && T == "int")) := by
  have hk' : k ∈ ["NoneType", "bool", "int", "str", "list", "tuple", "dict"] := by cases d <;> cases hk <;> simp
  simp only [List.mem_cons, List.not_mem_nil, or_false] at hk' hT
  rcases hk' with rfl | rfl | rfl | rfl | rfl | rfl | rfl <;> rcases hT with rfl | rfl | rfl | rfl | rfl | rfl <;> kernel_rfl
def vIsiT (T : String) (te : ED) : ED := fun δ Q => te δ fun d => ∃ b, isiT T d = some b ∧ Q (.bl b)
theorem PD.isiT {X : Cx} {e : Expr} {te : ED} {T : String} (h : PD X e (vIsi X.K (.type T) te)) (m : MonoE te) (hT : T ∈ ["bool", "int", "str", "list", "tuple", "dict"]) : PD X e (vIsiT T te) :=
  ⟨h.pe.imp fun σ H Q ⟨δ, r, q⟩ => ⟨δ, r, m _ _ _ (fun d ⟨b, eb, k⟩ => by
      unfold DC.isiT at eb
      cases hk : kindD d with
      | none => rw [hk] at eb; cases eb
      | some kk =>
        rw [hk] at eb
        have e1 : (kk == T || (kk == "bool" && T == "int")) = b := by simpa using eb
        exact ⟨_, b, .k hk, by rw [kit_tbl hk hT, e1], k⟩) q⟩, fun δ P P' g q => m _ _ _ (fun d ⟨b, eb, k⟩ => ⟨b, eb, g _ k⟩) q⟩
def lenD : D → Option Int
  | .str x => if x.length ≤ sizeLine then some x.length else none
  | .lst xs => some xs.length
  | .tup xs => some xs.length
  | _ => none
def sdLen : SpD := fun ds Q => ∃ d n, ds = [d] ∧ lenD d = some n ∧ Q (.int n)
theorem m_len : MonoS sdLen := fun ds P P' g ⟨d, n, e, h, q⟩ => ⟨d, n, e, h, g _ q⟩
theorem does_len {K : PySem.W.Frag} : DoesB K (fun xs H Q => ∃ x n, xs = [x] ∧ LenV K x H n ∧ Q (.int n) H) sdLen := by
  intro H vs ds Q dvs ⟨d, n, e, h, q⟩
  subst e
  cases dvs with
  | cons dv r =>
    cases r
    cases dv with
    | str x =>
      have h' : (if x.length ≤ sizeLine then some (x.length : Int) else none) = some n := h
      by_cases hz : x.length ≤ sizeLine
      · rw [if_pos hz] at h'
        cases h'
        exact ⟨_, x.length, rfl, ⟨hz, rfl⟩, q _ H (Same.refl _) (.int _)⟩
      · rw [if_neg hz] at h'
        cases h'
    | lst h1 h2 => cases h; exact ⟨_, _, rfl, .inl ⟨_, h1, rfl⟩, by rw [h2.length]; exact q _ H (Same.refl _) (.int _)⟩
    | tup h1 h2 => cases h; exact ⟨_, _, rfl, .inr ⟨_, h1, rfl⟩, by rw [h2.length]; exact q _ H (Same.refl _) (.int _)⟩
    | _ => cases h
section
variable {X : Cx} {e : Expr} {es : List Expr} {t : AD} {pos p : Pos}
theorem d_len (hg : Gl X "len") (hm : X.mg "len" = none) (ha : PAd X (e :: es) t) (h1 : starEach (e :: es) X.env = (false, eval e X.env) :: starEach es X.env := by rfl) (h2 : (backTo pos (starEach es X.env)).any (·.1) = false := by rfl) :
    PD X (.Call (.Name "len" p) (e :: es) [] pos) (vB sdLen t) := d_cb (pe_callB call_len hg hm PySem.boot_len ha.pa (he := h1) (hpl := h2)) ha.mono does_len m_len
theorem boot_boolT : bootBuiltins "bool" = some (.type "bool") := by decide +kernel
theorem boot_list : bootBuiltins "list" = some (.type "list") := by decide +kernel
theorem boot_allB : bootBuiltins "all" = some (.builtin "all") := by decide +kernel
def sdAll : SpD := fun ds Q => ∃ (bs : List Bool), ds = [.lst (bs.map D.bl)] ∧ Q (.bl (bs.all id))
theorem m_all : MonoS sdAll := fun ds P P' g ⟨bs, e, q⟩ => ⟨bs, e, g _ q⟩
theorem vals_bl {K : PySem.W.Frag} {H : Hp} : ∀ {vs : List V} {bs : List Bool}, Dvs K H vs (bs.map D.bl) → vs = bs.map V.bl
  | [], [], _ => rfl
  | _, _ :: _, .cons (.bl _) r => by rw [vals_bl r]; rfl
theorem does_all {K : PySem.W.Frag} {A : Around} (hh : A.handled = none) : DoesB K (fun xs H Q => ∃ (p : Addr) (bs : List Bool), xs = [.ref p] ∧ A.handled = none ∧ SqL K H p (bs.map V.bl) ∧ Q (.bl (bs.all id)) H) sdAll := by
  intro H vs ds Q dvs ⟨bs, e, q⟩
  subst e
  cases dvs with
  | cons dv r =>
    cases r
    cases dv with
    | lst h1 h2 =>
      rw [vals_bl h2] at h1
      exact ⟨_, bs, rfl, hh, h1, q _ H (Same.refl _) (.bl _)⟩
theorem d_all (hh : X.A.handled = none) (hg : Gl X "all") (hm : X.mg "all" = none) (ha : PAd X (e :: es) t) (h1 : starEach (e :: es) X.env = (false, eval e X.env) :: starEach es X.env := by rfl) (h2 : (backTo pos (starEach es X.env)).any (·.1) = false := by rfl) : PD X (.Call (.Name "all" p) (e :: es) [] pos) (vB sdAll t) := d_cb (pe_callB call_all hg hm boot_allB ha.pa (he := h1) (hpl := h2)) ha.mono (does_all hh) m_all
end
end DC

set_option maxHeartbeats 4000000
namespace DC
open PySem PySem.Spec PyProof.Rows L2
section
variable {X : Cx} {ok : Addr → Prop} {o e : Expr} {es : List Expr} {m : Str} {sd : Addr → SpD} {dd : List D} {ta : ED} {t : AD} {pos apos : Pos}
end
end DC

set_option maxHeartbeats 4000000
namespace DC
open PySem PySem.Spec PyProof.Rows L2
abbrev FD := List (Str × D)
section
variable {X : Cx} {C : Addr} {st : Stmt} {rest : List Stmt} {t u : Addr → TID} {e : Expr} {te : ED} {pos pos' p : Pos} {f : Str}
end
section
variable {P : Program} {w : World} {K : PySem.W.Frag} {mg : Str → Option Value} {base : Heap}
structure FunV (K : PySem.W.Frag) (x qual : Str) (st : Stmt) (f : Addr) (fd : FuncData) : Prop where
  ex : ∃ (oc : Value) (od : Option Addr) (dV kV doc pm : Value) (an : Option Addr) (cdv ct : Value) (osl : Array (Option Value)),
    fd = PySem.W.fnOf x qual (defArgs st) (defBody st) (defScope st) dV kV doc pm an cdv ct ∧ K.lookup f = some ⟨oc, od, .func fd, osl⟩ ∧ PySem.W.codeIn K cdv qual = true
  kp : PySem.W.keepIn K (.ref f) = true
theorem FunV.ok {P : Program} {w : World} {K : PySem.W.Frag} {mg : Str → Option Value} {base : Heap} {x qual : Str} {st : Stmt} {f : Addr} {fd : FuncData} {N ps : List Str} {k : Nat} {sp : Sp} (F : FunV K x qual st f fd) (S : FnScope N ps (defScope st)) (len : ∀ vs H Q E, sp vs H Q E → vs.length = ps.length)
    (hbody : ∀ (cdv : Value) (A : Around) (outer : List Env) (s : Shared) (H : Hp) (vs : List V) (Q : VK) (E : XK), Room k (A.deeper (envOfC qual (defScope st) s.heap.objs.size f cdv)) → sp vs H Q E →
      ∃ t, PSs (cxOf CX0 P w K mg base N qual (defScope st) f cdv A outer s H E).nox (defBody st) t ∧ t { nx := fun _ H' => Q .non H', rt := Q } (L2.start N vs) H) : FnOk P w K mg base CX0 (k + 1) f fd ps sp := by
  obtain ⟨oc, od, dV, kV, doc, pm, an, cdv, ct, osl, rfl, lk, hcd⟩ := F.ex
  refine fn_of lk hcd S len fun A outer s H vs Q E hr hsp => ?_
  obtain ⟨t, h, q⟩ := hbody cdv A outer s H vs Q E hr hsp
  exact ⟨t, h.nox, q⟩
end
section
variable {X : Cx} {C f : Addr} {fd : FuncData} {ps : List Str} {sd : SpI} {dd : List D} {dvs : List V} {dls : List Value} {k : Nat} {x : Str} {e : Expr} {es : List Expr} {t : AD} {p pos : Pos}
end
end DC

set_option maxHeartbeats 4000000
namespace L2
open PySem PySem.Spec PyProof.Rows
section
variable {X : Cx}
end
section
variable {prog : Program} {w : World} {A : Around} {R : Result → Shared → Prop} {I : Addr} {fp wr : List Addr} {n : Nat} {P : Nat → Value → Prop} {St : Nat → Heap → Prop} {E : Value → Shared → Prop} {s : Shared} {Q : Value → Shared → Prop}
end
end L2

set_option maxHeartbeats 4000000
namespace L2
open PySem PySem.Spec PyProof.Rows
section
variable {X : Cx}
end
end L2

set_option maxHeartbeats 4000000
namespace L2
open PySem PySem.Spec PyProof.Rows
section
variable {X : Cx} {e c : Expr} {te tc : TE} {p pos kp : Pos}
end
end L2
namespace DC
open PySem PySem.Spec PyProof.Rows L2
section
variable {X : Cx} {e c : Expr} {te tc : ED} {p pos kp : Pos} {es : List Expr} {t : AD}
end
end DC

set_option maxHeartbeats 4000000
namespace DC
open PySem PySem.Spec PyProof.Rows L2
inductive MD where
  | lst (ds : List D) | ins (C : Addr) (gs : FD) | dK (kvs : List (Key × D))
abbrev Mu := List (Addr × MD)
def AtM (K : PySem.W.Frag) (H : Hp) (L : List Addr) (a : Addr) : MD → Prop
  | .lst ds => ∃ vs, H a = some (.lst vs) ∧ Dvs K (hidL H L) vs ds
  | .ins C gs => ∃ dx fs, H a = some (.ins C dx fs) ∧ H dx = some (.own a) ∧ dx ∈ L ∧ Dvf K (hidL H L) fs gs
  | .dK kvs => ∃ ws, H a = some (.dK ws) ∧ Dvk K (hidL H L) ws kvs
structure StM (K : PySem.W.Frag) (H : Hp) (μ : Mu) (L : List Addr) : Prop where
  at_ : ∀ p ∈ μ, p.1 ∈ L ∧ AtM K H L p.1 p.2
  nod : (μ.map (·.1)).Nodup
  hid : ∀ b ∈ L, HidOk H L b
  cov : ∀ b ∈ L, (∃ m, (b, m) ∈ μ) ∨ ∃ a, H b = some (.own a)
section
variable {K : PySem.W.Frag} {H H1 H4 : Hp} {μ : Mu} {L : List Addr}
theorem hidL_on (s : Same H H1) : Same (hidL H L) (hidL H1 L) := fun b o h => by
  obtain ⟨h1, h2⟩ := hidL_some h
  rw [hidL_out h1]
  exact s _ _ h2
theorem AtM.on {a : Addr} (s : Same H H1) : ∀ {m : MD}, AtM K H L a m → AtM K H1 L a m
  | .lst _, ⟨vs, h, d⟩ => ⟨vs, s _ _ h, Dvs.same (hidL_on s) d⟩
  | .ins _ _, ⟨dx, fs, h, h2, h3, d⟩ => ⟨dx, fs, s _ _ h, s _ _ h2, h3, Dvf.same (hidL_on s) d⟩
  | .dK _, ⟨ws, h, d⟩ => ⟨ws, s _ _ h, Dvk.same (hidL_on s) d⟩
theorem hok_on {a : Addr} (s : Same H H1) (h : HidOk H L a) : HidOk H1 L a := by
  cases h with
  | lst xs h => exact .lst xs (s _ _ h)
  | dK xs h => exact .dK xs (s _ _ h)
  | ins C dx fs h hd => exact .ins C dx fs (s _ _ h) hd
  | own C b fs h hb hi => exact .own C b fs (s _ _ h) hb (s _ _ hi)
theorem StM.on (g : StM K H μ L) (s : Same H H1) : StM K H1 μ L :=
  ⟨fun p hp => ⟨(g.at_ p hp).1, (g.at_ p hp).2.on s⟩, g.nod, fun b hb => hok_on s (g.hid b hb), fun b hb => (g.cov b hb).imp id fun ⟨a, q⟩ => ⟨a, s _ _ q⟩⟩
theorem StM.show (g : StM K H μ L) (z : ∀ b ∈ L, H4 b = none) (s : Same (hidL H L) H4) : StM K (showL H4 H L) μ L := by
  have e : hidL (showL H4 H L) L = H4 := hidL_showL z
  refine ⟨fun p hp => ⟨(g.at_ p hp).1, ?_⟩, g.nod, fun b hb => ?_, fun b hb => (g.cov b hb).imp id fun ⟨a, q⟩ => ⟨a, by rw [showL_in hb]; exact q⟩⟩
  · obtain ⟨hp1, ha⟩ := g.at_ p hp
    obtain ⟨a, m⟩ := p
    cases m with
    | lst ds => obtain ⟨vs, h, d⟩ := ha; exact ⟨vs, by rw [showL_in hp1]; exact h, by rw [e]; exact Dvs.same s d⟩
    | ins C gs => obtain ⟨dx, fs, h, h2, h3, d⟩ := ha; exact ⟨dx, fs, by rw [showL_in hp1]; exact h, by rw [showL_in h3]; exact h2, h3, by rw [e]; exact Dvf.same s d⟩
    | dK kvs => obtain ⟨ws, h, d⟩ := ha; exact ⟨ws, by rw [showL_in hp1]; exact h, by rw [e]; exact Dvk.same s d⟩
  · have w := g.hid b hb
    cases w with
    | lst xs h => exact .lst xs (by rw [showL_in hb]; exact h)
    | dK xs h => exact .dK xs (by rw [showL_in hb]; exact h)
    | ins C dx fs h hd => exact .ins C dx fs (by rw [showL_in hb]; exact h) hd
    | own C c fs h hc hi => exact .own C c fs (by rw [showL_in hb]; exact h) hc (by rw [showL_in hc]; exact hi)
theorem StM.nil : StM K H [] [] := ⟨fun p hp => (nomatch hp), List.nodup_nil, fun b hb => (nomatch hb), fun b hb => (nomatch hb)⟩
def MD.d : MD → D
  | .lst ds => .lst ds
  | .ins C gs => .obj C gs
  | .dK kvs => .dK kvs
def viewD (μ : Mu) : D → D
  | .adr a => ((μ.lookup a).map MD.d).getD (.adr a)
  | d => d
def viewS (μ : Mu) (δ : SD) : SD := δ.map (Option.map (viewD μ))
theorem mem_of_lookup {a : Addr} {m : MD} : ∀ {μ : Mu}, μ.lookup a = some m → (a, m) ∈ μ
  | [], h => by cases h
  | (b, n) :: r, h => by
    rw [List.lookup_cons] at h
    cases q : a == b with
    | true => rw [q] at h; cases h; rw [beq_iff_eq.mp q]; exact List.mem_cons_self
    | false => rw [q] at h; exact List.mem_cons_of_mem _ (mem_of_lookup h)
theorem StM.view (g : StM K H μ L) {v : V} {d : D} (h : Dv K (hidL H L) v d) : Dv K H v (viewD μ d) := by
  cases h with
  | adr a =>
    show Dv K H (.ref a) (((μ.lookup a).map MD.d).getD (.adr a))
    cases q : μ.lookup a with
    | none => exact .adr a
    | some m =>
      show Dv K H (.ref a) m.d
      obtain ⟨_, ha⟩ := g.at_ _ (mem_of_lookup q)
      cases m with
      | lst ds => obtain ⟨vs, h, d⟩ := ha; exact .lst (SqL.of h) (Dvs.same hidL_same d)
      | ins C gs => obtain ⟨dx, fs, h, h2, h3, d⟩ := ha; exact .obj (.of h) (Dvf.same hidL_same d)
      | dK kvs => obtain ⟨ws, h, d⟩ := ha; exact .dK (.of h) (Dvk.same hidL_same d)
  | non => exact .non
  | bl b => exact .bl b
  | int i => exact .int i
  | str x => exact .str x
  | lst h1 h2 => exact Dv.same hidL_same (.lst h1 h2)
  | tup h1 h2 => exact Dv.same hidL_same (.tup h1 h2)
  | obj h1 h2 => exact Dv.same hidL_same (.obj h1 h2)
  | dK h1 h2 => exact Dv.same hidL_same (.dK h1 h2)
  | dT h1 h2 => exact Dv.same hidL_same (.dT h1 h2)
  | exc h1 h2 h3 => exact Dv.same hidL_same (.exc h1 h2 h3)
theorem StM.viewS (g : StM K H μ L) {σ : L2.St} {δ : SD} (r : RelS K (hidL H L) σ δ) : RelS K H σ (viewS μ δ) := by
  refine ⟨by unfold DC.viewS; rw [List.length_map]; exact r.len, fun i d h => ?_⟩
  unfold DC.viewS at h
  rw [List.getElem?_map] at h
  cases q : δ[i]? with
  | none => rw [q] at h; cases h
  | some o =>
    rw [q] at h
    cases o with
    | none => cases h
    | some d' =>
      cases h
      obtain ⟨v, hv, dv⟩ := r.get i d' q
      exact ⟨v, hv, g.view dv⟩
end
structure EndsM where
  nx : SD → Mu → Prop
  rt : D → Mu → Prop
  bk : SD → Mu → Prop := fun _ _ => False
  ct : SD → Mu → Prop := fun _ _ => False
abbrev TMD := EndsM → SD → Mu → Prop
structure EndsM.Le (E E' : EndsM) : Prop where
  nx : ∀ δ μ, E.nx δ μ → E'.nx δ μ
  rt : ∀ d μ, E.rt d μ → E'.rt d μ
  bk : ∀ δ μ, E.bk δ μ → E'.bk δ μ
  ct : ∀ δ μ, E.ct δ μ → E'.ct δ μ
abbrev MonoM (t : TMD) : Prop := ∀ E E' δ μ, EndsM.Le E E' → t E δ μ → t E' δ μ
def kM (K : PySem.W.Frag) (H : Hp) (L : List Addr) (Q : L2.St → Hp → Prop) : SD → Mu → Prop := fun δ μ => ∀ σ H' L', Same (hidL H L) (hidL H' L') → RelS K (hidL H' L') σ δ → StM K H' μ L' → Q σ H'
def kR (K : PySem.W.Frag) (H : Hp) (L : List Addr) (Q : VK) : D → Mu → Prop := fun d μ => ∀ v H' L', Same (hidL H L) (hidL H' L') → StM K H' μ L' → Dv K (hidL H' L') v d → Q v H'
def endM (K : PySem.W.Frag) (H : Hp) (L : List Addr) (D : Ends) : EndsM := ⟨kM K H L D.nx, kR K H L D.rt, kM K H L D.bk, kM K H L D.ct⟩
theorem endM_on {K : PySem.W.Frag} {H H1 : Hp} {L L1 : List Addr} {D : Ends} (s : Same (hidL H L) (hidL H1 L1)) : EndsM.Le (endM K H L D) (endM K H1 L1 D) :=
  ⟨fun _ _ h σ H' L' s' r g => h σ H' L' (s.trans s') r g, fun _ _ h v H' L' s' g d => h v H' L' (s.trans s') g d, fun _ _ h σ H' L' s' r g => h σ H' L' (s.trans s') r g, fun _ _ h σ H' L' s' r g => h σ H' L' (s.trans s') r g⟩
def oM (K : PySem.W.Frag) (t : TMD) : TS := fun D σ H => ∃ δ μ L, RelS K (hidL H L) σ δ ∧ StM K H μ L ∧ t (endM K H L D) δ μ
structure PMd (X : Cx) (st : Stmt) (t : TMD) : Prop where
  ps : PS X st (oM X.K t)
  mono : MonoM t
structure PMs (X : Cx) (st : List Stmt) (t : TMD) : Prop where
  ps : PSs X st (oM X.K t)
  mono : MonoM t
section
variable {X : Cx} {st : Stmt} {rest body els : List Stmt} {t u : TMD} {e c : Expr} {te : ED} {uc : TD} {pos : Pos}
def mNext : TMD := fun E δ μ => E.nx δ μ
def mSeq (t u : TMD) : TMD := fun E δ μ => t { E with nx := u E } δ μ
theorem ms_nil : PMs X [] mNext := ⟨PSs.imp pss_nil fun D σ H ⟨δ, μ, L, r, g, h⟩ => h σ H L (Same.refl _) r g, fun E E' δ μ l h => l.nx _ _ h⟩
theorem ms_cons (h1 : PMd X st t) (h2 : PMs X rest u) : PMs X (st :: rest) (mSeq t u) :=
  ⟨PSs.imp (pss_cons h1.ps h2.ps) fun D σ H ⟨δ, μ, L, r, g, h⟩ => ⟨δ, μ, L, r, g, h1.mono { endM X.K H L D with nx := u (endM X.K H L D) } _ _ _ ⟨fun δ' μ' q σ' H' L' s' r' g' => ⟨δ', μ', L', r', g', h2.mono _ _ _ _ (endM_on s') q⟩, fun _ _ q => q, fun _ _ q => q, fun _ _ q => q⟩ h⟩,
   fun E E' δ μ l h => h1.mono { E with nx := u E } _ _ _ ⟨fun δ' μ' q => h2.mono _ _ _ _ l q, l.rt, l.bk, l.ct⟩ h⟩
theorem ms_one (h1 : PMd X st t) : PMs X [st] t := ⟨pss_one h1.ps, h1.mono⟩
def mLift (t : TSD) : TMD := fun E δ μ => t { nx := fun δ' => E.nx δ' μ, rt := fun d => E.rt d μ, bk := fun δ' => E.bk δ' μ, ct := fun δ' => E.ct δ' μ } δ
theorem lift_of {t : TSD} (m : MonoQ t) {D : Ends} {σ : L2.St} {H : Hp} (h : oM X.K (mLift t) D σ H) : frS (oS X.K t) D σ H := by
  obtain ⟨δ, μ, L, r, g, h⟩ := h
  refine ⟨L, g.hid, δ, r, ?_⟩
  refine m { nx := fun δ' => (endM X.K H L D).nx δ' μ, rt := fun d => (endM X.K H L D).rt d μ, bk := fun δ' => (endM X.K H L D).bk δ' μ, ct := fun δ' => (endM X.K H L D).ct δ' μ } _ _ ⟨fun δ' q σ' H' s' r' z => ?_, fun d q v H' s' dv z => ?_, fun δ' q σ' H' s' r' z => ?_, fun δ' q σ' H' s' r' z => ?_⟩ h
  · have e : hidL (showL H' H L) L = H' := hidL_showL z
    exact q σ' _ L (by rw [e]; exact s') (by rw [e]; exact r') (g.show z s')
  · have e : hidL (showL H' H L) L = H' := hidL_showL z
    exact q v _ L (by rw [e]; exact s') (g.show z s') (by rw [e]; exact dv)
  · have e : hidL (showL H' H L) L = H' := hidL_showL z
    exact q σ' _ L (by rw [e]; exact s') (by rw [e]; exact r') (g.show z s')
  · have e : hidL (showL H' H L) L = H' := hidL_showL z
    exact q σ' _ L (by rw [e]; exact s') (by rw [e]; exact r') (g.show z s')
theorem m_lift {t : TSD} (m : MonoQ t) : MonoM (mLift t) := fun E E' δ μ l h => m { nx := fun δ' => E.nx δ' μ, rt := fun d => E.rt d μ, bk := fun δ' => E.bk δ' μ, ct := fun δ' => E.ct δ' μ } _ _ ⟨fun _ q => l.nx _ _ q, fun _ q => l.rt _ _ q, fun _ q => l.bk _ _ q, fun _ q => l.ct _ _ q⟩ h
theorem ms_lift {t : TSD} (h : PSd X st t) : PMd X st (mLift t) := ⟨PS.imp (ps_frM h.ps) fun D σ H q => lift_of h.mono q, m_lift h.mono⟩
theorem mss_lift {t : TSD} (h : PSsd X rest t) : PMs X rest (mLift t) := ⟨PSs.imp (pss_frM h.ps) fun D σ H q => lift_of h.mono q, m_lift h.mono⟩
def mIf (uc : TD) (t u : TMD) : TMD := fun E δ μ => uc (viewS μ δ) fun b => if b = true then t E δ μ else u E δ μ
theorem ms_if (hc : PTd X c uc) (ha : PMs X body t) (hb : PMs X els u) : PMd X (.If c body els pos) (mIf uc t u) := by
  refine ⟨PS.imp (ps_if hc.pt ha.ps hb.ps) fun D σ H ⟨δ, μ, L, r, g, h⟩ => ⟨_, g.viewS r, hc.mono _ _ _ (fun k q H1 s1 => ?_) h⟩, fun E E' δ μ l h => hc.mono _ _ _ (fun k q => ?_) h⟩
  · have s2 : Same (hidL H L) (hidL H1 L) := hidL_on s1
    cases k with
    | true =>
      show if true = true then _ else _
      rw [if_pos rfl] at q ⊢; exact ⟨δ, μ, L, r.same s2, g.on s1, ha.mono _ _ _ _ (endM_on s2) q⟩
    | false =>
      show if false = true then _ else _
      rw [if_neg Bool.false_ne_true] at q ⊢; exact ⟨δ, μ, L, r.same s2, g.on s1, hb.mono _ _ _ _ (endM_on s2) q⟩
  · cases k with
    | true => rw [if_pos rfl] at q ⊢; exact ha.mono _ _ _ _ l q
    | false => rw [if_neg Bool.false_ne_true] at q ⊢; exact hb.mono _ _ _ _ l q
theorem Dv.flatAny {K : PySem.W.Frag} {H H' : Hp} {v : V} {d : D} (h : Dv K H v d) (f : flatD d = true) : Dv K H' v d := by
  cases h with
  | non => exact .non
  | bl b => exact .bl b
  | int i => exact .int i
  | str x => exact .str x
  | _ => cases f
def mRet (te : ED) : TMD := fun E δ μ => te (viewS μ δ) fun d => E.rt d []
theorem ms_ret (he : PD X e te) : PMd X (.Return (some e) pos) (mRet te) :=
  ⟨PS.imp (ps_ret he.pe) fun D σ H ⟨δ, μ, L, r, g, h⟩ => ⟨_, g.viewS r, he.mono _ _ _ (fun d q v H1 s1 dv => q v H1 [] (by rw [hidL_nil]; exact hidL_same.trans s1) StM.nil (by rw [hidL_nil]; exact dv)) h⟩,
   fun E E' δ μ l h => he.mono _ _ _ (fun d q => l.rt _ _ q) h⟩
end
end DC

set_option maxHeartbeats 4000000
namespace DC
open PySem PySem.Spec PyProof.Rows L2
def putM (a : Addr) (m : MD) (μ : Mu) : Mu := μ.map fun p => if p.1 = a then (a, m) else p
theorem putM_keys (a : Addr) (m : MD) (μ : Mu) : (putM a m μ).map (·.1) = μ.map (·.1) := by
  unfold putM
  rw [List.map_map]
  refine List.map_congr_left fun p _ => ?_
  show (if p.1 = a then (a, m) else p).1 = p.1
  split
  · rename_i h; exact h.symm
  · rfl
section
variable {K : PySem.W.Frag} {H : Hp} {μ : Mu} {L : List Addr} {a : Addr} {vs ys : List V} {ds : List D}
theorem hidL_upd {o : HO} (h : a ∈ L) : hidL (upd H a o) L = hidL H L := by
  funext b
  by_cases hb : b ∈ L
  · rw [hidL_in hb, hidL_in hb]
  · rw [hidL_out hb, hidL_out hb, upd_ne (fun z => hb (by rw [z]; exact h))]
theorem StM.putL (g : StM K H μ L) (ha : a ∈ L) (hv : H a = some (.lst vs)) (d : Dvs K (hidL H L) ys ds) : StM K (upd H a (.lst ys)) (putM a (.lst ds) μ) L := by
  have e : hidL (upd H a (.lst ys)) L = hidL H L := hidL_upd ha
  refine ⟨fun p hp => ?_, by rw [putM_keys]; exact g.nod, fun b hb => ?_, fun b hb => ?_⟩
  · obtain ⟨q, hq, rfl⟩ := List.mem_map.mp hp
    by_cases hqa : q.1 = a
    · rw [if_pos hqa]
      exact ⟨ha, ys, upd_same, by rw [e]; exact d⟩
    · rw [if_neg hqa]
      obtain ⟨h1, h2⟩ := g.at_ q hq
      refine ⟨h1, ?_⟩
      obtain ⟨b, m⟩ := q
      cases m with
      | lst ds => obtain ⟨ws, h, d⟩ := h2; exact ⟨ws, by rw [upd_ne hqa]; exact h, by rw [e]; exact d⟩
      | ins C gs => obtain ⟨dx, fs, h, h2, h3, d⟩ := h2; exact ⟨dx, fs, by rw [upd_ne hqa]; exact h, by rw [upd_ne (fun z => by rw [z, hv] at h2; cases h2)]; exact h2, h3, by rw [e]; exact d⟩
      | dK kvs => obtain ⟨ws, h, d⟩ := h2; exact ⟨ws, by rw [upd_ne hqa]; exact h, by rw [e]; exact d⟩
  · by_cases hba : b = a
    · rw [hba]; exact .lst ys upd_same
    · have w := g.hid b hb
      cases w with
      | lst xs h => exact .lst xs (by rw [upd_ne hba]; exact h)
      | dK xs h => exact .dK xs (by rw [upd_ne hba]; exact h)
      | ins C dx fs h hd => exact .ins C dx fs (by rw [upd_ne hba]; exact h) hd
      | own C c fs h hc hi => exact .own C c fs (by rw [upd_ne hba]; exact h) hc (by rw [upd_ne (fun z => by rw [z, hv] at hi; cases hi)]; exact hi)
  · rcases g.cov b hb with ⟨m, h⟩ | ⟨c, h⟩
    · by_cases hba : b = a
      · exact .inl ⟨.lst ds, List.mem_map.mpr ⟨_, h, by rw [if_pos hba, hba]⟩⟩
      · exact .inl ⟨m, List.mem_map.mpr ⟨_, h, if_neg hba⟩⟩
    · exact .inr ⟨c, by rw [upd_ne (fun z => by rw [z, hv] at h; cases h)]; exact h⟩
theorem StM.newL (g : StM K H μ L) (hn : H a = none) (d : Dvs K (hidL H L) ys ds) : StM K (upd H a (.lst ys)) ((a, .lst ds) :: μ) (a :: L) ∧ hidL (upd H a (.lst ys)) (a :: L) = hidL H L := by
  have haL : a ∉ L := fun h => by obtain ⟨o, q⟩ := (g.hid a h).there; rw [hn] at q; cases q
  have e : hidL (upd H a (.lst ys)) (a :: L) = hidL H L := by
    funext b
    by_cases hb : b = a
    · rw [hb, hidL_in List.mem_cons_self, hidL_none hn]
    · by_cases hb2 : b ∈ L
      · rw [hidL_in (List.mem_cons_of_mem _ hb2), hidL_in hb2]
      · rw [hidL_out (fun z => (List.mem_cons.mp z).elim hb hb2), hidL_out hb2, upd_ne hb]
  have ne : ∀ {b : Addr} {o : HO}, H b = some o → b ≠ a := fun h => ne_of_none h hn
  refine ⟨⟨fun p hp => ?_, ?_, fun b hb => ?_, fun b hb => ?_⟩, e⟩
  · rcases List.mem_cons.mp hp with rfl | hp
    · exact ⟨List.mem_cons_self, ys, upd_same, by rw [e]; exact d⟩
    · obtain ⟨h1, h2⟩ := g.at_ p hp
      refine ⟨List.mem_cons_of_mem _ h1, ?_⟩
      obtain ⟨b, m⟩ := p
      cases m with
      | lst ds => obtain ⟨ws, h, d⟩ := h2; exact ⟨ws, by rw [upd_ne (ne h)]; exact h, by rw [e]; exact d⟩
      | ins C gs => obtain ⟨dx, fs, h, h2, h3, d⟩ := h2; exact ⟨dx, fs, by rw [upd_ne (ne h)]; exact h, by rw [upd_ne (ne h2)]; exact h2, List.mem_cons_of_mem _ h3, by rw [e]; exact d⟩
      | dK kvs => obtain ⟨ws, h, d⟩ := h2; exact ⟨ws, by rw [upd_ne (ne h)]; exact h, by rw [e]; exact d⟩
  · rw [List.map_cons, List.nodup_cons]
    refine ⟨fun h => ?_, g.nod⟩
    obtain ⟨p, hp, hpa⟩ := List.mem_map.mp h
    have : p.1 = a := hpa
    exact haL (this ▸ (g.at_ p hp).1)
  · rcases List.mem_cons.mp hb with rfl | hb
    · exact .lst ys upd_same
    · have w := g.hid b hb
      cases w with
      | lst xs h => exact .lst xs (by rw [upd_ne (ne h)]; exact h)
      | dK xs h => exact .dK xs (by rw [upd_ne (ne h)]; exact h)
      | ins C dx fs h hd => exact .ins C dx fs (by rw [upd_ne (ne h)]; exact h) (List.mem_cons_of_mem _ hd)
      | own C c fs h hc hi => exact .own C c fs (by rw [upd_ne (ne h)]; exact h) (List.mem_cons_of_mem _ hc) (by rw [upd_ne (ne hi)]; exact hi)
  · rcases List.mem_cons.mp hb with rfl | hb
    · exact .inl ⟨_, List.mem_cons_self⟩
    · rcases g.cov b hb with ⟨m, h⟩ | ⟨c, h⟩
      · exact .inl ⟨m, List.mem_cons_of_mem _ h⟩
      · exact .inr ⟨c, by rw [upd_ne (ne h)]; exact h⟩
end
section
variable {X : Cx} {e : Expr} {te : ED} {es : List Expr} {t : AD} {i : Nat} {x : Str} {p pos pos' apos cpos : Pos}
def mNewL (i : Nat) (t : AD) : TMD := fun E δ μ => t δ fun ds => ds.length ≤ sizeLine ∧ ∀ a, (∀ m, (a, m) ∉ μ) → E.nx (δ.set i (some (.adr a))) ((a, .lst ds) :: μ)
theorem ms_newL (hN : X.N.Nodup) (hi : X.N[i]? = some x) (hx : Loc X.env.scope x) (h : PAd X es t) (hs : swapsWith (.List es p) (some (.Name x pos')) pos.line X.env = pure false := by rfl)
    (hf : X.fn x = true ∨ X.env.scope.names.lookup x = some .local := by first | exact .inl rfl | exact .inr rfl | assumption) : PMd X (.Assign [.Name x pos'] (.List es p) pos) (mNewL i t) := by
  refine ⟨PS.imp (ps_set hN hi hx (pe_frM (pe_lst h.pa)) hs hf) fun D σ H ⟨δ, μ, L, r, g, q⟩ => ⟨L, g.hid, δ, r, h.mono _ _ _ (fun ds ⟨hz, k⟩ vs H1 s1 dvs => ⟨by rw [dvs.length]; exact hz, fun a ha z => ?_⟩) q⟩,
    fun E E' δ μ l q => h.mono _ _ _ (fun ds ⟨hz, k⟩ => ⟨hz, fun a ha => l.nx _ _ (k a ha)⟩) q⟩
  have haL : a ∉ L := fun hl => by have := z a hl; rw [upd_same] at this; cases this
  have nb : ∀ {b : Addr}, b ∈ L → b ≠ a := fun hb w => haL (by rw [← w]; exact hb)
  have z1 : ∀ b ∈ L, H1 b = none := fun b hb => by have := z b hb; rwa [upd_ne (nb hb)] at this
  have eS : showL (upd H1 a (.lst vs)) H L = upd (showL H1 H L) a (.lst vs) := by
    funext b
    by_cases hb : b ∈ L
    · rw [showL_in hb, upd_ne (nb hb), showL_in hb]
    · rw [showL_out hb]
      by_cases hba : b = a
      · rw [hba, upd_same, upd_same]
      · rw [upd_ne hba, upd_ne hba, showL_out hb]
  have e1 : hidL (showL H1 H L) L = H1 := hidL_showL z1
  have g1 : StM X.K (showL H1 H L) μ L := g.show z1 s1
  have hn : showL H1 H L a = none := by rw [showL_out haL]; exact ha
  obtain ⟨g2, e2⟩ := g1.newL hn (ys := vs) (ds := ds) (by rw [e1]; exact dvs)
  rw [eS]
  refine k a (fun m hm => haL (g.at_ _ hm).1) _ _ (a :: L) (by rw [e2, e1]; exact s1) ?_ g2
  rw [e2, e1]
  exact (r.same s1).set i (.adr a)
end
end DC

set_option maxHeartbeats 4000000
namespace L2
open PySem PySem.Spec PyProof.Rows
section
variable {X : Cx} {tg : Expr} {g : TG}
def frG (g : TG) : TG := fun v σ H Q => ∃ L, (∀ a ∈ L, HidOk H L a) ∧ g v σ (hidL H L) fun σ' H4 => (∀ b ∈ L, H4 b = none) → Q σ' (showL H4 H L)
theorem pg_frM (h : PG X tg g) : PG X tg (frG g) := by
  intro pins s σ H v u Q I r ⟨L, hL, q⟩
  refine frameM I hL fun pl I' _ back => ?_
  refine thn (h (pins ++ pl) s σ _ v u _ I' r q) fun _ s1 ⟨σ', H4, I4, k⟩ => ?_
  obtain ⟨z, J⟩ := back _ _ _ I4
  exact ⟨σ', _, J, k z⟩
end
end L2
namespace DC
open PySem PySem.Spec PyProof.Rows L2
section
variable {X : Cx} {tg iter : Expr} {body : List Stmt} {ti : AD} {g : TGD} {tb : TMD} {pos : Pos}
def mFor (ti : AD) (g : TGD) (tb : TMD) : TMD := fun E δ μ => ti δ fun ds => ∃ inv : Nat → SD → Mu → Prop, inv 0 δ μ ∧
  (∀ i d δ' μ', ds[i]? = some d → inv i δ' μ' → g d δ' fun δ2 => tb { E with nx := inv (i + 1), ct := inv (i + 1), bk := E.nx } δ2 μ') ∧ ∀ δ' μ', inv ds.length δ' μ' → E.nx δ' μ'
theorem ms_for (hp : PassesOwn (model X.prog X.w) X.A X.env X.xe) (hc : X.calm = true) (hi : PId X tg iter ti) (hg : PGd X tg g) (hb : PMs X body tb) (hs : ∀ x, foldedSetIterable iter X.env x = pure x := by intro _; rfl) :
    PMd X (.For tg iter body [] pos) (mFor ti g tb) := by
  refine ⟨PS.imp (ps_for hp hc (pi_frM hi.pi) (pg_frM hg.pg) hb.ps hs) fun D σ H ⟨δ, μ, L, r, st, h⟩ => ⟨L, st.hid, δ, r, hi.mono _ _ _ (fun ds ⟨inv, i0, step, fin⟩ J H1 s1 it z => ?_) h⟩, fun E E' δ μ l h => hi.mono _ _ _ (fun ds ⟨inv, i0, step, fin⟩ => ⟨inv, i0, fun i d δ' μ' hd hin => hg.mono _ _ _ _ (fun δ2 q => hb.mono { E with nx := inv (i + 1), ct := inv (i + 1), bk := E.nx } _ _ _ ⟨fun _ _ q => q, l.rt, l.nx, fun _ _ q => q⟩ q) (step i d δ' μ' hd hin), fun δ' μ' q => l.nx _ _ (fin δ' μ' q)⟩) h⟩
  have e1 : hidL (showL H1 H L) L = H1 := hidL_showL z
  refine ⟨fun i m σ' H' => m = ds.length - i ∧ i ≤ ds.length ∧ ∃ δ' μ' L', Same H1 (hidL H' L') ∧ RelS X.K (hidL H' L') σ' δ' ∧ StM X.K H' μ' L' ∧ inv i δ' μ', ⟨ds.length, rfl, Nat.zero_le _, δ, μ, L, by rw [e1]; exact Same.refl _, by rw [e1]; exact r.same s1, st.show z s1, i0⟩, ?_⟩
  rintro i m σ' H' ⟨rfl, hle, δ', μ', L', s', r', st', hin⟩
  have sf : Same H1 H' := s'.trans hidL_same
  by_cases hlt : i < ds.length
  · refine .inr ⟨it.go i H' sf hlt, fun σ2 H2 => ∃ δ2 μ2 L2, Same H1 (hidL H2 L2) ∧ RelS X.K (hidL H2 L2) σ2 δ2 ∧ StM X.K H2 μ2 L2 ∧ inv (i + 1) δ2 μ2, fun σ2 H2 ⟨δ2, μ2, L2, q⟩ => ⟨ds.length - (i + 1), by omega, rfl, hlt, δ2, μ2, L2, q⟩, fun x H'' y => ?_⟩
    obtain ⟨s2, d, hd, Hx, _, dvx, hx, sx⟩ := it.yld i H' x H'' sf hlt y
    have sA : Same (hidL H' L') (hidL H'' L') := hidL_on s2
    have sX : Same Hx (hidL H'' L') := fun b o hb => by
      have nb : b ∉ L' := by
        intro hbL
        rcases hx b o hb with q | q
        · have := s' _ _ q
          rw [hidL_in hbL] at this
          cases this
        · obtain ⟨o', q'⟩ := (st'.hid b hbL).there
          rw [q] at q'
          cases q'
      rw [hidL_out nb]
      exact sx _ _ hb
    have st2 : StM X.K H'' μ' L' := st'.on s2
    refine ⟨L', st2.hid, d, δ', dvx.same sX, r'.same sA, hg.mono _ _ _ _ (fun δ2 q σ3 H3 s3 r3 z3 => ?_) (step i d δ' μ' hd hin)⟩
    have e3 : hidL (showL H3 H'' L') L' = H3 := hidL_showL z3
    have st3 : StM X.K (showL H3 H'' L') μ' L' := st2.show z3 s3
    have sB : Same H1 H3 := s'.trans (sA.trans s3)
    refine ⟨δ2, μ', L', by rw [e3]; exact r3, st3, hb.mono { endM X.K H L D with nx := inv (i + 1), ct := inv (i + 1), bk := (endM X.K H L D).nx } _ _ _ ?_ q⟩
    have sC : Same (hidL H L) (hidL (showL H3 H'' L') L') := by rw [e3]; exact s1.trans sB
    have l := endM_on (K := X.K) (D := D) sC
    refine ⟨fun δ4 μ4 q4 σ4 H4 L4 s4 r4 st4 => ⟨δ4, μ4, L4, ?_, r4, st4, q4⟩, fun _ _ q4 => l.rt _ _ q4, fun _ _ q4 => l.nx _ _ q4, fun δ4 μ4 q4 σ4 H4 L4 s4 r4 st4 => ⟨δ4, μ4, L4, ?_, r4, st4, q4⟩⟩
    · rw [e3] at s4; exact sB.trans s4
    · rw [e3] at s4; exact sB.trans s4
  · have e : i = ds.length := by omega
    subst e
    exact .inl ⟨it.stop H' sf, fin δ' μ' hin σ' H' L' (s1.trans s') r' st'⟩
end
section
variable {P : Program} {w : World} {K : PySem.W.Frag} {mg : Str → Option Value} {base : Heap}
end
end DC

set_option maxHeartbeats 4000000
namespace DC
open PySem PySem.Spec PyProof.Rows L2
structure Cal (P : Program) (w : World) (K : PySem.W.Frag) (mg : Str → Option Value) (base : Heap) (k : Nat) (x : Str) (ps : List Str) (sd : SpD) : Prop where
  ex : ∃ f fd, FnOk P w K mg base CX0 k f fd ps (spOf K sd) ∧ mg x = some (.ref f) ∧ PySem.W.keepIn K (.ref f) = true ∧ Binds K fd ps []
  ms : MonoS sd
section
variable {P : Program} {w : World} {K : PySem.W.Frag} {mg : Str → Option Value} {base : Heap}
theorem Cal.up {j k : Nat} {x : Str} {ps : List Str} {sd : SpD} (c : Cal P w K mg base j x ps sd) (h : j ≤ k) : Cal P w K mg base k x ps sd :=
  ⟨let ⟨f, fd, F, r⟩ := c.ex; ⟨f, fd, F.mono h, r⟩, c.ms⟩
structure Df (K : PySem.W.Frag) (mg : Str → Option Value) (x : Str) (st : Stmt) (ps : List Str) : Prop where
  ex : ∃ f fd, Fun K x x st f fd ∧ mg x = some (.ref f) ∧ Binds K fd ps []
theorem Df.cal {k : Nat} {x : Str} {st : Stmt} {ps N : List Str} {sd : SpD} {t : TSD} (d : Df K mg x st ps) (S : FnScope N ps (defScope st)) (ms : MonoS sd) (len : ∀ ds Q, sd ds Q → ds.length = ps.length)
    (hb : ∀ (f : Addr) (cdv : Value) (A : Around) (outer : List Env) (s : Shared) (H : Hp) (E : XK), Room k (A.deeper (envOfC x (defScope st) s.heap.objs.size f cdv)) → PSsd (Bx P w K mg base N x st f cdv A outer s H E) (defBody st) t)
    (hr : ∀ ds Q, sd ds Q → t { nx := fun _ => Q .non, rt := Q } (startD N ds)) : Cal P w K mg base (k + 1) x ps sd := by
  obtain ⟨f, fd, F, m, b⟩ := d.ex
  exact ⟨⟨f, fd, okD F S len (hb f) hr, m, F.kp, b⟩, ms⟩
end
section
variable {X : Cx} {e : Expr} {es : List Expr} {t : AD} {j k : Nat} {x : Str} {ps : List Str} {sd : SpD} {p pos : Pos}
theorem d_cal (c : Cal X.prog X.w X.K X.mg X.base j x ps sd) (hr : Room k X.A) (hj : j ≤ k) (hg : Gl X x) (ha : PAd X (e :: es) t) (hdb : (x == ("__debug__" : Str)) = false := by decide)
    (h1 : starEach (e :: es) X.env = (false, eval e X.env) :: starEach es X.env := by rfl) (h2 : (backTo pos (starEach es X.env)).any (·.1) = false := by rfl) : PD X (.Call (.Name x p) (e :: es) [] pos) (vCall sd t) := by
  obtain ⟨f, fd, F, m, kp, b⟩ := c.ex
  exact d_call F c.ms (hr.mono hj) hg m kp b ha hdb (pe_call F (hr.mono hj) hg m kp b .nil pass0 ha.pa hdb h1 h2)
end
end DC

set_option maxHeartbeats 4000000
namespace DC
open PySem PySem.Spec PyProof.Rows L2
section
variable {X : Cx} {scope : Scope} {cl : List (Str × Addr)} {x : Str} {caps : List Nat} {cn : List Str} {tg iter elt : Expr} {ifs : List Expr} {ti : AD} {tt : TD} {te : ED} {pos : Pos}
theorem d_lc (S : CompScope X scope cl [x] caps cn) (hc : X.calm = true) (hi : PId X tg iter ti) (hg : ∀ C fp s₂ H₂, PG (cxComp X scope cl C ([x] ++ cn) fp s₂ H₂) tg (gName 0)) (ht : ∀ C fp s₂ H₂, PTsd (cxComp X scope cl C ([x] ++ cn) fp s₂ H₂) ifs tt)
    (he : ∀ C fp s₂ H₂, PD (cxComp X scope cl C ([x] ++ cn) fp s₂ H₂) elt te) (hs : ∀ x, foldedSetIterable iter X.env x = pure x := by intro _; rfl) : PD X (.ListComp elt [⟨tg, iter, ifs, 0⟩] scope pos) (vComp caps ti tt te) :=
  d_comp S hc hi hg ht he (ht 0 [] X.s₀ X.H₀).mono (he 0 [] X.s₀ X.H₀).mono hs
theorem isSome_of {cl : List (Str × Addr)} {y : Str} : y ∈ cl.map (·.1) → (cl.lookup y).isSome = true := by
  induction cl with
  | nil => intro h; cases h
  | cons p r ih =>
    intro h
    rw [List.lookup_cons]
    cases q : y == p.1 with
    | true => rfl
    | false =>
      rw [List.map_cons, List.mem_cons] at h
      rcases h with h | h
      · rw [h] at q; simp at q
      · exact ih h
theorem free_of {cl : List (Str × Addr)} (ks : List Str) (hk : cl.map (·.1) = ks) (h : ∀ y ∈ scope.names, y.2 = .free → y.1 ∈ ks) : ∀ y ∈ scope.names, y.2 = .free → (cl.lookup y.1).isSome = true := fun y hy e => isSome_of (by rw [hk]; exact h y hy e)
theorem cells_nil {f : Str × Addr → Prop} : ∀ p ∈ ([] : List (Str × Addr)), f p := fun p h => nomatch h
theorem cells_cons {f : Str × Addr → Prop} {a : Str × Addr} {r : List (Str × Addr)} (h : f a) (hr : ∀ p ∈ r, f p) : ∀ p ∈ a :: r, f p := List.forall_mem_cons.mpr ⟨h, hr⟩
end
section
variable {X : Cx} {e : Expr} {te : ED} {p p2 pos : Pos}
theorem isi_bool (hg : Gl X "isinstance") (hm : X.mg "isinstance" = none) (hg2 : Gl X "bool") (hm2 : X.mg "bool" = none) (he : PD X e te) (hs : starEach [e, .Name "bool" p2] X.env = (false, eval e X.env) :: starEach [.Name "bool" p2] X.env := by rfl) : PD X (.Call (.Name "isinstance" p) [e, .Name "bool" p2] [] pos) (vIsiT "bool" te) := (d_isiT he hg hm hg2 hm2 boot_boolT (by decide) (by decide) hs).isiT he.mono (by decide)
end
end DC

set_option maxHeartbeats 4000000
namespace DC
open PySem PySem.Spec PyProof.Rows L2
section
variable {P : Program} {w : World} {K : PySem.W.Frag} {mg : Str → Option Value} {base : Heap}
end
section
variable {X : Cx} {ok : Addr → Prop} {o e : Expr} {es : List Expr} {m x : Str} {sd : Addr → SpD} {dd : List D} {ta : ED} {t : AD} {pos apos p : Pos} {j k : Nat} {C : Addr} {si : SpI}
end
section
variable {X : Cx} {e : Expr} {te : ED} {p p2 pos pos' : Pos} {f x : Str} {C : Addr}
end
end DC

set_option maxHeartbeats 4000000
namespace DC
open PySem PySem.Spec PyProof.Rows L2
section
variable {X : Cx} {o e : Expr} {es : List Expr} {to te : ED} {t : AD} {p p1 p2 tp pos apos cpos : Pos}
theorem dvs_strs {K : PySem.W.Frag} {H : Hp} : ∀ (ws : List Str), Dvs K H (ws.map V.str) (ws.map D.str)
  | [] => .nil
  | w :: ws => .cons (.str w) (dvs_strs ws)
end
end DC

set_option maxHeartbeats 4000000
namespace L2
open PySem PySem.Spec PyProof.Rows
section
variable {X : Cx}
end
end L2
namespace DC
open PySem PySem.Spec PyProof.Rows L2
section
variable {X : Cx} {e : Expr} {es : List Expr} {t : AD} {p pos : Pos}
end
end DC

set_option maxHeartbeats 4000000
namespace L2
open PySem PySem.Spec PyProof.Rows
section
variable {prog : Program} {w : World} {A : Around} {E : Value → Shared → Prop} {s : Shared}
end
section
variable {prog : Program} {w : World} {A : Around}
end
section
variable {prog : Program} {w : World} {A : Around} {E : Value → Shared → Prop} {s : Shared} {z TI TO i1 i2 l1 l2 : Addr} {k1 k2 : Nat} {xs ys : Array Value} {x y a b : Value} {S1 S2 : Nat → Heap → Prop}
end
end L2

set_option maxHeartbeats 4000000
namespace L2
open PySem PySem.Spec PyProof.Rows
section
variable {prog : Program} {w : World} {A : Around} {E : Value → Shared → Prop} {s : Shared} {z TI TO i1 i2 l1 l2 : Addr} {k1 k2 : Nat} {xs ys : Array Value} {x y a b : Value} {S1 S2 : Nat → Heap → Prop}
end
end L2

set_option maxHeartbeats 4000000
namespace L2
open PySem PySem.Spec PyProof.Rows
section
variable {X : Cx} {pins : List (Addr × Obj)} {σ : St} {H : Hp} {s : Shared} {a : Addr} {xs ys : List V}
end
end L2

set_option maxHeartbeats 4000000
namespace L2
open PySem PySem.Spec PyProof.Rows
section
variable {X : Cx} {e1 e2 : Expr} {ta : TA} {p pos tp : Pos} {elts : List Expr} {c : Nat}
end
end L2
namespace DC
open PySem PySem.Spec PyProof.Rows L2
section
variable {X : Cx} {e1 e2 : Expr} {ta : AD} {p pos tp : Pos} {elts : List Expr} {c : Nat}
end
end DC

set_option maxHeartbeats 4000000
namespace DC
open PySem PySem.Spec PyProof.Rows L2
section
variable {X : Cx} {scope : Scope} {cl : List (Str × Addr)} {x y : Str} {cn : List Str} {caps : List Nat} {elt tg iter : Expr} {ifs : List Expr} {ti : AD} {tt : TD} {te : ED} {pos px py tp : Pos} {c : Nat}
end
end DC

set_option maxHeartbeats 4000000
namespace DC
open PySem PySem.Spec PyProof.Rows L2
section
variable {K : PySem.W.Frag} {H H' : Hp} {μ μ' : Mu} {L L' : List Addr}
theorem StM.join (g : StM K H μ L) (g' : StM K H' μ' L') (z : ∀ b ∈ L, H' b = none) (s : Same (hidL H L) (hidL H' L')) : StM K (showL H' H L) (μ' ++ μ) (L' ++ L) ∧ hidL (showL H' H L) (L' ++ L) = hidL H' L' := by
  have nL : ∀ {b : Addr} {o : HO}, H' b = some o → b ∉ L := fun e hb => by rw [z _ hb] at e; cases e
  have e : hidL (showL H' H L) (L' ++ L) = hidL H' L' := by
    funext b
    by_cases h1 : b ∈ L'
    · rw [hidL_in (List.mem_append_left _ h1), hidL_in h1]
    · by_cases h2 : b ∈ L
      · rw [hidL_in (List.mem_append_right _ h2), hidL_out h1, z b h2]
      · rw [hidL_out (fun q => (List.mem_append.mp q).elim h1 h2), hidL_out h1, showL_out h2]
  refine ⟨⟨fun p hp => ?_, ?_, fun b hb => ?_, fun b hb => ?_⟩, e⟩
  · rcases List.mem_append.mp hp with hp | hp
    · obtain ⟨h1, h2⟩ := g'.at_ p hp
      refine ⟨List.mem_append_left _ h1, ?_⟩
      obtain ⟨b, m⟩ := p
      cases m with
      | lst ds => obtain ⟨ws, h, d⟩ := h2; exact ⟨ws, by rw [showL_out (nL h)]; exact h, by rw [e]; exact d⟩
      | ins C gs => obtain ⟨dx, fs, h, h2, h3, d⟩ := h2; exact ⟨dx, fs, by rw [showL_out (nL h)]; exact h, by rw [showL_out (nL h2)]; exact h2, List.mem_append_left _ h3, by rw [e]; exact d⟩
      | dK kvs => obtain ⟨ws, h, d⟩ := h2; exact ⟨ws, by rw [showL_out (nL h)]; exact h, by rw [e]; exact d⟩
    · obtain ⟨h1, h2⟩ := g.at_ p hp
      refine ⟨List.mem_append_right _ h1, ?_⟩
      obtain ⟨b, m⟩ := p
      cases m with
      | lst ds => obtain ⟨ws, h, d⟩ := h2; exact ⟨ws, by rw [showL_in h1]; exact h, by rw [e]; exact Dvs.same s d⟩
      | ins C gs => obtain ⟨dx, fs, h, h2, h3, d⟩ := h2; exact ⟨dx, fs, by rw [showL_in h1]; exact h, by rw [showL_in h3]; exact h2, List.mem_append_right _ h3, by rw [e]; exact Dvf.same s d⟩
      | dK kvs => obtain ⟨ws, h, d⟩ := h2; exact ⟨ws, by rw [showL_in h1]; exact h, by rw [e]; exact Dvk.same s d⟩
  · rw [List.map_append, List.nodup_append]
    refine ⟨g'.nod, g.nod, fun a ha b hb hab => ?_⟩
    obtain ⟨p, hp, rfl⟩ := List.mem_map.mp ha
    obtain ⟨q, hq, rfl⟩ := List.mem_map.mp hb
    obtain ⟨o, ho⟩ := (g'.hid _ (g'.at_ p hp).1).there
    rw [show p.1 = q.1 from hab, z _ (g.at_ q hq).1] at ho
    cases ho
  · rcases List.mem_append.mp hb with hb | hb
    · have w := g'.hid b hb
      cases w with
      | lst xs h => exact .lst xs (by rw [showL_out (nL h)]; exact h)
      | dK xs h => exact .dK xs (by rw [showL_out (nL h)]; exact h)
      | ins C dx fs h hd => exact .ins C dx fs (by rw [showL_out (nL h)]; exact h) (List.mem_append_left _ hd)
      | own C c fs h hc hi => exact .own C c fs (by rw [showL_out (nL h)]; exact h) (List.mem_append_left _ hc) (by rw [showL_out (nL hi)]; exact hi)
    · have w := g.hid b hb
      cases w with
      | lst xs h => exact .lst xs (by rw [showL_in hb]; exact h)
      | dK xs h => exact .dK xs (by rw [showL_in hb]; exact h)
      | ins C dx fs h hd => exact .ins C dx fs (by rw [showL_in hb]; exact h) (List.mem_append_right _ hd)
      | own C c fs h hc hi => exact .own C c fs (by rw [showL_in hb]; exact h) (List.mem_append_right _ hc) (by rw [showL_in hc]; exact hi)
  · rcases List.mem_append.mp hb with hb | hb
    · rcases g'.cov b hb with ⟨m, h⟩ | ⟨c, h⟩
      · exact .inl ⟨m, List.mem_append_left _ h⟩
      · exact .inr ⟨c, by rw [showL_out (nL h)]; exact h⟩
    · rcases g.cov b hb with ⟨m, h⟩ | ⟨c, h⟩
      · exact .inl ⟨m, List.mem_append_right _ h⟩
      · exact .inr ⟨c, by rw [showL_in hb]; exact h⟩
end
abbrev EF := SD → (D → Mu → Prop) → Prop
def kF (K : PySem.W.Frag) (H : Hp) (Q : VK) : D → Mu → Prop := fun d μ => ∀ v H' L', Same H (hidL H' L') → StM K H' μ L' → Dv K (hidL H' L') v d → Q v H'
theorem kF.on {K : PySem.W.Frag} {H H1 : Hp} {Q : VK} {d : D} {μ : Mu} (s : Same H H1) (h : kF K H Q d μ) : kF K H1 Q d μ := fun v H' L' s' g dv => h v H' L' (s.trans s') g dv
structure PF (X : Cx) (e : Expr) (t : EF) : Prop where
  pe : PE X e (fun σ H Q => ∃ δ, RelS X.K H σ δ ∧ t δ (kF X.K H Q))
  mono : ∀ δ (P P' : D → Mu → Prop), (∀ d μ, P d μ → P' d μ) → t δ P → t δ P'
abbrev SpF := List D → (D → Mu → Prop) → Prop
abbrev MonoSF (sd : SpF) : Prop := ∀ ds (P P' : D → Mu → Prop), (∀ d μ, P d μ → P' d μ) → sd ds P → sd ds P'
def spF (K : PySem.W.Frag) (sd : SpF) : Sp := fun vs H Q _ => ∃ ds, Dvs K H vs ds ∧ sd ds (kF K H Q)
section
variable {P : Program} {w : World} {K : PySem.W.Frag} {mg : Str → Option Value} {base : Heap}
theorem okF {x qual : Str} {st : Stmt} {f : Addr} {fd : FuncData} {N ps : List Str} {k : Nat} {sd : SpF} {t : TMD} (F : Fun K x qual st f fd) (S : FnScope N ps (defScope st)) (len : ∀ ds Q, sd ds Q → ds.length = ps.length)
    (hb : ∀ (cdv : Value) (A : Around) (outer : List Env) (s : Shared) (H : Hp) (E : XK), Room k (A.deeper (envOfC qual (defScope st) s.heap.objs.size f cdv)) → PMs (Bx P w K mg base N qual st f cdv A outer s H E) (defBody st) t)
    (hr : ∀ ds Q, sd ds Q → t { nx := fun _ μ => Q .non μ, rt := Q } (startD N ds) []) : FnOk P w K mg base CX0 (k + 1) f fd ps (spF K sd) := by
  refine F.ok S (fun vs H Q E ⟨ds, dvs, h⟩ => by rw [dvs.length]; exact len ds _ h) (fun cdv A outer s H vs Q E hroom ⟨ds, dvs, h⟩ => ?_)
  have B := hb cdv A outer s H E hroom
  refine ⟨_, B.ps, startD N ds, [], [], by rw [hidL_nil]; exact start_rel dvs, StM.nil, ?_⟩
  refine B.mono { nx := fun _ μ => kF K H Q .non μ, rt := kF K H Q } _ _ _ ⟨fun δ μ q σ H' L' s' r g => ?_, fun d μ q v H' L' s' g dv => ?_, fun _ _ q => q.elim, fun _ _ q => q.elim⟩ (hr ds _ h)
  · rw [hidL_nil] at s'
    exact q _ H' L' s' g .non
  · rw [hidL_nil] at s'
    exact q v H' L' s' g dv
theorem spF_of {sd : SpF} {se : SpD} (ms : MonoSF sd) (h : ∀ ds Q, se ds Q → sd ds fun d μ => Q (viewD μ d)) : ∀ vs H Q E, spOf K se vs H Q E → spF K sd vs H Q E := fun vs H Q E ⟨ds, dvs, q⟩ =>
  ⟨ds, dvs, ms _ _ _ (fun d μ k v H' L' s g dv => k v H' (s.trans hidL_same) (g.view dv)) (h ds _ q)⟩
end
structure CalF (P : Program) (w : World) (K : PySem.W.Frag) (mg : Str → Option Value) (base : Heap) (k : Nat) (x : Str) (ps : List Str) (sd : SpF) : Prop where
  ex : ∃ f fd, FnOk P w K mg base CX0 k f fd ps (spF K sd) ∧ mg x = some (.ref f) ∧ PySem.W.keepIn K (.ref f) = true ∧ Binds K fd ps []
  ms : MonoSF sd
section
variable {X : Cx} {o e : Expr} {es : List Expr} {ta : ED} {t : AD} {tf : EF} {j k : Nat} {x m : Str} {ps : List Str} {sd : SpF} {sm : Addr → SpF} {ok : Addr → Prop} {p pos pos' apos : Pos} {i : Nat}
def fCall (sd : SpF) (t : AD) : EF := fun δ Q => t δ fun ds => sd ds Q
theorem f_cal (c : CalF X.prog X.w X.K X.mg X.base j x ps sd) (hr : Room k X.A) (hj : j ≤ k) (hg : Gl X x) (ha : PAd X (e :: es) t) (hdb : (x == ("__debug__" : Str)) = false := by decide)
    (h1 : starEach (e :: es) X.env = (false, eval e X.env) :: starEach es X.env := by rfl) (h2 : (backTo pos (starEach es X.env)).any (·.1) = false := by rfl) : PF X (.Call (.Name x p) (e :: es) [] pos) (fCall sd t) := by
  obtain ⟨f, fd, F, m, kp, b⟩ := c.ex
  refine ⟨(pe_call F (hr.mono hj) hg m kp b .nil pass0 ha.pa hdb h1 h2).imp fun σ H Q ⟨δ, r, h⟩ => ⟨δ, r, ha.mono _ _ _ (fun ds q vs H1 s1 dvs => ⟨ds, by rw [List.append_nil]; exact dvs, c.ms _ _ _ (fun d μ k => k.on s1) q⟩) h⟩, fun δ P P' g h => ha.mono _ _ _ (fun ds q => c.ms _ _ _ g q) h⟩
end
end DC

set_option maxHeartbeats 4000000
namespace DC
open PySem PySem.Spec PyProof.Rows L2
section
variable {X : Cx} {a : Addr} {kvs : List (Str × V)}
end
section
variable {X : Cx} {a : Addr} {tab : List (Str × D)} {kvs : List (Str × V)} {x : Str} {p pos : Pos} {e : Expr} {te : ED}
end
def mO (g : D → D) (ds : List D) : List (Option D) := ds.map fun d => some (g d)
def fO (p : D → Bool) (g : D → D) (ds : List D) : List (Option D) := ds.map fun d => if p d = true then some (g d) else none
theorem mO_len {g : D → D} {ds : List D} : (mO g ds).length = ds.length := by simp [mO]
theorem fO_len {p : D → Bool} {g : D → D} {ds : List D} : (fO p g ds).length = ds.length := by simp [fO]
theorem mO_at {g : D → D} {ds : List D} {i : Nat} {d : D} {o : Option D} (h1 : ds[i]? = some d) (h2 : (mO g ds)[i]? = some o) : d ∈ ds ∧ o = some (g d) := by
  unfold mO at h2
  rw [List.getElem?_map, h1] at h2
  exact ⟨List.mem_of_getElem? h1, by simpa using h2.symm⟩
theorem fO_at {p : D → Bool} {g : D → D} {ds : List D} {i : Nat} {d : D} {o : Option D} (h1 : ds[i]? = some d) (h2 : (fO p g ds)[i]? = some o) : d ∈ ds ∧ o = if p d = true then some (g d) else none := by
  unfold fO at h2
  rw [List.getElem?_map, h1] at h2
  exact ⟨List.mem_of_getElem? h1, by simpa using h2.symm⟩
theorem mO_out {g : D → D} : ∀ {ds : List D}, (mO g ds).filterMap id = ds.map g
  | [] => rfl
  | d :: ds => by
    have ih := mO_out (g := g) (ds := ds)
    unfold mO at ih ⊢
    rw [List.map_cons, List.map_cons, ← ih]
    rfl
theorem fO_out {p : D → Bool} {g : D → D} {ds : List D} : (fO p g ds).filterMap id = (ds.filter p).map g := outs_eq p g ds
theorem fO_one {p : D → Bool} {g : D → D} {d : D} {o : Option D} {R : (D → Prop) → Prop} (h : o = if p d = true then some (g d) else none) (r : R fun y => some (g d) = some y) : p d = o.isSome ∧ (p d = true → R fun y => o = some y) := by
  cases hp : p d with
  | true => rw [hp, if_pos rfl] at h; subst h; exact ⟨rfl, fun _ => r⟩
  | false => rw [hp, if_neg Bool.false_ne_true] at h; subst h; exact ⟨rfl, fun z => by cases z⟩
end DC
namespace DC
open PySem PySem.Spec PyProof.Rows L2
section
variable {X : Cx} {e : Expr} {tf : EF} {x : Str} {pos pos' : Pos} {i : Nat}
def mSetN (i : Nat) (tf : EF) : TMD := fun E δ μ => tf δ fun d μ' => ((μ' ++ μ).map (·.1)).Nodup → E.nx (δ.set i (some d)) (μ' ++ μ)
theorem ms_setN (hN : X.N.Nodup) (hi : X.N[i]? = some x) (hx : Loc X.env.scope x) (he : PF X e tf) (hs : swapsWith e (some (.Name x pos')) pos.line X.env = pure false := by rfl)
    (hf : X.fn x = true ∨ X.env.scope.names.lookup x = some .local := by first | exact .inl rfl | exact .inr rfl | assumption) : PMd X (.Assign [.Name x pos'] e pos) (mSetN i tf) := by
  refine ⟨PS.imp (ps_set hN hi hx (pe_frM he.pe) hs hf) fun D σ H ⟨δ, μ, L, r, g, h⟩ => ⟨L, g.hid, δ, r, he.mono _ _ _ (fun d μ' k v H' L' s' g' dv z => ?_) h⟩, fun E E' δ μ l h => he.mono _ _ _ (fun d μ' q n => l.nx _ _ (q n)) h⟩
  obtain ⟨g2, e2⟩ := g.join g' z s'
  refine k g2.nod _ _ (L' ++ L) (by rw [e2]; exact s') ?_ g2
  rw [e2]
  exact (r.same s').set i dv
end
end DC

set_option maxHeartbeats 4000000
namespace L2
open PySem PySem.Spec PyProof.Rows
section
variable {X : Cx} {es : List Expr} {t : TA}
end
end L2
namespace DC
open PySem PySem.Spec PyProof.Rows L2
section
variable {P : Program} {w : World} {K : PySem.W.Frag} {mg : Str → Option Value} {base : Heap}
end
section
variable {P : Program} {w : World} {K : PySem.W.Frag} {mg : Str → Option Value} {base : Heap}
end
section
variable {X : Cx} {o e : Expr} {es : List Expr} {ta : ED} {t : AD} {j k : Nat} {x y m : Str} {ps : List Str} {sd : SpM} {sm : Addr → SpM} {ok : Addr → Prop} {p pos pos' pos2 apos : Pos} {i : Nat}
end
end DC

set_option maxHeartbeats 4000000
namespace L2
open PySem PySem.Spec PyProof.Rows
def ExAt (B : Heap) (e C : Addr) (dx : Option Addr) (fl : Option Value) (h : Heap) : Prop := ∃ oe vs, h.get? e = some oe ∧ oe.cls = .ref C ∧ oe.dict = dx ∧ oe.data = .fields vs ∧ 1 < vs.size ∧ vs[2]? = some .none ∧
  match fl with
  | none => vs[1]? = some .none
  | some v => ∃ T oT ts, vs[1]? = some (.ref T) ∧ B.get? T = none ∧ T ≠ e ∧ h.get? T = some oT ∧ oT.data = .fields ts ∧ ts[3]? = some v
structure Air (B : Heap) (l : List Env) (e : Addr) (h : Heap) : Prop where
  st : B.StaysIn h
  ne : B.get? e = none
  fr : h.FunFrames B l
theorem dict_mapFields (o : Obj) (f : Array Value → Array Value) : (o.mapFields f).dict = o.dict := by
  obtain ⟨c, d, dt, sl⟩ := o
  cases dt <;> rfl
section
variable {M : Model} {A : Around} {E : Value → Shared → Prop} {s : Shared} {B : Heap} {env : Env} {outer : List Env} {L e C : Addr} {dx : Option Addr} {Q : Unit → Shared → Prop}
theorem entry_x {oe : Obj} {vs : Array Value} {head : Value} {b : Bool} (hfr : A.frames = some (env :: outer)) (hf : env.frame = some L) (a : Air B (env :: outer) e s.heap) (he : s.heap.get? e = some oe) (hc : oe.cls = .ref C)
    (hdx : oe.dict = dx) (hd : oe.data = .fields vs) (hz : 1 < vs.size) (hy : vs[2]? = some .none) (h : ∀ h', Air B (env :: outer) e h' → s.heap.UpToSlots h' → ExAt B e C dx (some (rawInt L)) h' → Q () { s with heap := h' }) :
    wpAny M A (do let a ← frameOf env; let pl ← entryPlaceOf L b; let z ← EntryCells.newEntry head a .none (rawInt L) .none pl; setField (.ref e) 1 z) Q E s := by
  have nfr : e ∉ (env :: outer).filterMap (·.frame) := fun hm => by
    obtain ⟨_, o, ho, hn⟩ := a.fr.mem hm
    rw [he] at ho
    cases ho
    exact hn vs hd
  refine wpAny_bind (wpAny_frameOf_fun hfr a.fr hf fun h1 s1 => wpAny_bind (wpAny_entryPlaceOf fun pl hpl => ?_))
  unfold EntryCells.newEntry newFields
  refine wpAny_bind (wpAny_newObj_type ?_ (hpl.sizeOk5 _ _ _ _ _))
  have e1 : h1.get? e = some oe := (s1.2.1 e nfr).trans he
  have b1 : B.StaysIn h1 := fun c o q => (s1.2.1 c fun hm => by rw [(a.fr.mem hm).1] at q; cases q).trans (a.st c o q)
  generalize hob : ({ cls := .type "traceback", dict := none, data := .fields ([head, .ref L, .none, rawInt L, .none] ++ (if pl.isEmpty then List.replicate 6 Value.none else pl)).toArray } : Obj) = ob
  have e2 := Heap.get?_push_of_some (h := h1) ob e1
  have hTe : h1.objs.size ≠ e := Nat.ne_of_gt (Heap.lt_size e1)
  have d3 := Obj.data_mapFields hd (·.setIfInBounds 1 (Value.ref h1.objs.size))
  have e3 := Heap.get?_update_self (Obj.mapFields (·.setIfInBounds 1 (Value.ref h1.objs.size))) e2 (Obj.isFreed_of_fields d3)
  have t3 := (Heap.get?_update_other (h1.push ob) (Obj.mapFields (·.setIfInBounds 1 (Value.ref h1.objs.size))) (Ne.symm hTe)).trans (Heap.get?_push_size h1 (by rw [← hob]; rfl))
  have kp : ∀ c o, c ≠ e → h1.get? c = some o → ((h1.push ob).update e (Obj.mapFields (·.setIfInBounds 1 (Value.ref h1.objs.size)))).get? c = some o := fun c o n q => by
    rw [Heap.get?_update_other _ _ (Ne.symm n)]
    exact Heap.get?_push_of_some _ q
  have nr : ∀ c o, s.heap.get? c = some o → (∀ ws, o.data ≠ .fields ws) → c ≠ e := fun c o q n z => by
    rw [z, he] at q
    cases q
    exact n vs hd
  refine wpAny_setField e2 hd hz (h _ ⟨fun c o q => kp c o (fun z => by rw [z, a.ne] at q; cases q) (b1 c o q), a.ne, a.fr.of_keeps fun c o q n => ?_⟩ (fun c o q n => ?_) ⟨_, _, e3, ?_, ?_, d3, ?_, ?_, ?_⟩)
  · obtain ⟨sl, z⟩ := s1.2.2 c o q
    exact ⟨_, kp c _ (nr c o q n) z, rfl⟩
  · obtain ⟨sl, z⟩ := s1.2.2 c o q
    exact ⟨sl, kp c _ (nr c o q n) z⟩
  · rw [Obj.cls_mapFields]; exact hc
  · rw [dict_mapFields]; exact hdx
  · rw [Array.size_setIfInBounds]; exact hz
  · rw [Array.getElem?_setIfInBounds_ne (by decide)]; exact hy
  · refine ⟨h1.objs.size, ob, _, by simp [hz], b1.fresh, hTe, t3, by rw [← hob], ?_⟩
    first | (simp; done) | (rcases hpl with rfl | ⟨_, _, _, _, _, _, _, rfl⟩ <;> simp)
theorem upd_T {T : Addr} {oT : Obj} {ts : Array Value} {k : Nat} {v : Value} {h : Heap} {l : List Env} (a : Air B l e h) (hT : h.get? T = some oT) (hd : oT.data = .fields ts) (hn : B.get? T = none) :
    Air B l e (h.update T (Obj.mapFields (·.setIfInBounds k v))) ∧ h.UpToSlots (h.update T (Obj.mapFields (·.setIfInBounds k v))) := by
  have other : ∀ b, b ≠ T → (h.update T (Obj.mapFields (·.setIfInBounds k v))).get? b = h.get? b := fun b n => Heap.get?_update_other _ _ (Ne.symm n)
  have nr : ∀ c o, h.get? c = some o → (∀ ws, o.data ≠ .fields ws) → c ≠ T := fun c o q n z => by
    rw [z, hT] at q
    cases q
    exact n ts hd
  exact ⟨⟨fun b o q => (other b fun z => by rw [z, hn] at q; cases q).trans (a.st b o q), a.ne, a.fr.of_keeps fun c o q n => ⟨o, (other c (nr c o q n)).trans q, rfl⟩⟩, fun c o q n => ⟨o.slots, (other c (nr c o q n)).trans q⟩⟩
theorem note_x {fl : Option Value} (hfr : A.frames = some (env :: outer)) (hf : env.frame = some L) (a : Air B (env :: outer) e s.heap) (x : ExAt B e C dx fl s.heap)
    (h : ∀ h', Air B (env :: outer) e h' → s.heap.UpToSlots h' → ExAt B e C dx (some (rawInt L)) h' → Q () { s with heap := h' }) : wpAny M A (noteFrame (.ref e) env) Q E s := by
  obtain ⟨oe, vs, he, hc, hdx, hd, hz, hy, x⟩ := x
  unfold noteFrame
  simp only [hf]
  cases fl with
  | none =>
    refine wpAny_bind (wpAny_field he hd x ?_)
    rw [if_neg (by decide)]
    exact entry_x hfr hf a he hc hdx hd hz hy h
  | some v =>
    obtain ⟨T, oT, ts, h1, hn, hTe, hT, hdT, h3⟩ := x
    refine wpAny_bind (wpAny_field he hd h1 ?_)
    rw [if_pos (show (Value.ref T != Value.none) = true from by simp)]
    refine wpAny_bind (wpAny_field hT hdT h3 ?_)
    by_cases q : (v == rawInt L) = true
    · rw [if_pos q]
      have ev : v = rawInt L := eq_of_beq q
      subst ev
      exact wpAny_pure (h _ a (.refl _) ⟨oe, vs, he, hc, hdx, hd, hz, hy, T, oT, ts, h1, hn, hTe, hT, hdT, h3⟩)
    · rw [if_neg q]
      refine wpAny_bind (wpAny_setField hT hdT (Array.getElem?_eq_some_iff.mp h3).1 ?_)
      obtain ⟨a2, u2⟩ := upd_T (k := 3) (v := Value.none) a hT hdT hn
      have e2 : (s.heap.update T (Obj.mapFields (·.setIfInBounds 3 Value.none))).get? e = some oe := (Heap.get?_update_other _ _ hTe).trans he
      exact entry_x (s := { s with heap := s.heap.update T (Obj.mapFields (·.setIfInBounds 3 Value.none)) }) hfr hf a2 e2 hc hdx hd hz hy fun h' a' u' x' => h h' a' (u2.trans u') x'
theorem flight_x {v : Value} {f : Option Addr} {l : List Env} (a : Air B l e s.heap) (x : ExAt B e C dx (some v) s.heap)
    (h : ∀ h', Air B l e h' → s.heap.UpToSlots h' → ExAt B e C dx (some (f.elim .none fun f => rawInt f)) h' → Q () { s with heap := h' }) : wpAny M A (setFlight (.ref e) f) Q E s := by
  obtain ⟨oe, vs, he, hc, hdx, hd, hz, hy, T, oT, ts, h1, hn, hTe, hT, hdT, h3⟩ := x
  unfold setFlight
  refine wpAny_bind (wpAny_field he hd h1 ?_)
  rw [if_pos (show (Value.ref T != Value.none) = true from by simp)]
  have hz3 : 3 < ts.size := (Array.getElem?_eq_some_iff.mp h3).1
  obtain ⟨a2, u2⟩ := upd_T (k := 3) (v := f.elim Value.none fun f => rawInt f) a hT hdT hn
  refine wpAny_setField hT hdT hz3 (h _ a2 u2 ⟨oe, vs, (Heap.get?_update_other _ _ hTe).trans he, hc, hdx, hd, hz, hy, T, _, _, h1, hn, hTe, Heap.get?_update_self _ hT (Obj.isFreed_of_fields (Obj.data_mapFields hdT _)), Obj.data_mapFields hdT _, by simp [hz3]⟩)
theorem leave_x {fl : Option Value} (hfr : A.frames = some (env :: outer)) (hf : env.frame = some L) (a : Air B (env :: outer) e s.heap) (x : ExAt B e C dx fl s.heap)
    (h : ∀ h', Air B outer e h' → s.heap.UpToSlots h' → ExAt B e C dx (some .none) h' → Q () { s with heap := h' }) : wpAny M A (leaving env (.ref e)) Q E s := by
  unfold leaving
  refine wpAny_bind (note_x hfr hf a x fun h1 a1 u1 x1 => ?_)
  refine flight_x (s := { s with heap := h1 }) a1 x1 fun h2 a2 u2 x2 => h h2 ⟨a2.st, a2.ne, a2.fr.2.2⟩ (u1.trans u2) x2
end
end L2

set_option maxHeartbeats 4000000
namespace L2
open PySem PySem.Spec PyProof.Rows
def HO.dx? : HO → Option Addr
  | .ins _ dx _ => some dx
  | .frz _ u => u.dx?
  | _ => none
section
variable {P : Program} {w : World} {H H' : Hp} {h h' : Heap} {a d : Addr} {u : HO}
theorem ObjOk.there (x : ObjOk P w H h a u) : ∃ o, h.get? a = some o := by
  cases u with
  | lst xs => obtain ⟨_, _, _, _, e⟩ := x; exact ⟨_, e⟩
  | tup xs => obtain ⟨_, _, _, o, e, _⟩ := x; exact ⟨_, e⟩
  | dK kvs => obtain ⟨_, _, _, _, o, _, _, e, _⟩ := x; exact ⟨_, e⟩
  | dT kvs => obtain ⟨_, _, _, _, o, _, _, e, _⟩ := x; exact ⟨_, e⟩
  | set S n => obtain ⟨o, _, _, _, e, _⟩ := x; exact ⟨_, e⟩
  | ins C dx fs => obtain ⟨_, _, _, e, _⟩ := x; exact ⟨_, e⟩
  | own y => exact x
  | xd fs => obtain ⟨_, ⟨o, _, _, e, _⟩, _⟩ := x; exact ⟨_, e⟩
  | rng lo hi => obtain ⟨_, _, _, e⟩ := x; exact ⟨_, e⟩
  | frz ob u => obtain ⟨e, _⟩ := x; exact ⟨_, e⟩
  | tbl ps => exact ⟨_, x⟩
  | met f y => exact ⟨_, x⟩
  | ext φ => obtain ⟨_, e, _⟩ := x; exact e
theorem ObjOk.own_of (x : ObjOk P w H h a u) (e : u.dx? = some d) : H d = some (.own a) := by
  induction u with
  | ins C dx fs => cases e; exact x.1
  | frz o u ih => exact ih x.2 e
  | _ => cases e
theorem ObjOk.swap (ht : ∀ b xs, H b = some (.tup xs) → H' b = some (.tup xs)) (ho : ∀ d, u.dx? = some d → H' d = some (.own a)) (x : ObjOk P w H h a u) : ObjOk P w H' h a u := by
  induction u with
  | dT _ =>
    obtain ⟨z, y, xs, r, c⟩ := x
    exact ⟨z, y, xs, Paired.mapP r fun p q z => ⟨z.1, ht _ _ z.2.1, z.2.2⟩, c⟩
  | ins _ dx _ => exact ⟨ho dx rfl, x.2⟩
  | frz _ u ih => exact ⟨x.1, ih ho x.2⟩
  | _ => exact x
end
open Classical in
noncomputable def frzH (h : Heap) (H : Hp) : Hp := fun b => match H b with
  | none => none
  | some (.tup xs) => some (.tup xs)
  | some (.frz o u) => some (.frz o u)
  | some (.own x) => if ∃ u, H x = some u ∧ u.dx? = some b then some (.own x) else (h.get? b).map fun o => .frz o (.own x)
  | some u => (h.get? b).map fun o => .frz o u
def thaw (H H' : Hp) : Hp := fun b => match H b with
  | some u => some u
  | none => H' b
theorem thaw_same (H H' : Hp) : Same H (thaw H H') := fun b o e => by unfold thaw; rw [e]
theorem thaw_none {H H' : Hp} {b : Addr} (e : H b = none) : thaw H H' b = H' b := by unfold thaw; rw [e]
theorem thaw_some {H H' : Hp} {b : Addr} {u : HO} (e : H b = some u) : thaw H H' b = some u := by unfold thaw; rw [e]
section
variable {P : Program} {w : World} {H H' : Hp} {h h' : Heap} {b : Addr} {u : HO} {fs : List Addr}
theorem frz_none (e : H b = none) : frzH h H b = none := by unfold frzH; rw [e]
theorem frz_tup {xs : List V} (e : H b = some (.tup xs)) : frzH h H b = some (.tup xs) := by unfold frzH; rw [e]
theorem frz_frz {o : Obj} {u : HO} (e : H b = some (.frz o u)) : frzH h H b = some (.frz o u) := by unfold frzH; rw [e]
theorem frz_own {x : Addr} {u : HO} (e : H b = some (.own x)) (hu : H x = some u) (hd : u.dx? = some b) : frzH h H b = some (.own x) := by
  unfold frzH
  rw [e]
  exact if_pos ⟨u, hu, hd⟩
theorem frz_cases (ok : HOk P w H h) (e : H b = some u) : (frzH h H b = some u ∧ ((∃ xs, u = .tup xs) ∨ (∃ o v, u = .frz o v) ∨ ∃ x v, u = .own x ∧ H x = some v ∧ v.dx? = some b)) ∨ ∃ o, h.get? b = some o ∧ frzH h H b = some (.frz o u) := by
  obtain ⟨o, ho⟩ := (ok b u e).there
  cases u with
  | tup xs => exact .inl ⟨frz_tup e, .inl ⟨xs, rfl⟩⟩
  | frz o v => exact .inl ⟨frz_frz e, .inr (.inl ⟨o, v, rfl⟩)⟩
  | own x =>
    by_cases q : ∃ u, H x = some u ∧ u.dx? = some b
    · obtain ⟨v, hv, hd⟩ := q
      exact .inl ⟨frz_own e hv hd, .inr (.inr ⟨x, v, rfl, hv, hd⟩)⟩
    · refine .inr ⟨o, ho, ?_⟩
      unfold frzH
      rw [e]
      show (if _ then _ else _) = _
      rw [if_neg q, ho]
      rfl
  | _ => exact .inr ⟨o, ho, by unfold frzH; rw [e]; show (h.get? b).map _ = _; rw [ho]; rfl⟩
theorem frz_owned (ok : HOk P w H h) {a d : Addr} (ea : H a = some u) (hd : u.dx? = some d) : frzH h H d = some (.own a) ∧ H d = some (.own a) := by
  have z := ObjOk.own_of (ok a u ea) hd
  exact ⟨frz_own z ea hd, z⟩
theorem HOk.frz (ok : HOk P w H h) : HOk P w (frzH h H) h := fun b v e => by
  have ht : ∀ b xs, H b = some (.tup xs) → frzH h H b = some (.tup xs) := fun b xs q => frz_tup q
  cases q : H b with
  | none => rw [frz_none q] at e; cases e
  | some y =>
    have own : ∀ d, y.dx? = some d → frzH h H d = some (.own b) := fun d hd => (frz_owned ok q hd).1
    rcases frz_cases ok q with ⟨z, _⟩ | ⟨o, ho, z⟩
    · rw [z] at e
      cases e
      exact ObjOk.swap ht own (ok b _ q)
    · rw [z] at e
      cases e
      exact ⟨ho, ObjOk.swap ht own (ok b _ q)⟩
structure Thw (h : Heap) (H H' : Hp) : Prop where
  tups : ∀ b xs, frzH h H b = some (.tup xs) → H' b = some (.tup xs)
  frzs : ∀ b o u, frzH h H b = some (.frz o u) → H' b = some (.frz o u)
theorem thaw_cases (ok : HOk P w H h) (un : Thw h H H') (ok' : HOk P w H' h') (e : H b = some u) : ((∃ xs, u = .tup xs) ∧ H' b = some u) ∨ ((∃ o v, u = .frz o v) ∧ H' b = some u) ∨ ((∃ x v, u = .own x ∧ H x = some v ∧ v.dx? = some b) ∧ H' b = some u) ∨ ∃ o, H' b = some (.frz o u) := by
  rcases frz_cases ok e with ⟨z, q⟩ | ⟨o, ho, z⟩
  · rcases q with ⟨xs, rfl⟩ | ⟨o, v, rfl⟩ | ⟨x, v, rfl, hx, hd⟩
    · exact .inl ⟨⟨xs, rfl⟩, un.tups _ _ z⟩
    · exact .inr (.inl ⟨⟨o, v, rfl⟩, un.frzs _ _ _ z⟩)
    · refine .inr (.inr (.inl ⟨⟨x, v, rfl, hx, hd⟩, ?_⟩))
      rcases frz_cases ok hx with ⟨y, r⟩ | ⟨o', _, y⟩
      · rcases r with ⟨xs, rfl⟩ | ⟨o, v', rfl⟩ | ⟨x', v', rfl, _⟩
        · cases hd
        · exact ObjOk.own_of (ok' x _ (un.frzs _ _ _ y)) hd
        · cases hd
      · exact ObjOk.own_of (u := .frz o' v) (ok' x _ (un.frzs _ _ _ y)) hd
  · exact .inr (.inr (.inr ⟨o, un.frzs _ _ _ z⟩))
theorem thaw_tup (ok : HOk P w H h) (un : Thw h H H') (ok' : HOk P w H' h') {xs : List V} (e : H' b = some (.tup xs)) : thaw H H' b = some (.tup xs) := by
  cases q : H b with
  | none => rw [thaw_none q]; exact e
  | some u =>
    rw [thaw_some q]
    rcases thaw_cases ok un ok' q with ⟨_, z⟩ | ⟨⟨o, v, rfl⟩, z⟩ | ⟨⟨x, v, rfl, _⟩, z⟩ | ⟨o, z⟩
    · rw [z] at e; exact e
    · rw [z] at e; cases e
    · rw [z] at e; cases e
    · rw [z] at e; cases e
theorem HOk.thaw (ok : HOk P w H h) (un : Thw h H H') (ok' : HOk P w H' h') : HOk P w (thaw H H') h' := fun b v e => by
  have ht : ∀ b xs, H' b = some (.tup xs) → L2.thaw H H' b = some (.tup xs) := fun b xs q => thaw_tup ok un ok' q
  cases q : H b with
  | some y =>
    rw [thaw_some q] at e
    cases e
    have own : ∀ d, v.dx? = some d → L2.thaw H H' d = some (.own b) := fun d hd => thaw_some (frz_owned ok q hd).2
    rcases thaw_cases ok un ok' q with ⟨_, z⟩ | ⟨_, z⟩ | ⟨⟨x, v, rfl, _⟩, z⟩ | ⟨o, z⟩
    · exact ObjOk.swap ht own (ok' b _ z)
    · exact ObjOk.swap ht own (ok' b _ z)
    · exact ok' b _ z
    · exact ObjOk.swap ht own (ok' b _ z).2
  | none =>
    rw [thaw_none q] at e
    refine ObjOk.swap ht (fun d hd => ?_) (ok' b v e)
    have hd' := ObjOk.own_of (ok' b v e) hd
    cases r : H d with
    | none => rw [thaw_none r]; exact hd'
    | some u =>
      exfalso
      rcases thaw_cases ok un ok' r with ⟨⟨xs, rfl⟩, z⟩ | ⟨⟨o, v, rfl⟩, z⟩ | ⟨⟨x, v, rfl, hx, _⟩, z⟩ | ⟨o, z⟩
      · rw [z] at hd'; cases hd'
      · rw [z] at hd'; cases hd'
      · rw [z] at hd'
        cases hd'
        rw [q] at hx
        cases hx
      · rw [z] at hd'; cases hd'
theorem Un.thaw (ok : HOk P w H h) (un : Un fs [] (frzH h H) H' h h') : Un fs [] H (thaw H H') h h' where
  keep := fun b o e n hb hx => un.keep b o e (frz_none n) hb hx
  slot := fun b o e n hb hx => un.slot b o e (frz_none n) hb hx
  free := fun b o e n hx => by rw [thaw_none n]; exact un.free b o e (frz_none n) hx
  there := un.there
  tups := fun b xs e => thaw_some e
  frzs := fun b o u e => thaw_some e
  tbls := fun b ps e => ⟨#[], by rw [thaw_some e]; simp⟩
def HO.data : HO → Prop
  | .own _ => False
  | .frz _ _ => False
  | _ => True
theorem Rd.frz (ok : HOk P w H h) (hu : u.data) (r : Rd H b u) : Rd (frzH h H) b u := by
  rcases r with r | ⟨o, r⟩
  · rcases frz_cases ok r with ⟨z, _⟩ | ⟨o, _, z⟩
    · exact .inl z
    · exact .inr ⟨o, z⟩
  · exact .inr ⟨o, frz_frz r⟩
theorem Rd.thaw (ok : HOk P w H h) (un : Thw h H H') (ok' : HOk P w H' h') (hu : u.data) (r : Rd H' b u) : Rd (thaw H H') b u := by
  cases q : H b with
  | none => unfold Rd; rw [thaw_none q]; exact r
  | some v =>
    unfold Rd
    rw [thaw_some q]
    rcases thaw_cases ok un ok' q with ⟨_, z⟩ | ⟨⟨o, v', rfl⟩, z⟩ | ⟨⟨x, v', rfl, _⟩, z⟩ | ⟨o, z⟩
    · rcases r with r | ⟨o, r⟩
      · rw [z] at r; exact .inl r
      · rw [z] at r; exact .inr ⟨o, r⟩
    · rcases r with r | ⟨o, r⟩
      · rw [z] at r; cases r; exact hu.elim
      · rw [z] at r; exact .inr ⟨o, r⟩
    · rcases r with r | ⟨o, r⟩
      · rw [z] at r; cases r; exact hu.elim
      · rw [z] at r; cases r
    · rcases r with r | ⟨o, r⟩
      · rw [z] at r; cases r; exact hu.elim
      · rw [z] at r; cases r; exact .inl rfl
end
end L2

set_option maxHeartbeats 1000000
namespace L2
open PySem PySem.Spec PyProof.Rows
structure Beneath (fs ex : List Addr) (H : Hp) (h B : Heap) : Prop where
  kp : ∀ b o, h.get? b = some o → H b = none → b ∉ fs → b ∉ ex → B.get? b = some o
  th : ∀ b o, h.get? b = some o → b ∉ fs → b ∉ ex → ∃ o', B.get? b = some o'
def CXD (P : Program) (w : World) : CXT := fun outer H s E e s' => ∃ ea C dx H' B, e = .ref ea ∧ s'.os = s.os ∧ AllBare s'.gens ∧ Un (frs outer) [] H H' s.heap s'.heap ∧ Air B outer ea s'.heap ∧ HOk P w H' B ∧ Beneath (frs outer) [] H s.heap B ∧
  ExAt B ea C dx (some .none) s'.heap ∧ E (.ref C) dx H'
def InAir (X : Cx) (H : Hp) (s : Shared) (ea C : Addr) (dx : Option Addr) : Prop := ∃ B fl, Air B X.stack ea s.heap ∧ HOk X.prog X.w H B ∧ Beneath X.fs X.ex X.H₀ X.s₀.heap B ∧ ExAt B ea C dx fl s.heap ∧ ∀ p ∈ X.pn, B.get? p.1 = some p.2
section
variable {X : Cx} {pins : List (Addr × Obj)} {σ : St} {H : Hp} {s s' : Shared} {E : XK} {e : Value}
theorem Inv.nost (I : Inv X pins σ H s) {b : Addr} {o : Obj} (q : X.s₀.heap.get? b = some o) (hb : b ∉ X.fs) : b ∉ frs X.stack := fun z => by
  rcases List.mem_cons.mp (I.stkSub b z) with y | y
  · exact absurd (Heap.lt_size q) (by rw [y]; exact Nat.not_lt.mpr I.ok.above)
  · exact hb y
theorem Inv.pinOut (I : Inv X pins σ H s) {p : Addr × Obj} (hp : p ∈ X.pn) : p.1 ∉ frs X.stack := fun z => by
  obtain ⟨_, _, n1, n2, _⟩ := I.pin p (List.mem_append_left _ hp)
  rcases List.mem_cons.mp (I.stkSub _ z) with y | y
  · exact n1 y
  · exact n2 y
theorem Inv.beneath (I : Inv X pins σ H s) {B : Heap} (b : Beneath (frs X.stack) [] H s.heap B) : Beneath X.fs X.ex X.H₀ X.s₀.heap B :=
  ⟨fun c o q n hb hx => b.kp c o (I.base.keep c o q n hb hx) (I.base.free c o q n hx) (I.nost q hb) (by simp), fun c o q hb hx => let ⟨o', z⟩ := I.base.there c o q hx; b.th c o' z (I.nost q hb) (by simp)⟩
theorem flown_in (I : Inv X pins σ H s) (h : CXD X.prog X.w X.stack H s E e s') : ∃ ea C dx H', e = .ref ea ∧ Inv X pins σ H' s' ∧ InAir X H' s' ea C dx ∧ E (.ref C) dx H' := by
  obtain ⟨ea, C, dx, H', B, rfl, os, bare, un, a, ok, bn, x, hE⟩ := h
  exact ⟨ea, C, dx, H', rfl, I.call' (ch := []) os un (ok.kept a.st) bare (fun b z => absurd z (by simp)), ⟨B, some .none, a, ok, I.beneath bn, x, fun p hp => bn.kp p.1 p.2 (I.pin p (List.mem_append_left _ hp)).1 (I.pin p (List.mem_append_left _ hp)).2.1 (I.pinOut hp) (by simp)⟩, hE⟩
theorem raised_in {ea C : Addr} {dx : Option Addr} {oe : Obj} {vs : Array Value} (I : Inv X pins σ H s) (he : s.heap.get? ea = some oe) (hc : oe.cls = .ref C) (hd : oe.dict = dx) (hv : oe.data = .fields vs) (hz : 1 < vs.size) (h2 : vs[2]? = some .none) (h1 : vs[1]? = some .none)
    (hn : H ea = none) (h0 : X.s₀.heap.get? ea = none) (hp0 : ∀ p ∈ X.pn, p.1 ≠ ea) : InAir X H s ea C dx := by
  have nin : ∀ b u, H b = some u → b ∉ ea :: frs X.stack := fun b u q z => by
    rcases List.mem_cons.mp z with y | y
    · rw [y, hn] at q; cases q
    · rw [I.stkFree b y] at q; cases q
  refine ⟨PySem.W.hideAll s.heap (ea :: frs X.stack), none, ⟨fun b o q => PySem.W.of_hideAll _ q, PySem.W.hideAll_none _ (List.mem_cons_self ..), ?_⟩, fun a o q => ?_, ⟨fun b o q n hb hx => ?_, fun b o q hb hx => ?_⟩, ⟨oe, vs, he, hc, hd, hv, hz, h2, h1⟩, fun p hp => PySem.W.hideAll_get _ (I.pin p (List.mem_append_left _ hp)).1 fun z => ?_⟩
  · exact PySem.W.funFrames_hide I.stack fun env hm b q => List.mem_cons_of_mem _ (List.mem_filterMap.mpr ⟨env, hm, q⟩)
  · refine (I.hok a o q).stay (fun b u hb z => PySem.W.hideAll_get _ z ?_) (fun _ z => z) fun _ _ z => z
    rcases hb with rfl | hb
    · exact nin _ _ q
    · exact nin _ _ hb
  · refine PySem.W.hideAll_get _ (I.base.keep b o q n hb hx) fun z => ?_
    rcases List.mem_cons.mp z with y | y
    · rw [y, h0] at q; cases q
    · exact I.nost q hb y
  · obtain ⟨o', z⟩ := I.base.there b o q hx
    refine ⟨o', PySem.W.hideAll_get _ z fun y => ?_⟩
    rcases List.mem_cons.mp y with y | y
    · rw [y, h0] at q; cases q
    · exact I.nost q hb y
  · rcases List.mem_cons.mp z with y | y
    · exact hp0 p hp y
    · exact I.pinOut hp y
end
theorem acc_def {P : Program} {w : World} {K : PySem.W.Frag} {mg : Str → Option Value} {base : Heap} {N : List Str} {qual : Str} {scope : Scope} {f : Addr} {cd : Value} {A : Around} {outer : List Env} {s s1 : Shared} {H H1 : Hp} {E : XK} {pins : List (Addr × Obj)} {σ : St} {ea C : Addr} {dx : Option Addr}
    (I : Inv (cxOf (CXD P w) P w K mg base N qual scope f cd A outer s H E) pins σ H1 s1) (a : InAir (cxOf (CXD P w) P w K mg base N qual scope f cd A outer s H E) H1 s1 ea C dx) (h : E (.ref C) dx H1) :
    (cxOf (CXD P w) P w K mg base N qual scope f cd A outer s H E).xe (.ref ea) s1 := by
  obtain ⟨B, fl, a, ok, bn, x, _⟩ := a
  have fr := a.fr
  refine leave_x (env := envOfC qual scope s.heap.objs.size f cd) (outer := outer) (L := s.heap.objs.size) I.ok.frames rfl a x fun h' a' u' x' => ?_
  have noA : ∀ b : Addr, b ∉ ([] : List Addr) := fun b z => absurd z (by simp)
  have up : ∀ b o, b ∈ frs outer → s1.heap.get? b = some o → ∃ sl, h'.get? b = some { o with slots := sl } := fun b o hb q => by
    have hm : b ∈ ((envOfC qual scope s.heap.objs.size f cd) :: outer).filterMap (·.frame) := by
      obtain ⟨env, hm, hf⟩ := List.mem_filterMap.mp hb
      exact List.mem_filterMap.mpr ⟨env, List.mem_cons_of_mem _ hm, hf⟩
    obtain ⟨_, o', ho', nf⟩ := fr.mem hm
    rw [q] at ho'
    cases ho'
    exact u' b o q nf
  refine ⟨ea, C, dx, H1, B, rfl, I.os, I.bare, ⟨fun b o q n hb hx => a'.st b o (bn.kp b o q n hb hx), fun b o q n hb hx => ?_, I.base.free, fun b o q hx => ?_, I.base.tups, I.base.frzs, I.base.tbls⟩, a', ok, bn, x', h⟩
  · obtain ⟨sl, z⟩ := I.base.slot b o q n hb hx
    obtain ⟨sl', z'⟩ := up b _ hb z
    exact ⟨sl', z'⟩
  · by_cases hb : b ∈ frs outer
    · obtain ⟨o', z⟩ := I.base.there b o q hx
      obtain ⟨sl', z'⟩ := up b _ hb z
      exact ⟨_, z'⟩
    · obtain ⟨o', z⟩ := bn.th b o q hb hx
      exact ⟨o', a'.st b o' z⟩
theorem CXD.thaw {P : Program} {w : World} {l : List Env} {H : Hp} {s s' : Shared} {E : XK} {e : Value} (ok : HOk P w H s.heap) (h : CXD P w l (frzH s.heap H) s E e s') :
    CXD P w l H s (fun cls dx H'' => ∃ H', H'' = L2.thaw H H' ∧ (∀ b u, HO.data u → Rd H' b u → Rd (L2.thaw H H') b u) ∧ E cls dx H') e s' := by
  obtain ⟨ea, C, dx, H', B, rfl, os, bare, un, a, ok', bn, x, hE⟩ := h
  have t : Thw s.heap H H' := ⟨un.tups, un.frzs⟩
  exact ⟨ea, C, dx, L2.thaw H H', B, rfl, os, bare, un.thaw ok, a, ok.thaw t ok', ⟨fun b o q n hb hx => bn.kp b o q (frz_none n) hb hx, bn.th⟩, x, H', rfl, fun b u hu r => r.thaw ok t ok' hu, hE⟩
theorem Env0.frz {P : Program} {w : World} {K : PySem.W.Frag} {mg : Str → Option Value} {base : Heap} {A : Around} {outer : List Env} {s : Shared} {H : Hp} (e : Env0 P w K mg base A outer s H) : Env0 P w K mg base A outer s (frzH s.heap H) :=
  ⟨e.frames, e.mod, fun b o q => ⟨(e.bs b o q).1, frz_none (e.bs b o q).2⟩, e.bsz, e.funs, fun b hb => frz_none (e.frf b hb), e.hok.frz, e.bare⟩
section
variable {X : Cx} {k : Nat} {f C : Addr} {fd : FuncData} {ps : List Str} {sp : Sp} {dvs : List V} {ds : List Value}
theorem run_fnX {pins : List (Addr × Obj)} {σ : St} {H : Hp} {s : Shared} {Q Q' : VK} {E : XK} {us : List Value} {vs : List V} (F : FnOk X.prog X.w X.K X.mg X.base (CXD X.prog X.w) k f fd ps sp) (hr : Room k X.A) (hb : Binds X.K fd ps ds) (hd : Vals dvs ds)
    (I : Inv X pins σ H s) (r : Vals vs us) (h : sp (vs ++ dvs) (frzH s.heap H) Q' E) (hQ : ∀ v H', (∀ b u, HO.data u → Rd H' b u → Rd (thaw H H') b u) → Q' v H' → Q v (thaw H H'))
    (hE : ∀ ea C dx H' s', Inv X pins σ (thaw H H') s' → InAir X (thaw H H') s' ea C dx → (∀ b u, HO.data u → Rd H' b u → Rd (thaw H H') b u) → E (.ref C) dx H' → X.xe (.ref ea) s') : wpAny (model X.prog X.w) X.A (call (.ref f) us) (EP X pins σ Q) X.xe s := by
  have r2 : Vals (vs ++ dvs) (us ++ ds) := r.append hd
  have hl : (us ++ ds).length = ps.length := by rw [← r2.length]; exact F.len _ _ _ _ h
  refine wpAny_call (codeAny_mono (F.run X.A X.stack s _ ⟨us, []⟩ (us ++ ds) (vs ++ dvs) Q' E hr I.env0.frz (hb s us I.kIn hl) r2 h) fun r s' hq => ?_)
  cases r with
  | error e =>
    obtain ⟨ea, C, dx, H'', rfl, I', a', H', rfl, rd, he⟩ := flown_in I (CXD.thaw I.hok hq)
    exact hE ea C dx H' s' I' a' rd he
  | ok fl =>
    cases fl with
    | ret u =>
      obtain ⟨v, H', os, bare, un, hok, rv, q⟩ := (show CE X.stack X.prog X.w (frzH s.heap H) s Q' u s' from hq)
      have t : Thw s.heap H H' := ⟨un.tups, un.frzs⟩
      exact ⟨v, thaw H H', I.call' (ch := []) os (un.thaw I.hok) (I.hok.thaw t hok) bare (fun b z => absurd z (by simp)), rv, hQ v H' (fun b u hu r => r.thaw I.hok t hok hu) q⟩
    | next => exact False.elim hq
    | brk => exact False.elim hq
    | cont => exact False.elim hq
end
end L2

set_option maxHeartbeats 1000000
namespace L2
open PySem PySem.Spec PyProof.Rows
theorem SqL.rd {K : PySem.W.Frag} {H H' : Hp} {a : Addr} {xs : List V} (f : ∀ b u, HO.data u → Rd H b u → Rd H' b u) (h : SqL K H a xs) : SqL K H' a xs := by
  rcases h with h | h
  · exact .inl (f _ _ True.intro h)
  · exact .inr h
theorem SqT.rd {K : PySem.W.Frag} {H H' : Hp} {a : Addr} {xs : List V} (f : ∀ b u, HO.data u → Rd H b u → Rd H' b u) (h : SqT K H a xs) : SqT K H' a xs := by
  rcases h with h | h
  · exact .inl (f _ _ True.intro h)
  · exact .inr h
end L2
namespace DC
open PySem PySem.Spec PyProof.Rows L2
section
variable {K : PySem.W.Frag} {H H' : Hp}
theorem XDict.rd (f : ∀ b u, HO.data u → Rd H b u → Rd H' b u) {dx : Option Addr} {fs : List (Str × V)} (h : XDict H dx fs) : XDict H' dx fs := by
  cases dx with
  | none => exact h
  | some d => exact f _ _ True.intro h
mutual
theorem Dv.rd (f : ∀ b u, HO.data u → Rd H b u → Rd H' b u) : ∀ {v : V} {d : D}, Dv K H v d → Dv K H' v d
  | _, _, .non => .non
  | _, _, .bl b => .bl b
  | _, _, .int i => .int i
  | _, _, .str x => .str x
  | _, _, .lst h1 h2 => .lst (h1.rd f) (Dvs.rd f h2)
  | _, _, .tup h1 h2 => .tup (h1.rd f) (Dvs.rd f h2)
  | _, _, .obj h1 h2 => .obj (f _ _ True.intro h1) (Dvf.rd f h2)
  | _, _, .dK h1 h2 => .dK (f _ _ True.intro h1) (Dvk.rd f h2)
  | _, _, .dT h1 h2 => .dT (f _ _ True.intro h1) (Dvt.rd f h2)
  | _, _, .adr a => .adr a
  | _, _, .exc h1 h2 h3 => .exc (f _ _ True.intro h1) (XDict.rd f h2) (Dvf.rd f h3)
theorem Dvs.rd (f : ∀ b u, HO.data u → Rd H b u → Rd H' b u) : ∀ {vs : List V} {ds : List D}, Dvs K H vs ds → Dvs K H' vs ds
  | _, _, .nil => .nil
  | _, _, .cons h1 h2 => .cons (Dv.rd f h1) (Dvs.rd f h2)
theorem Dvf.rd (f : ∀ b u, HO.data u → Rd H b u → Rd H' b u) : ∀ {vs : List (Str × V)} {ds : List (Str × D)}, Dvf K H vs ds → Dvf K H' vs ds
  | _, _, .nil => .nil
  | _, _, .cons h1 h2 => .cons (Dv.rd f h1) (Dvf.rd f h2)
theorem Dvk.rd (f : ∀ b u, HO.data u → Rd H b u → Rd H' b u) : ∀ {vs : List (Key × V)} {ds : List (Key × D)}, Dvk K H vs ds → Dvk K H' vs ds
  | _, _, .nil => .nil
  | _, _, .cons h1 h2 => .cons (Dv.rd f h1) (Dvk.rd f h2)
theorem Dvt.rd (f : ∀ b u, HO.data u → Rd H b u → Rd H' b u) : ∀ {vs : List (List Key × V)} {ds : List (List Key × D)}, Dvt K H vs ds → Dvt K H' vs ds
  | _, _, .nil => .nil
  | _, _, .cons h1 h2 => .cons (Dv.rd f h1) (Dvt.rd f h2)
end
end
abbrev XR := Addr → List (Str × D) → Prop
abbrev SpX := List D → (D → Prop) → XR → Prop
abbrev MonoX (sx : SpX) : Prop := ∀ ds (P P' : D → Prop) (R R' : XR), (∀ d, P d → P' d) → (∀ C g, R C g → R' C g) → sx ds P R → sx ds P' R'
def kX (K : PySem.W.Frag) (E : XK) : XR := fun C gs => ∀ dx fs H', XDict H' dx fs → Dvf K H' fs gs → E (.ref C) dx H'
def spX (K : PySem.W.Frag) (sx : SpX) : Sp := fun vs H Q E => ∃ ds, Dvs K H vs ds ∧ sx ds (fun d => ∀ v H', Dv K H' v d → Q v H') (kX K E)
def XAcc (X : Cx) (xk : SD → XR) : Prop := ∀ pins σ δ H s ea C dx fs gs, Inv X pins σ H s → RelS X.K H σ δ → InAir X H s ea C dx → XDict H dx fs → Dvf X.K H fs gs → xk δ C gs → X.xe (.ref ea) s
def wishX (K : PySem.W.Frag) (R : XR) : XK := fun cls dx H' => ∃ C gs fs, cls = .ref C ∧ XDict H' dx fs ∧ Dvf K H' fs gs ∧ R C gs
theorem kX_wish {K : PySem.W.Frag} {R : XR} {C : Addr} {gs : List (Str × D)} (h : R C gs) : kX K (wishX K R) C gs := fun dx fs H' xd df => ⟨C, gs, fs, rfl, xd, df, h⟩
def backX (K : PySem.W.Frag) (P : D → Prop) : VK := fun v H' => ∃ d, Dv K H' v d ∧ P d
section
variable {X : Cx} {e : Expr} {es : List Expr} {t : AD} {pos p : Pos} {x : Str} {k : Nat} {f : Addr} {fd : FuncData} {ps : List Str} {sx : SpX} {xk : SD → XR} {dvs : List V} {dls : List Value} {dd : List D}
theorem run_X {pins : List (Addr × Obj)} {σ : L2.St} {δ : SD} {H H1 : Hp} {s : Shared} {Q : VK} {us : List Value} {vs : List V} {ds : List D} (hx : XAcc X xk) (F : FnOk X.prog X.w X.K X.mg X.base (CXD X.prog X.w) k f fd ps (spX X.K sx)) (ms : MonoX sx) (hr : Room k X.A) (hb : Binds X.K fd ps dls) (hd : Vals dvs dls) (hdd : ∀ H, Dvs X.K H dvs dd)
    (I : Inv X pins σ H1 s) (rs : RelS X.K H σ δ) (s1 : Same H H1) (r : Vals vs us) (dv : Dvs X.K H1 vs ds) (h : sx (ds ++ dd) (kD X.K H Q) (xk δ)) : wpAny (model X.prog X.w) X.A (call (.ref f) us) (EP X pins σ Q) X.xe s := by
  refine run_fnX (Q' := backX X.K (kD X.K H Q)) (E := wishX X.K (xk δ)) F hr hb hd I r ⟨ds ++ dd, ((dv.append (hdd H1)).rd fun b u hu z => z.frz I.hok hu), ms _ _ _ _ _ (fun d q v H' dv => ⟨d, dv, q⟩) (fun C g q => kX_wish q) h⟩ ?_ ?_
  · rintro v H' rd ⟨d, dv, q⟩
    exact q v _ (s1.trans (thaw_same _ _)) (dv.rd rd)
  · rintro ea C dx H' s' I' a rd ⟨C', gs, fs, e, xd, df, q⟩
    cases e
    exact hx pins σ δ _ s' ea C dx fs gs I' (rs.same (s1.trans (thaw_same _ _))) a (XDict.rd rd xd) (Dvf.rd rd df) q
def vCallX (xk : SD → XR) (sx : SpX) (dd : List D) (t : AD) : ED := fun δ Q => t δ fun ds => sx (ds ++ dd) Q (xk δ)
theorem d_callX (hx : XAcc X xk) (F : FnOk X.prog X.w X.K X.mg X.base (CXD X.prog X.w) k f fd ps (spX X.K sx)) (ms : MonoX sx) (hr : Room k X.A) (hg : Gl X x) (hm : X.mg x = some (.ref f)) (hk : PySem.W.keepIn X.K (.ref f) = true) (hb : Binds X.K fd ps dls) (hv : Vals dvs dls) (hdd : ∀ H, Dvs X.K H dvs dd)
    (ha : PAd X (e :: es) t) (hdb : (x == ("__debug__" : Str)) = false := by decide) (he : starEach (e :: es) X.env = (false, eval e X.env) :: starEach es X.env := by rfl) (hpl : (backTo pos (starEach es X.env)).any (·.1) = false := by rfl) :
    PD X (.Call (.Name x p) (e :: es) [] pos) (vCallX xk sx dd t) := by
  refine ⟨fun pins s σ H Q I ⟨δ, r, h⟩ => ?_, fun δ P P' g h => ha.mono _ _ _ (fun ds q => ms _ _ _ _ _ g (fun _ _ z => z) q) h⟩
  refine wpAny_Call_Name_kw (ld_glob I hg hm ?_ hdb)
  refine PySem.W.callWith_K (h₀ := X.base) I.ok.mod.kin hk (thn (ha.pa pos pins s σ H (fun vs H1 => Same H H1 ∧ ∃ ds, Dvs X.K H1 vs ds ∧ sx (ds ++ dd) (kD X.K H Q) (xk δ)) I ⟨δ, r, ha.mono _ _ _ (fun ds q vs H1 s1 dv => ⟨s1, ds, dv, q⟩) h⟩) fun us s1 ⟨vs, H1, I1, r1, sm, ds, dv, q⟩ => ⟨I1.kIn, ?_⟩) he hpl
  exact run_X hx F ms hr hb hv hdd I1 r sm r1 dv q
end
section
variable {P : Program} {w : World} {K : PySem.W.Frag} {mg : Str → Option Value} {base : Heap}
abbrev BxX (P : Program) (w : World) (K : PySem.W.Frag) (mg : Str → Option Value) (base : Heap) (N : List Str) (qual : Str) (st : Stmt) (f : Addr) (cdv : Value) (A : Around) (outer : List Env) (s : Shared) (H : Hp) (E : XK) : Cx := cxOf (CXD P w) P w K mg base N qual (defScope st) f cdv A outer s H E
theorem acc_X {N : List Str} {qual : Str} {st : Stmt} {f : Addr} {cdv : Value} {A : Around} {outer : List Env} {s : Shared} {H : Hp} {E : XK} : XAcc (BxX P w K mg base N qual st f cdv A outer s H E) (fun _ => kX K E) :=
  fun pins σ δ H1 s1 ea C dx fs gs I r a xd df hk => acc_def I a (hk dx fs H1 xd df)
structure CalX (P : Program) (w : World) (K : PySem.W.Frag) (mg : Str → Option Value) (base : Heap) (k : Nat) (x : Str) (ps : List Str) (sx : SpX) : Prop where
  ex : ∃ f fd, FnOk P w K mg base (CXD P w) k f fd ps (spX K sx) ∧ mg x = some (.ref f) ∧ PySem.W.keepIn K (.ref f) = true ∧ Binds K fd ps []
  ms : MonoX sx
end
end DC

set_option maxHeartbeats 1000000
namespace L2
open PySem PySem.Spec PyProof.Rows
section
variable {P : Program} {w : World} {H : Hp} {h : Heap} {C : Addr} {fs ex : List Addr}
end
section
variable {X : Cx} {k : Nat} {f C : Addr} {fd : FuncData} {ps : List Str} {sp : Sp} {dvs : List V} {ds : List Value}
end
end L2
namespace DC
open PySem PySem.Spec PyProof.Rows L2
section
variable {X : Cx} {o e : Expr} {es : List Expr} {ta : ED} {t : AD} {pos p apos : Pos} {x m : Str} {j k : Nat} {f C : Addr} {fd : FuncData} {ps : List Str} {sx : SpIX} {sm : Addr → SpX} {ok : Addr → Prop} {xk : SD → XR} {dvs : List V} {dls : List Value} {dd : List D}
theorem d_calX (hx : XAcc X xk) {sx : SpX} (c : CalX X.prog X.w X.K X.mg X.base j x ps sx) (hr : Room k X.A) (hj : j ≤ k) (hg : Gl X x) (ha : PAd X (e :: es) t) (hdb : (x == ("__debug__" : Str)) = false := by decide)
    (h1 : starEach (e :: es) X.env = (false, eval e X.env) :: starEach es X.env := by rfl) (h2 : (backTo pos (starEach es X.env)).any (·.1) = false := by rfl) : PD X (.Call (.Name x p) (e :: es) [] pos) (vCallX xk sx [] t) := by
  obtain ⟨f, fd, F, m, kp, b⟩ := c.ex
  exact d_callX (dvs := []) (dls := []) hx F c.ms (hr.mono hj) hg m kp b .nil (fun _ => .nil) ha hdb h1 h2
end
section
variable {P : Program} {w : World} {K : PySem.W.Frag} {mg : Str → Option Value} {base : Heap}
theorem fun_v {x qual : Str} {st : Stmt} {f : Addr} {fd : FuncData} (F : Fun K x qual st f fd) : FunV K x qual st f fd :=
  let ⟨oc, od, kV, doc, pm, an, cdv, ct, osl, h1, h2, h3⟩ := F.ex
  ⟨⟨oc, od, .none, kV, doc, pm, an, cdv, ct, osl, h1, h2, h3⟩, F.kp⟩
end
end DC

set_option maxHeartbeats 1000000
namespace L2
open PySem PySem.Spec PyProof.Rows
end L2
namespace DC
open PySem PySem.Spec PyProof.Rows L2
section
variable {X : Cx} {scope : Scope} {cl : List (Str × Addr)} {N : List Str} {R : XR} {C : Addr} {fp : List Addr} {pins : List (Addr × Obj)} {σ : L2.St} {H2 : Hp} {s s2 : Shared}
end
section
variable {X : Cx} {scope : Scope} {cl : List (Str × Addr)} {T cn : List Str} {caps : List Nat} {elt tg iter : Expr} {ifs : List Expr} {wi : TI} {g : TG} {tt : TT} {te : TE} {pos : Pos} {R : XR}
end
section
variable {X : Cx} {scope : Scope} {cl : List (Str × Addr)} {x : Str} {cn : List Str} {caps : List Nat} {elt tg iter : Expr} {ifs : List Expr} {ti : AD} {tt : TD} {te : ED} {pos : Pos} {R : XR}
end
end DC

set_option maxHeartbeats 1000000
namespace L2
open PySem PySem.Spec PyProof.Rows
abbrev Cx.hush (X : Cx) (A : Around) : Cx := { X with A := A, calm := false, xe := fun _ _ => False }
abbrev Cx.pinIn (X : Cx) (pins : List (Addr × Obj)) (E : Value → Shared → Prop) : Cx := { X with pn := X.pn ++ pins, xe := E }
section
variable {X : Cx} {pins : List (Addr × Obj)} {σ : St} {H : Hp} {s : Shared} {A : Around} {E : Value → Shared → Prop}
theorem Inv.hush (I : Inv X pins σ H s) (hf : A.frames = X.A.frames) : Inv (X.hush A) pins σ H s :=
  ⟨⟨I.ok.mod, I.ok.kind, I.ok.glob, I.ok.blt, I.ok.above, I.ok.inj, I.ok.has, I.ok.cab, (fun h => Bool.noConfusion h), hf.trans I.ok.frames, I.ok.stk, I.ok.exf, I.ok.bs, I.ok.bsz, I.ok.noex, I.ok.exfs, I.ok.funs, I.ok.frf⟩, I.os, I.bare, I.base, I.loc, I.cell, I.free, I.freeC, I.pin, I.hok, I.len⟩
theorem Inv.unhush (ok : X.Ok) (I : Inv (X.hush A) pins σ H s) : Inv X pins σ H s := ⟨ok, I.os, I.bare, I.base, I.loc, I.cell, I.free, I.freeC, I.pin, I.hok, I.len⟩
theorem Inv.pinIn (I : Inv X pins σ H s) : Inv (X.pinIn pins E) [] σ H s :=
  ⟨⟨I.ok.mod, I.ok.kind, I.ok.glob, I.ok.blt, I.ok.above, I.ok.inj, I.ok.has, I.ok.cab, I.ok.hd, I.ok.frames, I.ok.stk, I.ok.exf, I.ok.bs, I.ok.bsz, I.ok.noex, I.ok.exfs, I.ok.funs, I.ok.frf⟩, I.os, I.bare, I.base, I.loc, I.cell, I.free, I.freeC,
    fun p hp => I.pin p (by simpa using hp), I.hok, I.len⟩
theorem Inv.pinBack {l : List (Addr × Obj)} (I : Inv (X.pinIn pins E) l σ H s) : Inv X pins σ H s :=
  ⟨⟨I.ok.mod, I.ok.kind, I.ok.glob, I.ok.blt, I.ok.above, I.ok.inj, I.ok.has, I.ok.cab, I.ok.hd, I.ok.frames, I.ok.stk, I.ok.exf, I.ok.bs, I.ok.bsz, I.ok.noex, I.ok.exfs, I.ok.funs, I.ok.frf⟩, I.os, I.bare, I.base, I.loc, I.cell, I.free, I.freeC,
    fun p hp => I.pin p (List.mem_append_left _ hp), I.hok, I.len⟩
theorem ns_up {h h' : Heap} {a : Addr} {m : Str → Option Value} (u : h.UpToSlots h') (hn : h.Ns a m) : h'.Ns a m := by
  obtain ⟨o, es, ep, ho, hd, r⟩ := hn
  obtain ⟨sl, z⟩ := u a o ho (fun vs q => by rw [hd] at q; cases q)
  exact ⟨_, es, ep, z, hd, r⟩
theorem cell_up {h h' : Heap} {a : Addr} {v : Option Value} (u : h.UpToSlots h') (hn : h.IsCell a v) : h'.IsCell a v := by
  obtain ⟨o, ho, hd⟩ := hn
  obtain ⟨sl, z⟩ := u a o ho (fun vs q => by rw [hd] at q; cases q)
  exact ⟨_, z, hd⟩
theorem look_up {env : Env} {h h' : Heap} {m : Str → Option Value} {x : Str} {v : Value} (u : h.UpToSlots h') (l : Look env h m x v) : Look env h' m x v := by
  rcases l with l | ⟨k, c, e, i⟩
  · exact .inl l
  · exact .inr ⟨k, c, e, cell_up u i⟩
theorem Inv.air {l : List (Addr × Obj)} {B h1 : Heap} {ea : Addr} (I : Inv X l σ H s) (u : s.heap.UpToSlots h1) (a : Air B X.stack ea h1) (ok : HOk X.prog X.w H B) (bn : Beneath X.fs X.ex X.H₀ X.s₀.heap B) (pn : ∀ p ∈ X.pn, B.get? p.1 = some p.2) : Inv X [] σ H { s with heap := h1 } := by
  obtain ⟨m, hn, lk⟩ := I.loc
  have up : ∀ b o, b ∈ X.fs → s.heap.get? b = some o → ∃ sl, h1.get? b = some { o with slots := sl } := fun b o hb q => by
    obtain ⟨_, o', q', nf⟩ := I.funs.mem hb
    rw [q] at q'
    cases q'
    exact u b o q nf
  refine ⟨I.ok, I.os, I.bare, ⟨fun b o q n hb hx => a.st b o (bn.kp b o q n hb hx), fun b o q n hb hx => ?_, I.base.free, fun b o q hx => ?_, I.base.tups, I.base.frzs, I.base.tbls⟩,
    ⟨m, ns_up u hn, fun i x v e1 e2 e3 => let ⟨w, r, k⟩ := lk i x v e1 e2 e3; ⟨w, r, look_up u k⟩⟩, fun x c e => let ⟨v, k⟩ := I.cell x c e; ⟨v, cell_up u k⟩, I.free, I.freeC, fun p hp => ?_, ok.kept a.st, I.len⟩
  · obtain ⟨sl, z⟩ := I.base.slot b o q n hb hx
    obtain ⟨sl2, z2⟩ := up b _ hb z
    exact ⟨sl2, z2⟩
  · by_cases hb : b ∈ X.fs
    · obtain ⟨o', z⟩ := I.base.there b o q hx
      obtain ⟨sl2, z2⟩ := up b _ hb z
      exact ⟨_, z2⟩
    · obtain ⟨o', z⟩ := bn.th b o q hb hx
      exact ⟨o', a.st b o' z⟩
  · have hp' : p ∈ X.pn := by simpa using hp
    exact ⟨a.st _ _ (pn p hp'), (I.pin p (List.mem_append_left _ hp')).2⟩
theorem HOk.track {P : Program} {w : World} {h : Heap} {a : Addr} {o : HO} (x : HOk P w H h) (hn : H a = none) (new : ObjOk P w (upd H a o) h a o) : HOk P w (upd H a o) h := fun b u e => by
  by_cases hb : b = a
  · subst hb; rw [upd_same] at e; cases e; exact new
  · rw [upd_ne hb] at e
    exact (x b u e).stay (fun c v _ q => q) (fun c q => by rw [upd_ne (ne_of_none q hn)]; exact q) fun c xs q => by rw [upd_ne (ne_of_none q hn)]; exact q
theorem Inv.track {ea : Addr} {u : HO} (I : Inv X pins σ H s) (hn : H ea = none) (h0 : X.s₀.heap.get? ea = none) (hl : ea ≠ X.env.locals) (hc : ∀ x c, X.env.cells.lookup x = some c → c ≠ ea) (hp : ∀ p ∈ X.pn ++ pins, p.1 ≠ ea) (new : ObjOk X.prog X.w (upd H ea u) s.heap ea u) : Inv X pins σ (upd H ea u) s := by
  have ne : ∀ b v, H b = some v → b ≠ ea := fun b v q => ne_of_none q hn
  refine ⟨I.ok, I.os, I.bare, ⟨I.base.keep, I.base.slot, fun b o q n hx => ?_, I.base.there, fun b xs q => ?_, fun b o v q => ?_, fun b ps q => ?_⟩, I.loc, I.cell, by rw [upd_ne (Ne.symm hl)]; exact I.free, fun x c e => by rw [upd_ne (hc x c e)]; exact I.freeC x c e, fun p hp' => ?_, I.hok.track hn new, I.len⟩
  · rw [upd_ne (fun z => by rw [z, h0] at q; cases q)]
    exact I.base.free b o q n hx
  · have z := I.base.tups b xs q
    rw [upd_ne (ne _ _ z)]; exact z
  · have z := I.base.frzs b o v q
    rw [upd_ne (ne _ _ z)]; exact z
  · obtain ⟨more, z⟩ := I.base.tbls b ps q
    exact ⟨more, by rw [upd_ne (ne _ _ z)]; exact z⟩
  · obtain ⟨y1, y2, y3⟩ := I.pin p hp'
    exact ⟨y1, by rw [upd_ne (hp p hp')]; exact y2, y3⟩
theorem Inv.goes {i : Nat} {n : Str} {pos : Pos} {M : Model} {A : Around} {Q : Unit → Shared → Prop} (I : Inv X pins σ H s) (hN : X.N.Nodup) (hi : X.N[i]? = some n) (hl : X.env.kindOf n = some .local) (h : ∀ s', Inv X pins (σ.set i none) H s' → Q () s') : wpAny M A (do bindName X.env n .none; unbindBehindTheSuite X.env n pos) Q E s := by
  obtain ⟨m, hn, lk⟩ := I.loc
  refine wpAny_nameGoes_keeps hl hn (by rw [I.ok.kind]; rfl) fun h' v hn' sb => h _ ?_
  have cne := I.cne
  have ho := hn
  obtain ⟨o, es, ep, go, gd, _⟩ := ho
  have keep : ∀ b ob, b ≠ X.env.locals → s.heap.get? b = some ob → h'.get? b = some ob := fun b ob nb q => (sb.2 b nb).trans q
  obtain ⟨o', es', ep', go', _⟩ := id hn'
  have above := I.ok.above
  refine ⟨I.ok, I.os, I.bare, ⟨fun b ob q nb hb hx => ?_, fun b ob q nb hb hx => ?_, I.base.free, fun b ob q hx => ?_, I.base.tups, I.base.frzs, I.base.tbls⟩, ⟨_, hn', fun j x w e1 e2 e3 => ?_⟩, fun x c e => ?_, I.free, I.freeC, fun p hp => ?_, fun b u q => ?_, by rw [List.length_set]; exact I.len⟩
  · exact keep b ob (fun z => by have y := Heap.lt_size q; rw [z] at y; exact absurd above (Nat.not_le.mpr y)) (I.base.keep b ob q nb hb hx)
  · obtain ⟨sl, z⟩ := I.base.slot b ob q nb hb hx
    exact ⟨sl, keep b _ (fun y => by have y2 := Heap.lt_size q; rw [y] at y2; exact absurd above (Nat.not_le.mpr y2)) z⟩
  · obtain ⟨o2, z⟩ := I.base.there b ob q hx
    exact ⟨o2, keep b _ (fun y => by have y2 := Heap.lt_size q; rw [y] at y2; exact absurd above (Nat.not_le.mpr y2)) z⟩
  · rw [List.getElem?_set] at e2
    split at e2
    · split at e2 <;> cases e2
    · rename_i ji
      obtain ⟨w', r, k⟩ := lk j x w e1 e2 e3
      have xn : x ≠ n := fun z => ji (by
        subst z
        exact (List.getElem?_inj (List.getElem?_eq_some_iff.mp hi).1 hN).mp (hi.trans e1.symm))
      refine ⟨w', r, ?_⟩
      rcases k with ⟨k1, k2⟩ | ⟨k1, c, k2, k3⟩
      · exact .inl ⟨k1, by show (if x = n then v else m x) = _; rw [if_neg xn]; exact k2⟩
      · exact .inr ⟨k1, c, k2, k3.sameBut sb (cne x c k2)⟩
  · obtain ⟨v, k⟩ := I.cell x c e
    exact ⟨v, k.sameBut sb (cne x c e)⟩
  · obtain ⟨y1, y2, y3, y4⟩ := I.pin p hp
    exact ⟨keep _ _ y3 y1, y2, y3, y4⟩
  · refine (I.hok b u q).stay (fun c w hc z => keep c w (fun y => ?_) z) (fun _ z => z) fun _ _ z => z
    rcases hc with rfl | hc
    · rw [y, I.free] at q; cases q
    · rw [y, I.free] at hc; cases hc
end
theorem exc_hit {prog : Program} {w : World} {A : Around} {E : Value → Shared → Prop} {K : PySem.W.Frag} {e C Cx : Addr} {oe : Obj} {Q : Bool → Shared → Prop} {s : Shared} (X : K.In s.heap) (hk : PySem.W.kitCls K (.ref C) (.ref Cx) = some true) (hb : PySem.W.mroIn K Cx (.type "BaseException") = some true)
    (he : s.heap.get? e = some oe) (hc : oe.cls = .ref C) (hq : Q true s) : wpAny (model prog w) A (excMatches (.ref e) (.ref Cx)) Q E s := by
  obtain ⟨h, g, d, tk, os⟩ := s
  obtain ⟨LY, LT, LS⟩ := PySem.W.kit_cls (M := model prog w) X hk
  have LB := PySem.W.looks_mroIn (M := model prog w) X hb
  have LE : PySem.W.Looks (model prog w) h (typeOf (.ref e)) (.ref C) := hc ▸ (PySem.W.Looks.ld he).andThen .now
  have LI : PySem.W.Looks (model prog w) h (isInstance (.ref Cx) (.type "tuple")) false := LY.andThen (.of_pure tc_notTuple)
  unfold excMatches
  repeat (first | with_reducible refine LI.at ?_ | with_reducible refine LT.at ?_ | with_reducible refine LB.at ?_ | with_reducible refine LE.at ?_ | with_reducible refine LS.at ?_ | wp_step)
  exact hq
end L2
namespace DC
open PySem PySem.Spec PyProof.Rows L2
def endsF (K : PySem.W.Frag) (D : Ends) : EndsD := ⟨fun δ => ∀ σ H', RelS K H' σ δ → D.nx σ H', fun d => ∀ v H', Dv K H' v d → D.rt v H', fun δ => ∀ σ H', RelS K H' σ δ → D.bk σ H', fun δ => ∀ σ H', RelS K H' σ δ → D.ct σ H'⟩
theorem endsF_le {K : PySem.W.Frag} {H : Hp} {D : Ends} : EndsD.Le (endsF K D) (endsOf K H D) := ⟨fun δ q σ H' _ r => q σ H' r, fun d q v H' _ dv => q v H' dv, fun δ q σ H' _ r => q σ H' r, fun δ q σ H' _ r => q σ H' r⟩
def oF (K : PySem.W.Frag) (t : TSD) : TS := fun D σ H => ∃ δ, RelS K H σ δ ∧ t (endsF K D) δ
structure PFd (X : Cx) (st : Stmt) (t : TSD) : Prop where
  ps : PS X st (oF X.K t)
  mono : MonoQ t
structure PFs (X : Cx) (st : List Stmt) (t : TSD) : Prop where
  ps : PSs X st (oF X.K t)
  mono : MonoQ t
section
variable {X : Cx} {st : Stmt} {rest : List Stmt} {t u : TSD}
theorem ff_all (h : PSsd X rest t) : PFs X rest t := ⟨PSs.imp h.ps fun D σ H ⟨δ, r, q⟩ => ⟨δ, r, h.mono _ _ _ endsF_le q⟩, h.mono⟩
theorem ff_cons (h1 : PFd X st t) (h2 : PFs X rest u) : PFs X (st :: rest) (qSeq t u) :=
  ⟨PSs.imp (pss_cons h1.ps h2.ps) fun D σ H ⟨δ, r, q⟩ => ⟨δ, r, h1.mono { endsF X.K D with nx := u (endsF X.K D) } _ _ ⟨fun δ' q σ' H' r' => ⟨δ', r', q⟩, fun _ q => q, fun _ q => q, fun _ q => q⟩ q⟩,
   fun E E' δ l q => h1.mono { E with nx := u E } _ _ ⟨fun δ' q => h2.mono _ _ _ l q, l.rt, l.bk, l.ct⟩ q⟩
theorem RelS.unset {K : PySem.W.Frag} {H : Hp} {σ : L2.St} {δ : SD} {i : Nat} (r : RelS K H σ δ) : RelS K H (σ.set i none) (δ.set i none) := by
  refine ⟨by rw [List.length_set, List.length_set]; exact r.len, fun j d h => ?_⟩
  rw [List.getElem?_set] at h ⊢
  split at h
  · split at h <;> cases h
  · rename_i n
    rw [if_neg n]
    exact r.get j d h
def qTry (i : Nat) (hit : Addr → Prop) (tb : (SD → XR) → TSD) (th : Addr → TSD) : TSD := fun E δ => ∃ xk : SD → XR, (∀ δ' C gs, xk δ' C gs → hit C ∧ ∀ a, th a { nx := fun δ'' => E.nx (δ''.set i none), rt := E.rt } (δ'.set i (some (.exc a C gs)))) ∧ tb xk E δ
theorem ff_try {i : Nat} {n cx : Str} {cp hp pos : Pos} {b₀ : Stmt} {suite body : List Stmt} {Cx : Addr} {tb : (SD → XR) → TSD} {th : Addr → TSD} {hit : Addr → Prop} (hst : X.stack = X.env :: X.outer) (hfr : X.env.frame = some X.env.locals) (hex : X.ex = []) (hN : X.N.Nodup) (hi : X.N[i]? = some n) (hl : X.env.scope.names.lookup n = some .local)
    (hg : Gl X cx) (hm : X.mg cx = some (.ref Cx)) (hhit : ∀ C, hit C → PySem.W.kitCls X.K (.ref C) (.ref Cx) = some true) (hbe : PySem.W.mroIn X.K Cx (.type "BaseException") = some true)
    (hb : ∀ pins E' xk, XAcc (X.pinIn pins E') xk → PSsd (X.pinIn pins E') body (tb xk)) (hs : ∀ ea, PSsd (X.hush (X.A.mark (some (.ref ea)))) (b₀ :: suite) (th ea)) (hd : (cx == ("__debug__" : Str)) = false := by decide) :
    PFd X (.Try body [.ExceptHandler (some (.Name cx cp)) (some n) (b₀ :: suite) hp] [] [] pos) (qTry i hit tb th) := by
  refine ⟨fun pins s σ H D I ⟨δ, r, xk, himp, hq⟩ => ?_, fun E E' δ l ⟨xk, h1, h2⟩ => ⟨xk, fun δ' C gs q => ⟨(h1 δ' C gs q).1, fun a => (hs a).mono { nx := fun δ'' => E.nx (δ''.set i none), rt := E.rt } _ _ ⟨fun _ z => l.nx _ z, l.rt, fun _ z => z, fun _ z => z⟩ ((h1 δ' C gs q).2 a)⟩,
    (hb [] (fun _ _ => True) xk (fun _ _ _ _ _ _ _ _ _ _ _ _ _ _ _ _ => True.intro)).mono _ _ _ l h2⟩⟩
  refine wpAny_Try_except ?_
  have hx : XAcc (X.pinIn pins (fun e s₁ => wpAny (model X.prog X.w) X.A (noteFrame e X.env) (fun _ s₂ => wpAny (model X.prog X.w) X.A (setFlight e none) (fun _ s₃ => wpAny (model X.prog X.w) X.A (handleBy e X.env [.ExceptHandler (some (.Name cx cp)) (some n) (b₀ :: suite) hp]) (SP X pins D) X.xe s₃) X.xe s₂) X.xe s₁)) xk := by
    intro l σ1 δ1 H1 s1 ea C dx fs gs I1 r1 ⟨B, fl, a, ok, bn, x, pn⟩ xd df k
    obtain ⟨hitC, hth⟩ := himp δ1 C gs k
    have a0 : Air B (X.env :: X.outer) ea s1.heap := hst ▸ (show Air B X.stack ea s1.heap from a)
    refine note_x (env := X.env) (outer := X.outer) (L := X.env.locals) (by rw [← hst]; exact I.ok.frames) hfr a0 x fun h2 a2 u2 x2 => ?_
    refine flight_x (s := { s1 with heap := h2 }) (f := none) a2 x2 fun h3 a3 u3 x3 => ?_
    have I3 : Inv X pins σ1 H1 { s1 with heap := h3 } := (I1.air (u2.trans u3) (hst ▸ a3) ok bn pn).pinBack
    have he3 := x3
    obtain ⟨oe, vs, he, hc, _⟩ := he3
    have I3h := I3.hush (A := X.A.mark (some (.ref ea))) rfl
    refine wpAny_handleBy_cons (codeAny_handlers_test (ld_glob I3h hg hm ?_ hd)) (by intro q; cases q)
    refine exc_hit I3.kIn (hhit C hitC) hbe he hc ?_
    refine codeAny_handlers_suite_as (flight_x (s := { s1 with heap := h3 }) (f := none) a3 x3 fun h4 a4 u4 x4 => ?_)
    have I4 := I1.air (h1 := h4) (u2.trans (u3.trans u4)) (hst ▸ a4) ok bn pn
    obtain ⟨oe, vs, he, hc, hdx, hdv, hz, hy, _⟩ := x4
    have hn : H1 ea = none := by
      cases q : H1 ea with
      | none => rfl
      | some u =>
        obtain ⟨o, z⟩ := (ok ea u q).there
        rw [a.ne] at z
        cases z
    have h0 : X.s₀.heap.get? ea = none := by
      cases q : X.s₀.heap.get? ea with
      | none => rfl
      | some o =>
        by_cases hb' : ea ∈ X.fs
        · obtain ⟨_, o', q', nf⟩ := I4.funs.mem hb'
          have q2 : h4.get? ea = some o' := q'
          rw [he] at q2
          cases q2
          exact absurd hdv (nf vs)
        · obtain ⟨o', z⟩ := bn.th ea o q hb' (by show ea ∉ X.ex; rw [hex]; simp)
          rw [a.ne] at z
          cases z
    have hlo : ea ≠ X.env.locals := fun z => by
      obtain ⟨m, ⟨o, es, ep, go, gd, _⟩, _⟩ := I4.loc
      have go2 : h4.get? X.env.locals = some o := go
      rw [← z, he] at go2
      cases go2
      rw [hdv] at gd
      cases gd
    have hce : ∀ x c, X.env.cells.lookup x = some c → c ≠ ea := fun x c e z => by
      obtain ⟨v, o, go, gd⟩ := I4.cell x c e
      have go2 : h4.get? c = some o := go
      rw [z, he] at go2
      cases go2
      rw [hdv] at gd
      cases gd
    have hpn : ∀ p ∈ X.pn ++ pins, p.1 ≠ ea := fun p hp z => by
      have y := pn p hp
      rw [z, a.ne] at y
      cases y
    have new : ObjOk X.prog X.w (upd H1 ea (ExcO ea C dx)) h4 ea (ExcO ea C dx) := by
      unfold ExcO
      exact ⟨⟨oe, vs, he, hc, hdx, hdv, hy⟩, ⟨oe, he⟩, fun g1 g2 ⟨oe', vs', e1, rr⟩ kk => ⟨oe', vs', kk _ e1, rr⟩⟩
    have I5 : Inv X pins σ1 (upd H1 ea (ExcO ea C dx)) { s1 with heap := h4 } := (I4.track hn h0 hlo hce (fun p hp => hpn p (by simpa using hp)) new).pinBack
    have sm : Same H1 (upd H1 ea (ExcO ea C dx)) := same_upd hn
    have dv : Dv X.K (upd H1 ea (ExcO ea C dx)) (.ref ea) (.exc ea C gs) := .exc (.of upd_same) (xd.same sm) (Dvf.same sm df)
    have I5h := I5.hush (A := X.A.mark (some (.ref ea))) rfl
    refine store_ok (X := X.hush (X.A.mark (some (.ref ea)))) (v := .ref ea) I5h hN hi (.inl hl) rfl (fun s6 I6 => ?_) (.inr hl)
    have r6 := (RelS.same r1 sm).set i dv
    refine wpAny_mono ((hs ea).ps pins s6 _ _ { nx := fun σ'' H'' => D.nx (σ''.set i none) H'', rt := D.rt } I6 ⟨_, r6, (hs ea).mono { nx := fun δ'' => (endsF X.K D).nx (δ''.set i none), rt := (endsF X.K D).rt } _ _ ⟨fun δ'' q σ'' H'' _ r'' => q _ _ r''.unset, fun d q v H'' _ dv => q v H'' dv, fun _ q => q.elim, fun _ q => q.elim⟩ (hth ea)⟩) (fun f s7 h7 => ?_) fun _ _ z => z.elim
    cases f with
    | next =>
      obtain ⟨σ', H', I', q⟩ := h7
      exact (I'.unhush I.ok).goes hN hi hl fun s8 I8 => ⟨_, H', I8, q⟩
    | ret w =>
      obtain ⟨v, σ', H', I', rv, q⟩ := h7
      exact (I'.unhush I.ok).goes hN hi hl fun s8 I8 => ⟨v, _, H', I8, rv, q⟩
    | brk =>
      obtain ⟨σ', H', I', q⟩ := h7
      exact q.elim
    | cont =>
      obtain ⟨σ', H', I', q⟩ := h7
      exact q.elim
  have B := hb pins _ xk hx
  refine wpAny_mono (B.ps [] s σ H D I.pinIn ⟨δ, r, B.mono _ _ _ endsF_le hq⟩) (fun f s1 h1 => ?_) fun e s1 h => h
  cases f with
  | next =>
    obtain ⟨σ', H', I', q⟩ := h1
    exact wpAny_execs_nil ⟨σ', H', I'.pinBack, q⟩
  | ret w =>
    obtain ⟨v, σ', H', I', rv, q⟩ := h1
    exact ⟨v, σ', H', I'.pinBack, rv, q⟩
  | brk =>
    obtain ⟨σ', H', I', q⟩ := h1
    exact ⟨σ', H', I'.pinBack, q⟩
  | cont =>
    obtain ⟨σ', H', I', q⟩ := h1
    exact ⟨σ', H', I'.pinBack, q⟩
end
end DC

set_option maxHeartbeats 1000000
namespace L2
open PySem PySem.Spec PyProof.Rows
structure RoomU (k : Nat) (A : Around) : Prop where
  dp : A.depth + 3 * k + 5 < recursionLimit
  un : A.units + 16 * k + 200 < cLine
theorem RoomU.deeper {k : Nat} {A : Around} (r : RoomU (k + 1) A) (env : Env) : RoomU k (A.deeper env) :=
  ⟨by have := r.dp; show A.depth + 1 + 3 * k + 5 < _; omega, by have := r.un; show A.units + 3 + 16 * k + 200 < _; omega⟩
theorem RoomU.mono {j k : Nat} {A : Around} (r : RoomU k A) (h : j ≤ k) : RoomU j A := ⟨by have := r.dp; omega, by have := r.un; omega⟩
theorem Room.mark {k : Nat} {A : Around} (r : Room k A) (v : Option Value) : RoomU k (A.mark v) := ⟨r.dp, r.un⟩
def HandOk (A : Around) (H : Hp) : Prop := A.handled = none ∨ ∃ ea o u vs, A.handled = some (.ref ea) ∧ H ea = some (.frz o u) ∧ o.data = .fields vs ∧ vs[2]? = some .none
structure FnOkU (P : Program) (w : World) (K : PySem.W.Frag) (mg : Str → Option Value) (base : Heap) (k : Nat) (f : Addr) (fd : FuncData) (ps : List Str) (sp : Sp) : Prop where
  len : ∀ vs H Q E, sp vs H Q E → vs.length = ps.length
  run : ∀ (A : Around) (outer : List Env) (s : Shared) (H : Hp) (args : Args) (us : List Value) (vs : List V) (Q : VK) (E : XK), RoomU k A → HandOk A H → Env0 P w K mg base A outer s H → BindsTo s fd args (ps.zip us) → Vals vs us → sp vs H Q E →
    codeAny (model P w) A (.call (.ref f) args) (CR CX0 outer P w H s Q E) s
abbrev cxU (P : Program) (w : World) (K : PySem.W.Frag) (mg : Str → Option Value) (base : Heap) (N : List Str) (qual : Str) (scope : Scope) (f : Addr) (cd : Value) (A : Around) (outer : List Env) (s : Shared) (H : Hp) (E : XK) : Cx :=
  (cxOf CX0 P w K mg base N qual scope f cd { A with handled := none } outer s H E).hush (A.deeper (envOfC qual scope s.heap.objs.size f cd))
theorem fn_ofU {P : Program} {w : World} {K : PySem.W.Frag} {mg : Str → Option Value} {base : Heap} {k : Nat} {f : Addr} {name qual : Str} {params : Arguments} {body : List Stmt} {scope : Scope} {dV kV doc pm cdv ct oc : Value} {an od : Option Addr}
    {osl : Array (Option Value)} {N ps : List Str} {sp : Sp} (lk : K.lookup f = some ⟨oc, od, .func (PySem.W.fnOf name qual params body scope dV kV doc pm an cdv ct), osl⟩) (hcd : PySem.W.codeIn K cdv qual = true) (S : FnScope N ps scope)
    (len : ∀ vs H Q E, sp vs H Q E → vs.length = ps.length)
    (hbody : ∀ (A : Around) (outer : List Env) (s : Shared) (H : Hp) (vs : List V) (Q : VK) (E : XK), RoomU k (A.deeper (envOfC qual scope s.heap.objs.size f cdv)) → HandOk A H → sp vs H Q E →
      ∃ t, PSs (cxU P w K mg base N qual scope f cdv A outer s H E) body t ∧ t { nx := fun _ H' => Q .non H', rt := Q } (start N vs) H) :
    FnOkU P w K mg base (k + 1) f (PySem.W.fnOf name qual params body scope dV kV doc pm an cdv ct) ps sp := by
  refine ⟨len, fun A outer s H args us vs Q E hr hh e0 hb r hsp => ?_⟩
  have hl := len _ _ _ _ hsp
  have KX : K.In s.heap := e0.mod.kin.keeps fun b o e => (e0.bs b o e).1
  have lim : s.heap.NoLimit := e0.mod.nolimit.keeps fun b o e => (e0.bs b o e).1
  have hkind : ∀ y ∈ ps.zip us, scope.names.lookup y.1 = some .local ∨ (scope.names.lookup y.1 = some .cell ∧ ((cellsFrom (s.heap.objs.size + 1) scope.names []).lookup y.1).isSome = true) := fun ⟨n, v⟩ hy => by
    rcases S.par n (List.of_mem_zip hy).1 with q | q
    · exact .inl q
    · exact .inr ⟨q, PySem.W.cellsFrom_some _ _ _ (.inl q)⟩
  refine codeAny_call_function (by have := hr.dp; omega) (KX _ _ lk) rfl S.co S.gen rfl (PySem.W.codeRec_of KX hcd) (hb _ _ _ _ ?_)
  refine wpAny_newFunctionEnv_cells S.kind hkind fun env he s1 x => ?_
  subst he
  refine ⟨lim.keeps x.toInCall.keep, codeAny_func ?_⟩
  obtain ⟨t, ht, hq⟩ := hbody A outer s H vs Q E (hr.deeper _) hh hsp
  have e1 : Env0 P w K mg base { A with handled := none } outer s H := ⟨e0.frames, e0.mod, e0.bs, e0.bsz, e0.funs, e0.frf, e0.hok, e0.bare⟩
  have I0 : Inv (cxOf CX0 P w K mg base N qual scope f cdv { A with handled := none } outer s H E) [] (start N vs) H s1 := inv_start S rfl e1 hl r x
  have I : Inv (cxU P w K mg base N qual scope f cdv A outer s H E) [] (start N vs) H s1 := I0.hush (by first | rfl | (show (A.deeper _).frames = ({ A with handled := none }.deeper _).frames; rfl))
  refine wpAny_mono (ht [] s1 (start N vs) H _ I hq) (fun fl s' hs => ?_) fun e s' hs => False.elim hs
  have fin : ∀ {σ' : St} {H' : Hp} {v : V} {u : Value}, Inv (cxU P w K mg base N qual scope f cdv A outer s H E) [] σ' H' s' → RelV v u → Q v H' → CE outer P w H s Q u s' :=
    fun {σ' H' v u} J rv q => ⟨v, H', J.os, J.bare, J.base, J.hok, rv, q⟩
  cases fl with
  | ret u =>
    obtain ⟨v, σ', H', J, rv, q⟩ := hs
    exact fin J rv q
  | next =>
    obtain ⟨σ', H', J, q⟩ := hs
    exact fin (v := V.non) (u := Value.none) J rfl q
  | brk =>
    obtain ⟨σ', H', J, q⟩ := hs
    exact False.elim q
  | cont =>
    obtain ⟨σ', H', J, q⟩ := hs
    exact False.elim q
section
variable {X : Cx} {k : Nat} {f : Addr} {fd : FuncData} {ps : List Str} {sp : Sp}
theorem run_fnU {pins : List (Addr × Obj)} {σ : St} {H : Hp} {s : Shared} {Q Q' : VK} {us : List Value} {vs : List V} (F : FnOkU X.prog X.w X.K X.mg X.base k f fd ps sp) (hr : RoomU k X.A) (hh : HandOk X.A (frzH s.heap H)) (hb : Binds X.K fd ps [])
    (I : Inv X pins σ H s) (r : Vals vs us) (h : sp vs (frzH s.heap H) Q' E0) (hQ : ∀ v H', (∀ b u, HO.data u → Rd H' b u → Rd (thaw H H') b u) → Q' v H' → Q v (thaw H H')) : wpAny (model X.prog X.w) X.A (call (.ref f) us) (EP X pins σ Q) X.xe s := by
  have hl : us.length = ps.length := by rw [← r.length]; exact F.len _ _ _ _ h
  have hb' := hb s us I.kIn (by rw [List.append_nil]; exact hl)
  rw [List.append_nil] at hb'
  refine wpAny_call (codeAny_mono (F.run X.A X.stack s _ ⟨us, []⟩ us vs Q' E0 hr hh I.env0.frz hb' r h) fun r s' hq => ?_)
  cases r with
  | error e => exact False.elim hq
  | ok fl =>
    cases fl with
    | ret u =>
      obtain ⟨v, H', os, bare, un, hok, rv, q⟩ := (show CE X.stack X.prog X.w (frzH s.heap H) s Q' u s' from hq)
      have t : Thw s.heap H H' := ⟨un.tups, un.frzs⟩
      exact ⟨v, thaw H H', I.call' (ch := []) os (un.thaw I.hok) (I.hok.thaw t hok) bare (fun b z => absurd z (by simp)), rv, hQ v H' (fun b u hu r => r.thaw I.hok t hok hu) q⟩
    | next => exact False.elim hq
    | brk => exact False.elim hq
    | cont => exact False.elim hq
end
end L2
namespace DC
open PySem PySem.Spec PyProof.Rows L2
def spU (K : PySem.W.Frag) (sd : SpD) : Sp := fun vs H Q _ => ∃ ds, Dvs K H vs ds ∧ sd ds (fun d => ∀ v H', Dv K H' v d → Q v H')
abbrev BxU (P : Program) (w : World) (K : PySem.W.Frag) (mg : Str → Option Value) (base : Heap) (N : List Str) (qual : Str) (st : Stmt) (f : Addr) (cdv : Value) (A : Around) (outer : List Env) (s : Shared) (H : Hp) (E : XK) : Cx := cxU P w K mg base N qual (defScope st) f cdv A outer s H E
section
variable {P : Program} {w : World} {K : PySem.W.Frag} {mg : Str → Option Value} {base : Heap}
theorem okU {x qual : Str} {st : Stmt} {f : Addr} {fd : FuncData} {N ps : List Str} {k : Nat} {sd : SpD} {t : TSD} (F : FunV K x qual st f fd) (S : FnScope N ps (defScope st)) (len : ∀ ds Q, sd ds Q → ds.length = ps.length)
    (hb : ∀ (cdv : Value) (A : Around) (outer : List Env) (s : Shared) (H : Hp) (E : XK), RoomU k (A.deeper (envOfC qual (defScope st) s.heap.objs.size f cdv)) → HandOk (BxU P w K mg base N qual st f cdv A outer s H E).A (BxU P w K mg base N qual st f cdv A outer s H E).H₀ → PSsd (BxU P w K mg base N qual st f cdv A outer s H E) (defBody st) t)
    (hr : ∀ ds Q, sd ds Q → t { nx := fun _ => Q .non, rt := Q } (startD N ds)) : FnOkU P w K mg base (k + 1) f fd ps (spU K sd) := by
  obtain ⟨oc, od, dV, kV, doc, pm, an, cdv, ct, osl, rfl, lk, hcd⟩ := F.ex
  refine fn_ofU lk hcd S (fun vs H Q E ⟨ds, dvs, h⟩ => by rw [dvs.length]; exact len ds _ h) fun A outer s H vs Q E hroom hh ⟨ds, dvs, h⟩ => ?_
  have B := hb cdv A outer s H E hroom hh
  refine ⟨_, B.ps, startD N ds, start_rel dvs, ?_⟩
  let Q' : D → Prop := fun d => ∀ v H', Dv K H' v d → Q v H'
  exact B.mono { nx := fun _ => Q' .non, rt := Q' } _ _ ⟨fun δ q σ H' s' r => q _ H' .non, fun d q v H' s' dv => q v H' dv, fun _ q => q.elim, fun _ q => q.elim⟩ (hr ds _ h)
structure CalU (P : Program) (w : World) (K : PySem.W.Frag) (mg : Str → Option Value) (base : Heap) (k : Nat) (x : Str) (ps : List Str) (sd : SpD) : Prop where
  ex : ∃ f fd, FnOkU P w K mg base k f fd ps (spU K sd) ∧ mg x = some (.ref f) ∧ PySem.W.keepIn K (.ref f) = true ∧ Binds K fd ps []
  ms : MonoS sd
theorem Df.calU {k : Nat} {x : Str} {st : Stmt} {ps N : List Str} {sd : SpD} {t : TSD} (d : Df K mg x st ps) (S : FnScope N ps (defScope st)) (ms : MonoS sd) (len : ∀ ds Q, sd ds Q → ds.length = ps.length)
    (hb : ∀ (f : Addr) (cdv : Value) (A : Around) (outer : List Env) (s : Shared) (H : Hp) (E : XK), RoomU k (A.deeper (envOfC x (defScope st) s.heap.objs.size f cdv)) → HandOk (BxU P w K mg base N x st f cdv A outer s H E).A (BxU P w K mg base N x st f cdv A outer s H E).H₀ → PSsd (BxU P w K mg base N x st f cdv A outer s H E) (defBody st) t)
    (hr : ∀ ds Q, sd ds Q → t { nx := fun _ => Q .non, rt := Q } (startD N ds)) : CalU P w K mg base (k + 1) x ps sd := by
  obtain ⟨f, fd, F, m, b⟩ := d.ex
  exact ⟨⟨f, fd, okU (fun_v F) S len (hb f) hr, m, F.kp, b⟩, ms⟩
theorem okXF {x qual : Str} {st : Stmt} {f : Addr} {fd : FuncData} {N ps : List Str} {k : Nat} {sx : SpX} {t : XR → TSD} (F : FunV K x qual st f fd) (S : FnScope N ps (defScope st)) (len : ∀ ds Q R, sx ds Q R → ds.length = ps.length)
    (hb : ∀ (cdv : Value) (A : Around) (outer : List Env) (s : Shared) (H : Hp) (E : XK) (R : XR), Room k (A.deeper (envOfC qual (defScope st) s.heap.objs.size f cdv)) → XAcc (BxX P w K mg base N qual st f cdv A outer s H E) (fun _ => R) → PFs (BxX P w K mg base N qual st f cdv A outer s H E) (defBody st) (t R))
    (hr : ∀ ds Q R, sx ds Q R → t R { nx := fun _ => Q .non, rt := Q } (startD N ds)) : FnOk P w K mg base (CXD P w) (k + 1) f fd ps (spX K sx) := by
  obtain ⟨oc, od, dV, kV, doc, pm, an, cdv, ct, osl, rfl, lk, hcd⟩ := F.ex
  refine fn_of lk hcd S (fun vs H Q E ⟨ds, dvs, h⟩ => by rw [dvs.length]; exact len ds _ _ h) fun A outer s H vs Q E hroom ⟨ds, dvs, h⟩ => ?_
  have B := hb cdv A outer s H E (kX K E) hroom acc_X
  refine ⟨_, B.ps, startD N ds, start_rel dvs, ?_⟩
  let Q' : D → Prop := fun d => ∀ v H', Dv K H' v d → Q v H'
  exact B.mono { nx := fun _ => Q' .non, rt := Q' } _ _ ⟨fun δ q σ H' r => q _ H' .non, fun d q v H' dv => q v H' dv, fun _ q => q.elim, fun _ q => q.elim⟩ (hr ds _ _ h)
end
section
variable {X : Cx} {e : Expr} {es : List Expr} {t : AD} {pos p : Pos} {x : Str} {j k : Nat} {ps : List Str} {sd : SpD} {ea : Addr}
def vCallU (ea : Addr) (sd : SpD) (t : AD) : ED := fun δ Q => t δ fun ds => (∃ C gs, D.exc ea C gs ∈ ds) ∧ sd ds Q
theorem exc_in {K : PySem.W.Frag} {H : Hp} {C : Addr} {gs : List (Str × D)} : ∀ {vs : List V} {ds : List D}, Dvs K H vs ds → D.exc ea C gs ∈ ds → ∃ dx, Rd H ea (ExcO ea C dx)
  | _, _, .cons dv r, h => by
    rcases List.mem_cons.mp h with h | h
    · subst h
      cases dv with
      | exc h1 _ _ => exact ⟨_, h1⟩
    · exact exc_in r h
theorem hand_frz {P : Program} {w : World} {A : Around} {H : Hp} {h : Heap} {C : Addr} {dx : Option Addr} (hA : A.handled = some (.ref ea)) (ok : HOk P w H h) (r : Rd H ea (ExcO ea C dx)) : HandOk A (frzH h H) := by
  have z := r.frz ok (show HO.data (ExcO ea C dx) from True.intro)
  obtain ⟨⟨oe, vs, e1, _, _, e2, e3⟩, _⟩ := (show ObjOk P w (frzH h H) h ea (ExcO ea C dx) from z.ok ok.frz)
  rcases z with z | ⟨o, z⟩
  · exfalso
    rcases r with r | ⟨o, r⟩
    · rcases frz_cases ok r with ⟨_, q⟩ | ⟨o, _, q⟩
      · rcases q with ⟨_, q⟩ | ⟨_, _, q⟩ | ⟨_, _, q, _⟩ <;> cases q
      · rw [q] at z; cases z
    · rw [frz_frz r] at z; cases z
  · have g := (ok.frz ea _ z).1
    rw [e1] at g
    cases g
    exact .inr ⟨ea, oe, _, vs, hA, z, e2, e3⟩
theorem d_calU (hA : X.A.handled = some (.ref ea)) (c : CalU X.prog X.w X.K X.mg X.base j x ps sd) (hr : RoomU k X.A) (hj : j ≤ k) (hg : Gl X x) (ha : PAd X (e :: es) t) (hdb : (x == ("__debug__" : Str)) = false := by decide)
    (he : starEach (e :: es) X.env = (false, eval e X.env) :: starEach es X.env := by rfl) (hpl : (backTo pos (starEach es X.env)).any (·.1) = false := by rfl) : PD X (.Call (.Name x p) (e :: es) [] pos) (vCallU ea sd t) := by
  obtain ⟨f, fd, F, hm, hk, hb⟩ := c.ex
  refine ⟨fun pins s σ H Q I ⟨δ, r, h⟩ => ?_, fun δ P P' g h => ha.mono _ _ _ (fun ds ⟨q0, q⟩ => ⟨q0, c.ms _ _ _ g q⟩) h⟩
  refine wpAny_Call_Name_kw (ld_glob I hg hm ?_ hdb)
  refine PySem.W.callWith_K (h₀ := X.base) I.ok.mod.kin hk (thn (ha.pa pos pins s σ H (fun vs H1 => Same H H1 ∧ ∃ ds, Dvs X.K H1 vs ds ∧ (∃ C gs, D.exc ea C gs ∈ ds) ∧ sd ds (kD X.K H Q)) I ⟨δ, r, ha.mono _ _ _ (fun ds q vs H1 s1 dv => ⟨s1, ds, dv, q⟩) h⟩) fun us s1 ⟨vs, H1, I1, r1, sm, ds, dv, ⟨C, gs, q0⟩, q⟩ => ⟨I1.kIn, ?_⟩) he hpl
  obtain ⟨dx, rd⟩ := exc_in dv q0
  refine run_fnU (Q' := backX X.K (kD X.K H Q)) F (hr.mono hj) (hand_frz hA I1.hok rd) hb I1 r1 ⟨ds, (dv.rd fun b u hu z => z.frz I1.hok hu), c.ms _ _ _ (fun d q v H' dv => ⟨d, dv, q⟩) q⟩ ?_
  rintro v H' rd ⟨d, dv, q⟩
  exact q v _ (sm.trans (thaw_same _ _)) (dv.rd rd)
end
end DC

set_option maxHeartbeats 1000000
namespace L2
open PySem PySem.Spec PyProof.Rows
section
variable {prog : Program} {w : World} {A : Around} {E : Value → Shared → Prop} {s : Shared}
end
end L2

set_option maxHeartbeats 4000000
namespace L2
open PySem PySem.Spec PyProof.Rows
structure ExcGet (K : PySem.W.Frag) (C : Addr) : Prop where
  ga : PySem.W.findIn K (.ref C) "__getattribute__" = some (some (.builtin "BaseException.__getattribute__"))
  na : PySem.W.findIn K (.ref C) "__getattr__" = some none
  be : PySem.W.mroIn K C (.type "BaseException") = some true
section
variable {prog : Program} {w : World} {A : Around} {E : Value → Shared → Prop} {s : Shared} {K : PySem.W.Frag} {x C : Addr} {ox : Obj} {od : Option Obj} {name : Str} {tk : Tok}
theorem check_ga {Q : Unit → Shared → Prop} {nv : Value} (X : K.In s.heap) (I : PySem.W.InstAt s.heap x ox C od) (g : ExcGet K C) (hq : Q () s) : wpAny (model prog w) A (checkBuiltinCall "BaseException.__getattribute__" ⟨[.ref x, nv], []⟩) Q E s := by
  have hk : builtinKind "BaseException.__getattribute__" = some .slot := by decide +kernel
  have hsplit : splitId "BaseException.__getattribute__" = some ("BaseException", "__getattribute__") := by decide +kernel
  have ha := PySem.F.args_bexc_ga (.ref x) nv
  have L0 := I.type (M := model prog w)
  have L1 := PySem.W.looks_mroIn (M := model prog w) X g.be
  simp only [checkBuiltinCall, hk, hsplit]
  unfold isInstance
  refine wpAny_bind (wpAny_bind (L0.at (L1.at ?_)))
  unfold argsOk at ha
  simp only [Bool.not_true, Bool.false_eq_true, if_false]
  generalize Manifest.signature? "BaseException.__getattribute__" = o at ha ⊢
  cases o with
  | none => exact wpAny_pure hq
  | some sig =>
    have ha' : Bind.checkArgs "BaseException.__getattribute__" sig { pos := [Value.ref x, nv] } = pure () := ha
    show wpAny _ _ (Bind.checkArgs "BaseException.__getattribute__" sig { pos := [Value.ref x, nv] }) _ _ _
    rw [ha']
    exact wpAny_pure hq
theorem own_find {fin : Fin → Shared → Prop} {v : Value} (X : K.In s.heap) (I : PySem.W.InstAt s.heap x ox C od) (hf : PySem.W.findObj K C od name = some (.value v)) (h : fin (.done (.ret v)) s) : wpAny (model prog w) A (Builtin.«object.__getattribute__» ⟨[.ref x, .str name tk], []⟩) fin E s := by
  have L0 := I.type (M := model prog w)
  have L1 := PySem.W.looks_find (M := model prog w) X I hf
  refine wpAny_bind (wpAny_pure (wpAny_bind (wpAny_pure (wpAny_bind (L0.at (wpAny_bind (L1.at (wpAny_pure h))))))))
theorem own_bind {fin : Fin → Shared → Prop} {g a : Value} (X : K.In s.heap) (I : PySem.W.InstAt s.heap x ox C od) (hf : PySem.W.findObj K C od name = some (.bind g a)) (h : wpAny (model prog w) A (call g [a, .ref x, .ref C]) (fun v s' => fin (.done (.ret v)) s') E s) : wpAny (model prog w) A (Builtin.«object.__getattribute__» ⟨[.ref x, .str name tk], []⟩) fin E s := by
  have L0 := I.type (M := model prog w)
  have L1 := PySem.W.looks_find (M := model prog w) X I hf
  refine wpAny_bind (wpAny_pure (wpAny_bind (wpAny_pure (wpAny_bind (L0.at (wpAny_bind (L1.at ?_)))))))
  show wpAny _ _ (holding [a] (call g [a, .ref x, .ref C]) >>= ret) _ _ _
  exact wpAny_bind (wpAny_holding (wpAny_mono h (fun v s' z => wpAny_pure z) fun _ _ z => z))
theorem by_exc {fill expr : Bool} {Q : Value → Shared → Prop} (X : K.In s.heap) (I : PySem.W.InstAt s.heap x ox C od) (g : ExcGet K C)
    (h : wpAny (model prog w) A.in1 (Builtin.«object.__getattribute__» ⟨[.ref x, .str name tk], []⟩) (fun fin s' => match fin with | .done (.ret v) => wpAny (model prog w) A (handedOut v) Q E s' | _ => False) (fun _ _ => False) s) :
    wpAny (model prog w) A (getAttrBy (.ref x) (.str name tk) fill expr) Q E s := by
  have L0 := I.type (M := model prog w)
  have L1 := PySem.W.looks_findIn (M := model prog w) X g.ga
  have L2 := PySem.W.looks_findIn (M := model prog w) X g.na
  have f3 := PySem.F.attr_ValueError.ga.bind (.ref x)
  have hx0 : (expr && onTheHeap (Value.builtin "BaseException.__getattribute__")) = false := by cases expr <;> rfl
  have hx2 : (Value.builtin "BaseException.__getattribute__" == Value.builtin "object.__getattribute__") = false := by decide +kernel
  have hx1 : (onTheHeap (Value.ref C) && Value.builtin "BaseException.__getattribute__" == Value.builtin "object.__getattribute__") = false := by rw [hx2]; rfl
  unfold getAttrBy
  refine wpAny_holding (wpAny_bind (L0.at (wpAny_bind (L1.at ?_))))
  simp only [hx1]
  show wpAny _ _ (getAttrByItsOwn (.ref x) (.str name tk) (.ref C) (.builtin "BaseException.__getattribute__") fill expr) _ _ _
  unfold getAttrByItsOwn hookBefore
  refine wpAny_bind (L2.at (wpAny_bind (wpAny_attempt (wpAny_holding ?_))))
  unfold callGetattribute
  rw [hx0]
  show wpAny _ _ (boundAndCalled _ _ _) _ _ _
  unfold boundAndCalled
  rw [f3]
  refine wpAny_bind (wpAny_pure (wpAny_call (codeAny_call_builtin PySem.F.attr_ValueError.ga.plain PySem.F.entry_bexc_ga (check_ga X I g (wpAny_mono h (fun fin s' z => ?_) fun _ _ z => z.elim)))))
  rcases fin with (_ | _ | _ | _) | _ <;> first | exact z | exact z.elim
theorem get_exc {expr : Bool} {Q : Value → Shared → Prop} {v : Value} (X : K.In s.heap) (I : PySem.W.InstAt s.heap x ox C od) (g : ExcGet K C) (hf : PySem.W.findObj K C od name = some (.value v)) (hh : PySem.W.handedIn v = true) (h : Q v { s with toks := s.toks + 1 }) : wpAny (model prog w) A (getAttr (.ref x) name expr) Q E s := by
  obtain ⟨hp, gg, d, t, os⟩ := s
  unfold getAttr
  exact wpAny_bind (wpAny_mkText (by_exc (s := ⟨hp, gg, d, t + 1, os⟩) X I g (own_find (s := ⟨hp, gg, d, t + 1, os⟩) X I hf (PySem.W.handed_on hh h))))
theorem cls_exc {Q : Option Value → Shared → Prop} (X : K.In s.heap) (I : PySem.W.InstAt s.heap x ox C od) (g : ExcGet K C) (hf : PySem.W.findObj K C od "__class__" = some (.bind (.builtin "getset_descriptor.__get__") (.builtin "object.__class__"))) (hm : PySem.W.mroIn K C (.type "object") = some true) (h : Q (some (.ref C)) { s with toks := s.toks + 1 }) : wpAny (model prog w) A (getAttr? (.ref x) "__class__") Q E s := by
  obtain ⟨hp, gg, d, t, os⟩ := s
  unfold getAttr? getAttrBy?
  refine wpAny_bind (wpAny_mkText (wpAny_bind (wpAny_attempt (by_exc (s := ⟨hp, gg, d, t + 1, os⟩) X I g (own_bind (s := ⟨hp, gg, d, t + 1, os⟩) X I hf (wpAny_call (PySem.W.class_get (s := ⟨hp, gg, d, t + 1, os⟩) (ox := ox) (od := od) X I hm ?_)))))))
  exact PySem.W.handed_on rfl (wpAny_pure h)
end
end L2

set_option maxHeartbeats 1000000
namespace L2
open PySem PySem.Spec PyProof.Rows
structure ExcTy (K : PySem.W.Frag) (C : Addr) : Prop where
  pg : ExcGet K C
  cl : (PySem.W.clsIn K C).isSome = true
  ha : PySem.W.findIn K (.ref C) "__class__" = some (some (.builtin "object.__class__"))
  hn : PySem.W.specialIn K (.builtin "object.__class__") "__get__" = some (some (.builtin "getset_descriptor.__get__"))
  htk : PySem.W.takesIn K (.builtin "object.__class__") = some true
  hm : PySem.W.mroIn K C (.type "object") = some true
theorem ExcTy.look {K : PySem.W.Frag} {C : Addr} (t : ExcTy K C) : ∃ c d cd sl, K.lookup C = some ⟨c, d, .cls cd, sl⟩ := by
  obtain ⟨cd, a⟩ := Option.isSome_iff_exists.mp t.cl
  unfold PySem.W.clsIn at a
  split at a
  · exact ⟨_, _, _, _, by assumption⟩
  · cases a
theorem kitx_exc {K : PySem.W.Frag} {x C : Addr} {ox : Obj} {od : Option Obj} (t : ExcTy K C) : PySem.W.KitX K (.ref x) (.ref C) (fun h => PySem.W.InstAt h x ox C od) where
  ty := fun _ _ _ I => I.type
  it := fun _ _ X _ A' Q' E' s' k q => by
    obtain ⟨c, d, cd, sl, ho⟩ := t.look
    unfold isType loadHead; exact wpAny_bind (wpAny_loadPart (k _ _ (X _ _ ho)) (wpAny_pure q))
  ne := fun h tp dd its n sl X htp => by
    obtain ⟨c, d, cd, sl', ho⟩ := t.look
    refine Bool.eq_false_iff.mpr fun q => ?_
    rw [← Value.ref.inj (beq_iff_eq.mp q), X _ _ ho] at htp
    cases htp
  ca := fun {prog w A E Q s} X I k => by
    obtain ⟨cd, hcd⟩ := Option.isSome_iff_exists.mp t.cl
    have hf : PySem.W.findObj K C od "__class__" = some (.bind (.builtin "getset_descriptor.__get__") (.builtin "object.__class__")) := by
      unfold PySem.W.findObj; rw [hcd, Option.bind_some, t.ha, Option.bind_some]; simp [t.hn, t.htk]
    exact cls_exc X I t.pg hf t.hm k
theorem exc_inst {P : Program} {w : World} {H : Hp} {h : Heap} {a C : Addr} {dx : Option Addr} {fs : List (Str × V)} (ok : HOk P w H h) (r : Rd H a (DC.ExcO a C dx)) (xd : DC.XDict H dx fs) : ∃ ox od, PySem.W.InstAt h a ox C od := by
  obtain ⟨⟨oe, vs, e1, hc, hdx, hd, _⟩, _⟩ := (show ObjOk P w H h a (DC.ExcO a C dx) from r.ok ok)
  cases dx with
  | none => exact ⟨oe, none, e1, hc, by unfold PySem.W.notCls; rw [hd], by rw [hdx]; exact True.intro⟩
  | some d =>
    obtain ⟨⟨mA, ⟨od, es, ep, e, c⟩, rr⟩, _⟩ := (show ObjOk P w H h d (DC.XdO d fs) from Rd.ok xd ok)
    exact ⟨oe, some od, e1, hc, by unfold PySem.W.notCls; rw [hd], by rw [hdx]; exact e⟩
section
variable {X : Cx}
end
end L2
namespace DC
open PySem PySem.Spec PyProof.Rows L2
section
variable {X : Cx} {o e : Expr} {es : List Expr} {te to : ED} {t : AD} {pos p p2 apos cpos : Pos}
theorem call_isiE {c : Value} {vc : V} (rc : ∀ u, RelV vc u → u = c) : CallR X (.builtin "isinstance") (fun xs H Q => ∃ x a C gs b, xs = [x, vc] ∧ Dv X.K H x (.exc a C gs) ∧ ExcTy X.K C ∧ PySem.W.kitOne X.K (.ref C) c = some b ∧ Q (.bl b) H) := by
  intro pins s σ H xs us Q I r h
  obtain ⟨x, a, C, gs, b, rfl, dv, ty, e, q⟩ := h
  obtain ⟨u, w', rfl, r1, r2⟩ := vals2 r
  obtain rfl := rc w' r2
  cases dv with
  | exc h1 h2 h3 =>
    cases (show u = Value.ref a from r1)
    obtain ⟨ox, od, J⟩ := exc_inst I.hok h1 h2
    exact PySem.W.kia_one (kitx_exc (ox := ox) (od := od) ty) I.kIn J e (fun z => nomatch z) fun tk => ⟨.bl b, H, I.tok _, rfl, q⟩
def vIsiE (K : PySem.W.Frag) (c : Value) (te : ED) : ED := fun δ Q => te δ fun d => ∃ a C gs b, d = .exc a C gs ∧ ExcTy K C ∧ PySem.W.kitOne K (.ref C) c = some b ∧ Q (.bl b)
theorem d_isiE_of {c : Value} {vc : V} (he : PD X e te) {ec : Expr} (hp : PE X (.Call (.Name "isinstance" p) [e, ec] [] pos) (tCB (fun xs H Q => ∃ x a C gs b, xs = [x, vc] ∧ Dv X.K H x (.exc a C gs) ∧ ExcTy X.K C ∧ PySem.W.kitOne X.K (.ref C) c = some b ∧ Q (.bl b) H) (tCons (oE X.K te) (tCons (tC vc) tNil)))) :
    PD X (.Call (.Name "isinstance" p) [e, ec] [] pos) (vIsiE X.K c te) :=
  ⟨hp.imp fun σ H Q ⟨δ, r, h⟩ => ⟨δ, r, he.mono _ _ _ (fun d ⟨a, C, gs, b, ed, ty, ek, k⟩ v H1 s1 dv => ⟨v, a, C, gs, b, rfl, ed ▸ dv, ty, ek, k _ H1 s1 (.bl _)⟩) h⟩, fun δ P P' g h => he.mono _ _ _ (fun d ⟨a, C, gs, b, ed, ty, ek, k⟩ => ⟨a, C, gs, b, ed, ty, ek, g _ k⟩) h⟩
theorem d_isiEC (K : PySem.W.Frag) (hK : X.K = K) {C : Addr} {x : Str} (he : PD X e te) (hg : Gl X "isinstance") (hm : X.mg "isinstance" = none) (hg2 : Gl X x) (hm2 : X.mg x = some (.ref C)) (hd : (x == ("__debug__" : Str)) = false := by decide)
    (hs : starEach [e, .Name x p2] X.env = (false, eval e X.env) :: starEach [.Name x p2] X.env := by rfl) : PD X (.Call (.Name "isinstance" p) [e, .Name x p2] [] pos) (vIsiE K (.ref C) te) := by
  subst hK
  exact d_isiE_of (vc := .ref C) he (pe_callB (call_isiE fun u z => z) hg hm boot_isinstance (pa_cons he.pe (pa_cons (pe_glob (v := .ref C) hg2 hm2 rfl hd) pa_nil) hs) (he := hs))
theorem d_isiET (K : PySem.W.Frag) (hK : X.K = K) {T : String} {x : Str} (he : PD X e te) (hg : Gl X "isinstance") (hm : X.mg "isinstance" = none) (hg2 : Gl X x) (hm2 : X.mg x = none) (hv2 : bootBuiltins x = some (.type T)) (hn : x ≠ "__name__" := by decide) (hd : (x == ("__debug__" : Str)) = false := by decide)
    (hs : starEach [e, .Name x p2] X.env = (false, eval e X.env) :: starEach [.Name x p2] X.env := by rfl) : PD X (.Call (.Name "isinstance" p) [e, .Name x p2] [] pos) (vIsiE K (.type T) te) := by
  subst hK
  exact d_isiE_of (vc := .ty T) he (pe_callB (call_isiE fun u z => z) hg hm boot_isinstance (pa_cons he.pe (pa_cons (pe_bltn (v := .ty T) hg2 hm2 hv2 rfl hn hd) pa_nil) hs) (he := hs))
end
end DC

set_option maxHeartbeats 1000000
namespace L2
open PySem PySem.Spec PyProof.Rows
open Builtin Builtin.ObjectAttr
def excOver : List Value → Bool
  | .ref _ :: r => excOver r
  | [.type a, .type b, .type c, .type d] => a == "ValueError" && b == "Exception" && c == "BaseException" && d == "object"
  | _ => false
theorem over_eq : ∀ {l : List Value}, excOver l = true → ∃ rs : List Addr, l = rs.map Value.ref ++ [.type "ValueError", .type "Exception", .type "BaseException", .type "object"]
  | .ref a :: r, e => by
    obtain ⟨rs, h⟩ := over_eq (l := r) (by unfold excOver at e; exact e)
    exact ⟨a :: rs, by rw [h]; rfl⟩
  | [.type a, .type b, .type c, .type d], e => by
    unfold excOver at e
    simp only [Bool.and_eq_true, beq_iff_eq] at e
    obtain ⟨⟨⟨rfl, rfl⟩, rfl⟩, rfl⟩ := e
    exact ⟨[], rfl⟩
theorem refuse_exc (self : Value) {l : List Value} (e : excOver l = true) : refuseLoop self "__setattr__" l = pure () := by
  obtain ⟨rs, rfl⟩ := over_eq e
  induction rs with
  | nil => exact PySem.F.store_ValueError.passes self
  | cons a r ih => rw [List.map_cons, List.cons_append, refuseLoop_ref]; exact ih (by unfold excOver at e; exact e)
theorem over_has {l : List Value} (e : excOver l = true) : l.contains (.type "object") = true := by
  obtain ⟨rs, rfl⟩ := over_eq e
  simp
structure ExcSet (K : PySem.W.Frag) (C : Addr) : Prop where
  sa : PySem.W.findIn K (.ref C) "__setattr__" = some (some (.builtin "object.__setattr__"))
  ov : ((PySem.W.clsIn K C).any fun cd => excOver cd.mro) = true
  hd : PySem.W.hasDictIn K C = true
section
variable {prog : Program} {w : World} {A : Around} {E : Value → Shared → Prop} {s : Shared} {K : PySem.W.Frag} {x C : Addr} {R : Result → Shared → Prop} {name : Str} {v : Value} {o : Obj}
theorem osa_exc {ox : Obj} {od : Option Obj} {tk : Tok} (X : K.In s.heap) (I : PySem.W.InstAt s.heap x ox C od) (g : ExcSet K C) (na : PySem.W.findIn K (.ref C) name = some none)
    (h : wpAny (model prog w) A.in1 (storeInOwnDict (.ref x) (.ref C) (.str name tk) name v false) (fun fin s' => match fin with | .done f => R (.ok f) s' | .again c' => c'.quiet = true ∧ codeAny (model prog w) A c' R s') (fun e s' => R (.error e) s') s) :
    codeAny (model prog w) A (.call (.builtin "object.__setattr__") ⟨[.ref x, .str name tk, v], []⟩) R s := by
  have SF := PySem.F.store_object
  obtain ⟨cd, hc, ho⟩ := PySem.W.any_some g.ov
  have ne : cd.mro.isEmpty = false := by
    obtain ⟨rs, z⟩ := over_eq ho
    rw [z]; cases rs <;> rfl
  have sub : PySem.W.Looks (model prog w) s.heap (isInstance (.ref x) (.type "object")) true := I.type.andThen (PySem.W.looks_mroIn X (by unfold PySem.W.mroIn; rw [hc, Option.bind_some, if_neg (by rw [ne]; decide), over_has ho]))
  refine codeAny_call_builtin SF.slot.plain SF.entry (@PySem.W.check_slot (model prog w) _ _ s "object.__setattr__" "object" "__setattr__" (.ref x) [.str name tk, v] [] _ SF.kind SF.split sub (SF.args (.ref x) (.str name tk) v) ?_)
  have hm : PySem.W.Looks (model prog w) s.heap (mroOf (.ref C)) cd.mro := (PySem.W.looks_clsIn X hc).andThen .now
  rw [PySem.W.osa_eq, refuse_eq]
  refine wpAny_bind (wpAny_bind (I.type.here (wpAny_bind (hm.here ?_))))
  rw [refuse_exc _ ho]
  refine wpAny_pure (wpAny_bind (I.type.here (wpAny_bind ((PySem.W.looks_findIn X na).here (wpAny_bind (wpAny_pure ?_))))))
  exact h
theorem exc_set0 {vs : Array Value} {Q : Unit → Shared → Prop} (X : K.In s.heap) (g : ExcSet K C) (na : PySem.W.findIn K (.ref C) name = some none) (he : s.heap.get? x = some o) (hc : o.cls = .ref C) (hn : o.dict = none) (hd : o.data = .fields vs)
    (h : ∀ h' tk, h'.get? x = some { o with dict := some s.heap.objs.size } → h'.Ns1 s.heap.objs.size (fun y => if y = name then some v else none) → (∀ b ob, b ≠ x → s.heap.get? b = some ob → h'.get? b = some ob) → Q () { s with heap := h', toks := tk }) : wpAny (model prog w) A (setAttr (.ref x) name v) Q E s := by
  have J : PySem.W.InstAt s.heap x o C none := ⟨he, hc, by unfold PySem.W.notCls; rw [hd], by rw [hn]; exact True.intro⟩
  refine PySem.W.set_plain X J g.sa (osa_exc (s := { s with toks := s.toks + 1 }) X J g na ?_)
  obtain ⟨cd, hcd, hd'⟩ := PySem.W.any_some g.hd
  obtain ⟨oc, odi, oda, osl⟩ := o
  cases hc; cases hn; cases hd
  refine wpAny_bind (wpAny_pure (wpAny_bind (wpAny_bind (wpAny_loadPart he (wpAny_bind (PySem.W.Looks.here (s := { s with toks := s.toks + 1 }) (PySem.W.looks_clsIn X hcd) ?_))))))
  rw [hd']
  show wpAny _ _ (do let d ← alloc { cls := .type "dict", data := .dict #[] }; update x (fun o => { o with dict := some d }); dictMade (.ref C) x d) _ _ _
  have xs : x ≠ s.heap.objs.size := Nat.ne_of_lt (Heap.lt_size he)
  have he1 := Heap.get?_push_of_some (h := s.heap) { cls := .type "dict", data := .dict #[] } he
  refine wpAny_bind (wpAny_alloc' (wpAny_bind (wpAny_update' he1 (wpAny_pure ?_))))
  generalize hG : (s.heap.push { cls := .type "dict", data := .dict #[] }).update x (fun o => { o with dict := some s.heap.objs.size }) = G
  have gx : G.get? x = some ⟨.ref C, some s.heap.objs.size, .fields vs, osl⟩ := by rw [← hG]; exact Heap.get?_update_self _ he1 rfl
  have gd : G.get? s.heap.objs.size = some { cls := .type "dict", data := .dict #[] } := by rw [← hG]; exact (Heap.get?_update_ne _ _ _ _ (Ne.symm xs)).trans (Heap.get?_push_at rfl rfl)
  have gk : ∀ b ob, b ≠ x → s.heap.get? b = some ob → G.get? b = some ob := fun b ob nb q => by rw [← hG]; exact (Heap.get?_update_ne _ _ _ _ nb).trans (Heap.get?_push_of_some _ q)
  have gn : G.Ns s.heap.objs.size (fun _ => none) := ⟨_, #[], _, gd, rfl, fun e he => absurd he (by simp), fun _ => rfl⟩
  show wpAny _ _ (storeInDict s.heap.objs.size (.str name s.toks) name v) _ _ _
  unfold storeInDict newKeyGuard
  refine wpAny_bind (wpAny_pure (wpAny_bind (wpAny_nsSet1 (Heap.Ns1.of_empty gn) fun h' hn' hs => ?_)))
  obtain ⟨oD, esD, epD, hoD, hdD, hcD⟩ := hn'.count (Within.cons name v Within.nil)
  refine wpAny_bind (wpAny_lookBehind hoD (by rw [hdD]; exact pastItsLine_dict (Nat.le_trans hcD (by rw [List.length_cons, List.length_nil, sizeLine_eq]; omega))) ?_)
  refine wpAny_pure (h h' _ ((hs.2 x xs).trans gx) hn' fun b ob nb q => (hs.2 b (Nat.ne_of_lt (Heap.lt_size q))).trans (gk b ob nb q))
theorem exc_set1 {vs : Array Value} {dx : Addr} {ns : List Str} {mA : Str → Option Value} {Q : Unit → Shared → Prop} (X : K.In s.heap) (g : ExcSet K C) (na : PySem.W.findIn K (.ref C) name = some none) (he : s.heap.get? x = some o) (hc : o.cls = .ref C) (hdx : o.dict = some dx) (hd : o.data = .fields vs)
    (hns : s.heap.Ns1 dx mA) (hw : PySem.Within mA ns) (hsz : ns.length < 1000) (h : ∀ h' tk, h'.Ns1 dx (fun y => if y = name then some v else mA y) → Heap.SameBut dx s.heap h' → Q () { s with heap := h', toks := tk }) : wpAny (model prog w) A (setAttr (.ref x) name v) Q E s := by
  obtain ⟨od, ho, _⟩ := lookIn_ns hns
  have J : PySem.W.InstAt s.heap x o C (some od) := ⟨he, hc, by unfold PySem.W.notCls; rw [hd], by rw [hdx]; exact ho⟩
  refine PySem.W.set_plain X J g.sa (osa_exc (s := { s with toks := s.toks + 1 }) X J g na ?_)
  obtain ⟨cd, hcd, hd'⟩ := PySem.W.any_some g.hd
  obtain ⟨oc, odi, oda, osl⟩ := o
  cases hc; cases hdx; cases hd
  refine wpAny_bind (wpAny_pure (wpAny_bind (wpAny_bind (wpAny_loadPart he (wpAny_bind (PySem.W.Looks.here (s := { s with toks := s.toks + 1 }) (PySem.W.looks_clsIn X hcd) ?_))))))
  rw [hd']
  refine wpAny_pure (a := some dx) (wpAny_bind (wpAny_pure (wpAny_bind ?_)))
  refine wpAny_nsSet1 (s := { s with toks := s.toks + 1 }) hns fun h' hn' hs => ?_
  obtain ⟨oD, esD, epD, hoD, hdD, hcD⟩ := hn'.count (Within.cons name v hw)
  refine wpAny_bind (wpAny_lookBehind hoD (by rw [hdD]; exact pastItsLine_dict (Nat.le_trans hcD (by rw [List.length_cons, sizeLine_eq]; omega))) ?_)
  exact wpAny_pure (h h' _ hn' hs)
theorem exc_get {vs : Array Value} {dx : Addr} {mA : Str → Option Value} {b : Bool} {Q : Value → Shared → Prop} (X : K.In s.heap) (hg : ExcGet K C) (hh : PySem.W.hasDictIn K C = true) (na : PySem.W.findIn K (.ref C) name = some none) (he : s.heap.get? x = some o) (hc : o.cls = .ref C) (hdx : o.dict = some dx) (hd : o.data = .fields vs)
    (hns : s.heap.Ns1 dx mA) (hv : mA name = some v) (hv' : PySem.W.handedIn v = true) (h : Q v { s with toks := s.toks + 1 }) : wpAny (model prog w) A (getAttr (.ref x) name b) Q E s := by
  obtain ⟨od, ho, hl⟩ := lookIn_ns hns
  have J : PySem.W.InstAt s.heap x o C (some od) := ⟨he, hc, by unfold PySem.W.notCls; rw [hd], by rw [hdx]; exact ho⟩
  exact get_exc X J hg (PySem.W.findObj_own hh na rfl (by rw [hl, hv])) hv' h
end
end L2

set_option maxHeartbeats 1000000
namespace L2
open PySem PySem.Spec PyProof.Rows
open DC (ExcO XdO)
def ExcP (p : Array Value → Prop) (a C : Addr) (dx : Option Addr) : HO := .ext fun h => ∃ oe vs, h.get? a = some oe ∧ oe.cls = .ref C ∧ oe.dict = dx ∧ oe.data = .fields vs ∧ p vs
def pNew : Array Value → Prop := fun vs => vs[2]? = some .none ∧ 1 < vs.size ∧ vs[1]? = some .none
section
variable {X : Cx} {pins : List (Addr × Obj)} {σ : St} {H : Hp} {s : Shared} {a C d : Addr} {f : Str} {v : V} {u : Value} {Q : Unit → Shared → Prop} {E : Value → Shared → Prop} {A : Around} {fs : List (Str × V)} {p : Array Value → Prop}
theorem ObjOk.exc {P : Program} {w : World} {H' : Hp} {h : Heap} {dx : Option Addr} {oe : Obj} {vs : Array Value} (he : h.get? a = some oe) (hc : oe.cls = .ref C) (hdx : oe.dict = dx) (hd : oe.data = .fields vs) (hy : p vs) : ObjOk P w H' h a (ExcP p a C dx) := by
  unfold ExcP
  exact ⟨⟨oe, vs, he, hc, hdx, hd, hy⟩, ⟨oe, he⟩, fun g1 g2 ⟨oe', vs', e1, rr⟩ kk => ⟨oe', vs', kk _ e1, rr⟩⟩
theorem ObjOk.xdo {P : Program} {w : World} {H' : Hp} {h : Heap} {mA : Str → Option Value} (hn : h.Ns1 d mA) (hr : ∀ f, RelO (fs.lookup f) (mA f)) (hw : PySem.Within mA (fs.map (·.1))) : ObjOk P w H' h d (XdO d fs) := by
  unfold XdO
  refine ⟨⟨mA, hn, hr, hw⟩, let ⟨o, _, _, e, _⟩ := hn; ⟨o, e⟩, fun g1 g2 ⟨mB, hB, r1, r2⟩ kk => ⟨mB, ?_, r1, r2⟩⟩
  exact hB.at fun o q => kk o q
theorem xset0 (I : Inv X pins σ H s) (e : H a = some (ExcP p a C none)) (g : ExcSet X.K C) (na : PySem.W.findIn X.K (.ref C) f = some none) (ru : RelV v u)
    (h : ∀ d s', H d = none → d ≠ a → Inv X pins σ (upd (upd H a (ExcP p a C (some d))) d (XdO d [(f, v)])) s' → Q () s') : wpAny (model X.prog X.w) A (setAttr (.ref a) f u) Q E s := by
  obtain ⟨⟨oe, vs, he, hc, hdx, hd, hy⟩, _⟩ := (show ObjOk X.prog X.w H s.heap a (ExcP p a C none) from I.hok a _ e)
  refine exc_set0 I.kIn g na he hc hdx hd fun h' tk gx gn gk => ?_
  have hne : s.heap.objs.size ≠ a := Nat.ne_of_gt (Heap.lt_size he)
  have hn : H s.heap.objs.size = none := I.hok.fresh (Nat.le_refl _)
  have I1 : Inv X pins σ (upd H a (ExcP p a C (some s.heap.objs.size))) { s with heap := h', toks := tk } :=
    I.write (x := a) (e := a) (by rw [e]; exact True.intro) (.inl rfl) (fun b ob nb q => gk b ob nb q) ⟨_, gx⟩ (ObjOk.exc gx hc rfl hd hy)
  refine h s.heap.objs.size _ hn hne (I1.track (by rw [upd_ne hne]; exact hn) ?_ ?_ ?_ ?_ (ObjOk.xdo gn (fun y => ?_) fun y hy' => ?_))
  · cases q : X.s₀.heap.get? s.heap.objs.size with
    | none => rfl
    | some o => exact absurd (Heap.lt_size q) (Nat.not_lt.mpr I.sz)
  · exact Nat.ne_of_gt I.lt
  · intro x c q z
    obtain ⟨v', k⟩ := I.cell x c q
    exact absurd k.lt (by rw [z]; exact Nat.lt_irrefl _)
  · intro p hp z
    exact absurd (Heap.lt_size (I.pin p hp).1) (by rw [z]; exact Nat.lt_irrefl _)
  · show RelO (List.lookup y [(f, v)]) (if y = f then some u else none)
    by_cases q : y = f
    · subst q; rw [if_pos rfl]; simp [RelO]; exact ru
    · rw [if_neg q]
      rw [List.lookup_cons, beq_eq_false_iff_ne.mpr q]
      exact True.intro
  · by_cases q : y = f
    · subst q; simp
    · exact absurd (show (if y = f then some u else none) = none by rw [if_neg q]) hy'
theorem xset1 (I : Inv X pins σ H s) (e : H a = some (ExcP p a C (some d))) (ed : H d = some (XdO d fs)) (g : ExcSet X.K C) (na : PySem.W.findIn X.K (.ref C) f = some none) (hl : fs.length < 1000) (ru : RelV v u)
    (h : ∀ s', Inv X pins σ (upd H d (XdO d (putF f v fs))) s' → Q () s') : wpAny (model X.prog X.w) A (setAttr (.ref a) f u) Q E s := by
  obtain ⟨⟨oe, vs, he, hc, hdx, hd, hy⟩, _⟩ := (show ObjOk X.prog X.w H s.heap a (ExcP p a C (some d)) from I.hok a _ e)
  obtain ⟨⟨mA, hn, hr, hw⟩, _⟩ := (show ObjOk X.prog X.w H s.heap d (XdO d fs) from I.hok d _ ed)
  refine exc_set1 I.kIn g na he hc hdx hd hn hw (by rw [List.length_map]; exact hl) fun h' tk gn sb => h _ ?_
  refine I.write (x := d) (e := d) (by rw [ed]; exact True.intro) (.inl rfl) (fun b ob nb q => (sb.2 b nb).trans q) (let ⟨o, _, _, e', _⟩ := gn; ⟨o, e'⟩) (ObjOk.xdo gn (fun y => ?_) fun y hy' => ?_)
  · show RelO ((putF f v fs).lookup y) (if y = f then some u else mA y)
    rw [lookup_putF]
    by_cases q : y = f
    · rw [if_pos q, if_pos q]; exact ru
    · rw [if_neg q, if_neg q]; exact hr y
  · by_cases q : y = f
    · rw [q]; exact (keys_putF f v fs).1
    · refine (keys_putF f v fs).2 y (hw y fun z => hy' ?_)
      show (if y = f then some u else mA y) = none
      rw [if_neg q]; exact z
end
end L2

set_option maxHeartbeats 1000000
namespace L2
open PySem PySem.Spec PyProof.Rows
open DC (ExcO XdO)
abbrev bmV : List Value := [.type "ValueError", .type "Exception", .type "BaseException", .type "object"]
def excOwnIn (K : PySem.W.Frag) (C f : Addr) : Bool := match K.lookup C with
  | some ⟨.type "type", _, .cls cd, sl⟩ => (match cd.mro, sl.toList with
    | .ref D :: bm, [_, _, _, _, some (.builtin n), _] => (D == C) && ((n == "ValueError.__new__") && ((!cd.hasDel) && (PySem.W.tailIn K bmV bm && (PySem.W.nsOkIn K cd.ns && (PySem.W.nsIn K cd.ns "__init__" == some (some (.ref f)))))))
    | _, _ => false)
  | _ => false
theorem nsome_of {K : PySem.W.Frag} {h : Heap} {N : Addr} {m : Str → Option Value} {n : Str} {v : Value} (X : K.In h) (G : h.Ns N m) (e : PySem.W.nsIn K N n = some (some v)) : m n = some v := by
  obtain ⟨o, es, ep, ho, hd, _, hf⟩ := G
  unfold PySem.W.nsIn at e
  split at e
  · rename_i q
    have z := X _ _ q
    rw [ho] at z
    cases z
    cases hd
    split at e
    · rename_i en he
      cases e
      rw [← hf]; unfold nsFind findBy
      rw [← Array.find?_toList, he]; rfl
    · split at e <;> cases e
  · cases e
theorem exc_open2 {K : PySem.W.Frag} {h : Heap} {C f : Addr} (X : K.In h) (q : excOwnIn K C f = true) :
    ∃ bm N nm qn bs hdct sn sub ab col dd k0 k1 k2 k3 k5 mN, h.get? C = some (excClassObj nm qn C N bs bm hdct sn sub ab col dd k0 k1 k2 k3 k5 "ValueError.__new__") ∧ h.Ns N mN ∧ mN "__init__" = some (.ref f) ∧ OwnTail h bmV bm := by
  unfold excOwnIn at q
  split at q
  · rename_i dd cd sl ho
    split at q
    · rename_i C2 bm k0 k1 k2 k3 n k5 hm hs
      simp only [Bool.and_eq_true, beq_iff_eq, Bool.not_eq_true'] at q
      obtain ⟨e1, e2, hdel, ht, hok, hni⟩ := q
      subst e1 e2
      obtain ⟨nm, bs, mro, ns, qn, hd, sn, sub, ab, col, del⟩ := cd
      have hm' : mro = .ref C2 :: bm := hm
      have hdel' : del = false := hdel
      subst hm' hdel'
      obtain ⟨l⟩ := sl
      have hl : l = [k0, k1, k2, k3, some (.builtin "ValueError.__new__"), k5] := hs
      subst hl
      have G : h.Ns ns (h.nsMap ns) := .of_isNs (PySem.W.isNs_of_in X hok)
      exact ⟨bm, ns, nm, qn, bs, hd, sn, sub, ab, col, dd, k0, k1, k2, k3, k5, _, X _ _ ho, G, nsome_of X G hni, PySem.W.tail_of_in X ht⟩
    · cases q
  · cases q
section
variable {prog : Program} {w : World} {A : Around} {E : Value → Shared → Prop} {h : Heap} {g : Array GenState} {d : Drawn} {t : Nat} {os : OsState}
variable {nm q : Str} {C N : Addr} {bs bm : List Value} {hdct : Bool} {sn : List Str} {sub : List Value} {ab : Bool} {col : Option Bool} {dd : Option Addr} {k0 k1 k2 k3 k5 : Option Value}
theorem exc_type_call {mN : Str → Option Value} {rest : List Value} {fI : Addr} {oI : Obj} {Q : PySem.Fin → Shared → Prop} (T : OwnTail h bmV bm)
    (hC : h.get? C = some (excClassObj nm q C N bs bm hdct sn sub ab col dd k0 k1 k2 k3 k5 "ValueError.__new__")) (hn : h.Ns N mN) (hi : mN "__init__" = some (.ref fI)) (hfI : h.get? fI = some oI) (hfc : oI.cls = .type "function") (hrest : rest.length ≤ sizeLine)
    (hq : ∀ h' e, Heap.MadeExcOf h h' e (.ref C) rest → wpAny (model prog w) A (call (.ref fI) (.ref e :: rest)) (fun r s' => r = .none ∧ Q (.done (.ret (.ref e))) s') E ⟨h', g, d, t, os⟩) :
    wpAny (model prog w) A (Builtin.«type.__call__» ⟨.ref C :: rest, []⟩) Q E ⟨h, g, d, t, os⟩ := by
  have F := PySem.F.excBase_ValueError
  repeat (first | with_reducible refine wpAny_loadPart_at hC ?_ | with_reducible refine wpAny_madeBy_exc hC ?_ | wp_step)
  refine codeAny_call_builtin_code (Code.quiet_builtin _ F.quiet) (wpAny_check_new_subT F T hC (codeAny_exc_new_subT F T hC ?_ hrest))
  show wpAny _ _ _ _ _ _
  generalize hO : ({ cls := .ref C, data := .fields #[.ref h.objs.size, .none, .none, .none, .bool false, .none] } : Obj) = O
  generalize hT : ({ cls := .type "tuple", data := .seq rest.toArray } : Obj) = TT
  have kk : ∀ b o, h.get? b = some o → ((h.push TT).push O).get? b = some o := fun b o e => Heap.get?_push_of_some _ (Heap.get?_push_of_some _ e)
  have C1 := kk _ _ hC
  have f1 := kk _ _ hfI
  have n1 : ((h.push TT).push O).Ns N mN := hn.keeps kk
  have T1 : OwnTail ((h.push TT).push O) bmV bm := T.keeps kk
  have g1 : ((h.push TT).push O).get? (h.objs.size + 1) = some O := by
    have z := Heap.get?_push_size (h.push TT) (o := O) (by rw [← hO]; rfl)
    rwa [Heap.size_push] at z
  have oc : O.cls = .ref C := by rw [← hO]
  have self : (Value.ref C :: bm).contains (.ref C) = true := by simp
  unfold isInstance
  repeat (first | (with_reducible refine wpAny_loadPart_at g1 ?_; rw [oc]) | (with_reducible refine wpAny_isSubtype_exc C1 ?_; rw [self]) | wp_step)
  show wpAny _ _ (typeLookup (.ref C) _) _ _ _
  refine wpAny_typeLookup_tail C1 n1 T1 F.mroIs F.init.lookup ?_
  rw [hi]
  refine wpAny_holding (wpAny_bind ?_)
  unfold bindSpecial
  refine wpAny_bind (wpAny_typeOf (T := "function") ⟨_, f1, hfc⟩ ?_)
  rw [if_pos (by decide)]
  refine wpAny_pure (wpAny_bind (wpAny_mono (hq _ (h.objs.size + 1) ⟨kk, Heap.get?_none_of_le (Nat.le_succ _), h.objs.size, by rw [g1, ← hO], Heap.get?_none_of_le (Nat.le_refl _), by rw [← hT]; exact Heap.get?_push_of_some _ (Heap.get?_push_at rfl rfl)⟩) (fun r s' hr => ?_) fun _ _ x => x))
  obtain ⟨rfl, hQ⟩ := hr
  wp_walk
  exact hQ
theorem exc_call {mN : Str → Option Value} {rest : List Value} {fI : Addr} {oI : Obj} {Q : Value → Shared → Prop} (T : OwnTail h bmV bm)
    (hC : h.get? C = some (excClassObj nm q C N bs bm hdct sn sub ab col dd k0 k1 k2 k3 k5 "ValueError.__new__")) (hn : h.Ns N mN) (hi : mN "__init__" = some (.ref fI)) (hfI : h.get? fI = some oI) (hfc : oI.cls = .type "function") (hrest : rest.length ≤ sizeLine)
    (hq : ∀ h' e, Heap.MadeExcOf h h' e (.ref C) rest → wpAny (model prog w) (A.under (.builtin "type.__call__" ⟨.ref C :: rest, []⟩)) (call (.ref fI) (.ref e :: rest)) (fun r s' => r = .none ∧ Q (.ref e) s') E ⟨h', g, d, t, os⟩) :
    wpAny (model prog w) A (call (.ref C) rest) Q E ⟨h, g, d, t, os⟩ := by
  have f1 := tc_lookup; have f2 := tc_bind (.ref C)
  have hT : (⟨h, g, d, t, os⟩ : Shared).TypeIs (.ref C) "type" := ⟨_, hC, rfl⟩
  refine wpAny_call (codeAny_of_tree ?_); show wpAny _ _ (callAny (.ref C) _) _ _ _
  repeat (any_goals (first | assumption | with_reducible refine wpAny_loadPart_at hC ?_ | wp_step))
  exact ⟨rfl, codeAny_call_builtin_at (Code.quiet_builtin _ (by decide +kernel)) entry_typeCall (wpAny_check_type_call_sub hC (exc_type_call T hC hn hi hfI hfc hrest fun h' e hm => hq h' e hm))⟩
end
end L2

set_option maxHeartbeats 1000000
namespace DC
open PySem PySem.Spec PyProof.Rows L2
def tX (K : PySem.W.Frag) (j : Nat) (f : Str) : TS := fun D σ H => ∃ (pr : Array Value → Prop) (a C : Addr) (v : V), σ[0]? = some (some (.ref a)) ∧ σ[j]? = some (some v) ∧ ExcSet K C ∧ PySem.W.findIn K (.ref C) f = some none ∧
  ((H a = some (ExcP pr a C none) ∧ ∀ d, H d = none → d ≠ a → D.nx σ (upd (upd H a (ExcP pr a C (some d))) d (XdO d [(f, v)]))) ∨ ∃ d fs, H a = some (ExcP pr a C (some d)) ∧ H d = some (XdO d fs) ∧ fs.length < 1000 ∧ D.nx σ (upd H d (XdO d (putF f v fs))))
section
variable {X : Cx} {x p f : Str} {j : Nat} {pa pv pos pos' : Pos}
theorem ps_x (h0 : X.N[0]? = some x) (hv0 : Vis X.env.scope x) (hj : X.N[j]? = some p) (hvj : Vis X.env.scope p) (hs : swapsWith (.Name p pv) (some (.Attribute (.Name x pa) f pos')) pos.line X.env = pure false := by rfl) (hd : (x == ("__debug__" : Str)) = false := by decide) (hd' : (p == ("__debug__" : Str)) = false := by decide)
    (hcd : (x == ("__classdict__" : Str)) = false := by decide) (hcd' : (p == ("__classdict__" : Str)) = false := by decide) : PS X (.Assign [.Attribute (.Name x pa) f pos'] (.Name p pv) pos) (tX X.K j f) := by
  intro pins s σ H D I ⟨pr, a, C, v, s0, sj, g, na, h⟩
  refine plainObj_wpAny_Assign_Attribute (thn (pe_var hj hvj hd' hcd' pins s σ H (fun y H1 => y = v ∧ H1 = H) I ⟨v, sj, rfl, rfl⟩) fun u s1 ⟨y, H1, I1, ru, e1, e2⟩ => ?_) hs
  subst e1 e2
  refine thn (pe_var h0 hv0 hd hcd pins s1 σ H1 (fun y H2 => y = .ref a ∧ H2 = H1) I1 ⟨.ref a, s0, rfl, rfl⟩) fun ov s2 ⟨z, H2, I2, rz, e1, e2⟩ => ?_
  subst e1 e2
  cases (show ov = Value.ref a from rz)
  rcases h with ⟨e, q⟩ | ⟨d, fs, e, ed, hl, q⟩
  · exact xset0 I2 e g na ru fun d s3 hdn hda I3 => ⟨σ, _, I3, q d hdn hda⟩
  · exact xset1 I2 e ed g na hl ru fun s3 I3 => ⟨σ, _, I3, q⟩
end
def spE (C : Addr) (fl : List Str) : Sp := fun vs H Q _ => ∃ (pr : Array Value → Prop) (a : Addr) (vs' : List V), vs = .ref a :: vs' ∧ vs'.length = fl.length ∧ H a = some (ExcP pr a C none) ∧ ∀ d, H d = none → d ≠ a → Q .non (upd (upd H a (ExcP pr a C (some d))) d (XdO d (fl.zip vs')))
section
variable {P : Program} {w : World} {K : PySem.W.Frag} {mg : Str → Option Value} {base : Heap}
theorem okE {x qual : Str} {st : Stmt} {f C : Addr} {fd : FuncData} {N ps fl : List Str} {k : Nat} {t : TS} (F : FunV K x qual st f fd) (S : FnScope N ps (defScope st)) (len : fl.length + 1 = ps.length)
    (hb : ∀ (cdv : Value) (A : Around) (outer : List Env) (s : Shared) (H : Hp) (E : XK), PSs (Bx P w K mg base N qual st f cdv A outer s H E) (defBody st) t)
    (hr : ∀ pr a vs' H (Q : VK), vs'.length = fl.length → H a = some (ExcP pr a C none) → (∀ d, H d = none → d ≠ a → Q .non (upd (upd H a (ExcP pr a C (some d))) d (XdO d (fl.zip vs')))) → t { nx := fun _ H' => Q .non H', rt := Q } (L2.start N (.ref a :: vs')) H) : FnOk P w K mg base CX0 (k + 1) f fd ps (spE C fl) := by
  refine F.ok S (fun vs H Q E ⟨pr, a, vs', e, hl, _⟩ => by rw [e, List.length_cons, hl]; exact len) (fun cdv A outer s H vs Q E hroom ⟨pr, a, vs', e, hl, ha, h⟩ => ?_)
  subst e
  exact ⟨t, hb cdv A outer s H E, hr pr a vs' H Q hl ha h⟩
end
structure MkE (P : Program) (w : World) (K : PySem.W.Frag) (mg : Str → Option Value) (base : Heap) (j : Nat) (x : Str) (C : Addr) (fl : List Str) : Prop where
  ex : ∃ f fd ps oI, excOwnIn K C f = true ∧ K.lookup f = some oI ∧ oI.cls = .type "function" ∧ FnOk P w K mg base CX0 j f fd ps (spE C fl) ∧ mg x = some (.ref C) ∧ PySem.W.keepIn K (.ref C) = true ∧ Binds K fd ps []
  few : fl.length < 100
section
variable {X : Cx} {e : Expr} {es : List Expr} {t : AD} {pos p : Pos} {x : Str} {j k : Nat} {C : Addr} {fl : List Str}
theorem run_mkP {pr : Array Value → Prop} {pins : List (Addr × Obj)} {σ : L2.St} {H : Hp} {s : Shared} {Q : VK} {us : List Value} {vs : List V} (c : MkE X.prog X.w X.K X.mg X.base j x C fl) (hex : X.ex = []) (hr : Room (j + 1) X.A) (I : Inv X pins σ H s) (r : Vals vs us) (hl : vs.length = fl.length) (h0p : ∀ t : Addr, pr #[.ref t, .none, .none, .none, .bool false, .none])
    (h : ∀ a d H', Same H H' → H a = none → X.s₀.heap.get? a = none → (∀ p ∈ X.pn, p.1 ≠ a) → d ≠ a → H' a = some (ExcP pr a C (some d)) → H' d = some (XdO d (fl.zip vs)) → Q (.ref a) H') : wpAny (model X.prog X.w) X.A (call (.ref C) us) (EP X pins σ Q) X.xe s := by
  obtain ⟨f, fd, ps, oI, q, lk, oc, F, _, _, hb⟩ := c.ex
  obtain ⟨bm, N, nm, qn, bs, hdct, sn, sub, ab, col, dd, k0, k1, k2, k3, k5, mN, hC, hN, hni, T⟩ := exc_open2 I.kIn q
  have few := c.few
  have hlu : us.length ≤ sizeLine := by rw [← r.length, hl, sizeLine_eq]; omega
  obtain ⟨hh, gg, dr, tk, os⟩ := s
  refine exc_call T hC hN hni (I.kIn _ _ lk) oc hlu fun h' ea me => ?_
  obtain ⟨tt, ho, _, _⟩ := me.there
  have I1 := I.kept (t' := tk) (h' := h') me.keeps
  have hn : H ea = none := by
    cases q2 : H ea with
    | none => rfl
    | some u =>
      obtain ⟨o, z⟩ := (I.hok ea u q2).there
      rw [me.new] at z
      cases z
  have notin : ∀ b o, hh.get? b = some o → b ≠ ea := fun b o z y => by rw [y, me.new] at z; cases z
  have h0 : X.s₀.heap.get? ea = none := by
    cases q2 : X.s₀.heap.get? ea with
    | none => rfl
    | some o =>
      obtain ⟨o', z⟩ := I.base.there ea o q2 (by rw [hex]; simp)
      exact absurd rfl (notin ea o' z)
  have hlo : ea ≠ X.env.locals := fun z => by
    obtain ⟨m, ⟨o, _, _, go, _⟩, _⟩ := I.loc
    exact notin _ o go z.symm
  have hce : ∀ x c, X.env.cells.lookup x = some c → c ≠ ea := fun x c e => by
    obtain ⟨v, o, go, _⟩ := I.cell x c e
    exact notin c o go
  have I2 := I1.track hn h0 hlo hce (fun p hp => notin _ _ (I.pin p hp).1) (ObjOk.exc (p := pr) (C := C) (dx := none) ho rfl rfl rfl (h0p _))
  have r2 : Vals (V.ref ea :: vs) (Value.ref ea :: us) := .cons rfl r
  let Q' : VK := fun v H' => v = .non ∧ ∃ d, upd H ea (ExcP pr ea C none) d = none ∧ d ≠ ea ∧ H' = upd (upd (upd H ea (ExcP pr ea C none)) ea (ExcP pr ea C (some d))) d (XdO d (fl.zip vs))
  have hq : spE C fl (.ref ea :: vs) (upd H ea (ExcP pr ea C none)) Q' E0 := ⟨pr, ea, vs, rfl, hl, upd_same, fun d h1 h2 => ⟨rfl, d, h1, h2, rfl⟩⟩
  have hlen : (Value.ref ea :: us).length = ps.length := by rw [← r2.length]; exact F.len _ _ _ _ hq
  have hb' := hb ⟨h', gg, dr, tk, os⟩ (.ref ea :: us) I2.kIn (by rw [List.append_nil]; exact hlen)
  rw [List.append_nil] at hb'
  refine wpAny_call (codeAny_mono (F.run _ X.stack _ _ ⟨.ref ea :: us, []⟩ (.ref ea :: us) _ Q' E0 (hr.make C us []) (I2.env0.make C us []) hb' r2 hq) fun r s' z => ?_)
  cases r with
  | error e => exact False.elim z
  | ok fl' =>
    cases fl' with
    | ret u =>
      obtain ⟨v, H', I3, rv, ev, d, h1, h2, eH⟩ := I2.after z
      subst ev
      have hd : H d = none := by rw [upd_ne h2] at h1; exact h1
      refine ⟨rv, ⟨.ref ea, H', I3, rfl, h ea d H' (fun b o q => ?_) hn h0 (fun p hp => notin _ _ (I.pin p (List.mem_append_left _ hp)).1) h2 ?_ ?_⟩⟩
      · rw [eH, upd_ne (ne_of_none q hd), upd_ne (ne_of_none q hn), upd_ne (ne_of_none q hn)]
        exact q
      · rw [eH, upd_ne (Ne.symm h2), upd_same]
      · rw [eH, upd_same]
    | next => exact False.elim z
    | brk => exact False.elim z
    | cont => exact False.elim z
theorem dvf_zip {K : PySem.W.Frag} {H : Hp} : ∀ {fl : List Str} {vs : List V} {ds : List D}, Dvs K H vs ds → Dvf K H (fl.zip vs) (fl.zip ds)
  | [], _, _, _ => .nil
  | _ :: _, _, _, .nil => .nil
  | _ :: _, _, _, .cons h r => .cons h (dvf_zip r)
def vFldE (K : PySem.W.Frag) (ta : ED) (f : Str) : ED := fun δ Q => ta δ fun d => ∃ a C gs r, d = .exc a C gs ∧ ExcGet K C ∧ PySem.W.hasDictIn K C = true ∧ PySem.W.findIn K (.ref C) f = some none ∧ gs.lookup f = some r ∧ Q r
theorem d_fldE (K : PySem.W.Frag) (hK : X.K = K) {f : Str} {ta : ED} (he : PD X e ta) (hb : attributeBase e f X.env (eval e X.env) = eval e X.env) : PD X (.Attribute e f pos) (vFldE K ta f) := by
  subst hK
  refine ⟨fun pins s σ H Q I ⟨δ, r, h⟩ => ?_, fun δ P P' g h => he.mono _ _ _ (fun d ⟨a, C, gs, r, ed, k1, k2, k3, k4, k⟩ => ⟨a, C, gs, r, ed, k1, k2, k3, k4, g _ k⟩) h⟩
  refine attr_of hb (thn (he.pe pins s σ H (fun v H1 => ∃ a C dx fs y, v = .ref a ∧ Rd H1 a (ExcO a C dx) ∧ XDict H1 dx fs ∧ ExcGet X.K C ∧ PySem.W.hasDictIn X.K C = true ∧ PySem.W.findIn X.K (.ref C) f = some none ∧ fs.lookup f = some y ∧ Q y H1) I ⟨δ, r, he.mono _ _ _ (fun d k v H1 s1 dv => ?_) h⟩) fun u s1 k => ?_)
  · obtain ⟨a, C, gs, r, ed, k1, k2, k3, k4, k⟩ := k
    subst ed
    cases dv with
    | exc g1 g2 g3 =>
      obtain ⟨y, ly, dy⟩ := g3.look k4
      exact ⟨_, _, _, _, y, rfl, g1, g2, k1, k2, k3, ly, k _ H1 s1 dy⟩
  · obtain ⟨v, H1, I1, rv, a, C, dx, fs, y, ev, g1, g2, k1, k2, k3, ly, q⟩ := k
    subst ev
    cases (show u = Value.ref a from rv)
    obtain ⟨⟨oe, vs, e1, hc, hdx, hd, _⟩, _⟩ := (show ObjOk X.prog X.w H1 s1.heap a (ExcO a C dx) from g1.ok I1.hok)
    cases dx with
    | none =>
      rw [show fs = [] from g2] at ly
      cases ly
    | some d =>
      obtain ⟨⟨mA, hn, hr, hw⟩, _⟩ := (show ObjOk X.prog X.w H1 s1.heap d (XdO d fs) from Rd.ok g2 I1.hok)
      obtain ⟨u2, hu, ru⟩ := RelO.some_of (v := y) (o := mA f) (by rw [← ly]; exact hr f)
      exact exc_get I1.kIn k1 k2 k3 e1 hc hdx hd hn hu (handed_of ru) ⟨y, H1, I1.tok _, ru, q⟩
end
end DC

set_option maxHeartbeats 1000000
namespace DC
open PySem PySem.Spec PyProof.Rows L2
section
variable {X : Cx} {c e : Expr} {es : List Expr} {body : List Stmt} {uc : TD} {te : ED} {tb : TSD} {g : TGD} {pos tp : Pos} {k : Nat}
end
theorem roomU_units {k : Nat} {A : Around} (r : RoomU k A) : A.units + 64 < cLine := by have := r.un; omega
end DC

set_option maxHeartbeats 4000000
namespace DC
open PySem PySem.Spec PyProof.Rows L2
section
variable {X : Cx} {a b : Expr} {rest : List Expr} {pos : Pos} {ta tb : TE}
end
section
variable {X : Cx} {a b : Expr} {rest : List Expr} {pos : Pos} {ta tb : ED}
end
end DC

set_option maxHeartbeats 4000000
namespace L2
open PySem PySem.Spec PyProof.Rows
section
variable {X : Cx} {pins : List (Addr × Obj)} {σ : St} {H : Hp} {s : Shared} {a C d : Addr} {t : Heap → Prop}
theorem ObjOk.drop {P : Program} {w : World} {h : Heap} {b : Addr} {u : HO} (e : H a = some u) (nt : ∀ ks, u ≠ .tup ks) (no : ∀ c, u ≠ .own c) : ∀ {o : HO}, ObjOk P w H h b o → ObjOk P w (del H a) h b o := by
  intro o
  induction o with
  | dT kvs =>
    intro x
    obtain ⟨h1, h2, xs, hp, r⟩ := x
    refine ⟨h1, h2, xs, Paired.imp' (fun p q ⟨z1, z2, z3⟩ => ⟨z1, ?_, z3⟩) hp, r⟩
    rw [del_ne (fun z => by rw [z, e] at z2; exact nt _ (Option.some.inj z2))]
    exact z2
  | ins C dx fs =>
    intro x
    obtain ⟨h1, r⟩ := x
    refine ⟨?_, r⟩
    rw [del_ne (fun z => by rw [z, e] at h1; exact no _ (Option.some.inj h1))]
    exact h1
  | frz o u ih => intro x; exact ⟨x.1, ih x.2⟩
  | _ => intro x; exact x
theorem del_none {b : Addr} (h : H b = none) : del H a b = none := by
  unfold del
  split
  · rfl
  · exact h
theorem Inv.drop (I : Inv X pins σ H s) {f : Heap → Prop} (e : H a = some (.ext f)) : Inv X pins σ (del H a) s := by
  refine ⟨I.ok, I.os, I.bare, ⟨I.base.keep, I.base.slot, fun b o q n hx => del_none (I.base.free b o q n hx), I.base.there, fun b xs q => ?_, fun b o u q => ?_, fun b ps q => ?_⟩, I.loc, I.cell, del_none I.free, fun x c q => del_none (I.freeC x c q), fun p hp => ?_, fun b o q => ?_, I.len⟩
  · have z := I.base.tups b xs q
    rw [del_ne (fun w => by rw [w, e] at z; cases z)]
    exact z
  · have z := I.base.frzs b o u q
    rw [del_ne (fun w => by rw [w, e] at z; cases z)]
    exact z
  · obtain ⟨more, z⟩ := I.base.tbls b ps q
    exact ⟨more, by rw [del_ne (fun w => by rw [w, e] at z; cases z)]; exact z⟩
  · obtain ⟨p1, p2, p3, p4, p5⟩ := I.pin p hp
    exact ⟨p1, del_none p2, p3, p4, p5⟩
  · by_cases hb : b = a
    · rw [hb, del_same] at q
      cases q
    · rw [del_ne hb] at q
      exact (I.hok b o q).drop e (fun _ z => by cases z) fun _ z => by cases z
end
section
variable {prog : Program} {w : World} {A : Around} {E : Value → Shared → Prop} {s : Shared} {K : PySem.W.Frag} {env : Env}
theorem raise_inst {x : Sem Value} {Q : Flow → Shared → Prop} (hh : A.handled = none)
    (h : wpAny (model prog w) A x (fun v s1 => ∃ e C oe vs, v = .ref e ∧ K.In s1.heap ∧ s1.heap.get? e = some oe ∧ oe.cls = .ref C ∧ oe.data = .fields vs ∧ vs[1]? = some .none ∧ PySem.W.mroIn K C (.type "BaseException") = some true ∧ PySem.W.typeIn K (.ref C) = some (.type "type") ∧ E (.ref e) s1) E s) :
    wpAny (model prog w) A (raiseStmt env (some x) none) Q E s := by
  unfold raiseStmt
  refine wpAny_bind (wpAny_mono h (fun v s1 h1 => ?_) fun _ _ x => x)
  obtain ⟨e, C, oe, vs, rfl, X, he, hc, hd, h1, hm, ht, hE⟩ := h1
  obtain ⟨hp, g, d, tk, os⟩ := s1
  have L1 := PySem.W.looks_mroIn (M := model prog w) X hm
  obtain ⟨oc, od, oda, osl⟩ := oe
  cases hc
  cases hd
  obtain ⟨⟨cc, cdd, cda, csl⟩, kc, ec⟩ := Option.map_eq_some_iff.mp (show (K.lookup C).map (·.cls) = some (.type "type") from ht)
  cases (show cc = Value.type "type" from ec)
  have hC := X _ _ kc
  repeat (first | with_reducible refine wpAny_loadPart_at he ?_ | with_reducible refine wpAny_loadPart_at hC ?_ | with_reducible refine L1.at ?_ | with_reducible refine wpAny_field he rfl h1 ?_ | wp_step)
  exact wpAny_raiseNew_none hh hE
end
end L2
namespace DC
open PySem PySem.Spec PyProof.Rows L2
section
variable {X : Cx} {e : Expr} {es : List Expr} {t : AD} {pos cpos p : Pos} {x : Str} {j k : Nat} {C : Addr} {fl : List Str} {xk : SD → XR}
def qRaiseE (xk : SD → XR) (C : Addr) (fl : List Str) (t : AD) : TSD := fun _ δ => t δ fun ds => ds.length = fl.length ∧ xk δ C (fl.zip ds)
theorem s_raiseE (hx : XAcc X xk) (hc : X.calm = true) (hex : X.ex = []) (c : MkE X.prog X.w X.K X.mg X.base j x C fl) (hm : PySem.W.mroIn X.K C (.type "BaseException") = some true) (ht : PySem.W.typeIn X.K (.ref C) = some (.type "type")) (hr : Room k X.A) (hj : j + 1 ≤ k) (hg : Gl X x) (ha : PAd X (e :: es) t) (hdb : (x == ("__debug__" : Str)) = false := by decide)
    (h1 : starEach (e :: es) X.env = (false, eval e X.env) :: starEach es X.env := by rfl) (h2 : (backTo cpos (starEach es X.env)).any (·.1) = false := by rfl) : PSd X (.Raise (some (.Call (.Name x p) (e :: es) [] cpos)) none pos) (qRaiseE xk C fl t) := by
  obtain ⟨_, _, _, _, _, _, _, _, hmg, kp, _⟩ := c.ex
  refine ⟨fun pins s σ H D I ⟨δ, r, h⟩ => ?_, fun E E' δ l h => h⟩
  rw [arm_exec_Raise]
  simp only [evalOpt, Option.map]
  refine wpAny_bind (wpAny_standAt (raise_inst (K := X.K) (I.ok.hd hc) (wpAny_bind (wpAny_mono ?_ (fun v s3 h3 => wpAny_bind (wpAny_standAt (wpAny_pure h3))) fun _ _ y => y))))
  refine wpAny_Call_Name_kw (ld_glob I hg hmg ?_ hdb)
  refine PySem.W.callWith_K (h₀ := X.base) I.ok.mod.kin kp (thn (ha.pa cpos pins s σ H (fun vs H1 => Same H H1 ∧ ∃ ds, Dvs X.K H1 vs ds ∧ ds.length = fl.length ∧ xk δ C (fl.zip ds)) I ⟨δ, r, ha.mono _ _ _ (fun ds q vs H1 s1 dv => ⟨s1, ds, dv, q⟩) h⟩) fun us s1 ⟨vs, H1, I1, r1, sm, ds, dv, q0, q⟩ => ⟨I1.kIn, ?_⟩) h1 h2
  refine wpAny_mono (run_mkP (pr := pNew) (Q := fun y H' => ∃ a d, y = .ref a ∧ Same H1 H' ∧ H1 a = none ∧ X.s₀.heap.get? a = none ∧ (∀ p ∈ X.pn, p.1 ≠ a) ∧ d ≠ a ∧ H' a = some (ExcP pNew a C (some d)) ∧ H' d = some (XdO d (fl.zip vs))) c hex (hr.mono hj) I1 r1 (by rw [dv.length]; exact q0) (fun _ => ⟨rfl, Nat.le_of_ble_eq_true rfl, rfl⟩) fun a d H' s' n0 n1 n2 n3 ea ed => ⟨a, d, rfl, s', n0, n1, n2, n3, ea, ed⟩) (fun v s2 z => ?_) fun _ _ z => z
  obtain ⟨y, H2, I2, ry, a, d, rfl, sm2, n0, n1, n2, hda, ea, ed⟩ := z
  cases (show v = Value.ref a from ry)
  obtain ⟨⟨oe, ws, he, hcl, hdx, hd, p2, pz, p1⟩, _⟩ := (show ObjOk X.prog X.w H2 s2.heap a (ExcP pNew a C (some d)) from I2.hok a _ ea)
  refine ⟨a, C, oe, ws, rfl, I2.kIn, he, hcl, hd, p1, hm, ht, ?_⟩
  have I3 := I2.drop (a := a) ea
  have s3 : Same H1 (del H2 a) := fun b o q => by
    rw [del_ne (ne_of_none q n0)]
    exact sm2 b o q
  exact hx pins σ δ (del H2 a) s2 a C (some d) (fl.zip vs) (fl.zip ds) I3 (r.same (sm.trans s3)) (raised_in I3 he hcl hdx hd pz p2 p1 del_same n1 n2) (.of (by rw [del_ne hda]; exact ed)) (dvf_zip (dv.same s3)) q
end
end DC

set_option maxHeartbeats 4000000
namespace L2
open PySem PySem.Spec PyProof.Rows
section
variable {X : Cx} {e1 : Expr} {ta : TA} {p pos tp : Pos} {elts : List Expr} {c : Nat}
end
end L2
namespace DC
open PySem PySem.Spec PyProof.Rows L2
section
variable {X : Cx} {e1 : Expr} {ta : AD} {p pos tp : Pos} {elts : List Expr} {c : Nat}
end
end DC

set_option maxHeartbeats 4000000
namespace DC
open PySem PySem.Spec PyProof.Rows L2
section
variable {X : Cx} {scope : Scope} {cl : List (Str × Addr)} {x y : Str} {cn : List Str} {caps : List Nat} {elt iter : Expr} {ifs : List Expr} {ti : AD} {tt : TD} {te : ED} {pos px py tp : Pos} {c : Nat} {R : XR}
end
end DC

set_option maxHeartbeats 4000000
namespace DC
open PySem PySem.Spec PyProof.Rows L2
def keyD : D → Option Key
  | .int i => some (.inl i)
  | .str x => some (.inr x)
  | _ => none
def getK (kvs : List (Key × D)) (k : Key) : Option D := (kvs.find? fun kv => decide (kv.1 = k)).map (·.2)
def vDGet (td ty : ED) : ED := fun δ Q => td δ fun d => ty δ fun y => ∃ kvs k r, d = .dK kvs ∧ keyD y = some k ∧ getK kvs k = some r ∧ Q r
theorem Dvk.look {K : PySem.W.Frag} {H : Hp} {k : Key} {r : D} : ∀ {vs : List (Key × V)} {ds : List (Key × D)}, Dvk K H vs ds → getK ds k = some r → ∃ v, valV vs k = some v ∧ Dv K H v r
  | _, _, .nil, e => by cases e
  | _, _, .cons (k := k') (x := x) (d := d) (xs := xs) (ds := ds) h t, e => by
    unfold getK at e
    unfold valV
    rw [List.find?_cons] at e ⊢
    by_cases q : k' = k
    · simp only [q, decide_true] at e ⊢
      cases e
      exact ⟨x, rfl, h⟩
    · simp only [q, decide_false] at e ⊢
      exact Dvk.look t e
section
variable {X : Cx} {o i : Expr} {pos : Pos} {td ty : ED}
theorem d_dget (hu : X.A.units + 64 < cLine) (ho : PD X o td) (hi : PD X i ty) (hs : NoSl i) : PD X (.Subscript o i pos) (vDGet td ty) := by
  refine ⟨(pe_dget (by omega) ho.pe hi.pe hs).imp fun σ H Q ⟨δ, r, h⟩ => ⟨δ, r, ho.mono _ _ _ (fun d hd v H1 s1 dv => ⟨δ, r.same s1, hi.mono _ _ _ (fun y hy u H2 s2 du => ?_) hd⟩) h⟩, fun δ P P' g h => ho.mono _ _ _ (fun d h' => hi.mono _ _ _ (fun e ⟨kvs, k, z, h1, h2, h3, h4⟩ => ⟨kvs, k, z, h1, h2, h3, g _ h4⟩) h') h⟩
  obtain ⟨kvs, k, z, e1, e2, e3, q⟩ := hy
  subst e1
  cases dv with
  | dK g1 g2 =>
    obtain ⟨v, ev, dv'⟩ := (g2.same s2).look e3
    refine ⟨_, v, rfl, .inl ⟨_, k, rd_same s2 g1, ?_, ev.symm⟩, q v H2 (s1.trans s2) dv'⟩
    cases du <;> cases e2 <;> rfl
end
end DC

set_option maxHeartbeats 4000000
namespace DC
open PySem PySem.Spec PyProof.Rows L2
section
variable {X : Cx} {rest : List Stmt} {st : Stmt} {t : TMD}
def mGive (t : TMD) : TMD := fun E δ μ => t E (viewS μ δ) []
theorem give_of (m : MonoM t) {D : Ends} {σ : L2.St} {H : Hp} (h : oM X.K (mGive t) D σ H) : oM X.K t D σ H := by
  obtain ⟨δ, μ, L, r, g, h⟩ := h
  exact ⟨viewS μ δ, [], [], by rw [hidL_nil]; exact g.viewS r, StM.nil, m _ _ _ _ (endM_on (by rw [hidL_nil]; exact hidL_same)) h⟩
theorem mss_give (h : PMs X rest t) : PMs X rest (mGive t) := ⟨PSs.imp h.ps fun D σ H q => give_of h.mono q, fun E E' δ μ l q => h.mono _ _ _ _ l q⟩
end
section
variable {K : PySem.W.Frag} {H : Hp} {μ : Mu} {L : List Addr} {a : Addr} {vs ys : List (Key × V)} {ds : List (Key × D)}
theorem StM.putK (g : StM K H μ L) (ha : a ∈ L) (hv : H a = some (.dK vs)) (d : Dvk K (hidL H L) ys ds) : StM K (upd H a (.dK ys)) (putM a (.dK ds) μ) L := by
  have e : hidL (upd H a (.dK ys)) L = hidL H L := hidL_upd ha
  refine ⟨fun p hp => ?_, by rw [putM_keys]; exact g.nod, fun b hb => ?_, fun b hb => ?_⟩
  · obtain ⟨q, hq, rfl⟩ := List.mem_map.mp hp
    by_cases hqa : q.1 = a
    · rw [if_pos hqa]
      exact ⟨ha, ys, upd_same, by rw [e]; exact d⟩
    · rw [if_neg hqa]
      obtain ⟨h1, h2⟩ := g.at_ q hq
      refine ⟨h1, ?_⟩
      obtain ⟨b, m⟩ := q
      cases m with
      | lst ds => obtain ⟨ws, h, d⟩ := h2; exact ⟨ws, by rw [upd_ne hqa]; exact h, by rw [e]; exact d⟩
      | ins C gs => obtain ⟨dx, fs, h, h2, h3, d⟩ := h2; exact ⟨dx, fs, by rw [upd_ne hqa]; exact h, by rw [upd_ne (fun z => by rw [z, hv] at h2; cases h2)]; exact h2, h3, by rw [e]; exact d⟩
      | dK kvs => obtain ⟨ws, h, d⟩ := h2; exact ⟨ws, by rw [upd_ne hqa]; exact h, by rw [e]; exact d⟩
  · by_cases hba : b = a
    · rw [hba]; exact .dK ys upd_same
    · have w := g.hid b hb
      cases w with
      | lst xs h => exact .lst xs (by rw [upd_ne hba]; exact h)
      | dK xs h => exact .dK xs (by rw [upd_ne hba]; exact h)
      | ins C dx fs h hd => exact .ins C dx fs (by rw [upd_ne hba]; exact h) hd
      | own C c fs h hc hi => exact .own C c fs (by rw [upd_ne hba]; exact h) hc (by rw [upd_ne (fun z => by rw [z, hv] at hi; cases hi)]; exact hi)
  · rcases g.cov b hb with ⟨m, h⟩ | ⟨c, h⟩
    · by_cases hba : b = a
      · exact .inl ⟨.dK ds, List.mem_map.mpr ⟨_, h, by rw [if_pos hba, hba]⟩⟩
      · exact .inl ⟨m, List.mem_map.mpr ⟨_, h, if_neg hba⟩⟩
    · exact .inr ⟨c, by rw [upd_ne (fun z => by rw [z, hv] at h; cases h)]; exact h⟩
theorem StM.newK (hn : H a = none) (d : Dvk K H ys ds) : StM K (upd H a (.dK ys)) [(a, .dK ds)] [a] ∧ hidL (upd H a (.dK ys)) [a] = H := by
  have e : hidL (upd H a (.dK ys)) [a] = H := by
    funext b
    by_cases hb : b = a
    · rw [hb, hidL_in List.mem_cons_self, hn]
    · rw [hidL_out (fun z => hb (List.mem_singleton.mp z)), upd_ne hb]
  refine ⟨⟨fun p hp => ?_, ?_, fun b hb => ?_, fun b hb => ?_⟩, e⟩
  · rw [List.mem_singleton.mp hp]
    exact ⟨List.mem_cons_self, ys, upd_same, by rw [e]; exact d⟩
  · rw [List.map_cons, List.map_nil]; exact List.nodup_cons.mpr ⟨(fun h => nomatch h), List.nodup_nil⟩
  · rw [List.mem_singleton.mp hb]; exact .dK ys upd_same
  · rw [List.mem_singleton.mp hb]; exact .inl ⟨_, List.mem_cons_self⟩
end
def putKD (kvs : List (Key × D)) (k : Key) (v : D) : List (Key × D) :=
  if (kvs.any fun kv => decide (kv.1 = k)) = true then kvs.map (fun kv => if kv.1 = k then (kv.1, v) else kv) else kvs ++ [(k, v)]
section
variable {K : PySem.W.Frag} {H : Hp}
theorem Dvk.length : ∀ {vs : List (Key × V)} {ds : List (Key × D)}, Dvk K H vs ds → vs.length = ds.length
  | _, _, .nil => rfl
  | _, _, .cons _ h => congrArg (· + 1) (Dvk.length h)
theorem Dvk.any {k : Key} : ∀ {vs : List (Key × V)} {ds : List (Key × D)}, Dvk K H vs ds → (vs.any fun kv => decide (kv.1 = k)) = ds.any fun kv => decide (kv.1 = k)
  | _, _, .nil => rfl
  | _, _, .cons _ h => by rw [List.any_cons, List.any_cons, Dvk.any h]
theorem Dvk.snoc {k : Key} {v : V} {d : D} (hv : Dv K H v d) : ∀ {vs : List (Key × V)} {ds : List (Key × D)}, Dvk K H vs ds → Dvk K H (vs ++ [(k, v)]) (ds ++ [(k, d)])
  | _, _, .nil => .cons hv .nil
  | _, _, .cons h r => .cons h (Dvk.snoc hv r)
theorem Dvk.mapPut {k : Key} {v : V} {d : D} (hv : Dv K H v d) : ∀ {vs : List (Key × V)} {ds : List (Key × D)}, Dvk K H vs ds → Dvk K H (vs.map fun kv => if kv.1 = k then (kv.1, v) else kv) (ds.map fun kv => if kv.1 = k then (kv.1, d) else kv)
  | _, _, .nil => .nil
  | _, _, .cons (k := j) (x := x) (d := y) h r => by
    rw [List.map_cons, List.map_cons]
    by_cases e : j = k
    · rw [if_pos (show ((j, x) : Key × V).1 = k from e), if_pos (show ((j, y) : Key × D).1 = k from e)]
      exact .cons hv (Dvk.mapPut hv r)
    · rw [if_neg (show ¬ ((j, x) : Key × V).1 = k from e), if_neg (show ¬ ((j, y) : Key × D).1 = k from e)]
      exact .cons h (Dvk.mapPut hv r)
theorem Dvk.put {k : Key} {v : V} {d : D} (hv : Dv K H v d) {vs : List (Key × V)} {ds : List (Key × D)} (h : Dvk K H vs ds) : Dvk K H (putK vs k v) (putKD ds k d) := by
  unfold putK putKD
  rw [h.any]
  split
  · exact h.mapPut hv
  · exact h.snoc hv
theorem key_kV {y : V} {d : D} {k : Key} (h : Dv K H y d) (e : keyD d = some k) : y = kV k := by cases h <;> cases e <;> rfl
end
section
variable {X : Cx} {e ke : Expr} {te tk : ED} {i : Nat} {x : Str} {p pos pos' : Pos}
def fDict0 : EF := fun _ Q => ∀ a, Q (.adr a) [(a, .dK [])]
theorem f_dict0 : PF X (.Dict [] [] pos) fDict0 := by
  refine ⟨pe_dnewK.imp fun σ H Q ⟨δ, r, q⟩ a hn => ?_, fun δ P P' g q a => g _ _ (q a)⟩
  obtain ⟨g2, e2⟩ := StM.newK (K := X.K) (ds := []) hn .nil
  exact q a (.ref a) _ [a] (by rw [e2]; exact Same.refl _) g2 (.adr a)
def mDSet (i : Nat) (tk te : ED) : TMD := fun E δ μ => te δ fun d => ∃ a kvs, δ[i]? = some (some (.adr a)) ∧ μ.lookup a = some (.dK kvs) ∧ kvs.length < sizeLine ∧ tk δ fun y => ∃ k, keyD y = some k ∧ E.nx δ (putM a (.dK (putKD kvs k d)) μ)
theorem ms_dset (hu : X.A.units + 64 < cLine) (hi : X.N[i]? = some x) (hv : Vis X.env.scope x) (hk : PD X ke tk) (he : PD X e te) (hd : (x == ("__debug__" : Str)) = false := by decide) (hcd : (x == ("__classdict__" : Str)) = false := by decide)
    (hs : swapsWith e (some (.Subscript (.Name x p) ke pos')) pos.line X.env = pure false := by rfl) : PMd X (.Assign [.Subscript (.Name x p) ke pos'] e pos) (mDSet i tk te) := by
  refine ⟨PS.imp (ps_dput (by omega) (pe_var hi hv hd hcd) (pe_frM hk.pe) (pe_frM he.pe) hs) fun D σ H ⟨δ, μ, L, r, g, q⟩ => ⟨L, g.hid, δ, r, he.mono _ _ _ (fun d ⟨a, kvs, k1, k2, k3, q⟩ v H1 s1 dv z => ?_) q⟩,
    fun E E' δ μ l q => he.mono _ _ _ (fun d ⟨a, kvs, k1, k2, k3, q⟩ => ⟨a, kvs, k1, k2, k3, hk.mono _ _ _ (fun y ⟨k, e1, q⟩ => ⟨k, e1, l.nx _ _ q⟩) q⟩) q⟩
  have e1 : hidL (showL H1 H L) L = H1 := hidL_showL z
  have g1 : StM X.K (showL H1 H L) μ L := g.show z s1
  have r1 : RelS X.K (hidL (showL H1 H L) L) σ δ := by rw [e1]; exact r.same s1
  obtain ⟨w, hv1, dvw⟩ := r.get i _ k1
  cases dvw
  refine ⟨_, hv1, L, g1.hid, δ, r1, hk.mono _ _ _ (fun y ⟨k, ek, q⟩ u H2 s2 du z2 => ?_) q⟩
  have e2 : hidL (showL H2 (showL H1 H L) L) L = H2 := hidL_showL z2
  have g2 : StM X.K (showL H2 (showL H1 H L) L) μ L := g1.show z2 s2
  obtain ⟨haL, ws, hH, dvk⟩ := g2.at_ _ (mem_of_lookup k2)
  rw [e1] at s2
  have dk2 : Dvk X.K H2 ws kvs := by rw [e2] at dvk; exact dvk
  rw [key_kV du ek]
  refine ⟨a, _, rfl, DPut.k hH (by rw [dk2.length]; exact k3), ?_⟩
  have e3 : hidL (upd (showL H2 (showL H1 H L) L) a (.dK (L2.putK ws k v))) L = H2 := by rw [hidL_upd haL, e2]
  exact q σ _ L (by rw [e3]; exact s1.trans s2) (by rw [e3]; exact r.same (s1.trans s2)) (g2.putK haL hH (by rw [e2]; exact dk2.put (dv.same s2)))
end
end DC

set_option maxHeartbeats 4000000
namespace DC
open PySem PySem.Spec PyProof.Rows L2
section
variable {X : Cx} {scope : Scope} {cl : List (Str × Addr)} {x : Str} {cn : List Str} {caps : List Nat} {elt tg iter : Expr} {ifs : List Expr} {ti : AD} {tt : TD} {te : ED} {pos : Pos}
end
section
variable {X : Cx} {e ke : Expr} {te tk : ED} {i : Nat} {x : Str} {p pos pos' : Pos}
end
theorem boot_dict : bootBuiltins "dict" = some (.type "dict") := by decide +kernel
section
variable {X : Cx} {o e : Expr} {es : List Expr} {t : AD} {to te : ED} {pos p p1 p2 tp apos cpos : Pos}
end
section
variable {X : Cx} {a b : Expr} {ta tb : ED} {pos : Pos} {k : Nat}
end
end DC

set_option maxHeartbeats 4000000
namespace L2
open PySem PySem.Spec PyProof.Rows
open AutoSeq1 (wpAny_loadPart')
section
variable {prog : Program} {w : World} {A : Around} {E : Value → Shared → Prop} {s : Shared}
end
section
variable {X : Cx} {e1 : Expr} {ta : TA} {p pos tp : Pos} {elts : List Expr} {c : Nat}
end
end L2
namespace DC
open PySem PySem.Spec PyProof.Rows L2
section
variable {X : Cx} {e1 : Expr} {ta : AD} {p pos tp : Pos} {elts : List Expr} {c : Nat}
end
end DC

set_option maxHeartbeats 4000000
namespace DC
open PySem PySem.Spec PyProof.Rows L2
section
variable {P : Program} {w : World} {K : PySem.W.Frag} {mg : Str → Option Value} {base : Heap}
theorem okMX {x qual : Str} {st : Stmt} {f : Addr} {fd : FuncData} {N ps : List Str} {k : Nat} {sx : SpX} {t : XR → TMD} (F : FunV K x qual st f fd) (S : FnScope N ps (defScope st)) (len : ∀ ds Q R, sx ds Q R → ds.length = ps.length)
    (hb : ∀ (cdv : Value) (A : Around) (outer : List Env) (s : Shared) (H : Hp) (E : XK) (R : XR), Room k (A.deeper (envOfC qual (defScope st) s.heap.objs.size f cdv)) → XAcc (BxX P w K mg base N qual st f cdv A outer s H E) (fun _ => R) → PMs (BxX P w K mg base N qual st f cdv A outer s H E) (defBody st) (t R))
    (hr : ∀ ds Q R, sx ds Q R → t R { nx := fun _ _ => Q .non, rt := fun d μ => Q (viewD μ d) } (startD N ds) []) : FnOk P w K mg base (CXD P w) (k + 1) f fd ps (spX K sx) := by
  obtain ⟨oc, od, dV, kV, doc, pm, an, cdv, ct, osl, rfl, lk, hcd⟩ := F.ex
  refine fn_of lk hcd S (fun vs H Q E ⟨ds, dvs, h⟩ => by rw [dvs.length]; exact len ds _ _ h) fun A outer s H vs Q E hroom ⟨ds, dvs, h⟩ => ?_
  have B := hb cdv A outer s H E (kX K E) hroom acc_X
  refine ⟨_, B.ps, startD N ds, [], [], by rw [hidL_nil]; exact start_rel dvs, StM.nil, ?_⟩
  let Q' : D → Prop := fun d => ∀ v H', Dv K H' v d → Q v H'
  exact B.mono { nx := fun _ _ => Q' .non, rt := fun d μ => Q' (viewD μ d) } _ _ _ ⟨fun δ μ q σ H' L' s' r g => q _ H' .non, fun d μ q v H' L' s' g dv => q v H' (g.view dv), fun _ _ q => q.elim, fun _ _ q => q.elim⟩ (hr ds _ _ h)
theorem okMX1 {x qual : Str} {st : Stmt} {f : Addr} {fd : FuncData} {N ps : List Str} {k : Nat} {sx : SpX} {t : XR → TMD} (F : Fun K x qual st f fd) (S : FnScope N ps (defScope st)) (len : ∀ ds Q R, sx ds Q R → ds.length = ps.length)
    (hb : ∀ (f : Addr) (cdv : Value) (A : Around) (outer : List Env) (s : Shared) (H : Hp) (E : XK) (R : XR), Room k (A.deeper (envOfC qual (defScope st) s.heap.objs.size f cdv)) → XAcc (BxX P w K mg base N qual st f cdv A outer s H E) (fun _ => R) → PMs (BxX P w K mg base N qual st f cdv A outer s H E) (defBody st) (t R))
    (hr : ∀ ds Q R, sx ds Q R → t R { nx := fun _ _ => Q .non, rt := fun d μ => Q (viewD μ d) } (startD N ds) []) : FnOk P w K mg base (CXD P w) (k + 1) f fd ps (spX K sx) := okMX (fun_v F) S len (hb f) hr
theorem Df.calMX {k : Nat} {x : Str} {st : Stmt} {ps N : List Str} {sx : SpX} {t : XR → TMD} (d : Df K mg x st ps) (S : FnScope N ps (defScope st)) (ms : MonoX sx) (len : ∀ ds Q R, sx ds Q R → ds.length = ps.length)
    (hb : ∀ (f : Addr) (cdv : Value) (A : Around) (outer : List Env) (s : Shared) (H : Hp) (E : XK) (R : XR), Room k (A.deeper (envOfC x (defScope st) s.heap.objs.size f cdv)) → XAcc (BxX P w K mg base N x st f cdv A outer s H E) (fun _ => R) → PMs (BxX P w K mg base N x st f cdv A outer s H E) (defBody st) (t R))
    (hr : ∀ ds Q R, sx ds Q R → t R { nx := fun _ _ => Q .non, rt := fun d μ => Q (viewD μ d) } (startD N ds) []) : CalX P w K mg base (k + 1) x ps sx := by
  obtain ⟨f, fd, F, m, b⟩ := d.ex
  exact ⟨⟨f, fd, okMX (fun_v F) S len (hb f) hr, m, F.kp, b⟩, ms⟩
end
section
variable {X : Cx} {scope : Scope} {cl : List (Str × Addr)} {x : Str} {cn : List Str} {caps : List Nat} {elt tg iter : Expr} {ifs : List Expr} {ti : AD} {tt : TD} {te : ED} {pos : Pos}
end
end DC

set_option maxHeartbeats 4000000
namespace DC
open PySem PySem.Spec PyProof.Rows L2
section
variable {X : Cx} {e : Expr} {te : ED} {p p2 pos : Pos}
theorem isi_dict (hg : Gl X "isinstance") (hm : X.mg "isinstance" = none) (hg2 : Gl X "dict") (hm2 : X.mg "dict" = none) (he : PD X e te) (hs : starEach [e, .Name "dict" p2] X.env = (false, eval e X.env) :: starEach [.Name "dict" p2] X.env := by rfl) : PD X (.Call (.Name "isinstance" p) [e, .Name "dict" p2] [] pos) (vIsiT "dict" te) := (d_isiT he hg hm hg2 hm2 boot_dict (by decide) (by decide) hs).isiT he.mono (by decide)
end
section
variable {X : Cx} {a b : Expr} {pos : Pos} {ta tb : ED}
end
end DC

set_option maxHeartbeats 4000000
namespace DC
open PySem PySem.Spec PyProof.Rows L2
def sdList : SpD := fun ds Q => ∃ xs, (ds = [.lst xs] ∨ ds = [.tup xs]) ∧ Q (.lst xs)
theorem m_list : MonoS sdList := fun ds P P' g ⟨xs, e, q⟩ => ⟨xs, e, g _ q⟩
theorem does_list {K : PySem.W.Frag} : DoesB K (fun xs H Q => ∃ p ys, xs = [.ref p] ∧ (SqL K H p ys ∨ SqT K H p ys) ∧ ∀ l, H l = none → Q (.ref l) (upd H l (.lst ys))) sdList := by
  intro H vs ds Q dvs ⟨xs, e, q⟩
  rcases e with e | e
  · subst e
    cases dvs with
    | cons dv r =>
      cases r
      cases dv with
      | lst h1 h2 => exact ⟨_, _, rfl, .inl h1, fun l hl => q _ _ (same_upd hl) (.lst (SqL.of upd_same) (h2.same (same_upd hl)))⟩
  · subst e
    cases dvs with
    | cons dv r =>
      cases r
      cases dv with
      | tup h1 h2 => exact ⟨_, _, rfl, .inr h1, fun l hl => q _ _ (same_upd hl) (.lst (SqL.of upd_same) (h2.same (same_upd hl)))⟩
section
variable {X : Cx} {o e : Expr} {es : List Expr} {t : AD} {to te : ED} {pos p p1 p2 tp apos cpos : Pos} {i : Nat} {x : Str}
theorem d_list_of (hg : Gl X "list") (hm : X.mg "list" = none) (ha : PAd X (e :: es) t) (h1 : starEach (e :: es) X.env = (false, eval e X.env) :: starEach es X.env := by rfl) (h2 : (backTo pos (starEach es X.env)).any (·.1) = false := by rfl) : PD X (.Call (.Name "list" p) (e :: es) [] pos) (vB sdList t) := d_cb (pe_callTy call_list_of hg hm boot_list ha.pa (he := h1) (hpl := h2)) ha.mono does_list m_list
end
end DC

set_option maxHeartbeats 4000000
namespace L2
open PySem PySem.Spec PyProof.Rows
section
variable {X : Cx}
def repS (z : Str) (k : Nat) : Str := ⟨(List.replicate k z.cps).foldl (· ++ ·) #[]⟩
def mulS (z : Str) (k : Int) : Str := if k = 1 then z else repS z k.toNat
def rMulS : R2 := fun x y H Q => ∃ z k, x = .str z ∧ y = .int k ∧ 0 < k ∧ k < 1000 ∧ 0 < z.length ∧ z.length < 1000 ∧ Q (.str (mulS z k)) H
theorem op_mulS : OpR X (binaryOp .Mult) rMulS := by
  intro pins s σ H x y v u Q I rx ry h
  obtain ⟨z, k, rfl, rfl, h0, h1, h2, h3, q⟩ := h
  obtain ⟨t, rfl⟩ := rx
  obtain ⟨t', rfl⟩ := ry
  have hp : z.length * k.toNat ≤ 1000000 := Nat.le_trans (Nat.mul_le_mul (Nat.le_of_lt h3) (show k.toNat ≤ 1000 by omega)) (by decide)
  have hl : Builtin.Str.tooLong (z.length * k.toNat) = false := by
    unfold Builtin.Str.tooLong
    exact decide_eq_false (Nat.not_lt.mpr (Nat.le_trans hp (by decide)))
  refine P.mul_str (by rw [decide_eq_false (by omega), decide_eq_false (by omega)]; rfl) (fun _ _ => ?_) (fun _ _ => hl) ?_
  · have : (1000 : Int) ≤ (2 ^ 63 - 1) / k := (Int.le_ediv_iff_mul_le h0).mpr (Int.le_trans (show (1000 : Int) * k ≤ 1000 * 1000 from Int.mul_le_mul_of_nonneg_left (by omega) (by decide)) (by decide))
    omega
  · rw [if_neg (by omega)]
    unfold mulS at q
    by_cases e : k = 1
    · rw [if_pos (by rw [e]; rfl)]
      rw [if_pos e] at q
      exact ⟨.str z, H, I, ⟨_, rfl⟩, q⟩
    · rw [if_neg (by simp only [Bool.or_eq_true, beq_iff_eq]; omega)]
      rw [if_neg e] at q
      refine ⟨?_, .str _, H, I.tok _, ⟨_, rfl⟩, q⟩
      exact fits_reps hl
end
end L2
namespace DC
open PySem PySem.Spec PyProof.Rows L2
section
variable {X : Cx} {a b e : Expr} {es : List Expr} {ta tb te : ED} {t : AD} {pos p p2 : Pos}
def fMulS : F2 := fun d e Q => ∃ z k, d = .str z ∧ e = .int k ∧ 0 < k ∧ k < 1000 ∧ 0 < z.length ∧ z.length < 1000 ∧ Q (.str (mulS z k))
def vMulS : ED → ED → ED := vOp fMulS
theorem d_mulS (ha : PD X a ta) (hb : PD X b tb) : PD X (.BinOp a .Mult b pos) (vMulS ta tb) := d_op op_mulS (fun H x y d e Q hx hy ⟨z, k, h1, h2, a1, a2, a3, a4, q⟩ => by
  subst h1; subst h2; cases hx; cases hy
  exact ⟨z, k, rfl, rfl, a1, a2, a3, a4, q _ H (Same.refl _) (.str _)⟩) (fun d e P P' f ⟨z, k, h1, h2, a1, a2, a3, a4, q⟩ => ⟨z, k, h1, h2, a1, a2, a3, a4, f _ q⟩) ha hb
def vRepL (k : Int) (t : AD) : ED := fun δ Q => t δ fun ds => ds.length ≤ sizeLine ∧ -(2 ^ 63) ≤ k ∧ k < 2 ^ 63 ∧ ds.length * k.toNat ≤ sizeLine ∧ Q (.lst (List.replicate k.toNat ds).flatten)
theorem Dvs.rep {K : PySem.W.Frag} {H : Hp} {vs : List V} {ds : List D} (h : Dvs K H vs ds) : ∀ k : Nat, Dvs K H (List.replicate k vs).flatten (List.replicate k ds).flatten
  | 0 => .nil
  | k + 1 => by rw [List.replicate_succ, List.replicate_succ, List.flatten_cons, List.flatten_cons]; exact h.append (Dvs.rep h k)
theorem d_repL {k : Int} {j : Nat} (h : PAd X es t) : PD X (.BinOp (.List es p) .Mult (.Constant (.int k) j p2) pos) (vRepL k t) := by
  refine ⟨(pe_op op_rep (pe_lst h.pa) pe_int).imp fun σ H Q ⟨δ, r, q⟩ => ⟨δ, r, h.mono _ _ _ (fun ds ⟨hl, h1, h2, h3, q⟩ vs H1 s1 dvs => ⟨by rw [dvs.length]; exact hl, fun l hl' => ?_⟩) q⟩, fun δ P P' g q => h.mono _ _ _ (fun ds ⟨hl, h1, h2, h3, q⟩ => ⟨hl, h1, h2, h3, g _ q⟩) q⟩
  have s2 : Same H1 (upd H1 l (.lst vs)) := same_upd hl'
  refine ⟨l, k, vs, rfl, rfl, upd_same, h1, h2, by rw [dvs.length]; exact h3, fun p hp => ?_⟩
  have s3 : Same (upd H1 l (.lst vs)) (upd (upd H1 l (.lst vs)) p (.lst (List.replicate k.toNat vs).flatten)) := same_upd hp
  exact q _ _ (s1.trans (s2.trans s3)) (.lst (SqL.of upd_same) (Dvs.rep (dvs.same (s2.trans s3)) _))
end
end DC
namespace L2
open PySem PySem.Spec PyProof.Rows
section
variable {X : Cx}
theorem vals_ss : ∀ {vs : List Value} {ss : List Str}, StrsAre vs ss → Vals (ss.map V.str) vs
  | _, _, .nil => .nil
  | _, _, .cons _ t h => .cons ⟨t, rfl⟩ (vals_ss h)
theorem strs_vals : ∀ {vs : List Value} {ss : List Str}, Vals (ss.map V.str) vs → StrsAre vs ss
  | _, [], .nil => .nil
  | _, _ :: _, .cons ⟨t, e⟩ h => by subst e; exact .cons _ t (strs_vals h)
theorem call_sorted_list : CallR X (.builtin "sorted") (fun xs H Q => ∃ p ss, xs = [.ref p] ∧ SqL X.K H p (ss.map V.str) ∧ ss.length < 64 ∧ ∀ ss' : List Str, ss'.Perm ss → sortedS ss' = true → ∀ l, H l = none → Q (.ref l) (upd H l (.lst (ss'.map V.str)))) := by
  intro pins s σ H xs us Q I r h
  obtain ⟨p, ss, rfl, hq, hl, q⟩ := h
  obtain ⟨u, rfl, rx⟩ := vals1 r
  cases rx
  obtain ⟨its, r', pl, hz⟩ := I.list hq
  have hn : its.length = ss.length := by have := r'.length; simpa using this.symm
  refine sorted_strs pl.isList (strs_vals r') (by omega) fun out ss' a1 a2 a3 => ?_
  obtain ⟨e, he⟩ := sortedAll_at s.heap its out
  have hs : ss'.length ≤ sizeLine := Nat.le_trans (Nat.le_of_eq a2.length_eq) (Nat.le_trans (Nat.le_of_lt hl) (by decide))
  refine ⟨.ref (s.heap.objs.size + 1), _, I.laid (t' := s.toks) (fun _ _ => sortedAll_old) (Nat.le_succ _) (show ObjOk X.prog X.w _ _ _ (.lst (ss'.map V.str)) from ⟨by rw [List.length_map]; exact hs, out.toList, e, vals_ss a1, by rw [Array.toArray_toList]; exact he⟩), rfl, q ss' a2 a3 _ (I.hok.fresh (Nat.le_succ _))⟩
theorem kv_keys {P : Program} {w : World} : ∀ {kvs : List (Key × V)} {vs : List (Key × Value)}, KV kvs vs → vs.map (·.1) = kvs.map (·.1)
  | _, _, .nil => rfl
  | _, _, .cons h r => by rw [List.map_cons, List.map_cons, kv_keys (P := P) (w := w) r, h.1]
theorem strs_keys {P : Program} {w : World} : ∀ {acc : List Value} {ss : List Str}, acc.length = ss.length → (∀ (j : Nat) (v : Value), acc[j]? = some v → ∃ x : Str, ss[j]? = some x ∧ (mixKind P w).is (Sum.inr x) v = true) → StrsAre acc ss
  | [], [], _, _ => .nil
  | [], _ :: _, h, _ => by cases h
  | _ :: _, [], h, _ => by cases h
  | v :: acc, x :: ss, h, k => by
    obtain ⟨y, e, z⟩ := k 0 v rfl
    cases e
    rcases keyIs_shape (show keyIs (Sum.inr x) v = true from z) with ⟨i, t, e, _⟩ | ⟨y, t, e, e2⟩
    · cases e
    · cases e
      subst e2
      exact .cons _ t (strs_keys (P := P) (w := w) (by simpa using h) fun j u hj => k (j + 1) u hj)
theorem call_sorted_dict (hh : X.A.handled = none) : CallR X (.builtin "sorted") (fun xs H Q => ∃ p kvs ss, xs = [.ref p] ∧ Rd H p (.dK kvs) ∧ kvs.map (·.1) = ss.map Sum.inr ∧ ss.length < 64 ∧ ∀ ss' : List Str, ss'.Perm ss → sortedS ss' = true → ∀ l, H l = none → Q (.ref l) (upd H l (.lst (ss'.map V.str)))) := by
  intro pins s σ H xs us Q I r h
  obtain ⟨p, kvs, ss, rfl, hq, hk, hl, q⟩ := h
  obtain ⟨u, rfl, rx⟩ := vals1 r
  cases rx
  obtain ⟨z, hd, vs, rel, dd⟩ := dk_rd I.hok hq
  obtain ⟨ep, hat⟩ := dd.dictAt
  have ek := kv_keys (P := X.prog) (w := X.w) rel
  have el : vs.length = ss.length := by
    have := congrArg List.length (ek.trans hk)
    simpa using this
  refine Calls.call_function_entry kind_sorted plain_sorted entry_sorted (args_sorted1 _) ?_
  unfold Builtin.«sorted»
  refine wpAny_bind (m := checkCount "sorted" 1 1 _) (wpAny_pure ?_)
  refine wpAny_bind (PySem.W.kdu_collect (A := X.A.in1) (PySem.W.kdl_dict (knd := mixKind X.prog X.w) (kvs := vs) (ep := ep) hd) hh hat (by rw [el]; exact Nat.le_trans (Nat.le_of_lt hl) (by decide)) fun h' tk acc hk' hacc => ?_)
  have ha : acc.toList.length = ss.length := by rw [Array.length_toList, hacc.1, el]
  have hS : StrsAre acc.toList ss := strs_keys (P := X.prog) (w := X.w) ha fun j v hj => by
    obtain ⟨k, x, e1, e2⟩ := hacc.2 j v (by rw [← Array.getElem?_toList]; exact hj)
    have e3 : (vs.map (·.1))[j]? = some k := by rw [List.getElem?_map, e1]; rfl
    rw [ek, hk, List.getElem?_map] at e3
    cases e4 : ss[j]? with
    | none => rw [e4] at e3; cases e3
    | some y => rw [e4] at e3; cases e3; exact ⟨y, rfl, e2⟩
  refine wpAny_bind (wpAny_newList ?_ (by rw [ha]; exact Nat.le_trans (Nat.le_of_lt hl) (by decide)))
  have hoL : (h'.push (seqObj "list" acc.toList.toArray 0)).get? h'.objs.size = some (seqObj "list" acc.toList.toArray 0) := Heap.get?_push_size _ rfl
  refine wpAny_bind (wpAny_holding (wpAny_call_entry slot_list_sort ⟨_, hoL, rfl⟩ entry_list_sort (list_sort_treeK strKind_oneLt hoL hS.keysOf (fun v₁ v₂ rest e => keyKind_strs (by rw [← e]; exact hS)) (by rw [ha]; exact hl) fun st' hp hs => ⟨_, rfl, ?_⟩) (args_list_sort _)))
  obtain ⟨ss', h1, h2, h3⟩ := sorted_out_str hS hp hs
  refine wpAny_pure ⟨_, rfl, ?_⟩
  obtain ⟨e, he⟩ := sortedHeap_at (out := (arrOf st').map (·.2)) hoL
  have hs' : ss'.length ≤ sizeLine := Nat.le_trans (Nat.le_of_eq h2.length_eq) (Nat.le_trans (Nat.le_of_lt hl) (by decide))
  have I1 : Inv X pins σ H { s with heap := h', toks := tk } := I.kept (t' := tk) hk'
  have kp : ∀ b o, h'.get? b = some o → (sortedHeap (h'.push (seqObj "list" acc.toList.toArray 0)) h'.objs.size acc.toList ((arrOf st').map (·.2))).get? b = some o := fun b o hb' => by
    have hlt := Heap.lt_size hb'
    rw [sortedHeap_old (Nat.ne_of_lt hlt) (by rw [size_push']; exact Nat.lt_succ_of_lt hlt)]
    exact Heap.get?_push_of_some _ hb'
  exact ⟨.ref h'.objs.size, _, I1.laid (t' := tk) kp (Nat.le_refl _) (show ObjOk X.prog X.w _ _ _ (.lst (ss'.map V.str)) from ⟨by rw [List.length_map]; exact hs', ((arrOf st').map (·.2)).toList, e, vals_ss h1, by rw [Array.toArray_toList]; exact he⟩), rfl, q ss' h2 h3 _ (I1.hok.fresh (Nat.le_refl _))⟩
end
end L2
namespace DC
open PySem PySem.Spec PyProof.Rows L2
def sdSorted : SpD := fun ds Q => ∃ ss : List Str, (ds = [.lst (ss.map D.str)] ∨ ∃ kvs, ds = [.dK kvs] ∧ kvs.map (·.1) = ss.map Sum.inr) ∧ ss.length < 64 ∧ ∀ ss' : List Str, ss'.Perm ss → sortedS ss' = true → Q (.lst (ss'.map D.str))
theorem m_sorted : MonoS sdSorted := fun ds P P' g ⟨ss, e, hl, q⟩ => ⟨ss, e, hl, fun s' h1 h2 => g _ (q s' h1 h2)⟩
theorem of_strs {K : PySem.W.Frag} {H : Hp} : ∀ {vs : List V} {ss : List Str}, Dvs K H vs (ss.map D.str) → vs = ss.map V.str
  | _, [], .nil => rfl
  | _, x :: ss, .cons (.str _) h => by rw [List.map_cons, of_strs h]
theorem dvk_keys {K : PySem.W.Frag} {H : Hp} : ∀ {vs : List (Key × V)} {ds : List (Key × D)}, Dvk K H vs ds → vs.map (·.1) = ds.map (·.1)
  | _, _, .nil => rfl
  | _, _, .cons _ h => by rw [List.map_cons, List.map_cons, dvk_keys h]
theorem does_sorted {K : PySem.W.Frag} : DoesB K (fun xs H Q => (∃ p ss, xs = [.ref p] ∧ SqL K H p (ss.map V.str) ∧ ss.length < 64 ∧ ∀ ss' : List Str, ss'.Perm ss → sortedS ss' = true → ∀ l, H l = none → Q (.ref l) (upd H l (.lst (ss'.map V.str)))) ∨
    ∃ p kvs ss, xs = [.ref p] ∧ Rd H p (.dK kvs) ∧ kvs.map (·.1) = ss.map Sum.inr ∧ ss.length < 64 ∧ ∀ ss' : List Str, ss'.Perm ss → sortedS ss' = true → ∀ l, H l = none → Q (.ref l) (upd H l (.lst (ss'.map V.str)))) sdSorted := by
  intro H vs ds Q dvs ⟨ss, e, hl, q⟩
  have fin : ∀ ss' : List Str, ss'.Perm ss → sortedS ss' = true → ∀ l, H l = none → Q (.ref l) (upd H l (.lst (ss'.map V.str))) := fun ss' h1 h2 l hl => q ss' h1 h2 _ _ (same_upd hl) (.lst (SqL.of upd_same) (dvs_strs ss'))
  rcases e with e | ⟨kvs, e, ek⟩
  · subst e
    cases dvs with
    | cons dv r =>
      cases r
      cases dv with
      | lst h1 h2 => exact .inl ⟨_, ss, rfl, of_strs h2 ▸ h1, hl, fin⟩
  · subst e
    cases dvs with
    | cons dv r =>
      cases r
      cases dv with
      | dK h1 h2 => exact .inr ⟨_, _, ss, rfl, h1, (dvk_keys h2).trans ek, hl, fin⟩
section
variable {X : Cx} {e : Expr} {es : List Expr} {t : AD} {pos p : Pos}
theorem d_sorted (hh : X.A.handled = none) (hg : Gl X "sorted") (hm : X.mg "sorted" = none) (ha : PAd X (e :: es) t) (h1 : starEach (e :: es) X.env = (false, eval e X.env) :: starEach es X.env := by rfl) (h2 : (backTo pos (starEach es X.env)).any (·.1) = false := by rfl) : PD X (.Call (.Name "sorted" p) (e :: es) [] pos) (vB sdSorted t) :=
  d_cb (pe_callB (call_sorted_list.or (call_sorted_dict hh)) hg hm boot_sorted ha.pa (he := h1) (hpl := h2)) ha.mono does_sorted m_sorted
end
theorem rising_le : ∀ {p : Str} {l : List Str}, risingS p l = true → ∀ x ∈ l, ltCps x.cps.toList p.cps.toList = false
  | p, [], _, x, h => (nomatch h)
  | p, y :: r, e, x, h => by
    have e' : (!ltCps y.cps.toList p.cps.toList && risingS y r) = true := e
    rw [Bool.and_eq_true] at e'
    have e1 : ltCps y.cps.toList p.cps.toList = false := by simpa using e'.1
    rcases List.mem_cons.mp h with rfl | h
    · exact e1
    · have e2 := rising_le e'.2 x h
      rw [ltCps_eq, decide_eq_false_iff_not] at e1 e2 ⊢
      exact fun z => e2 (by
        rcases List.le_total x.cps.toList y.cps.toList with w | w
        · rcases Classical.em (x.cps.toList < y.cps.toList) with w2 | w2
          · exact w2
          · exact absurd (List.lt_of_le_of_lt (List.not_lt.mp w2) z) e1
        · exact absurd (List.lt_of_le_of_lt w z) e1)
theorem sorted_tail {p : Str} {l : List Str} (h : sortedS (p :: l) = true) : sortedS l = true := by
  cases l with
  | nil => rfl
  | cons y r =>
    have e' : (!ltCps y.cps.toList p.cps.toList && risingS y r) = true := h
    rw [Bool.and_eq_true] at e'
    exact e'.2
theorem str_of_cps {x y : Str} (h : x.cps.toList = y.cps.toList) : x = y := by
  obtain ⟨a⟩ := x
  obtain ⟨b⟩ := y
  cases a; cases b
  cases h
  rfl
theorem sorted_one : ∀ {l m : List Str}, l.Perm m → sortedS l = true → sortedS m = true → l = m
  | [], m, h, _, _ => h.nil_eq
  | x :: l, m, h, h1, h2 => by
    cases m with
    | nil => exact absurd h.length_eq (by simp)
    | cons y m =>
      have e : x = y := by
        have a : x ∈ y :: m := h.mem_iff.mp List.mem_cons_self
        have b : y ∈ x :: l := h.mem_iff.mpr List.mem_cons_self
        rcases List.mem_cons.mp a with a | a
        · exact a
        · rcases List.mem_cons.mp b with b | b
          · exact b.symm
          · have c := rising_le (p := x) (l := l) h1 y b
            have d := rising_le (p := y) (l := m) h2 x a
            rw [ltCps_eq, decide_eq_false_iff_not] at c d
            exact str_of_cps (List.le_antisymm (List.not_lt.mp c) (List.not_lt.mp d))
      subst e
      rw [sorted_one (h.cons_inv) (sorted_tail h1) (sorted_tail h2)]
section
variable {X : Cx} {i : Nat} {x : Str} {p pos apos cpos : Pos}
theorem mt_dclear : MtM X "dict.clear" (fun x vs H Q => ∃ l kvs, x = .ref l ∧ vs = [] ∧ H l = some (.dK kvs) ∧ Q .non (upd H l (.dK []))) := by
  intro pins s σ H x vs v us Q I rx rv h
  obtain ⟨l, kvs, rfl, rfl, hH, q⟩ := h
  cases rx
  have hus := rv.zero
  subst hus
  exact d_clear I hH fun s' I' => ⟨.non, _, I', rfl, q⟩
def mDClear (i : Nat) : TMD := fun E δ μ => ∃ a kvs, δ[i]? = some (some (.adr a)) ∧ μ.lookup a = some (.dK kvs) ∧ E.nx δ (putM a (.dK []) μ)
theorem ms_dclear (hi : X.N[i]? = some x) (hv : Vis X.env.scope x) (hd : (x == ("__debug__" : Str)) = false := by decide) (hcd : (x == ("__classdict__" : Str)) = false := by decide) (hline : (apos.endLine == cpos.line) = true := by rfl)
    (hs : swapsWith (.Call (.Attribute (.Name x p) "clear" apos) [] [] cpos) none pos.line X.env = pure false := by rfl)
    (hb : attributeBase (.Name x p) "clear" X.env (eval (.Name x p) X.env) = eval (.Name x p) X.env := by rfl) :
    PMd X (.Expr (.Call (.Attribute (.Name x p) "clear" apos) [] [] cpos) pos) (mDClear i) := by
  refine ⟨PS.imp (ps_expr (pe_bm0 PySem.F.plainAttrs_dict PySem.F.slot_dict_clear PySem.F.type_dict_clear mt_dclear (pe_var hi hv hd hcd) hb hline) hs) fun D σ H ⟨δ, μ, L, r, g, q⟩ => ?_,
    fun E E' δ μ l ⟨a, ds, k1, k2, q⟩ => ⟨a, ds, k1, k2, l.nx _ _ q⟩⟩
  obtain ⟨a, kvs, k1, k2, q⟩ := q
  obtain ⟨v, hv1, dv⟩ := r.get i _ k1
  cases dv
  obtain ⟨haL, vs, hH, dvs⟩ := g.at_ _ (mem_of_lookup k2)
  refine ⟨_, hv1, .inr (.inr (.inl ⟨rfl, .inl ⟨_, hH⟩⟩)), a, vs, rfl, rfl, hH, ?_⟩
  have e2 : hidL (upd H a (.dK [])) L = hidL H L := hidL_upd haL
  exact q σ _ L (by rw [e2]; exact Same.refl _) (by rw [e2]; exact r) (g.putK haL hH .nil)
end
def flatT : D → Bool
  | .tup xs => xs.all flatD
  | _ => false
theorem rd_hid {H : Hp} {L : List Addr} {a : Addr} {xs : List V} (hL : ∀ b ∈ L, HidOk H L b) (h : Rd H a (.tup xs)) : Rd (hidL H L) a (.tup xs) := by
  have nb : a ∉ L := fun hb => by
    rcases h with h | ⟨o, h⟩
    · exact (hL a hb).notup.1 _ h
    · exact (hL a hb).notup.2.1 _ _ h
  unfold Rd
  rw [hidL_out nb]
  exact h
theorem Dvs.flatAny {K : PySem.W.Frag} {H H' : Hp} : ∀ {vs : List V} {ds : List D}, Dvs K H vs ds → ds.all flatD = true → Dvs K H' vs ds
  | _, _, .nil, _ => .nil
  | _, _, .cons h r, f => by
    rw [List.all_cons, Bool.and_eq_true] at f
    exact .cons (h.flatAny f.1) (Dvs.flatAny r f.2)
theorem Dv.hidT {K : PySem.W.Frag} {H : Hp} {L : List Addr} {v : V} {d : D} (hL : ∀ b ∈ L, HidOk H L b) (h : Dv K H v d) (f : flatT d = true) : Dv K (hidL H L) v d := by
  cases h with
  | tup h1 h2 =>
    refine .tup ?_ (h2.flatAny f)
    rcases h1 with h1 | h1
    · exact .inl (rd_hid hL h1)
    · exact .inr h1
  | _ => cases f
section
variable {X : Cx} {e : Expr} {te : ED} {i : Nat} {x : Str} {p pos apos cpos : Pos}
def mAppendT (i : Nat) (te : ED) : TMD := fun E δ μ => ∃ a ds, δ[i]? = some (some (.adr a)) ∧ μ.lookup a = some (.lst ds) ∧ ds.length < sizeLine ∧ te (viewS μ δ) fun d => flatT d = true ∧ E.nx δ (putM a (.lst (ds ++ [d])) μ)
theorem ms_appendT (hi : X.N[i]? = some x) (hv : Vis X.env.scope x) (he : PD X e te) (hd : (x == ("__debug__" : Str)) = false := by decide) (hcd : (x == ("__classdict__" : Str)) = false := by decide)
    (hst : starEach [e] X.env = (false, eval e X.env) :: starEach [] X.env := by rfl) (hline : (apos.endLine == cpos.line) = true := by rfl)
    (hfew : ((backTo cpos (starEach [e] X.env)).all (fun x => !x.1) && (backToKw cpos (keywordEach [] X.env)).all (fun x => x.1.isSome) && decide ([e].length + ([] : List Keyword).length + (if ([] : List Keyword).isEmpty then 0 else 1) < 30)) = true := by rfl)
    (hs : swapsWith (.Call (.Attribute (.Name x p) "append" apos) [e] [] cpos) none pos.line X.env = pure false := by rfl)
    (hb : attributeBase (.Name x p) "append" X.env (eval (.Name x p) X.env) = eval (.Name x p) X.env := by rfl) :
    PMd X (.Expr (.Call (.Attribute (.Name x p) "append" apos) [e] [] cpos) pos) (mAppendT i te) := by
  refine ⟨PS.imp (ps_expr (pe_bm PySem.F.plainAttrs_list PySem.F.slot_list_append PySem.F.type_list_append mt_append (pe_var hi hv hd hcd) (pa_cons he.pe pa_nil hst) hb hfew hline hst) hs) fun D σ H ⟨δ, μ, L, r, g, q⟩ => ?_,
    fun E E' δ μ l ⟨a, ds, k1, k2, k3, q⟩ => ⟨a, ds, k1, k2, k3, he.mono _ _ _ (fun d ⟨f, k⟩ => ⟨f, l.nx _ _ k⟩) q⟩⟩
  obtain ⟨a, ds, k1, k2, k3, q⟩ := q
  obtain ⟨v, hv1, dv⟩ := r.get i _ k1
  cases dv
  have hm := mem_of_lookup k2
  obtain ⟨haL, vs, hH, dvs⟩ := g.at_ _ hm
  refine ⟨_, hv1, .inl ⟨rfl, _, SqL.of hH⟩, _, g.viewS r, he.mono _ _ _ (fun d ⟨f, k⟩ w H1 s1 dw => ?_) q⟩
  have g1 : StM X.K H1 μ L := g.on s1
  have s2 : Same (hidL H L) (hidL H1 L) := hidL_on s1
  have hH1 : H1 a = some (.lst vs) := s1 _ _ hH
  refine ⟨a, vs, w, rfl, rfl, hH1, by rw [dvs.length]; exact k3, ?_⟩
  have g2 := g1.putL haL hH1 (ys := vs ++ [w]) (ds := ds ++ [d]) ((Dvs.same s2 dvs).append (.cons (dw.hidT g1.hid f) .nil))
  have e2 : hidL (upd H1 a (.lst (vs ++ [w]))) L = hidL H1 L := hidL_upd haL
  exact k σ _ L (by rw [e2]; exact s2) (by rw [e2]; exact r.same s2) g2
end
section
variable {uc : TD} {t u r : TMD} {te : ED} {E : EndsM} {δ δ' : SD} {μ : Mu}
theorem if_view (e : viewS μ δ = δ') (h : uc δ' fun b => if b = true then t { E with nx := r E } δ μ else u { E with nx := r E } δ μ) : mSeq (mIf uc t u) r E δ μ := by
  unfold mSeq mIf
  rw [e]
  exact h
theorem give_view (e : viewS μ δ = δ') (h : t E δ' []) : mGive t E δ μ := by
  unfold mGive
  rw [e]
  exact h
theorem append_view {i : Nat} {a : Addr} {ds : List D} (k1 : δ[i]? = some (some (.adr a))) (k2 : μ.lookup a = some (.lst ds)) (k3 : ds.length < sizeLine) (e : viewS μ δ = δ') (h : te δ' fun d => flatT d = true ∧ E.nx δ (putM a (.lst (ds ++ [d])) μ)) : mAppendT i te E δ μ := ⟨a, ds, k1, k2, k3, by rw [e]; exact h⟩
theorem split_m (I : SD → Mu → Prop) (hI : ∀ δ μ, I δ μ → u E δ μ) (hA : ∀ N : SD → Mu → Prop, (∀ δ μ, I δ μ → N δ μ) → t { E with nx := N } δ μ) : mSeq t u E δ μ := hA (u E) hI
theorem look1 {a : Addr} {m : MD} : List.lookup a [(a, m)] = some m := by simp [List.lookup]
theorem put1 {a : Addr} {m m' : MD} : putM a m' [(a, m)] = [(a, m')] := by simp [putM]
theorem view1 {a : Addr} {m : MD} : viewD [(a, m)] (.adr a) = m.d := by simp [viewD, List.lookup]
end
section
variable {X : Cx} {body : List Stmt} {t : TMD} {h₀ : ExceptHandler} {hs : List ExceptHandler} {pos : Pos}
theorem ms_try (hb : ∀ pins E, PMs (X.pinIn pins E) body t) : PMd X (.Try body (h₀ :: hs) [] [] pos) t := by
  refine ⟨fun pins s σ H D I ⟨δ, μ, L, r, g, q⟩ => ?_, (hb [] fun _ _ => True).mono⟩
  refine wpAny_Try_except ?_
  have B := hb pins (fun e s₁ => wpAny (model X.prog X.w) X.A (noteFrame e X.env) (fun _ s₂ => wpAny (model X.prog X.w) X.A (setFlight e none) (fun _ s₃ => wpAny (model X.prog X.w) X.A (handleBy e X.env (h₀ :: hs)) (SP X pins D) X.xe s₃) X.xe s₂) X.xe s₁)
  refine wpAny_mono (B.ps [] s σ H D I.pinIn ⟨δ, μ, L, r, g, q⟩) (fun f s1 h1 => ?_) fun e s1 h => h
  cases f with
  | next =>
    obtain ⟨σ', H', I', q⟩ := h1
    exact wpAny_execs_nil ⟨σ', H', I'.pinBack, q⟩
  | ret w =>
    obtain ⟨v, σ', H', I', rv, q⟩ := h1
    exact ⟨v, σ', H', I'.pinBack, rv, q⟩
  | brk =>
    obtain ⟨σ', H', I', q⟩ := h1
    exact ⟨σ', H', I'.pinBack, q⟩
  | cont =>
    obtain ⟨σ', H', I', q⟩ := h1
    exact ⟨σ', H', I'.pinBack, q⟩
end
section
variable {P : Program} {w : World} {K : PySem.W.Frag} {mg : Str → Option Value} {base : Heap}
theorem FnOk.orX {f : Addr} {fd : FuncData} {ps : List Str} {k : Nat} {s1 s2 : SpX} (F1 : FnOk P w K mg base (CXD P w) k f fd ps (spX K s1)) (F2 : FnOk P w K mg base (CXD P w) k f fd ps (spX K s2)) : FnOk P w K mg base (CXD P w) k f fd ps (spX K fun ds Q R => s1 ds Q R ∨ s2 ds Q R) :=
  ⟨fun vs H Q E ⟨ds, dv, h⟩ => h.elim (fun h => F1.len vs H Q E ⟨ds, dv, h⟩) fun h => F2.len vs H Q E ⟨ds, dv, h⟩,
   fun A outer s H args us vs Q E hr e0 hb r ⟨ds, dv, h⟩ => h.elim (fun h => F1.run A outer s H args us vs Q E hr e0 hb r ⟨ds, dv, h⟩) fun h => F2.run A outer s H args us vs Q E hr e0 hb r ⟨ds, dv, h⟩⟩
theorem FnOk.sub {cx : CXT} {f : Addr} {fd : FuncData} {ps : List Str} {k : Nat} {sp sp' : Sp} (F : FnOk P w K mg base cx k f fd ps sp) (h : ∀ vs H Q E, sp' vs H Q E → sp vs H Q E) : FnOk P w K mg base cx k f fd ps sp' :=
  ⟨fun vs H Q E q => F.len vs H Q E (h _ _ _ _ q), fun A outer s H args us vs Q E hr e0 hb r q => F.run A outer s H args us vs Q E hr e0 hb r (h _ _ _ _ q)⟩
theorem Df.calF {k : Nat} {x : Str} {st : Stmt} {ps N : List Str} {sd : SpF} {t : TMD} (d : Df K mg x st ps) (S : FnScope N ps (defScope st)) (ms : MonoSF sd) (len : ∀ ds Q, sd ds Q → ds.length = ps.length)
    (hb : ∀ (f : Addr) (cdv : Value) (A : Around) (outer : List Env) (s : Shared) (H : Hp) (E : XK), Room k (A.deeper (envOfC x (defScope st) s.heap.objs.size f cdv)) → PMs (Bx P w K mg base N x st f cdv A outer s H E) (defBody st) t)
    (hr : ∀ ds Q, sd ds Q → t { nx := fun _ μ => Q .non μ, rt := Q } (startD N ds) []) : CalF P w K mg base (k + 1) x ps sd := by
  obtain ⟨f, fd, F, m, b⟩ := d.ex
  exact ⟨⟨f, fd, okF F S len (hb f) hr, m, F.kp, b⟩, ms⟩
theorem CalF.cal {k : Nat} {x : Str} {ps : List Str} {sd : SpF} {se : SpD} (c : CalF P w K mg base k x ps sd) (ms : MonoS se) (h : ∀ ds Q, se ds Q → sd ds fun d μ => Q (viewD μ d)) : Cal P w K mg base k x ps se := by
  obtain ⟨f, fd, F, m, kp, b⟩ := c.ex
  exact ⟨⟨f, fd, FnOk.sub F (spF_of c.ms h), m, kp, b⟩, ms⟩
theorem CalF.up {j k : Nat} {x : Str} {ps : List Str} {sd : SpF} (c : CalF P w K mg base j x ps sd) (h : j ≤ k) : CalF P w K mg base k x ps sd := ⟨let ⟨f, fd, F, r⟩ := c.ex; ⟨f, fd, F.mono h, r⟩, c.ms⟩
theorem Df.calX2 {k : Nat} {x : Str} {st : Stmt} {ps N : List Str} {s1 s2 : SpX} {t : XR → TSD} {u : XR → TMD} (d : Df K mg x st ps) (S : FnScope N ps (defScope st)) (m1 : MonoX s1) (m2 : MonoX s2) (len1 : ∀ ds Q R, s1 ds Q R → ds.length = ps.length) (len2 : ∀ ds Q R, s2 ds Q R → ds.length = ps.length)
    (hb1 : ∀ (f : Addr) (cdv : Value) (A : Around) (outer : List Env) (s : Shared) (H : Hp) (E : XK) (R : XR), Room k (A.deeper (envOfC x (defScope st) s.heap.objs.size f cdv)) → XAcc (BxX P w K mg base N x st f cdv A outer s H E) (fun _ => R) → PFs (BxX P w K mg base N x st f cdv A outer s H E) (defBody st) (t R))
    (hb2 : ∀ (f : Addr) (cdv : Value) (A : Around) (outer : List Env) (s : Shared) (H : Hp) (E : XK) (R : XR), Room k (A.deeper (envOfC x (defScope st) s.heap.objs.size f cdv)) → XAcc (BxX P w K mg base N x st f cdv A outer s H E) (fun _ => R) → PMs (BxX P w K mg base N x st f cdv A outer s H E) (defBody st) (u R))
    (hr1 : ∀ ds Q R, s1 ds Q R → t R { nx := fun _ => Q .non, rt := Q } (startD N ds))
    (hr2 : ∀ ds Q R, s2 ds Q R → u R { nx := fun _ _ => Q .non, rt := fun d μ => Q (viewD μ d) } (startD N ds) []) : CalX P w K mg base (k + 1) x ps (fun ds Q R => s1 ds Q R ∨ s2 ds Q R) := by
  obtain ⟨f, fd, F, m, b⟩ := d.ex
  exact ⟨⟨f, fd, FnOk.orX (okXF (fun_v F) S len1 (hb1 f) hr1) (okMX (fun_v F) S len2 (hb2 f) hr2), m, F.kp, b⟩, fun ds P P' R R' g1 g2 h => h.elim (fun h => .inl (m1 _ _ _ _ _ g1 g2 h)) fun h => .inr (m2 _ _ _ _ _ g1 g2 h)⟩
end
end DC

set_option maxHeartbeats 4000000
namespace K34
open PySem PySem.Spec PyProof.Rows L2 DC
def top (i : Nat) : Stmt := PySem.Challenge.pw_runrows_k34_beats_part.main.body.getD i (.Pass ⟨0, 0, 0, 0⟩)
def cbody : Stmt → List Stmt
  | .ClassDef _ _ _ b _ _ _ _ _ _ _ => b
  | _ => []
theorem scM {N P : List Str} {sc : Scope} (a : sc.kind = .function := by rfl) (b : sc.isCoroutine = false := by rfl) (c : sc.isGenerator = false := by rfl) (d : N.Nodup := by decide +kernel) (e : N.take P.length = P := by rfl)
    (f : ∀ x ∈ P, sc.names.lookup x = some .local ∨ sc.names.lookup x = some .cell := by decide +kernel) (g : ∀ y ∈ sc.names, y.2 ≠ .free := by decide +kernel) : FnScope N P sc := ⟨a, b, c, d, e, f, g⟩
abbrev s_parting : Stmt := top 14
theorem sc_parting : FnScope ["one", "other", "has_all", "comes", "truths", "name"] ["one", "other"] (defScope s_parting) := scM
abbrev s__law_cell : Stmt := top 16
theorem sc__law_cell : FnScope ["_law_script", "_law_k"] ["_law_script", "_law_k"] (defScope s__law_cell) := scM
abbrev s__law_mixed : Stmt := top 17
theorem sc__law_mixed : FnScope ["_law_cell_here", "_law_k", "_law_mix"] ["_law_cell_here", "_law_k"] (defScope s__law_mixed) := scM
abbrev s__law_names : Stmt := top 18
theorem sc__law_names : FnScope ["_law_cell_here", "_law_style", "_law_size", "_law_spot", "_law_word"] ["_law_cell_here"] (defScope s__law_names) := scM
abbrev s__law_marks : Stmt := top 19
theorem sc__law_marks : FnScope ["_law_e", "_law_marks_here"] ["_law_e"] (defScope s__law_marks) := scM
abbrev s__law_comes : Stmt := top 20
theorem sc__law_comes : FnScope ["_law_beat", "_law_truths"] ["_law_beat", "_law_truths"] (defScope s__law_comes) := scM
abbrev s__law_good : Stmt := top 21
theorem sc__law_good : FnScope ["_law_found", "_law_one", "_law_other", "_law_due"] ["_law_found", "_law_one", "_law_other"] (defScope s__law_good) := scM
abbrev s__law_parted : Stmt := top 22
theorem sc__law_parted : FnScope ["_law_one", "_law_other", "_law_found", "_law_e"] ["_law_one", "_law_other"] (defScope s__law_parted) := scM
abbrev s_law : Stmt := top 23
theorem sc_law : FnScope ["_law_script", "_law_names_here", "_law_beats", "_law_k", "_law_one", "_law_other"] ["_law_script"] (defScope s_law) := scM
abbrev s_NoBeat___init__ : Stmt := (cbody (top 7)).getD 0 (.Pass ⟨0, 0, 0, 0⟩)
theorem sc_NoBeat___init__ : FnScope ["self", "row", "place", "one", "other"] ["self", "row", "place", "one", "other"] (defScope s_NoBeat___init__) := scM
end K34

-- gen set cord _law_names:_law_cell_here,_law_word,_law_spot
-- gen set mulS _law_names
set_option maxHeartbeats 4000000
namespace K34
open PySem PySem.Spec PyProof.Rows L2 DC
theorem atI_in {α : Type} {xs : List α} {i : Int} (h0 : 0 ≤ i) (h1 : i < xs.length) : ∃ r, r ∈ xs ∧ L2.atI xs i = some r := by
  unfold L2.atI L2.ixN
  rw [if_pos h0, if_pos h1]
  have h : i.toNat < xs.length := by omega
  exact ⟨xs[i.toNat], List.getElem_mem h, by simp [List.getElem?_eq_getElem h]⟩
theorem atI_nat {α : Type} {xs : List α} {i : Nat} {x : α} (h : xs[i]? = some x) : L2.atI xs (i : Int) = some x := by
  unfold L2.atI L2.ixN
  have hl : i < xs.length := (List.getElem?_eq_some_iff.mp h).1
  rw [if_pos (by omega), if_pos (by omega), Int.toNat_natCast]
  exact h
theorem app_cps (x y : Str) : (x ++ y).cps.toList = x.cps.toList ++ y.cps.toList := by
  show (x.cps ++ y.cps).toList = _
  exact Array.toList_append
theorem len_cps (x : Str) : x.length = x.cps.toList.length := by
  show x.cps.size = _
  exact Array.length_toList.symm
theorem app_len (x y : Str) : (x ++ y).length = x.length + y.length := by rw [len_cps, app_cps, List.length_append, ← len_cps, ← len_cps]
theorem cd {i j : Int} (h : 0 < j) (h2 : j < 1073741824) : CDiv i j := ⟨h, h2⟩
theorem mod_lo (a : Int) {b : Int} (h : 0 < b) : 0 ≤ a % b := Int.emod_nonneg _ (by omega)
theorem mod_hi (a : Int) {b : Int} (h : 0 < b) : a % b < b := Int.emod_lt_of_pos _ h
def mix1 (c k : Int) : Int := (c + 7919 * k + 11) * 48271 % 2147483647
theorem mix1_lt (c k : Int) : 0 ≤ mix1 c k ∧ mix1 c k < 2147483647 := ⟨Int.emod_nonneg _ (by decide), Int.emod_lt_of_pos _ (by decide)⟩
def sdMix : SpD := fun ds Q => ∃ c k : Int, ds = [.int c, .int k] ∧ ∀ m : Int, Q (.int m)
def sdCell : SpD := fun ds Q => ∃ (ns : List Int) (k : Nat), ds = [.lst (ns.map D.int), .int (k : Int)] ∧ ∀ c : Int, Q (.int c)
structure Names (ns : List Str) : Prop where
  len : ns.length = 8
  nd : ns.Nodup
  ok : ∀ x ∈ ns, PyData.strOk x = true
def sdNames : SpD := fun ds Q => ∃ c : Int, ds = [.int c] ∧ ∀ ns : List Str, Names ns → Q (.lst (ns.map D.str))
def okNs (ns : List Str) : Bool := decide (ns.length = 8) && decide ns.Nodup && ns.all PyData.strOk
theorem okNs_of {ns : List Str} (h : okNs ns = true) : Names ns := by
  unfold okNs at h
  rw [Bool.and_eq_true, Bool.and_eq_true] at h
  exact ⟨of_decide_eq_true h.1.1, of_decide_eq_true h.1.2, List.all_eq_true.mp h.2⟩
def abc : Str := "abcdefghijklm"
def ns0 (ch : Nat) : List Str := (List.range 8).map fun i : Nat => mulS ⟨#[ch]⟩ (0 + (i : Int) + 1)
theorem ns0_ok : (abc.cps.toList.all fun ch => okNs (ns0 ch)) = true := by decide +kernel
def l1 : List Str := ["in", "not", "row", "use", "end", "on", "yes", "held"]
def ns1 : List Str := l1.map (· ++ "z")
theorem ns1_ok : okNs ns1 = true := by decide +kernel
def l2 : List Str := ["row", "no", "z", "zz", "if", "abcdefgh", "or", "in"]
def ns2 : List Str := l2.map fun x => "in." ++ x ++ ".q"
theorem ns2_ok : okNs ns2 = true := by decide +kernel
def zq : Str := "zqzqzqzq"
def bc : Str := "bcdfghjk"
def wd (sz : Int) : Str := Txt.slice zq none (some sz)
def nm3 (sz sp : Int) (ch : Nat) : Str := Txt.slice (wd sz) none (some sp) ++ ⟨#[ch]⟩ ++ Txt.slice (wd sz) (some (sp + 1)) none
def ns3 (sz sp : Int) : List Str := (List.range 8).map fun i : Nat => nm3 sz sp ((L2.atI bc.cps.toList (0 + (i : Int))).getD 0)
theorem ns3_ok : ((List.range 7).all fun a : Nat => (List.range 8).all fun b : Nat => okNs (ns3 (2 + (a : Int)) (b : Int))) = true := by decide +kernel
def len3 (sz sp : Int) : Bool := decide ((wd sz).length ≤ 8) && (decide ((Txt.slice (wd sz) none (some sp)).length ≤ 8) && decide ((Txt.slice (wd sz) (some (sp + 1)) none).length ≤ 8))
theorem len3_ok : ((List.range 7).all fun a : Nat => (List.range 8).all fun b : Nat => len3 (2 + (a : Int)) (b : Int)) = true := by decide +kernel
def g0 (ch : Nat) : D → D
  | .int i => .str (mulS ⟨#[ch]⟩ (i + 1))
  | _ => .non
def g1 : D → D
  | .str x => .str (x ++ "z")
  | _ => .non
def g2 : D → D
  | .str x => .str ("in." ++ x ++ ".q")
  | _ => .non
def g3 (sz sp : Int) : D → D
  | .int i => .str (nm3 sz sp ((L2.atI bc.cps.toList i).getD 0))
  | _ => .non
theorem rng8 {d : D} (h : d ∈ (List.range (8 : Int).toNat).map fun i : Nat => D.int (0 + (i : Int))) : ∃ i : Nat, i < 8 ∧ d = .int (0 + (i : Int)) := by
  obtain ⟨i, hi, rfl⟩ := List.mem_map.mp h
  exact ⟨i, List.mem_range.mp hi, rfl⟩
section
seal wpAny
variable {P : Program} {w : World} {K : PySem.W.Frag} {mg : Str → Option Value} {base : Heap} {n j : Nat}
theorem c_mixed (d : Df K mg "_law_mixed" s__law_mixed ["_law_cell_here", "_law_k"]) : Cal P w K mg base (j + 1) "_law_mixed" ["_law_cell_here", "_law_k"] sdMix := by
  refine d.cal sc__law_mixed (fun ds P P' f ⟨c, k, e, q⟩ => ⟨c, k, e, fun m => f _ (q m)⟩) (fun ds Q ⟨c, k, e, _⟩ => by rw [e]; rfl) (fun f cdv A outer s H E hr => have hu := hr.units; have hh := hr.hd; have sc := sc__law_mixed
    (ss_cons (s_set (i := 2) sc.nd rfl (Or.inl rfl) (d_mod (d_mul (d_add (d_add (dv 0) (d_mul d_int (dv 1))) d_int) d_int) d_int))
  (ss_one (s_ret (d_mod (d_add (d_mul (dv 2) (dv 2)) (d_mul d_int (dv 2))) d_int))))) ?_
  rintro ds Q ⟨c, k, rfl, q⟩
  have hb := mix1_lt c k
  refine ⟨_, rfl, _, rfl, CMul.ok (.inl ⟨by decide, by decide⟩), CMul.ok (.inr ⟨by decide, by decide⟩), (show (0 : Int) < 2147483647 by decide), ?_⟩
  exact ⟨_, rfl, _, rfl, CMul.ok (i := mix1 c k) (j := mix1 c k) (.inl ⟨by omega, by omega⟩), _, rfl, CMul.ok (.inl ⟨by decide, by decide⟩), (show (0 : Int) < 2147483399 by decide), q _⟩
theorem c_cell (d : Df K mg "_law_cell" s__law_cell ["_law_script", "_law_k"]) (n_len : mg "len" = none) : Cal P w K mg base (j + 1) "_law_cell" ["_law_script", "_law_k"] sdCell := by
  refine d.cal sc__law_cell (fun ds P P' f ⟨c, k, e, q⟩ => ⟨c, k, e, fun c => f _ (q c)⟩) (fun ds Q ⟨c, k, e, _⟩ => by rw [e]; rfl) (fun f cdv A outer s H E hr => have hu := hr.units; have hh := hr.hd; have sc := sc__law_cell
    (ss_cons (s_if (t_lt (dv 1) (d_len (by rfl) n_len (a_cons (dv 0) a_nil))) (ss_one (s_ret (d_ix (dv 0) (dv 1) (fun _ _ => rfl)))) ss_nil)
  (ss_one (s_ret d_int)))) ?_
  rintro ds Q ⟨ns, k, rfl, q⟩
  refine ⟨_, rfl, _, rfl, _, _, rfl, rfl, _, rfl, ?_⟩
  show if decide ((k : Int) < ((ns.map D.int).length : Int)) = true then _ else _
  rw [List.length_map]
  cases h : decide ((k : Int) < (ns.length : Int)) with
  | true =>
    have hk' : k < ns.length := by have := of_decide_eq_true h; omega
    exact iteT ⟨_, rfl, _, rfl, .int ns[k], atI_nat (by rw [List.getElem?_map, List.getElem?_eq_getElem hk']; rfl), q _⟩
  | false => exact iteF (q _)
theorem c_names (d : Df K mg "_law_names" s__law_names ["_law_cell_here"]) (n_range : mg "range" = none) : Cal P w K mg base (j + 1) "_law_names" ["_law_cell_here"] sdNames := by
  refine d.cal sc__law_names (fun ds P P' f ⟨c, e, q⟩ => ⟨c, e, fun l h => f _ (q l h)⟩) (fun ds Q ⟨c, e, _⟩ => by rw [e]; rfl) (fun f cdv A outer s H E hr => have hu := hr.units; have hh := hr.hd; have sc := sc__law_names
    (ss_cons (s_set (i := 1) sc.nd rfl (Or.inl rfl) (d_mod (dv 0) d_int))
  (ss_cons (s_if (t_eq hu (dv 1) d_int) (ss_one (s_ret (d_lc (x := "_law_k") (caps := [0]) (cn := ["_law_cell_here"]) (cl := [("_law_cell_here", s.heap.objs.size + 1)]) (compN (by rfl) (by rfl) (by decide +kernel) (free_of ["_law_cell_here"] rfl (by decide +kernel)) (by decide +kernel) (cells_cons (by rfl) cells_nil) (.cons ⟨rfl, .inl rfl, rfl⟩ .nil)) rfl (i_range1 (by rfl) n_range (a_cons d_int a_nil)) (fun C fp s₂ H₂ => pg_name (i := 0) (show (["_law_k", "_law_cell_here"] : List Str).Nodup by decide +kernel) rfl (Or.inl rfl) (.inr rfl)) (fun C fp s₂ H₂ => ts_nil) (fun C fp s₂ H₂ => (d_mulS (d_ix d_str (d_mod (d_div (dv 1) d_int) d_int) (fun _ _ => rfl)) (d_add (dv 0) d_int)))))) ss_nil)
  (ss_cons (s_if (t_eq hu (dv 1) d_int) (ss_one (s_ret (d_lc (x := "_law_word") (caps := []) (cn := []) (cl := []) (comp0 (by rfl) (by rfl) (by decide +kernel) (by decide +kernel) (by decide +kernel)) rfl (i_any (d_lst (a_ck (by rfl)))) (fun C fp s₂ H₂ => pg_name (i := 0) (show (["_law_word"] : List Str).Nodup by decide +kernel) rfl (Or.inl rfl) (.inr rfl)) (fun C fp s₂ H₂ => ts_nil) (fun C fp s₂ H₂ => (d_add (dv 0) d_str))))) ss_nil)
  (ss_cons (s_if (t_eq hu (dv 1) d_int) (ss_one (s_ret (d_lc (x := "_law_word") (caps := []) (cn := []) (cl := []) (comp0 (by rfl) (by rfl) (by decide +kernel) (by decide +kernel) (by decide +kernel)) rfl (i_any (d_lst (a_ck (by rfl)))) (fun C fp s₂ H₂ => pg_name (i := 0) (show (["_law_word"] : List Str).Nodup by decide +kernel) rfl (Or.inl rfl) (.inr rfl)) (fun C fp s₂ H₂ => ts_nil) (fun C fp s₂ H₂ => (d_add (d_add d_str (dv 0)) d_str))))) ss_nil)
  (ss_cons (s_set (i := 2) sc.nd rfl (Or.inl rfl) (d_add d_int (d_mod (d_div (dv 0) d_int) d_int)))
  (ss_cons (s_set (i := 3) sc.nd rfl (Or.inr rfl) (d_mod (d_div (dv 0) d_int) (dv 2)))
  (ss_cons (s_set (i := 4) sc.nd rfl (Or.inr rfl) (d_slice d_str o_none (o_some (dv 2))))
  (ss_one (s_ret (d_lc (x := "_law_k") (caps := [4, 3]) (cn := ["_law_word", "_law_spot"]) (cl := [("_law_word", s.heap.objs.size + 2), ("_law_spot", s.heap.objs.size + 3)]) (compN (by rfl) (by rfl) (by decide +kernel) (free_of ["_law_word", "_law_spot"] rfl (by decide +kernel)) (by decide +kernel) (cells_cons (by rfl) (cells_cons (by rfl) cells_nil)) (.cons ⟨rfl, .inl rfl, rfl⟩ (.cons ⟨rfl, .inl rfl, rfl⟩ .nil))) rfl (i_range1 (by rfl) n_range (a_cons d_int a_nil)) (fun C fp s₂ H₂ => pg_name (i := 0) (show (["_law_k", "_law_word", "_law_spot"] : List Str).Nodup by decide +kernel) rfl (Or.inl rfl) (.inr rfl)) (fun C fp s₂ H₂ => ts_nil) (fun C fp s₂ H₂ => (d_add (d_add (d_slice (dv 1) o_none (o_some (dv 2))) (d_ix d_str (dv 0) (fun _ _ => rfl))) (d_slice (dv 1) (o_some (d_add (dv 2) d_int)) o_none)))))))))))))) ?_
  rintro ds Q ⟨c, rfl, q⟩
  refine ⟨_, rfl, (show (0 : Int) < 5 by decide), _, rfl, _, rfl, ?_⟩
  cases h0 : decide (c % 5 = 0) with
  | true =>
    obtain ⟨ch, hch, ech⟩ := atI_in (xs := abc.cps.toList) (mod_lo (c / 5) (show (0 : Int) < 13 by decide)) (by rw [show ((abc.cps.toList.length : Nat) : Int) = 13 by decide +kernel]; exact mod_hi _ (by decide))
    refine iteT ⟨8, rfl, (by decide), (by decide), mO (g0 ch) _, mO_len, ?_, (by decide), ?_⟩
    · intro i d o a1 a2
      obtain ⟨hd, rfl⟩ := mO_at a1 a2
      obtain ⟨i, hi, rfl⟩ := rng8 hd
      exact ⟨rfl, fun _ => ⟨_, rfl, cd (by decide) (by decide), (show (0 : Int) < 13 by decide), (by decide +kernel), ch, ech, _, rfl, _, _, rfl, rfl, (by omega), (by omega), (show (0 : Nat) < 1 by decide), (show (1 : Nat) < 1000 by decide), rfl⟩⟩
    · rw [mO_out, show ((List.range (8 : Int).toNat).map fun i : Nat => D.int (0 + (i : Int))).map (g0 ch) = (ns0 ch).map D.str by unfold ns0; rw [List.map_map, List.map_map]; rfl]
      exact q _ (okNs_of (List.all_eq_true.mp ns0_ok ch hch))
  | false =>
    refine iteF ⟨_, rfl, _, rfl, ?_⟩
    cases h1 : decide (c % 5 = 1) with
    | true =>
      refine iteT ⟨(show 8 ≤ sizeLine by decide), _, rfl, mO g1 _, mO_len, ?_, (by decide), ?_⟩
      · intro i d o a1 a2
        obtain ⟨hd, rfl⟩ := mO_at a1 a2
        have hd' : d ∈ l1.map D.str := hd
        obtain ⟨x, hx, rfl⟩ := List.mem_map.mp hd'
        have hl : x.length + 1 ≤ sizeLine := Nat.le_trans (show x.length + 1 ≤ 9 from (show ∀ x ∈ l1, x.length + 1 ≤ 9 by decide +kernel) x hx) (by decide)
        exact ⟨rfl, fun _ => ⟨_, rfl, hl, rfl⟩⟩
      · rw [mO_out]
        exact q ns1 (okNs_of ns1_ok)
    | false =>
      refine iteF ⟨_, rfl, _, rfl, ?_⟩
      cases h2 : decide (c % 5 = 2) with
      | true =>
        refine iteT ⟨(show 8 ≤ sizeLine by decide), _, rfl, mO g2 _, mO_len, ?_, (by decide), ?_⟩
        · intro i d o a1 a2
          obtain ⟨hd, rfl⟩ := mO_at a1 a2
          have hd' : d ∈ l2.map D.str := hd
          obtain ⟨x, hx, rfl⟩ := List.mem_map.mp hd'
          have hl : (Str.length "in." + x.length ≤ sizeLine) ∧ (("in." ++ x : Str).length + Str.length ".q" ≤ sizeLine) := by
            have z : ∀ x ∈ l2, Str.length "in." + x.length ≤ 20 ∧ ("in." ++ x : Str).length + Str.length ".q" ≤ 20 := by decide +kernel
            exact ⟨Nat.le_trans (z x hx).1 (by decide), Nat.le_trans (z x hx).2 (by decide)⟩
          exact ⟨rfl, fun _ => ⟨_, rfl, hl.1, hl.2, rfl⟩⟩
        · rw [mO_out]
          exact q ns2 (okNs_of ns2_ok)
      | false =>
        have a0 := mod_lo (c / 5) (show (0 : Int) < 7 by decide)
        have a7 := mod_hi (c / 5) (show (0 : Int) < 7 by decide)
        refine iteF ⟨_, rfl, cd (by decide) (by decide), (show (0 : Int) < 7 by decide), ?_⟩
        have hs : (0 : Int) < 2 + c / 5 % 7 := by omega
        have b0 := mod_lo (c / 40) hs
        have b8 := mod_hi (c / 40) hs
        refine ⟨_, rfl, cd (by decide) (by decide), _, rfl, hs, ?_⟩
        dsimp only
        obtain ⟨a, ea, ha⟩ : ∃ a : Nat, c / 5 % 7 = (a : Int) ∧ a < 7 := ⟨(c / 5 % 7).toNat, by omega, by omega⟩
        rw [ea] at b0 b8 ⊢
        obtain ⟨b, eb, hb⟩ : ∃ b : Nat, c / 40 % (2 + (a : Int)) = (b : Int) ∧ b < 8 := ⟨(c / 40 % (2 + (a : Int))).toNat, by omega, by omega⟩
        rw [eb]
        have ok3 : okNs (ns3 (2 + (a : Int)) (b : Int)) = true := List.all_eq_true.mp (List.all_eq_true.mp ns3_ok a (List.mem_range.mpr ha)) b (List.mem_range.mpr hb)
        refine ⟨_, rfl, _, rfl, (by decide +kernel), ?_⟩
        have z3 : len3 (2 + (a : Int)) (b : Int) = true := List.all_eq_true.mp (List.all_eq_true.mp len3_ok a (List.mem_range.mpr ha)) b (List.mem_range.mpr hb)
        unfold len3 at z3
        rw [Bool.and_eq_true, Bool.and_eq_true] at z3
        have hw : (wd (2 + (a : Int))).length ≤ 8 := of_decide_eq_true z3.1
        have e1 : (Txt.slice (wd (2 + (a : Int))) none (some (b : Int))).length ≤ 8 := of_decide_eq_true z3.2.1
        have e2 : (Txt.slice (wd (2 + (a : Int))) (some ((b : Int) + 1)) none).length ≤ 8 := of_decide_eq_true z3.2.2
        refine ⟨8, rfl, (by decide), (by decide), mO (g3 (2 + (a : Int)) (b : Int)) _, mO_len, ?_, (by decide), ?_⟩
        · intro i d o a1 a2
          obtain ⟨hd, rfl⟩ := mO_at a1 a2
          obtain ⟨i, hi, rfl⟩ := rng8 hd
          obtain ⟨ch, hch, ech⟩ := atI_in (xs := bc.cps.toList) (i := 0 + (i : Int)) (by omega) (by rw [show ((bc.cps.toList.length : Nat) : Int) = 8 by decide +kernel]; omega)
          have eg : g3 (2 + (a : Int)) (b : Int) (.int (0 + (i : Int))) = .str (nm3 (2 + (a : Int)) (b : Int) ch) := by unfold g3; dsimp only; rw [ech]; rfl
          refine ⟨rfl, fun _ => ⟨_, rfl, _, rfl, _, rfl, Nat.le_trans hw (by decide), _, rfl, (by decide +kernel), ch, ech, Nat.le_trans (show (Txt.slice (wd (2 + (a : Int))) none (some (b : Int))).length + 1 ≤ 9 by omega) (by decide), _, rfl, _, rfl, _, rfl, Nat.le_trans hw (by decide), ?_, ?_⟩⟩
          · show (Txt.slice (wd (2 + (a : Int))) none (some (b : Int)) ++ ⟨#[ch]⟩).length + (Txt.slice (wd (2 + (a : Int))) (some ((b : Int) + 1)) none).length ≤ sizeLine
            rw [app_len]
            exact Nat.le_trans (show _ + 1 + _ ≤ 17 by omega) (by decide)
          · rw [eg]; rfl
        · rw [mO_out, show ((List.range (8 : Int).toNat).map fun i : Nat => D.int (0 + (i : Int))).map (g3 (2 + (a : Int)) (b : Int)) = (ns3 (2 + (a : Int)) (b : Int)).map D.str by unfold ns3; rw [List.map_map, List.map_map]; rfl]
          exact q _ (okNs_of ok3)
end
end K34

-- gen set Xf parting
-- gen set EX NoBeat
set_option maxHeartbeats 4000000
namespace K34
open PySem PySem.Spec PyProof.Rows L2 DC
abbrev Beat := List Str
def bD (b : Beat) : D := .tup (b.map D.str)
structure GoodB (k : Nat) (b : Beat) : Prop where
  len : b.length ≤ k
  str : ∀ x ∈ b, PyData.strOk x = true
theorem eqv_strs : ∀ a b : Beat, PyData.eqvAll (toPs (a.map D.str)) (toPs (b.map D.str)) = decide (a = b)
  | [], [] => by rw [List.map_nil, toPs, PyData.eqvAll]; rfl
  | [], y :: b => by rw [List.map_nil, List.map_cons, toPs, toPs, PyData.eqvAll]; rfl
  | x :: a, [] => by rw [List.map_nil, List.map_cons, toPs, toPs, PyData.eqvAll]; rfl
  | x :: a, y :: b => by
    rw [List.map_cons, List.map_cons, toPs, toPs, PyData.eqvAll, eqv_strs a b, toP, toP, PyData.eqv]
    by_cases h : x = y
    · subst h
      by_cases h2 : a = b
      · subst h2; simp
      · simp [h2]
    · simp [h]
theorem lay_strs : ∀ {b : Beat}, (∀ x ∈ b, PyData.strOk x = true) → PyData.canLayAll0 (toPs (b.map D.str)) = true ∧ plains (b.map D.str) = true ∧ PyData.depthAll (toPs (b.map D.str)) = 0
  | [], _ => ⟨rfl, rfl, rfl⟩
  | x :: b, h => by
    obtain ⟨h1, h2, h3⟩ := lay_strs (b := b) fun y hy => h y (List.mem_cons_of_mem _ hy)
    have hx := h x List.mem_cons_self
    rw [List.map_cons, toPs, toP]
    refine ⟨?_, ?_, ?_⟩
    · rw [PyData.canLayAll0, h1, PyData.canLay0, hx]; rfl
    · rw [plains, h2, show DC.plain (.str x) = true by simp [DC.plain]]; rfl
    · rw [PyData.depthAll, h3, PyData.depth]; rfl
structure Lay (k : Nat) (d : D) : Prop where
  pl : DC.plain d = true
  cl : (toP d).canLay0 = true
  dp : (toP d).depth ≤ k
theorem lay_b {k : Nat} {b : Beat} (h : GoodB k b) : Lay 1 (bD b) := by
  obtain ⟨h1, h2, h3⟩ := lay_strs h.str
  unfold bD
  refine ⟨by rw [DC.plain]; exact h2, by rw [toP, PyData.canLay0]; exact h1, by rw [toP, PyData.depth, h3]; decide⟩
theorem Lay.sh {k : Nat} {d : D} (h : Lay k d) (e : k ≤ 64) : SeqAt.shaped (toP d) = true := by
  unfold SeqAt.shaped
  rw [h.cl, decide_eq_true (Nat.le_trans h.dp e)]
  rfl
theorem lay_l {b : Beat} (h : ∀ x ∈ b, PyData.strOk x = true) : Lay 1 (.lst (b.map D.str)) := by
  obtain ⟨h1, h2, h3⟩ := lay_strs h
  refine ⟨by rw [DC.plain]; exact h2, by rw [toP, PyData.canLay0]; exact h1, by rw [toP, PyData.depth, h3]; decide⟩
theorem eqNilS {neg : Bool} {l : List Str} {Q : D → Prop} (h : ∀ x ∈ l, PyData.strOk x = true) (q : Q (.bl (if neg = true then !l.isEmpty else l.isEmpty))) : fEq neg (.lst (l.map D.str)) (.lst []) Q := by
  have la := lay_l h
  have lb := lay_l (b := []) (fun x hx => nomatch hx)
  have e : PyData.eqv (toP (.lst (l.map D.str))) (toP (.lst [])) = l.isEmpty := by
    rw [toP, toP, PyData.eqv]
    cases l with
    | nil => rw [List.map_nil, toPs, PyData.eqvAll]; rfl
    | cons b bs => rw [List.map_cons, toPs, toPs, PyData.eqvAll]; rfl
  unfold fEq
  rw [show eqScal (.lst (l.map D.str)) (.lst []) = none from rfl]
  refine ⟨la.pl, lb.pl, la.sh (by decide), lb.sh (by decide), ?_⟩
  rw [e]
  exact q
theorem eqB {neg : Bool} {k m : Nat} {a b : Beat} {Q : D → Prop} (ha : GoodB k a) (hb : GoodB m b) (q : Q (.bl (if neg = true then !decide (a = b) else decide (a = b)))) : fEq neg (bD a) (bD b) Q := by
  have la := lay_b ha
  have lb := lay_b hb
  have e : PyData.eqv (toP (bD a)) (toP (bD b)) = decide (a = b) := by unfold bD; rw [toP, toP, PyData.eqv, eqv_strs]
  unfold fEq
  rw [show eqScal (bD a) (bD b) = none from rfl]
  refine ⟨la.pl, lb.pl, la.sh (by decide), lb.sh (by decide), ?_⟩
  rw [e]
  exact q
theorem self_eq {neg : Bool} {k : Nat} {d : D} {Q : D → Prop} (e : eqScal d d = none) (h : Lay k d) (hk : k ≤ 64) (q : Q (.bl (!neg))) : fEq neg d d Q := by
  have ev : PyData.eqv (toP d) (toP d) = true := SeqAt.eqv_refl _ h.cl
  unfold fEq
  rw [e]
  refine ⟨h.pl, h.pl, h.sh hk, h.sh hk, ?_⟩
  rw [ev]
  cases neg <;> exact q
def tab (f : Str → Bool) (ks : List Str) : List (Key × D) := ks.map fun x => ((Sum.inr x : Key), D.bl (f x))
theorem tab_get (f : Str → Bool) {x : Str} : ∀ {ks : List Str}, x ∈ ks → getK (tab f ks) (.inr x) = some (.bl (f x))
  | [], h => (nomatch h)
  | y :: ks, h => by
    unfold getK tab
    rw [List.map_cons, List.find?_cons]
    by_cases e : y = x
    · subst e
      rw [show decide (((Sum.inr y : Key), D.bl (f y)).1 = Sum.inr y) = true from decide_eq_true rfl]
      rfl
    · rw [show decide (((Sum.inr y : Key), D.bl (f y)).1 = Sum.inr x) = false from decide_eq_false fun z => e (Sum.inr.inj z)]
      exact tab_get f ((List.mem_cons.mp h).resolve_left fun z => e z.symm)
def addK (ks : List Str) (x : Str) : List Str := if x ∈ ks then ks else ks ++ [x]
theorem tab_any (f : Str → Bool) (x : Str) : ∀ ks : List Str, ((tab f ks).any fun kv => decide (kv.1 = Sum.inr x)) = decide (x ∈ ks)
  | [] => by simp [tab]
  | y :: ks => by
    unfold tab
    rw [List.map_cons, List.any_cons]
    have ih := tab_any f x ks
    unfold tab at ih
    rw [ih]
    by_cases e : y = x
    · subst e
      rw [show decide (((Sum.inr y : Key), D.bl (f y)).1 = Sum.inr y) = true from decide_eq_true rfl]
      simp
    · rw [show decide (((Sum.inr y : Key), D.bl (f y)).1 = Sum.inr x) = false from decide_eq_false fun z => e (Sum.inr.inj z)]
      have e' : ¬ x = y := fun z => e z.symm
      simp [e']
theorem tab_map (f : Str → Bool) (x : Str) : ∀ ks : List Str, (tab f ks).map (fun kv => if kv.1 = Sum.inr x then (kv.1, D.bl (f x)) else kv) = tab f ks
  | [] => rfl
  | y :: ks => by
    have ih := tab_map f x ks
    unfold tab at ih ⊢
    rw [List.map_cons, List.map_cons, ih]
    by_cases e : y = x
    · subst e
      rw [if_pos rfl]
    · rw [if_neg fun z => e (Sum.inr.inj z)]
theorem tab_put (f : Str → Bool) (ks : List Str) (x : Str) : putKD (tab f ks) (.inr x) (.bl (f x)) = tab f (addK ks x) := by
  unfold putKD addK
  rw [tab_any]
  by_cases h : x ∈ ks
  · rw [decide_eq_true h, if_pos rfl, if_pos h, tab_map]
  · rw [decide_eq_false h, if_neg Bool.false_ne_true, if_neg h]
    unfold tab
    rw [List.map_append]
    rfl
theorem add_len (ks : List Str) (x : Str) : (addK ks x).length ≤ ks.length + 1 := by
  unfold addK
  split
  · omega
  · rw [List.length_append, List.length_singleton]; omega
theorem fold_len : ∀ (xs acc : List Str), (xs.foldl addK acc).length ≤ acc.length + xs.length
  | [], acc => Nat.le_refl _
  | x :: xs, acc => by
    rw [List.foldl_cons]
    have h1 := fold_len xs (addK acc x)
    have h2 := add_len acc x
    rw [List.length_cons]
    omega
def both (one other : Beat) : List Str := one ++ other.filter fun x => !one.contains x
theorem add_one : ∀ (xs acc : List Str), (acc ++ xs).Nodup → xs.foldl addK acc = acc ++ xs
  | [], acc, _ => by rw [List.append_nil]; rfl
  | x :: xs, acc, h => by
    have hx : x ∉ acc := fun z => by
      have := (List.nodup_append.mp h).2.2 x z x List.mem_cons_self
      exact this rfl
    rw [List.foldl_cons, show addK acc x = acc ++ [x] from if_neg hx, add_one xs (acc ++ [x]) (by rw [List.append_assoc]; exact h), List.append_assoc]
    rfl
theorem add_two : ∀ (xs one acc : List Str), xs.Nodup → (∀ x ∈ acc, x ∉ xs) → xs.foldl addK (one ++ acc) = one ++ acc ++ xs.filter fun x => !one.contains x
  | [], one, acc, _, _ => by rw [List.filter_nil, List.append_nil]; rfl
  | x :: xs, one, acc, h, ha => by
    obtain ⟨h1, h2⟩ := List.nodup_cons.mp h
    have hx : x ∉ acc := fun z => ha x z List.mem_cons_self
    rw [List.foldl_cons, List.filter_cons]
    by_cases hc : x ∈ one
    · rw [show addK (one ++ acc) x = one ++ acc from if_pos (List.mem_append_left _ hc), show (!one.contains x) = false by simp [hc], if_neg Bool.false_ne_true]
      exact add_two xs one acc h2 fun y hy z => ha y hy (List.mem_cons_of_mem _ z)
    · rw [show addK (one ++ acc) x = one ++ acc ++ [x] from if_neg fun z => (List.mem_append.mp z).elim hc hx, show (!one.contains x) = true by simp [hc], if_pos rfl, List.append_assoc, add_two xs one (acc ++ [x]) h2, List.append_assoc, List.append_assoc, List.append_assoc]
      · rfl
      · intro y hy z
        rcases List.mem_append.mp hy with hy | hy
        · exact ha y hy (List.mem_cons_of_mem _ z)
        · rw [List.mem_singleton.mp hy] at z; exact h1 z
theorem add_both {one other : Beat} (h1 : one.Nodup) (h2 : other.Nodup) : (one ++ other).foldl addK [] = both one other := by
  rw [List.foldl_append, add_one one [] (by rw [List.nil_append]; exact h1), List.nil_append]
  have := add_two other one [] h2 (fun x h => nomatch h)
  rw [List.append_nil] at this
  exact this
def hasAll (one other : Beat) : Bool := one.all fun x => other.contains x
def comesOf (one other : Beat) : Beat := if hasAll one other = true then one else other
def isIn (one other : Beat) (x : Str) : Bool := (comesOf one other).contains x
structure Pair (one other : Beat) : Prop where
  g1 : GoodB 8 one
  g2 : GoodB 8 other
  n1 : one.Nodup
  n2 : other.Nodup
  ne : (one.all (isIn one other)) ≠ other.all (isIn one other)
theorem Pair.un {one other : Beat} (h : Pair one other) : one ≠ other := fun e => h.ne (by rw [e])
def sdPart : SpF := fun ds Q => ∃ one other : Beat, ds = [bD one, bD other] ∧ Pair one other ∧ ∀ a, Q (.adr a) [(a, .dK (tab (isIn one other) (both one other)))]
theorem m_Part : MonoSF sdPart := fun ds P P' f ⟨o, p, e, h, q⟩ => ⟨o, p, e, h, fun a => f _ _ (q a)⟩
def sdPartD : SpD := fun ds Q => ∃ one other : Beat, ds = [bD one, bD other] ∧ Pair one other ∧ Q (.dK (tab (isIn one other) (both one other)))
def partFs (b : Beat) : List (Str × D) := [("row", .non), ("place", .non), ("one", bD b), ("other", bD b)]
def sxPart (nb : Addr) : SpX := fun ds _ R => ∃ b : Beat, ds = [bD b, bD b] ∧ GoodB 8 b ∧ R nb (partFs b)
def gIn (ys : List Str) : D → D
  | .str x => .bl (ys.contains x)
  | _ => .non
theorem in_strs (n : Str) (l : List Str) : inD (.str n) (l.map D.str) = l.contains n := by
  unfold inD
  rw [List.any_map, List.contains_eq_any_beq]
  congr 1
  funext x
  show (x == n) = (n == x)
  exact Bool.beq_comm
theorem flat_strs (l : List Str) : (l.map D.str).all flatD = true := by
  rw [List.all_eq_true]
  intro d hd
  obtain ⟨x, _, rfl⟩ := List.mem_map.mp hd
  rfl
section
seal wpAny
variable {P : Program} {w : World} {K : PySem.W.Frag} {mg : Str → Option Value} {base : Heap} {n j : Nat} {nb : Addr}
theorem cf_parting (d : Df K mg "parting" s_parting ["one", "other"]) (n_all : mg "all" = none) : CalF P w K mg base (j + 1) "parting" ["one", "other"] sdPart := by
  refine d.calF sc_parting m_Part (fun ds Q ⟨o, p, e, _⟩ => by rw [e]; rfl) (fun f cdv A outer s H E hr => have hu := hr.units; have hh := hr.hd; have sc := sc_parting
    (ms_cons (ms_if (t_eq hu (dv 0) (dv 1)) (ms_one (ms_lift s_never)) ms_nil)
  (ms_cons (ms_lift (s_set (i := 2) sc.nd rfl (Or.inl rfl) (d_all hh (by rfl) n_all (a_cons (d_lc (x := "name") (caps := [1]) (cn := ["other"]) (cl := [("other", s.heap.objs.size + 1)]) (compN (by rfl) (by rfl) (by decide +kernel) (free_of ["other"] rfl (by decide +kernel)) (by decide +kernel) (cells_cons (by rfl) cells_nil) (.cons ⟨rfl, .inl rfl, rfl⟩ .nil)) rfl (i_any (dv 0)) (fun C fp s₂ H₂ => pg_name (i := 0) (show (["name", "other"] : List Str).Nodup by decide +kernel) rfl (Or.inl rfl) (.inr rfl)) (fun C fp s₂ H₂ => ts_nil) (fun C fp s₂ H₂ => (d_in (dv 0) (dv 1) (by rfl)))) a_nil))))
  (ms_cons (ms_lift (s_set (i := 3) sc.nd rfl (Or.inl rfl) (d_if (t_tru (dv 2)) (dv 0) (dv 1))))
  (ms_cons (ms_setN (i := 4) sc.nd rfl (Or.inl rfl) f_dict0)
  (ms_cons (ms_for PassesOwn.never rfl (i_any (d_add (dv 0) (dv 1))) (g_name (i := 5) sc.nd rfl (Or.inl rfl)) (ms_one (ms_dset (i := 4) hu rfl (Or.inl rfl) (dv 5) (d_in (dv 5) (dv 3) (by rfl)))))
  (ms_one (ms_lift (s_ret (dv 4)))))))))) ?_
  rintro ds Q ⟨one, other, rfl, hp, q⟩
  have hlen : one.length + other.length ≤ sizeLine := Nat.le_trans (show one.length + other.length ≤ 16 by have := hp.g1.len; have := hp.g2.len; omega) (by decide)
  refine ⟨bD one, rfl, bD other, rfl, eqB hp.g1 hp.g2 ⟨false, by rw [decide_eq_false hp.un]; rfl, iteF ?_⟩⟩
  refine ⟨bD one, rfl, one.map D.str, rfl, mO (gIn other) (one.map D.str), mO_len, fun i d o h1 h2 => ?_, ?_, ?_⟩
  · obtain ⟨hd, rfl⟩ := mO_at h1 h2
    obtain ⟨x, _, rfl⟩ := List.mem_map.mp hd
    refine ⟨rfl, fun _ => ⟨.str x, rfl, bD other, rfl, rfl, flat_strs other, ?_⟩⟩
    show some (D.bl (other.contains x)) = some (.bl (inD (.str x) (other.map D.str)))
    rw [in_strs]
  · rw [List.length_map]
    exact Nat.lt_of_le_of_lt hp.g1.len (by decide)
  rw [mO_out]
  refine ⟨one.map fun x => other.contains x, by rw [List.map_map, List.map_map]; rfl, ?_⟩
  rw [show ((one.map fun x => other.contains x).all id) = hasAll one other by rw [List.all_map]; rfl]
  refine ⟨_, rfl, hasAll one other, rfl, ?_⟩
  cases hh : hasAll one other with
  | true =>
    have ec : comesOf one other = one := by unfold comesOf; rw [hh]; rfl
    refine iteT ⟨bD one, rfl, ?_⟩
    intro a _
    refine ⟨bD one, rfl, bD other, rfl, ?_, one.map D.str ++ other.map D.str, rfl, fun i δ μ => (∃ x5, δ = [some (bD one), some (bD other), some (.bl (hasAll one other)), some (bD one), some (.adr a), x5]) ∧ μ = [(a, .dK (tab (isIn one other) (((one ++ other).take i).foldl addK [])))], ⟨⟨none, by rw [hh]; rfl⟩, rfl⟩, ?_, ?_⟩
    · rw [List.length_map, List.length_map]; exact hlen
    · rintro i d δ μ hd ⟨⟨x5, rfl⟩, rfl⟩
      rw [← List.map_append, List.getElem?_map] at hd
      cases hx : (one ++ other)[i]? with
      | none => rw [hx] at hd; cases hd
      | some x =>
        rw [hx] at hd
        obtain rfl : D.str x = d := by simpa using hd
        refine ⟨.str x, rfl, bD one, rfl, rfl, flat_strs one, a, _, rfl, look1, ?_, .str x, rfl, .inr x, rfl, ⟨_, rfl⟩, ?_⟩
        · unfold tab
          rw [List.length_map]
          exact Nat.lt_of_le_of_lt (fold_len _ _) (by rw [List.length_nil, List.length_take]; exact Nat.lt_of_le_of_lt (Nat.le_trans (Nat.add_le_add_left (Nat.min_le_right _ _) 0) (show 0 + (one ++ other).length ≤ 16 by rw [List.length_append]; have := hp.g1.len; have := hp.g2.len; omega)) (by decide))
        · rw [put1]
          show [(a, MD.dK (putKD _ (.inr x) (.bl (inD (.str x) (List.map D.str one)))))] = _
          rw [in_strs, show one.contains x = isIn one other x by unfold isIn; rw [ec], tab_put, List.take_succ, hx, List.foldl_append]
          rfl
    · rintro δ μ ⟨⟨x5, rfl⟩, rfl⟩
      have e : ((one ++ other).take (one.map D.str ++ other.map D.str).length).foldl addK [] = both one other := by
        rw [List.length_append, List.length_map, List.length_map, ← List.length_append, List.take_length]
        exact add_both hp.n1 hp.n2
      rw [e]
      exact ⟨_, rfl, q a⟩
  | false =>
    have ec : comesOf one other = other := by unfold comesOf; rw [hh]; rfl
    refine iteF ⟨bD other, rfl, ?_⟩
    intro a _
    refine ⟨bD one, rfl, bD other, rfl, ?_, one.map D.str ++ other.map D.str, rfl, fun i δ μ => (∃ x5, δ = [some (bD one), some (bD other), some (.bl (hasAll one other)), some (bD other), some (.adr a), x5]) ∧ μ = [(a, .dK (tab (isIn one other) (((one ++ other).take i).foldl addK [])))], ⟨⟨none, by rw [hh]; rfl⟩, rfl⟩, ?_, ?_⟩
    · rw [List.length_map, List.length_map]; exact hlen
    · rintro i d δ μ hd ⟨⟨x5, rfl⟩, rfl⟩
      rw [← List.map_append, List.getElem?_map] at hd
      cases hx : (one ++ other)[i]? with
      | none => rw [hx] at hd; cases hd
      | some x =>
        rw [hx] at hd
        obtain rfl : D.str x = d := by simpa using hd
        refine ⟨.str x, rfl, bD other, rfl, rfl, flat_strs other, a, _, rfl, look1, ?_, .str x, rfl, .inr x, rfl, ⟨_, rfl⟩, ?_⟩
        · unfold tab
          rw [List.length_map]
          exact Nat.lt_of_le_of_lt (fold_len _ _) (by rw [List.length_nil, List.length_take]; exact Nat.lt_of_le_of_lt (Nat.le_trans (Nat.add_le_add_left (Nat.min_le_right _ _) 0) (show 0 + (one ++ other).length ≤ 16 by rw [List.length_append]; have := hp.g1.len; have := hp.g2.len; omega)) (by decide))
        · rw [put1]
          show [(a, MD.dK (putKD _ (.inr x) (.bl (inD (.str x) (List.map D.str other)))))] = _
          rw [in_strs, show other.contains x = isIn one other x by unfold isIn; rw [ec], tab_put, List.take_succ, hx, List.foldl_append]
          rfl
    · rintro δ μ ⟨⟨x5, rfl⟩, rfl⟩
      have e : ((one ++ other).take (one.map D.str ++ other.map D.str).length).foldl addK [] = both one other := by
        rw [List.length_append, List.length_map, List.length_map, ← List.length_append, List.take_length]
        exact add_both hp.n1 hp.n2
      rw [e]
      exact ⟨_, rfl, q a⟩
theorem c_parting (c : CalF P w K mg base j "parting" ["one", "other"] sdPart) : Cal P w K mg base j "parting" ["one", "other"] sdPartD :=
  c.cal (fun ds P P' f ⟨o, p, e, h, q⟩ => ⟨o, p, e, h, f _ q⟩) fun ds Q ⟨o, p, e, h, q⟩ => ⟨o, p, e, h, fun a => by show Q (viewD _ (.adr a)); rw [view1]; exact q⟩
theorem cx_parting {i : Nat} (hi : i + 1 ≤ j) (d : Df K mg "parting" s_parting ["one", "other"]) (n_all : mg "all" = none) (ke_NoBeat : MkE P w K mg base i "NoBeat" nb ["row", "place", "one", "other"]) (bm_NoBeat : PySem.W.mroIn K nb (.type "BaseException") = some true) (bt_NoBeat : PySem.W.typeIn K (.ref nb) = some (.type "type")) :
    CalX P w K mg base (j + 1) "parting" ["one", "other"] (sxPart nb) := by
  refine d.calMX sc_parting (fun ds P P' R R' f g ⟨b, e, h, q⟩ => ⟨b, e, h, g _ _ q⟩) (fun ds Q R ⟨b, e, _⟩ => by rw [e]; rfl) (fun f cdv A outer s H E R hr hx => have hu := hr.units; have hh := hr.hd; have sc := sc_parting
    (ms_cons (ms_if (t_eq hu (dv 0) (dv 1)) (ms_one (ms_lift (s_raiseE hx rfl rfl ke_NoBeat bm_NoBeat bt_NoBeat hr (by omega) (by rfl) (a_cons d_non (a_cons d_non (a_cons (dv 0) (a_cons (dv 1) a_nil))))))) ms_nil)
  (ms_cons (ms_lift (s_set (i := 2) sc.nd rfl (Or.inl rfl) (d_all hh (by rfl) n_all (a_cons (d_lc (x := "name") (caps := [1]) (cn := ["other"]) (cl := [("other", s.heap.objs.size + 1)]) (compN (by rfl) (by rfl) (by decide +kernel) (free_of ["other"] rfl (by decide +kernel)) (by decide +kernel) (cells_cons (by rfl) cells_nil) (.cons ⟨rfl, .inl rfl, rfl⟩ .nil)) rfl (i_any (dv 0)) (fun C fp s₂ H₂ => pg_name (i := 0) (show (["name", "other"] : List Str).Nodup by decide +kernel) rfl (Or.inl rfl) (.inr rfl)) (fun C fp s₂ H₂ => ts_nil) (fun C fp s₂ H₂ => (d_in (dv 0) (dv 1) (by rfl)))) a_nil))))
  (ms_cons (ms_lift (s_set (i := 3) sc.nd rfl (Or.inl rfl) (d_if (t_tru (dv 2)) (dv 0) (dv 1))))
  (ms_cons (ms_setN (i := 4) sc.nd rfl (Or.inl rfl) f_dict0)
  (ms_cons (ms_for PassesOwn.leaving rfl (i_any (d_add (dv 0) (dv 1))) (g_name (i := 5) sc.nd rfl (Or.inl rfl)) (ms_one (ms_dset (i := 4) hu rfl (Or.inl rfl) (dv 5) (d_in (dv 5) (dv 3) (by rfl)))))
  (ms_one (ms_ret (dv 4))))))))) ?_
  rintro ds Q R ⟨b, rfl, hb, q⟩
  exact ⟨bD b, rfl, bD b, rfl, eqB hb hb ⟨true, by rw [decide_eq_true rfl]; rfl, iteT ⟨bD b, rfl, bD b, rfl, rfl, q⟩⟩⟩
end
end K34

-- gen set dget _law_found _law_truths
set_option maxHeartbeats 4000000
namespace K34
open PySem PySem.Spec PyProof.Rows L2 DC
def pNot (f : Str → Bool) : D → Bool
  | .str x => !f x
  | _ => false
theorem flt (p : D → Bool) (l : List Str) : ((l.map D.str).filter p).map id = (l.filter fun x => p (.str x)).map D.str := by
  rw [List.map_id, List.filter_map]
  rfl
theorem none_all (f : Str → Bool) : ∀ l : List Str, (l.filter fun x => pNot f (.str x)).isEmpty = l.all f
  | [] => rfl
  | x :: l => by
    rw [List.filter_cons, List.all_cons, ← none_all f l]
    show (if (!f x) = true then _ else _ : List Str).isEmpty = _
    cases f x <;> rfl
def sdComes : SpD := fun ds Q => ∃ (b : Beat) (f : Str → Bool) (ks : List Str), ds = [bD b, .dK (tab f ks)] ∧ GoodB 8 b ∧ (∀ x ∈ b, x ∈ ks) ∧ Q (.bl (b.all f))
def sdGood : SpD := fun ds Q => ∃ (one other : Beat) (f : Str → Bool), ds = [.dK (tab f (both one other)), bD one, bD other] ∧ GoodB 8 one ∧ GoodB 8 other ∧ one.all f ≠ other.all f ∧ Q (.bl true)
theorem both1 {one other : Beat} {x : Str} (h : x ∈ one) : x ∈ both one other := List.mem_append_left _ h
theorem both2 {one other : Beat} {x : Str} (h : x ∈ other) : x ∈ both one other := by
  by_cases e : x ∈ one
  · exact both1 e
  · exact List.mem_append_right _ (List.mem_filter.mpr ⟨h, by simp [e]⟩)
theorem both_ok {one other : Beat} (h1 : GoodB 8 one) (h2 : GoodB 8 other) : (both one other).length ≤ 16 ∧ ∀ x ∈ both one other, PyData.strOk x = true := by
  refine ⟨?_, fun x hx => ?_⟩
  · unfold both
    rw [List.length_append]
    have a := h1.len
    have b := h2.len
    have c := List.length_filter_le (fun x => !one.contains x) other
    omega
  · rcases List.mem_append.mp hx with hx | hx
    · exact h1.str x hx
    · exact h2.str x (List.mem_filter.mp hx).1
theorem tab_keys (f : Str → Bool) (ks : List Str) : (tab f ks).map (·.1) = ks.map Sum.inr := by unfold tab; rw [List.map_map]; rfl
theorem bl_ne {a b : Bool} {Q : D → Prop} (h : a ≠ b) (q : Q (.bl true)) : fEq true (.bl a) (.bl b) Q := by
  cases a <;> cases b
  · exact absurd rfl h
  · exact q
  · exact q
  · exact absurd rfl h
section
seal wpAny
variable {P : Program} {w : World} {K : PySem.W.Frag} {mg : Str → Option Value} {base : Heap} {n j : Nat}
theorem c_comes (d : Df K mg "_law_comes" s__law_comes ["_law_beat", "_law_truths"]) : Cal P w K mg base (j + 1) "_law_comes" ["_law_beat", "_law_truths"] sdComes := by
  refine d.cal sc__law_comes (fun ds P P' g ⟨b, f, ks, e, h1, h2, q⟩ => ⟨b, f, ks, e, h1, h2, g _ q⟩) (fun ds Q ⟨b, f, ks, e, _⟩ => by rw [e]; rfl) (fun f cdv A outer s H E hr => have hu := hr.units; have hh := hr.hd; have sc := sc__law_comes
    (ss_one (s_ret (d_eq hu (d_lc (x := "_law_name") (caps := [1]) (cn := ["_law_truths"]) (cl := [("_law_truths", s.heap.objs.size + 1)]) (compN (by rfl) (by rfl) (by decide +kernel) (free_of ["_law_truths"] rfl (by decide +kernel)) (by decide +kernel) (cells_cons (by rfl) cells_nil) (.cons ⟨rfl, .inl rfl, rfl⟩ .nil)) rfl (i_any (dv 0)) (fun C fp s₂ H₂ => pg_name (i := 0) (show (["_law_name", "_law_truths"] : List Str).Nodup by decide +kernel) rfl (Or.inl rfl) (.inr rfl)) (fun C fp s₂ H₂ => (ts_one (t_not (t_tru (d_dget hu (dv 1) (dv 0) (fun _ _ => rfl)))))) (fun C fp s₂ H₂ => (dv 0))) (d_lst a_nil))))) ?_
  rintro ds Q ⟨b, f, ks, rfl, hb, hin, q⟩
  refine ⟨bD b, rfl, b.map D.str, rfl, fO (pNot f) id (b.map D.str), fO_len, fun i d o h1 h2 => ?_, ?_, ?_⟩
  · obtain ⟨hd, ho⟩ := fO_at h1 h2
    obtain ⟨x, hx, rfl⟩ := List.mem_map.mp hd
    exact ⟨.dK (tab f ks), rfl, .str x, rfl, tab f ks, .inr x, .bl (f x), rfl, rfl, tab_get f (hin x hx), f x, rfl, fO_one (p := pNot f) (g := id) ho ⟨.str x, rfl, rfl⟩⟩
  · rw [List.length_map]
    exact Nat.lt_of_le_of_lt hb.len (by decide)
  rw [fO_out, flt]
  refine ⟨(show 0 ≤ sizeLine by decide), eqNilS (fun x hx => hb.str x (List.mem_filter.mp hx).1) ?_⟩
  rw [none_all]
  exact q
theorem c_good (d : Df K mg "_law_good" s__law_good ["_law_found", "_law_one", "_law_other"]) (n_list : mg "list" = none) (n_isinstance : mg "isinstance" = none) (n_dict : mg "dict" = none) (n_bool : mg "bool" = none) (n_sorted : mg "sorted" = none) (c__law_comes : Cal P w K mg base j "_law_comes" ["_law_beat", "_law_truths"] sdComes) :
    Cal P w K mg base (j + 1) "_law_good" ["_law_found", "_law_one", "_law_other"] sdGood := by
  refine d.cal sc__law_good (fun ds P P' g ⟨b, c, f, e, h1, h2, h3, q⟩ => ⟨b, c, f, e, h1, h2, h3, g _ q⟩) (fun ds Q ⟨b, c, f, e, _⟩ => by rw [e]; rfl) (fun f cdv A outer s H E hr => have hu := hr.units; have hh := hr.hd; have sc := sc__law_good
    (ss_cons (s_set (i := 3) sc.nd rfl (Or.inl rfl) (d_add (d_list_of (by rfl) n_list (a_cons (dv 1) a_nil)) (d_lc (x := "_law_name") (caps := [1]) (cn := ["_law_one"]) (cl := [("_law_one", s.heap.objs.size + 2)]) (compN (by rfl) (by rfl) (by decide +kernel) (free_of ["_law_one"] rfl (by decide +kernel)) (by decide +kernel) (cells_cons (by rfl) cells_nil) (.cons ⟨rfl, .inl rfl, rfl⟩ .nil)) rfl (i_any (dv 2)) (fun C fp s₂ H₂ => pg_name (i := 0) (show (["_law_name", "_law_one"] : List Str).Nodup by decide +kernel) rfl (Or.inl rfl) (.inr rfl)) (fun C fp s₂ H₂ => (ts_one (t_notin (dv 0) (dv 1) (by rfl)))) (fun C fp s₂ H₂ => (dv 0)))))
  (ss_cons (s_if (PWd.td (w_or (t_not (t_tru (isi_dict (by rfl) n_isinstance (by rfl) n_dict (dv 0)))) (w_or1 (t_ne hu (d_sorted hh (by rfl) n_sorted (a_cons (dv 0) a_nil)) (d_sorted hh (by rfl) n_sorted (a_cons (dv 3) a_nil)))))) (ss_one (s_ret d_bl)) ss_nil)
  (ss_cons (s_if (t_ne hu (d_lc (x := "_law_name") (caps := [0]) (cn := ["_law_found"]) (cl := [("_law_found", s.heap.objs.size + 1)]) (compN (by rfl) (by rfl) (by decide +kernel) (free_of ["_law_found"] rfl (by decide +kernel)) (by decide +kernel) (cells_cons (by rfl) cells_nil) (.cons ⟨rfl, .inl rfl, rfl⟩ .nil)) rfl (i_any (dv 3)) (fun C fp s₂ H₂ => pg_name (i := 0) (show (["_law_name", "_law_found"] : List Str).Nodup by decide +kernel) rfl (Or.inl rfl) (.inr rfl)) (fun C fp s₂ H₂ => (ts_one (t_not (t_tru (isi_bool (by rfl) n_isinstance (by rfl) n_bool (d_dget hu (dv 1) (dv 0) (fun _ _ => rfl))))))) (fun C fp s₂ H₂ => (dv 0))) (d_lst a_nil)) (ss_one (s_ret d_bl)) ss_nil)
  (ss_one (s_ret (d_ne hu (d_cal c__law_comes hr (by omega) (by rfl) (a_cons (dv 1) (a_cons (dv 0) a_nil))) (d_cal c__law_comes hr (by omega) (by rfl) (a_cons (dv 2) (a_cons (dv 0) a_nil)))))))))) ?_
  rintro ds Q ⟨one, other, f, rfl, g1, g2, hne, q⟩
  obtain ⟨hl, hs⟩ := both_ok g1 g2
  refine ⟨bD one, rfl, one.map D.str, .inr rfl, bD other, rfl, other.map D.str, rfl, fO (pNot fun x => one.contains x) id (other.map D.str), fO_len, fun i d o h1 h2 => ?_, ?_, ?_⟩
  · obtain ⟨hd, ho⟩ := fO_at h1 h2
    obtain ⟨x, hx, rfl⟩ := List.mem_map.mp hd
    refine ⟨.str x, rfl, bD one, rfl, rfl, flat_strs one, !one.contains x, ?_, fO_one (p := pNot fun x => one.contains x) (g := id) ho ⟨.str x, rfl, rfl⟩⟩
    show D.bl (!inD (.str x) (one.map D.str)) = _
    rw [in_strs]
  · rw [List.length_map]
    exact Nat.lt_of_le_of_lt g2.len (by decide)
  rw [fO_out, flt]
  have el : one.map D.str ++ (other.filter fun x => pNot (fun x => one.contains x) (.str x)).map D.str = (both one other).map D.str := by rw [← List.map_append]; rfl
  refine ⟨?_, ?_⟩
  · rw [← List.length_append, el, List.length_map]
    exact Nat.le_trans hl (by decide)
  rw [el]
  refine ⟨.dK (tab f (both one other)), rfl, true, rfl, true, rfl, iteF ?_⟩
  refine ⟨.dK (tab f (both one other)), rfl, both one other, .inr ⟨_, rfl, tab_keys _ _⟩, by omega, fun s1 p1 o1 => ?_⟩
  refine ⟨.lst ((both one other).map D.str), rfl, both one other, .inl rfl, by omega, fun s2 p2 o2 => ?_⟩
  have es : s1 = s2 := sorted_one (p1.trans p2.symm) o1 o2
  subst es
  refine self_eq rfl (lay_l fun x hx => hs x (p1.mem_iff.mp hx)) (by decide) ⟨false, rfl, iteF ?_⟩
  refine ⟨.lst ((both one other).map D.str), rfl, (both one other).map D.str, rfl, fO (fun _ => false) id ((both one other).map D.str), fO_len, fun i d o h1 h2 => ?_, ?_, ?_⟩
  · obtain ⟨hd, ho⟩ := fO_at h1 h2
    obtain ⟨x, hx, rfl⟩ := List.mem_map.mp hd
    exact ⟨.dK (tab f (both one other)), rfl, .str x, rfl, tab f (both one other), .inr x, .bl (f x), rfl, rfl, tab_get f hx, true, rfl, true, rfl, fO_one (p := fun _ => false) (g := id) ho ⟨.str x, rfl, rfl⟩⟩
  · rw [List.length_map]
    exact Nat.lt_of_le_of_lt hl (by decide)
  rw [fO_out, flt, show ((both one other).filter fun x => (fun _ : D => false) (.str x)) = [] by simp]
  refine ⟨(show 0 ≤ sizeLine by decide), eqNilS (l := []) (fun x hx => nomatch hx) ⟨false, rfl, iteF ?_⟩⟩
  exact ⟨bD one, rfl, _, rfl, one, f, _, rfl, g1, fun x hx => both1 hx, bD other, rfl, _, rfl, other, f, _, rfl, g2, fun x hx => both2 hx, bl_ne hne q⟩
end
end K34

-- gen set Xf parting
-- gen set EX NoBeat
-- gen set U _law_marks
-- gen set excn _law_e
-- gen set dcl _law_found
-- gen set deadf _law_parted
set_option maxHeartbeats 4000000
namespace K34
open PySem PySem.Spec PyProof.Rows L2 DC
structure KindOf (K : PySem.W.Frag) (C : Addr) (cs : List Addr) (bs : List Bool) : Prop where
  ty : ExcTy K C
  at_ : ∀ (i : Nat) (c : Addr) (b : Bool), cs[i]? = some c → bs[i]? = some b → PySem.W.kitOne K (.ref C) (.ref c) = some b
  ve : PySem.W.kitOne K (.ref C) (.type "ValueError") = some true
def beatBs : List Bool := [false, true, false, false, false, false, false, false, false, false, false]
def marksL : List D := [.bl false, .bl true, .bl false, .bl false, .bl false, .bl false, .bl false, .bl false, .bl false, .bl false, .bl false, .bl false]
def sdMarks (nb : Addr) : SpD := fun ds Q => ∃ (a : Addr) (gs : List (Str × D)), ds = [.exc a nb gs] ∧ Q (.lst marksL)
theorem m_marks {nb : Addr} : MonoS (sdMarks nb) := fun ds P P' f ⟨a, k, e, q⟩ => ⟨a, k, e, f _ q⟩
structure KAll (K : PySem.W.Frag) (mg : Str → Option Value) (nb : Addr) : Prop where
  ex : ∃ c1 c3 c4 c5 c6 c7 c8 c9 c10 c11 : Addr, mg "NoKind" = some (.ref c1) ∧ mg "NoBeat" = some (.ref nb) ∧ mg "Ring" = some (.ref c3) ∧ mg "NoSheet" = some (.ref c4) ∧ mg "NoName" = some (.ref c5) ∧ mg "NoPart" = some (.ref c6) ∧ mg "NoInput" = some (.ref c7) ∧ mg "NoState" = some (.ref c8) ∧ mg "NoClaim" = some (.ref c9) ∧ mg "TooMany" = some (.ref c10) ∧ mg "NoText" = some (.ref c11) ∧
    KindOf K nb [c1, nb, c3, c4, c5, c6, c7, c8, c9, c10, c11] beatBs
structure BEx (K : PySem.W.Frag) (nb : Addr) : Prop where
  pg : ExcGet K nb
  hd : PySem.W.hasDictIn K nb = true
  f1 : PySem.W.findIn K (.ref nb) "row" = some none
  f2 : PySem.W.findIn K (.ref nb) "place" = some none
  f3 : PySem.W.findIn K (.ref nb) "one" = some none
  f4 : PySem.W.findIn K (.ref nb) "other" = some none
theorem boot_ValueError : bootBuiltins "ValueError" = some (.type "ValueError") := by kernel_rfl
def sxEq : SpX := fun ds Q _ => ∃ b : Beat, ds = [bD b, bD b] ∧ GoodB 8 b ∧ Q (.bl true)
def sxUn : SpX := fun ds Q _ => ∃ one other : Beat, ds = [bD one, bD other] ∧ Pair one other ∧ Q (.bl true)
theorem m_sxEq : MonoX sxEq := fun ds P P' R R' f g ⟨b, e, h, q⟩ => ⟨b, e, h, f _ q⟩
theorem m_sxUn : MonoX sxUn := fun ds P P' R R' f g ⟨b, c, e, h, q⟩ => ⟨b, c, e, h, f _ q⟩
theorem lay_marks : Lay 1 (.lst marksL) := ⟨by decide +kernel, by decide +kernel, by decide +kernel⟩
section
seal wpAny
variable {P : Program} {w : World} {K : PySem.W.Frag} {mg : Str → Option Value} {base : Heap} {n j : Nat} {nb cR : Addr}
theorem cu_marks (d : Df K mg "_law_marks" s__law_marks ["_law_e"]) (n_isinstance : mg "isinstance" = none) (n_ValueError : mg "ValueError" = none) (k11 : KAll K mg nb) : CalU P w K mg base (j + 1) "_law_marks" ["_law_e"] (sdMarks nb) := by
  obtain ⟨c1, c3, c4, c5, c6, c7, c8, c9, c10, c11, i_NoKind, i_NoBeat, i_Ring, i_NoSheet, i_NoName, i_NoPart, i_NoInput, i_NoState, i_NoClaim, i_TooMany, i_NoText, kn⟩ := k11.ex
  refine d.calU sc__law_marks m_marks (fun ds Q ⟨a, k, e, _⟩ => by rw [e]; rfl) (fun f cdv A outer s H E hr hho => have hu := roomU_units hr; have sc := sc__law_marks
    (ss_cons (s_set (i := 1) sc.nd rfl (Or.inl rfl) (d_lst (a_cons (d_isiEC K rfl (dv 0) (by rfl) n_isinstance (by rfl) i_NoKind) (a_cons (d_isiEC K rfl (dv 0) (by rfl) n_isinstance (by rfl) i_NoBeat) (a_cons (d_isiEC K rfl (dv 0) (by rfl) n_isinstance (by rfl) i_Ring) (a_cons (d_isiEC K rfl (dv 0) (by rfl) n_isinstance (by rfl) i_NoSheet) a_nil))))))
  (ss_cons (s_set (i := 1) sc.nd rfl (Or.inl rfl) (d_add (dv 1) (d_lst (a_cons (d_isiEC K rfl (dv 0) (by rfl) n_isinstance (by rfl) i_NoName) (a_cons (d_isiEC K rfl (dv 0) (by rfl) n_isinstance (by rfl) i_NoPart) (a_cons (d_isiEC K rfl (dv 0) (by rfl) n_isinstance (by rfl) i_NoInput) (a_cons (d_isiEC K rfl (dv 0) (by rfl) n_isinstance (by rfl) i_NoState) a_nil)))))))
  (ss_cons (s_set (i := 1) sc.nd rfl (Or.inl rfl) (d_add (dv 1) (d_lst (a_cons (d_isiEC K rfl (dv 0) (by rfl) n_isinstance (by rfl) i_NoClaim) (a_cons (d_isiEC K rfl (dv 0) (by rfl) n_isinstance (by rfl) i_TooMany) (a_cons (d_isiEC K rfl (dv 0) (by rfl) n_isinstance (by rfl) i_NoText) a_nil))))))
  (ss_one (s_ret (d_add (dv 1) (d_lst (a_cons (d_not (d_isiET K rfl (dv 0) (by rfl) n_isinstance (by rfl) n_ValueError boot_ValueError)) a_nil))))))))) ?_
  rintro ds Q ⟨a, gs, rfl, q⟩
  refine ⟨_, rfl, a, _, _, false, rfl, kn.ty, kn.at_ 0 _ _ rfl rfl, _, rfl, a, _, _, true, rfl, kn.ty, kn.at_ 1 _ _ rfl rfl, _, rfl, a, _, _, false, rfl, kn.ty, kn.at_ 2 _ _ rfl rfl, _, rfl, a, _, _, false, rfl, kn.ty, kn.at_ 3 _ _ rfl rfl, (show 4 ≤ sizeLine by decide), ?_⟩
  refine ⟨_, rfl, _, rfl, a, _, _, false, rfl, kn.ty, kn.at_ 4 _ _ rfl rfl, _, rfl, a, _, _, false, rfl, kn.ty, kn.at_ 5 _ _ rfl rfl, _, rfl, a, _, _, false, rfl, kn.ty, kn.at_ 6 _ _ rfl rfl, _, rfl, a, _, _, false, rfl, kn.ty, kn.at_ 7 _ _ rfl rfl, (show 4 ≤ sizeLine by decide), (show 8 ≤ sizeLine by decide), ?_⟩
  refine ⟨_, rfl, _, rfl, a, _, _, false, rfl, kn.ty, kn.at_ 8 _ _ rfl rfl, _, rfl, a, _, _, false, rfl, kn.ty, kn.at_ 9 _ _ rfl rfl, _, rfl, a, _, _, false, rfl, kn.ty, kn.at_ 10 _ _ rfl rfl, (show 3 ≤ sizeLine by decide), (show 11 ≤ sizeLine by decide), ?_⟩
  exact ⟨_, rfl, _, rfl, a, _, _, true, rfl, kn.ty, kn.ve, true, rfl, (show 1 ≤ sizeLine by decide), (show 12 ≤ sizeLine by decide), q⟩
theorem cx_parted (d : Df K mg "_law_parted" s__law_parted ["_law_one", "_law_other"]) (i_RowError : mg "RowError" = some (.ref cR)) (hk : PySem.W.kitCls K (.ref nb) (.ref cR) = some true) (be_RowError : PySem.W.mroIn K cR (.type "BaseException") = some true) (ex : BEx K nb)
    (cx_parting : CalX P w K mg base j "parting" ["one", "other"] (sxPart nb)) (cf_parting : CalF P w K mg base j "parting" ["one", "other"] sdPart) (c_parting : Cal P w K mg base j "parting" ["one", "other"] sdPartD) (c__law_good : Cal P w K mg base j "_law_good" ["_law_found", "_law_one", "_law_other"] sdGood) (cu__law_marks : CalU P w K mg base j "_law_marks" ["_law_e"] (sdMarks nb)) :
    CalX P w K mg base (j + 1) "_law_parted" ["_law_one", "_law_other"] (fun ds Q R => sxEq ds Q R ∨ sxUn ds Q R) := by
  have hit_RowError : ∀ C, C = nb → PySem.W.kitCls K (.ref C) (.ref cR) = some true := fun C e => e ▸ hk
  refine d.calX2 sc__law_parted m_sxEq m_sxUn (fun ds Q R ⟨b, e, _⟩ => by rw [e]; rfl) (fun ds Q R ⟨b, c, e, _⟩ => by rw [e]; rfl) (fun f cdv A outer s H E R hr hx => have hu := hr.units; have hh := hr.hd; have sc := sc__law_parted
    (ff_cons (ff_try (i := 3) rfl rfl rfl sc.nd rfl rfl (by rfl) i_RowError hit_RowError be_RowError (fun pins E' xk hx => (ss_one (s_set (i := 2) sc.nd rfl (Or.inl rfl) (d_calX hx cx_parting hr (by omega) (by rfl) (a_cons (dv 0) (a_cons (dv 1) a_nil))))))
  (fun ea => (ss_cons (s_if (PWd.td (w_or (t_ne hu (dv 0) (dv 1)) (w_or1 (t_ne hu (d_calU rfl cu__law_marks (hr.mark _) (by omega) (by rfl) (a_cons (dv 3) a_nil)) (d_add (d_lst (a_ck (by rfl))) (d_repL (a_ck (by rfl)))))))) (ss_one (s_ret d_bl)) ss_nil)
  (ss_one (s_ret (d_and (d_is (d_fldE K rfl (dv 3) (by rfl)) d_non) (d_and (d_is (d_fldE K rfl (dv 3) (by rfl)) d_non) (d_and (d_eq hu (d_fldE K rfl (dv 3) (by rfl)) (dv 0)) (d_one (d_eq hu (d_fldE K rfl (dv 3) (by rfl)) (dv 1)))))))))))
  (ff_all ss_never))) (fun f cdv A outer s H E R hr hx => have hu := hr.units; have hh := hr.hd; have sc := sc__law_parted
    (ms_cons (ms_try fun pins E => (ms_one (ms_setN (i := 2) sc.nd rfl (Or.inl rfl) (f_cal cf_parting hr (by omega) (by rfl) (a_cons (dv 0) (a_cons (dv 1) a_nil))))))
  (ms_cons (ms_if (PWd.td (w_or (t_eq hu (dv 0) (dv 1)) (w_or1 (t_not (t_tru (d_cal c__law_good hr (by omega) (by rfl) (a_cons (dv 2) (a_cons (dv 0) (a_cons (dv 1) a_nil))))))))) (ms_one (ms_ret d_bl)) ms_nil)
  (ms_cons (ms_dclear (i := 2) rfl (Or.inl rfl))
  (ms_one (ms_ret (d_cal c__law_good hr (by omega) (by rfl) (a_cons (d_cal c_parting hr (by omega) (by rfl) (a_cons (dv 0) (a_cons (dv 1) a_nil))) (a_cons (dv 0) (a_cons (dv 1) a_nil)))))))))) ?_ ?_
  · rintro ds Q R ⟨b, rfl, hb, q⟩
    refine ⟨fun δ C (gs : List (Str × D)) => C = nb ∧ δ = startD ["_law_one", "_law_other", "_law_found", "_law_e"] [bD b, bD b] ∧ gs = partFs b, ?_, ?_⟩
    · rintro δ C gs ⟨rfl, rfl, rfl⟩
      refine ⟨rfl, fun a => ?_⟩
      refine ⟨bD b, rfl, bD b, rfl, eqB hb hb ⟨false, by rw [decide_eq_true rfl]; rfl, iteF ?_⟩⟩
      refine ⟨_, rfl, ⟨_, _, List.mem_singleton.mpr rfl⟩, a, _, rfl, (show 2 ≤ sizeLine by decide), (show 1 ≤ sizeLine by decide), (by decide), (by decide), (by decide), (show 12 ≤ sizeLine by decide), self_eq rfl lay_marks (by decide) ⟨false, rfl, iteF ?_⟩⟩
      exact ⟨_, rfl, a, _, _, .non, rfl, ex.pg, ex.hd, ex.f1, rfl, true, rfl, iteT ⟨_, rfl, a, _, _, .non, rfl, ex.pg, ex.hd, ex.f2, rfl, true, rfl, iteT ⟨_, rfl, a, _, _, bD b, rfl, ex.pg, ex.hd, ex.f3, rfl, bD b, rfl, eqB hb hb ⟨true, by rw [decide_eq_true rfl]; rfl, iteT ⟨_, rfl, a, _, _, bD b, rfl, ex.pg, ex.hd, ex.f4, rfl, bD b, rfl, eqB hb hb (by rw [decide_eq_true rfl]; exact q)⟩⟩⟩⟩⟩
    · exact ⟨bD b, rfl, bD b, rfl, b, rfl, hb, rfl, rfl, rfl⟩
  · rintro ds Q R ⟨one, other, rfl, hp, q⟩
    refine ⟨bD one, rfl, bD other, rfl, one, other, rfl, hp, fun a _ => ?_⟩
    dsimp only
    refine if_view (δ' := [some (bD one), some (bD other), some (.dK (tab (isIn one other) (both one other))), none]) ?_ ?_
    · show [some (bD one), some (bD other), some (viewD [(a, _)] (.adr a)), none] = _
      rw [view1]
      rfl
    refine ⟨bD one, rfl, bD other, rfl, eqB hp.g1 hp.g2 ⟨false, by rw [decide_eq_false hp.un]; rfl, iteF ?_⟩⟩
    refine ⟨_, rfl, bD one, rfl, bD other, rfl, one, other, isIn one other, rfl, hp.g1, hp.g2, hp.ne, true, rfl, iteF ?_⟩
    refine ⟨a, _, rfl, look1, ?_⟩
    exact ⟨bD one, rfl, bD other, rfl, one, other, rfl, hp, bD one, rfl, bD other, rfl, one, other, isIn one other, rfl, hp.g1, hp.g2, hp.ne, q⟩
end
end K34

-- gen set Xf _law_parted
-- gen set give law
-- gen set appT law
set_option maxHeartbeats 4000000
namespace K34
open PySem PySem.Spec PyProof.Rows L2 DC
structure Tree (l : List Str) (i : Nat) (bs : List Beat) : Prop where
  len : bs.length = i + 1
  at_ : ∀ (k : Nat) (b : Beat), bs[k]? = some b → b.length ≤ k ∧ b.Nodup ∧ (∀ x ∈ b, ∃ m, m < k ∧ l[m]? = some x) ∧ ∀ m, k = m + 1 → ∃ x, l[m]? = some x ∧ x ∈ b
theorem Tree.nil (l : List Str) : Tree l 0 [[]] := ⟨rfl, fun k b h => by
  match k, h with
  | 0, h => cases h; exact ⟨Nat.le_refl _, List.nodup_nil, (fun x hx => nomatch hx), (fun m z => by omega)⟩
  | k + 1, h => cases h⟩
theorem nod_at {l : List Str} (h : l.Nodup) {i k : Nat} {x : Str} (a : l[i]? = some x) (b : l[k]? = some x) : i = k := (List.getElem?_inj (List.getElem?_eq_some_iff.mp a).1 h).mp (a.trans b.symm)
theorem Tree.snoc {l : List Str} {i k : Nat} {bs : List Beat} {b : Beat} {x : Str} (h : Tree l i bs) (nd : l.Nodup) (hx : l[i]? = some x) (hk : k ≤ i) (hb : bs[k]? = some b) : Tree l (i + 1) (bs ++ [b ++ [x]]) := by
  obtain ⟨b1, b2, b3, b4⟩ := h.at_ k b hb
  refine ⟨by rw [List.length_append, h.len]; rfl, fun m c hc => ?_⟩
  by_cases hm : m < bs.length
  · rw [List.getElem?_append_left hm] at hc
    exact h.at_ m c hc
  · have e : m = i + 1 := by
      have := (List.getElem?_eq_some_iff.mp hc).1
      rw [List.length_append, List.length_singleton, h.len] at this
      rw [h.len] at hm
      omega
    subst e
    rw [List.getElem?_append_right (by rw [h.len]; omega), h.len, Nat.sub_self] at hc
    cases hc
    refine ⟨by rw [List.length_append, List.length_singleton]; omega, ?_, fun y hy => ?_, fun m z => ?_⟩
    · refine List.nodup_append.mpr ⟨b2, List.nodup_cons.mpr ⟨(fun z => nomatch z), List.nodup_nil⟩, fun y hy z hz e => ?_⟩
      rw [List.mem_singleton.mp hz] at e
      subst e
      obtain ⟨m, hm, em⟩ := b3 y hy
      have := nod_at nd em hx
      omega
    · rcases List.mem_append.mp hy with hy | hy
      · obtain ⟨m, hm, em⟩ := b3 y hy
        exact ⟨m, by omega, em⟩
      · rw [List.mem_singleton.mp hy]; exact ⟨i, by omega, hx⟩
    · have : m = i := by omega
      subst this
      exact ⟨x, hx, List.mem_append_right _ (List.mem_singleton.mpr rfl)⟩
theorem hasAll_mem {one other : Beat} (h : hasAll one other = true) {x : Str} (hx : x ∈ one) : x ∈ other := by
  have := List.all_eq_true.mp h x hx
  simpa using this
theorem Tree.lt {l : List Str} {i k m : Nat} {bs : List Beat} {b c : Beat} (h : Tree l i bs) (nd : l.Nodup) (hb : bs[k]? = some b) (hc : bs[m]? = some c) (hkm : k < m) : ¬ hasAll c b = true := fun z => by
  obtain ⟨_, _, b3, _⟩ := h.at_ k b hb
  obtain ⟨_, _, _, c4⟩ := h.at_ m c hc
  obtain ⟨x, ex, hx⟩ := c4 (m - 1) (by omega)
  obtain ⟨q, hq, eq⟩ := b3 x (hasAll_mem z hx)
  have := nod_at nd ex eq
  omega
theorem all_self (b : Beat) : (b.all fun x => b.contains x) = true := List.all_eq_true.mpr fun x hx => by simpa using hx
theorem Tree.pair {l : List Str} {i k m : Nat} {bs : List Beat} {b c : Beat} (h : Tree l i bs) (hi : i ≤ 8) (nd : l.Nodup) (ok : ∀ x ∈ l, PyData.strOk x = true) (hb : bs[k]? = some b) (hc : bs[m]? = some c) (ne : b ≠ c) : Pair b c := by
  have good : ∀ (k : Nat) (b : Beat), bs[k]? = some b → GoodB 8 b ∧ b.Nodup := fun k b hb => by
    obtain ⟨b1, b2, b3, _⟩ := h.at_ k b hb
    have hk := (List.getElem?_eq_some_iff.mp hb).1
    rw [h.len] at hk
    exact ⟨⟨by omega, fun x hx => let ⟨m, _, e⟩ := b3 x hx; ok x (List.mem_of_getElem? e)⟩, b2⟩
  have hkm : k ≠ m := fun z => ne (by rw [z, hc] at hb; exact (Option.some.inj hb).symm)
  have un : ¬ (hasAll b c = true ∧ hasAll c b = true) := fun ⟨z1, z2⟩ => by
    rcases Nat.lt_or_ge k m with q | q
    · exact h.lt nd hb hc q z2
    · exact h.lt nd hc hb (by omega) z1
  refine ⟨(good k b hb).1, (good m c hc).1, (good k b hb).2, (good m c hc).2, ?_⟩
  unfold isIn comesOf
  cases hh : hasAll b c with
  | true =>
    rw [if_pos rfl, all_self]
    intro z
    exact un ⟨hh, z.symm⟩
  | false =>
    rw [if_neg Bool.false_ne_true, all_self]
    intro z
    exact absurd (show hasAll b c = true from z) (by rw [hh]; exact Bool.false_ne_true)
theorem Tree.good {l : List Str} {i k : Nat} {bs : List Beat} {b : Beat} (h : Tree l i bs) (hi : i ≤ 8) (ok : ∀ x ∈ l, PyData.strOk x = true) (hb : bs[k]? = some b) : GoodB 8 b := by
  obtain ⟨b1, b2, b3, _⟩ := h.at_ k b hb
  have hk := (List.getElem?_eq_some_iff.mp hb).1
  rw [h.len] at hk
  exact ⟨by omega, fun x hx => let ⟨m, _, e⟩ := b3 x hx; ok x (List.mem_of_getElem? e)⟩
theorem pickB {bs : List Beat} {z : Int} (h0 : 0 ≤ z) (h1 : z < bs.length) : ∃ (k : Nat) (b : Beat), z = (k : Int) ∧ bs[k]? = some b ∧ L2.atI (bs.map bD) z = some (bD b) := by
  have hk : z.toNat < bs.length := by omega
  have e : z = ((z.toNat : Nat) : Int) := by omega
  generalize z.toNat = k at hk e
  subst e
  exact ⟨k, bs[k], rfl, List.getElem?_eq_getElem hk, atI_nat (by rw [List.getElem?_map, List.getElem?_eq_getElem hk]; rfl)⟩
theorem nat_of {z : Int} (h : 0 ≤ z) : ∃ k : Nat, z = (k : Int) := ⟨z.toNat, by omega⟩
theorem rng_at {m i : Nat} {d : D} (h : (List.map (fun i : Nat => D.int (0 + (i : Int))) (List.range m))[i]? = some d) : i < m ∧ d = .int (0 + (i : Int)) := by
  have hlt : i < m := by
    have := (List.getElem?_eq_some_iff.mp h).1
    simpa using this
  rw [List.getElem?_map, List.getElem?_range hlt] at h
  exact ⟨hlt, by simpa using h.symm⟩
theorem slot4 {A B C E F : Option D} {z z' : Int} (h : z = z') : [A, B, C, E, some (D.int z), F] = [A, B, C, E, some (D.int z'), F] := by rw [h]
def sxLaw : SpX := fun ds Q _ => ∃ ns : List Int, ds = [.lst (ns.map D.int)] ∧ Q (.bl true)
section
seal wpAny
variable {P : Program} {w : World} {K : PySem.W.Frag} {mg : Str → Option Value} {base : Heap} {n j : Nat}
theorem ok_law {f : Addr} {fd : FuncData} (F : Fun K "law" "law" s_law f fd) (n_range : mg "range" = none) (c__law_mixed : Cal P w K mg base j "_law_mixed" ["_law_cell_here", "_law_k"] sdMix) (c__law_cell : Cal P w K mg base j "_law_cell" ["_law_script", "_law_k"] sdCell)
    (c__law_names : Cal P w K mg base j "_law_names" ["_law_cell_here"] sdNames) (cx__law_parted : CalX P w K mg base j "_law_parted" ["_law_one", "_law_other"] (fun ds Q R => sxEq ds Q R ∨ sxUn ds Q R)) :
    FnOk P w K mg base (CXD P w) (j + 1) f fd ["_law_script"] (spX K sxLaw) := by
  refine okMX1 F sc_law (fun ds Q R ⟨ns, e, _⟩ => by rw [e]; rfl) (fun f cdv A outer s H E R hr hx => have hu := hr.units; have hh := hr.hd; have sc := sc_law
    (ms_cons (ms_lift (s_set (i := 1) sc.nd rfl (Or.inl rfl) (d_cal c__law_names hr (by omega) (by rfl) (a_cons (d_cal c__law_mixed hr (by omega) (by rfl) (a_cons (d_cal c__law_cell hr (by omega) (by rfl) (a_cons (dv 0) (a_cons d_int a_nil))) (a_cons d_int a_nil))) a_nil))))
  (ms_cons (ms_newL (i := 2) sc.nd rfl (Or.inl rfl) (a_cons (d_tup a_nil) a_nil))
  (ms_cons (ms_for PassesOwn.leaving rfl (i_range1 (by rfl) n_range (a_cons d_int a_nil)) (g_name (i := 3) sc.nd rfl (Or.inl rfl)) (ms_cons (ms_lift (s_set (i := 4) sc.nd rfl (Or.inl rfl) (d_mod (d_cal c__law_mixed hr (by omega) (by rfl) (a_cons (d_cal c__law_cell hr (by omega) (by rfl) (a_cons (dv 0) (a_cons (d_add d_int (d_mod (dv 3) d_int)) a_nil))) (a_cons (d_add d_int (dv 3)) a_nil))) (d_add (dv 3) d_int))))
  (ms_cons (ms_if (t_gt (dv 4) (dv 3)) (mss_lift (ss_one (s_set (i := 4) sc.nd rfl (Or.inl rfl) (dv 3)))) ms_nil)
  (ms_one (ms_appendT (i := 2) rfl (Or.inl rfl) (d_add (d_ix (dv 2) (dv 4) (fun _ _ => rfl)) (d_tup (a_cons (d_ix (dv 1) (dv 3) (fun _ _ => rfl)) a_nil))))))))
  (mss_give (mss_lift (ss_cons (s_for PassesOwn.leaving rfl (i_range1 (by rfl) n_range (a_cons (d_add d_int (d_mod (d_cal c__law_mixed hr (by omega) (by rfl) (a_cons (d_cal c__law_cell hr (by omega) (by rfl) (a_cons (dv 0) (a_cons d_int a_nil))) (a_cons d_int a_nil))) d_int)) a_nil)) (g_name (i := 3) sc.nd rfl (Or.inl rfl)) (ss_cons (s_set (i := 4) sc.nd rfl (Or.inl rfl) (d_ix (dv 2) (d_mod (d_cal c__law_mixed hr (by omega) (by rfl) (a_cons (d_cal c__law_cell hr (by omega) (by rfl) (a_cons (dv 0) (a_cons (d_add d_int (dv 3)) a_nil))) (a_cons d_int a_nil))) d_int) (fun _ _ => rfl)))
  (ss_cons (s_set (i := 5) sc.nd rfl (Or.inl rfl) (d_ix (dv 2) (d_mod (d_cal c__law_mixed hr (by omega) (by rfl) (a_cons (d_cal c__law_cell hr (by omega) (by rfl) (a_cons (dv 0) (a_cons (d_add d_int (dv 3)) a_nil))) (a_cons d_int a_nil))) d_int) (fun _ _ => rfl)))
  (ss_one (s_if (t_not (t_tru (d_calX hx cx__law_parted hr (by omega) (by rfl) (a_cons (dv 4) (a_cons (dv 5) a_nil))))) (ss_one (s_ret d_bl)) ss_nil)))))
  (ss_one (s_ret (d_calX hx cx__law_parted hr (by omega) (by rfl) (a_cons (d_ix (dv 2) d_int (fun _ _ => rfl)) (a_cons (d_ix (dv 2) d_int (fun _ _ => rfl)) a_nil)))))))))))) ?_
  rintro ds Q R ⟨ns, rfl, q⟩
  refine ⟨_, rfl, ns, 0, rfl, fun c => ⟨c, 1, rfl, fun m => ⟨m, rfl, fun l hl => ?_⟩⟩⟩
  refine ⟨(show 0 ≤ sizeLine by decide), (show 1 ≤ sizeLine by decide), fun a _ => ?_⟩
  refine ⟨8, rfl, (by decide), (by decide), fun i δ μ => ∃ (bs : List Beat) (x3 x4 : Option D), δ = [some (.lst (ns.map D.int)), some (.lst (l.map D.str)), some (.adr a), x3, x4, none] ∧ μ = [(a, .lst (bs.map bD))] ∧ Tree l i bs, ?_, ?_, ?_⟩
  · exact ⟨[[]], none, none, rfl, rfl, Tree.nil l⟩
  · rintro i dd δ μ hdd ⟨bs, x3, x4, rfl, rfl, ht⟩
    obtain ⟨hlt, rfl⟩ := rng_at hdd
    have hlt : i < 8 := hlt
    obtain ⟨k1, ek1⟩ := nat_of (z := 1 + (0 + (i : Int)) % 4) (by have := mod_lo (0 + (i : Int)) (show (0 : Int) < 4 by decide); omega)
    refine ⟨_, rfl, _, rfl, (show (0 : Int) < 4 by decide), ns, k1, congrArg (fun z => [D.lst (ns.map D.int), D.int z]) ek1, fun c => ⟨_, rfl, c, _, rfl, fun m => ⟨_, rfl, (show (0 : Int) < 0 + (i : Int) + 2 by omega), ?_⟩⟩⟩
    have m0 := mod_lo m (show (0 : Int) < 0 + (i : Int) + 2 by omega)
    have m1 := mod_hi m (show (0 : Int) < 0 + (i : Int) + 2 by omega)
    dsimp only
    refine split_m (fun δ μ => ∃ o : Nat, o ≤ i ∧ δ = [some (.lst (ns.map D.int)), some (.lst (l.map D.str)), some (.adr a), some (.int (0 + (i : Int))), some (.int (o : Int)), none] ∧ μ = [(a, .lst (bs.map bD))]) ?_ fun N hN => ?_
    rotate_left
    · refine ⟨.int (m % (0 + (i : Int) + 2)), rfl, .int (0 + (i : Int)), rfl, _, rfl, ?_⟩
      cases hg : decide (0 + (i : Int) < m % (0 + (i : Int) + 2)) with
      | true => exact iteT ⟨_, rfl, hN _ _ ⟨i, Nat.le_refl _, slot4 (Int.zero_add _), rfl⟩⟩
      | false =>
        have hg' := of_decide_eq_false hg
        exact iteF (hN _ _ ⟨(m % (0 + (i : Int) + 2)).toNat, by omega, slot4 (by omega), rfl⟩)
    · rintro δ μ ⟨o, ho, rfl, rfl⟩
      have hil : i < l.length := by rw [hl.len]; exact hlt
      obtain ⟨kb, b, ekb, hb, eb⟩ := pickB (bs := bs) (z := (o : Int)) (by omega) (by rw [ht.len]; omega)
      have hkb : kb ≤ i := by omega
      have gb := ht.good (by omega) hl.ok hb
      refine append_view (a := a) (ds := bs.map bD) (δ' := [some (.lst (ns.map D.int)), some (.lst (l.map D.str)), some (.lst (bs.map bD)), some (.int (0 + (i : Int))), some (.int (o : Int)), none]) rfl look1 (by rw [List.length_map, ht.len]; exact Nat.lt_of_le_of_lt (show i + 1 ≤ 9 by omega) (by decide)) ?_ ?_
      · show [some (.lst (ns.map D.int)), some (.lst (l.map D.str)), some (viewD [(a, _)] (.adr a)), some (.int (0 + (i : Int))), some (.int (o : Int)), none] = _
        rw [view1]
        rfl
      refine ⟨_, rfl, _, rfl, bD b, eb, _, rfl, _, rfl, .str l[i], by rw [Int.zero_add]; exact atI_nat (by rw [List.getElem?_map, List.getElem?_eq_getElem hil]; rfl), (show 1 ≤ sizeLine by decide), ?_, ?_, bs ++ [b ++ [l[i]]], _, _, rfl, ?_, ht.snoc hl.nd (List.getElem?_eq_getElem hil) hkb hb⟩
      · rw [List.length_map]
        exact Nat.le_trans (show b.length + 1 ≤ 9 by have := gb.len; omega) (by decide)
      · show List.all (b.map D.str ++ [D.str l[i]]) flatD = true
        rw [List.all_append, flat_strs]
        rfl
      · rw [put1]
        rw [List.map_append]
        show [(a, MD.lst (bs.map bD ++ [.tup (b.map D.str ++ [.str l[i]])]))] = [(a, .lst (bs.map bD ++ [bD (b ++ [l[i]])]))]
        unfold bD
        rw [List.map_append]
        rfl
  rintro δ μ ⟨bs, x3, x4, rfl, rfl, ht⟩
  have ht : Tree l 8 bs := by
    rw [List.length_map, List.length_range] at ht
    exact ht
  dsimp only
  refine give_view (δ' := [some (.lst (ns.map D.int)), some (.lst (l.map D.str)), some (.lst (bs.map bD)), x3.map (viewD [(a, .lst (bs.map bD))]), x4.map (viewD [(a, .lst (bs.map bD))]), none]) ?_ ?_
  · show [some (.lst (ns.map D.int)), some (.lst (l.map D.str)), some (viewD [(a, _)] (.adr a)), _, _, none] = _
    rw [view1]
    rfl
  generalize x3.map (viewD [(a, .lst (bs.map bD))]) = y3
  generalize x4.map (viewD [(a, .lst (bs.map bD))]) = y4
  have h9 : ∀ z : Int, ∃ (k : Nat) (b : Beat), bs[k]? = some b ∧ L2.atI (bs.map bD) (z % 9) = some (bD b) := fun z => by
    obtain ⟨k, b, _, h1, h2⟩ := pickB (bs := bs) (mod_lo z (show (0 : Int) < 9 by decide)) (by rw [ht.len]; exact mod_hi z (by decide))
    exact ⟨k, b, h1, h2⟩
  refine ⟨_, rfl, ns, 5, rfl, fun c => ⟨c, 30, rfl, fun m => ⟨(show (0 : Int) < 8 by decide), ?_⟩⟩⟩
  have m0 := mod_lo m (show (0 : Int) < 8 by decide)
  have m8 := mod_hi m (show (0 : Int) < 8 by decide)
  refine ⟨_, rfl, (by show -(2 ^ 62 : Int) ≤ 1 + m % 8; omega), (by show 1 + m % 8 < (2 ^ 62 : Int); omega), fun i δ => ∃ x3 x4 x5 : Option D, δ = [some (.lst (ns.map D.int)), some (.lst (l.map D.str)), some (.lst (bs.map bD)), x3, x4, x5], ⟨y3, y4, none, rfl⟩, ?_, ?_⟩
  · rintro i d δ hd ⟨x3, x4, x5, rfl⟩
    obtain ⟨_, rfl⟩ := rng_at hd
    obtain ⟨k6, ek6⟩ := nat_of (z := 6 + (0 + (i : Int))) (by omega)
    refine ⟨_, rfl, _, rfl, _, rfl, ns, k6, congrArg (fun z => [D.lst (ns.map D.int), D.int z]) ek6, fun c1 => ⟨c1, 31, rfl, fun m1 => ⟨(show (0 : Int) < 9 by decide), ?_⟩⟩⟩
    obtain ⟨k1, b1, hb1, e1⟩ := h9 m1
    refine ⟨bD b1, e1, ?_⟩
    refine ⟨_, rfl, _, rfl, _, rfl, ns, k6, congrArg (fun z => [D.lst (ns.map D.int), D.int z]) ek6, fun c2 => ⟨c2, 32, rfl, fun m2 => ⟨(show (0 : Int) < 9 by decide), ?_⟩⟩⟩
    obtain ⟨k2, b2, hb2, e2⟩ := h9 m2
    refine ⟨bD b2, e2, bD b1, rfl, bD b2, rfl, ?_⟩
    by_cases hE : b1 = b2
    · subst hE
      exact .inl ⟨b1, rfl, ht.good (by decide) hl.ok hb1, true, rfl, iteF ⟨_, _, _, rfl⟩⟩
    · exact .inr ⟨b1, b2, rfl, ht.pair (by decide) hl.nd hl.ok hb1 hb2 hE, true, rfl, iteF ⟨_, _, _, rfl⟩⟩
  · rintro δ ⟨x3, x4, x5, rfl⟩
    obtain ⟨k, b, _, hb, eb⟩ := pickB (bs := bs) (z := 5) (by decide) (by rw [ht.len]; decide)
    exact ⟨_, rfl, bD b, eb, _, rfl, bD b, eb, .inl ⟨b, rfl, ht.good (by decide) hl.ok hb, q⟩⟩
end
end K34

set_option maxHeartbeats 4000000
namespace K34
open PySem PySem.Spec PyProof.Rows L2 DC
/-! ### where things lie -/
def BindP (x qual : Str) (st : Stmt) (ps : List Str) : Prop := ∀ (kV doc pm : Value) (an : Option Addr) (cdv ct : Value) (us : List Value), us.length = ps.length → bindArgs (PySem.W.fnOf x qual (defArgs st) (defBody st) (defScope st) .none kV doc pm an cdv ct) ⟨us, []⟩ = pure (ps.zip us)
structure FldE (K : PySem.W.Frag) (C : Addr) (f : Str) : Prop where
  pg : ExcGet K C
  hd : PySem.W.hasDictIn K C = true
  nf : PySem.W.findIn K (.ref C) f = some none
structure DE (K : PySem.W.Frag) (mg : Str → Option Value) (x : Str) (C : Addr) (qual : Str) (st : Stmt) (ps : List Str) : Prop where
  ex : ∃ f fd oI, FunV K "__init__" qual st f fd ∧ excOwnIn K C f = true ∧ K.lookup f = some oI ∧ oI.cls = .type "function" ∧ mg x = some (.ref C) ∧ PySem.W.keepIn K (.ref C) = true ∧ Binds K fd ps []
  g : ExcSet K C
section
variable {w : World} {K : PySem.W.Frag} {h : Heap} {mg : Str → Option Value} {x m qual : Str} {st : Stmt} {ps : List Str} {f C : Addr} {od an : Option Addr} {sl : Array (Option Value)} {oc kV dc pm cd ct dV : Value}
theorem df_mk (X : K.In h) (G : h.Ns mainGlobals mg) (a : PySem.W.nsIn K mainGlobals x = some (some (.ref f)) := by k_is) (l : K.lookup f = some ⟨oc, od, .func (PySem.W.fnOf x x (defArgs st) (defBody st) (defScope st) .none kV dc pm an cd ct), sl⟩ := by k_is)
    (c : PySem.W.codeIn K cd x = true := by k_is) (k : PySem.W.keepIn K (.ref f) = true := by k_is) (b : BindP x x st ps := by first | exact (fun _ _ _ _ _ _ us hl => match us, hl with | [_], _ => rfl) | exact (fun _ _ _ _ _ _ us hl => match us, hl with | [_, _], _ => rfl) | exact (fun _ _ _ _ _ _ us hl => match us, hl with | [_, _, _], _ => rfl)) : Df K mg x st ps := ⟨⟨f, _, fun_mk (st := st) l c k, PySem.W.mg_of X G a, (fun_mk (st := st) l c k).binds b⟩⟩
theorem de_mk (X : K.In h) (G : h.Ns mainGlobals mg) (hc : PySem.W.nsIn K mainGlobals x = some (some (.ref C)) := by k_is) (ini : PySem.W.findIn K (.ref C) "__init__" = some (some (.ref f)) := by k_is) (kp : PySem.W.keepIn K (.ref C) = true := by k_is)
    (l : K.lookup f = some ⟨.type "function", od, .func (PySem.W.fnOf "__init__" qual (defArgs st) (defBody st) (defScope st) .none kV dc pm an cd ct), sl⟩ := by k_is) (c : PySem.W.codeIn K cd qual = true := by k_is) (k : PySem.W.keepIn K (.ref f) = true := by k_is)
    (ow : excOwnIn K C f = true := by kernel_rfl) (sa : PySem.W.findIn K (.ref C) "__setattr__" = some (some (.builtin "object.__setattr__")) := by k_is) (ov : ((PySem.W.clsIn K C).any fun cd => excOver cd.mro) = true := by kernel_rfl) (hd : PySem.W.hasDictIn K C = true := by k_is)
    (b : BindP "__init__" qual st ps := by first | exact (fun _ _ _ _ _ _ us hl => match us, hl with | [_, _], _ => rfl) | exact (fun _ _ _ _ _ _ us hl => match us, hl with | [_, _, _], _ => rfl) | exact (fun _ _ _ _ _ _ us hl => match us, hl with | [_, _, _, _, _], _ => rfl)) : DE K mg x C qual st ps :=
  ⟨⟨f, _, _, ⟨⟨.type "function", od, .none, kV, dc, pm, an, cd, ct, sl, rfl, l, c⟩, k⟩, ow, l, rfl, PySem.W.mg_of X G hc, kp, (fun_mk (st := st) l c k).binds b⟩, ⟨sa, ov, hd⟩⟩
theorem cl_of {v : Value} {b : Bool} (h : PySem.W.mroIn K C v = some b) : (PySem.W.clsIn K C).isSome = true := by
  unfold PySem.W.mroIn at h
  cases e : PySem.W.clsIn K C with
  | none => rw [e] at h; cases h
  | some _ => rfl
theorem ety_mk (g1 : PySem.W.findIn K (.ref C) "__getattribute__" = some (some (.builtin "BaseException.__getattribute__")) := by k_is) (g2 : PySem.W.findIn K (.ref C) "__getattr__" = some none := by k_is) (g3 : PySem.W.mroIn K C (.type "BaseException") = some true := by k_is) (ha : PySem.W.findIn K (.ref C) "__class__" = some (some (.builtin "object.__class__")) := by k_is) (hn : PySem.W.specialIn K (.builtin "object.__class__") "__get__" = some (some (.builtin "getset_descriptor.__get__")) := by k_is) (ht : PySem.W.takesIn K (.builtin "object.__class__") = some true := by k_is) (hm : PySem.W.mroIn K C (.type "object") = some true := by k_is) : ExcTy K C := ⟨⟨g1, g2, g3⟩, cl_of hm, ha, hn, ht, hm⟩
theorem fld_mk {f : Str} (g1 : PySem.W.findIn K (.ref C) "__getattribute__" = some (some (.builtin "BaseException.__getattribute__")) := by k_is) (g2 : PySem.W.findIn K (.ref C) "__getattr__" = some none := by k_is) (g3 : PySem.W.mroIn K C (.type "BaseException") = some true := by k_is) (hd : PySem.W.hasDictIn K C = true := by k_is) (nf : PySem.W.findIn K (.ref C) f = some none := by k_is) : FldE K C f := ⟨⟨g1, g2, g3⟩, hd, nf⟩
theorem cls_of {c : Addr} (h : PySem.W.kitOne K (.ref C) (.ref c) = some true) (ne : C ≠ c) : PySem.W.kitCls K (.ref C) (.ref c) = some true := by
  unfold PySem.W.kitOne at h
  rw [if_neg (fun e => ne (by have := eq_of_beq e; cases this; rfl))] at h
  exact h
def KitR0 (K : PySem.W.Frag) (C : Addr) (cs : List (Addr × Bool)) : Prop := ∀ p ∈ cs, PySem.W.kitOne K (.ref C) (.ref p.1) = some p.2
theorem kind_of {cs : List Addr} {bs : List Bool} (h : KitR0 K C (cs.zip bs)) : ∀ (i : Nat) (c : Addr) (b : Bool), cs[i]? = some c → bs[i]? = some b → PySem.W.kitOne K (.ref C) (.ref c) = some b := fun i c b h1 h2 => h (c, b) (by
  have : (cs.zip bs)[i]? = some (c, b) := by rw [List.getElem?_zip_eq_some]; exact ⟨h1, h2⟩
  exact List.mem_of_getElem? this)
def KitR (K : PySem.W.Frag) (C : Addr) (cs : List (Addr × Bool)) : Prop := ∀ p ∈ cs, PySem.W.kitOne K (.ref C) (.ref p.1) = some p.2
theorem kr_nil : KitR K C [] := fun p h => nomatch h
theorem kr_cons {c : Addr} {b : Bool} {cs : List (Addr × Bool)} (r : KitR K C cs) (e : PySem.W.kitOne K (.ref C) (.ref c) = some b := by kit_is) : KitR K C ((c, b) :: cs) := fun p m => by
  rcases List.mem_cons.mp m with rfl | m
  · exact e
  · exact r p m
end
/-! ### the exceptions that keep what they are made with -/
section
variable {P : Program} {w : World} {K : PySem.W.Frag} {mg : Str → Option Value} {base : Heap} {C : Addr} {k : Nat}
theorem one_of_len {α : Type} {xs : List α} (h : xs.length = 1) : ∃ x, xs = [x] := match xs, h with | [x], _ => ⟨x, rfl⟩
theorem two_of_len {α : Type} {xs : List α} (h : xs.length = 2) : ∃ x y, xs = [x, y] := match xs, h with | [x, y], _ => ⟨x, y, rfl⟩
theorem four_of_len {α : Type} {xs : List α} (h : xs.length = 4) : ∃ x y z u, xs = [x, y, z, u] := match xs, h with | [x, y, z, u], _ => ⟨x, y, z, u, rfl⟩
theorem x_next {pr : Array Value → Prop} {H : Hp} {a d : Addr} {fs : List (Str × V)} (h : d ≠ a) : upd (upd H a (ExcP pr a C (some d))) d (XdO d fs) a = some (ExcP pr a C (some d)) := by rw [upd_ne (Ne.symm h), upd_same]
theorem ke_beat (d : DE K mg "NoBeat" C "NoBeat.__init__" s_NoBeat___init__ ["self", "row", "place", "one", "other"]) (n1 : FldE K C "row") (n2 : FldE K C "place") (n3 : FldE K C "one") (n4 : FldE K C "other") : MkE P w K mg base (k + 1) "NoBeat" C ["row", "place", "one", "other"] := by
  obtain ⟨f, fd, oI, F, ow, l, oc, m, kp, b⟩ := d.ex
  refine ⟨⟨f, fd, _, oI, ow, l, oc, okE (t := tSeq (tX K 1 "row") (tSeq (tX K 2 "place") (tSeq (tX K 3 "one") (tX K 4 "other")))) F sc_NoBeat___init__ rfl (fun cdv A outer s H E => pss_cons (ps_x (x := "self") (p := "row") (j := 1) rfl (Or.inl rfl) rfl (Or.inl rfl)) (pss_cons (ps_x (x := "self") (p := "place") (j := 2) rfl (Or.inl rfl) rfl (Or.inl rfl)) (pss_cons (ps_x (x := "self") (p := "one") (j := 3) rfl (Or.inl rfl) rfl (Or.inl rfl)) (pss_one (ps_x (x := "self") (p := "other") (j := 4) rfl (Or.inl rfl) rfl (Or.inl rfl)))))) ?_, m, kp, b⟩, by decide⟩
  intro pr a vs' H Q hl ha q
  obtain ⟨v, u, y, z, rfl⟩ := four_of_len hl
  refine ⟨pr, a, C, v, rfl, rfl, d.g, n1.nf, .inl ⟨ha, fun x h1 h2 => ⟨pr, a, C, u, rfl, rfl, d.g, n2.nf, .inr ⟨x, _, x_next h2, upd_same, (Nat.le_of_ble_eq_true rfl), ?_⟩⟩⟩⟩
  rw [upd_upd]
  refine ⟨pr, a, C, y, rfl, rfl, d.g, n3.nf, .inr ⟨x, _, x_next h2, upd_same, (Nat.le_of_ble_eq_true rfl), ?_⟩⟩
  rw [upd_upd]
  refine ⟨pr, a, C, z, rfl, rfl, d.g, n4.nf, .inr ⟨x, _, x_next h2, upd_same, (Nat.le_of_ble_eq_true rfl), ?_⟩⟩
  rw [upd_upd]
  exact q x h1 h2
end
/-- the law's promise over values -/
def spLaw (K : PySem.W.Frag) : Sp := fun vs H Q _ => ∃ (q : Addr) (ns : List Int), vs = [.ref q] ∧ SqL K H q (ns.map V.int) ∧ ns.length ≤ 63 ∧ ∀ H', Q (.bl true) H'
theorem dvs_ints {K : PySem.W.Frag} {H : Hp} : ∀ ns : List Int, Dvs K H (ns.map V.int) (ns.map D.int)
  | [] => .nil
  | n :: ns => .cons (.int n) (dvs_ints ns)
section
variable {P : Program} {w : World} {K : PySem.W.Frag} {mg : Str → Option Value} {base : Heap} {j k : Nat} {x : Str} {ps : List Str}
theorem CalX_up {sx : SpX} (c : CalX P w K mg base j x ps sx) (h : j ≤ k) : CalX P w K mg base k x ps sx := ⟨let ⟨f, fd, F, r⟩ := c.ex; ⟨f, fd, F.mono h, r⟩, c.ms⟩
theorem CalU_up {sd : SpD} (c : CalU P w K mg base j x ps sd) (h : j ≤ k) : CalU P w K mg base k x ps sd := ⟨let ⟨f, fd, F, r⟩ := c.ex; ⟨f, fd, ⟨F.len, fun A outer s H args us vs Q E hr => F.run A outer s H args us vs Q E (hr.mono h)⟩, r⟩, c.ms⟩
theorem to0 {f : Addr} {fd : FuncData} {sp sp' : Sp} (F : FnOk P w K mg base (CXD P w) k f fd ps sp) (h : ∀ vs H Q E, sp' vs H Q E → sp vs H Q fun _ _ _ => False) : FnOk P w K mg base CX0 k f fd ps sp' := by
  refine ⟨fun vs H Q E q => F.len _ _ _ _ (h _ _ _ _ q), fun A outer s H args us vs Q E hr he hb hv q => codeAny_mono (F.run A outer s H args us vs Q _ hr he hb hv (h _ _ _ _ q)) fun r s' z => ?_⟩
  cases r with
  | error e => obtain ⟨_, _, _, _, _, _, _, _, _, _, _, _, _, z⟩ := z; exact z
  | ok fl =>
    cases fl with
    | ret u => exact z
    | next => exact z
    | brk => exact z
    | cont => exact z
end
theorem all_ok {w : World} {K : PySem.W.Frag} {h : Heap} {mg : Str → Option Value} {b1 b2 b3 b4 b5 b6 b7 b8 b9 b10 b11 br : Addr} (X : K.In h) (G : h.Ns mainGlobals mg)
    (x1 : PySem.W.nsIn K mainGlobals "NoKind" = some (some (.ref b1)))
    (x2 : PySem.W.nsIn K mainGlobals "NoBeat" = some (some (.ref b2)))
    (x3 : PySem.W.nsIn K mainGlobals "Ring" = some (some (.ref b3)))
    (x4 : PySem.W.nsIn K mainGlobals "NoSheet" = some (some (.ref b4)))
    (x5 : PySem.W.nsIn K mainGlobals "NoName" = some (some (.ref b5)))
    (x6 : PySem.W.nsIn K mainGlobals "NoPart" = some (some (.ref b6)))
    (x7 : PySem.W.nsIn K mainGlobals "NoInput" = some (some (.ref b7)))
    (x8 : PySem.W.nsIn K mainGlobals "NoState" = some (some (.ref b8)))
    (x9 : PySem.W.nsIn K mainGlobals "NoClaim" = some (some (.ref b9)))
    (x10 : PySem.W.nsIn K mainGlobals "TooMany" = some (some (.ref b10)))
    (x11 : PySem.W.nsIn K mainGlobals "NoText" = some (some (.ref b11)))
    (xr : PySem.W.nsIn K mainGlobals "RowError" = some (some (.ref br)))
    (ty : ExcTy K b2)
    (kt : KitR K b2 [(b1, false), (b2, true), (b3, false), (b4, false), (b5, false), (b6, false), (b7, false), (b8, false), (b9, false), (b10, false), (b11, false)])
    (ve : PySem.W.kitOne K (.ref b2) (.type "ValueError") = some true)
    (re : PySem.W.kitOne K (.ref b2) (.ref br) = some true)
    (ne : b2 ≠ br)
    (be : PySem.W.mroIn K br (.type "BaseException") = some true)
    (bm : PySem.W.mroIn K b2 (.type "BaseException") = some true)
    (bt : PySem.W.typeIn K (.ref b2) = some (.type "type"))
    (de : DE K mg "NoBeat" b2 "NoBeat.__init__" s_NoBeat___init__ ["self", "row", "place", "one", "other"])
    (fe_row : FldE K b2 "row")
    (fe_place : FldE K b2 "place")
    (fe_one : FldE K b2 "one")
    (fe_other : FldE K b2 "other")
    (d_parting : Df K mg "parting" s_parting ["one", "other"])
    (d__law_cell : Df K mg "_law_cell" s__law_cell ["_law_script", "_law_k"])
    (d__law_mixed : Df K mg "_law_mixed" s__law_mixed ["_law_cell_here", "_law_k"])
    (d__law_names : Df K mg "_law_names" s__law_names ["_law_cell_here"])
    (d__law_marks : Df K mg "_law_marks" s__law_marks ["_law_e"])
    (d__law_comes : Df K mg "_law_comes" s__law_comes ["_law_beat", "_law_truths"])
    (d__law_good : Df K mg "_law_good" s__law_good ["_law_found", "_law_one", "_law_other"])
    (d__law_parted : Df K mg "_law_parted" s__law_parted ["_law_one", "_law_other"])
    (z_isinstance : PySem.W.nsIn K mainGlobals "isinstance" = some none)
    (z_bool : PySem.W.nsIn K mainGlobals "bool" = some none)
    (z_len : PySem.W.nsIn K mainGlobals "len" = some none)
    (z_all : PySem.W.nsIn K mainGlobals "all" = some none)
    (z_range : PySem.W.nsIn K mainGlobals "range" = some none)
    (z_ValueError : PySem.W.nsIn K mainGlobals "ValueError" = some none)
    (z_list : PySem.W.nsIn K mainGlobals "list" = some none)
    (z_dict : PySem.W.nsIn K mainGlobals "dict" = some none)
    (z_sorted : PySem.W.nsIn K mainGlobals "sorted" = some none)
    (P : Program) (base : Heap) (f : Addr) (fd : FuncData) (F : Fun K "law" "law" s_law f fd) : FnOk P w K mg base CX0 8 f fd ["_law_script"] (spLaw K) := by
  have y_isinstance := PySem.W.mg_none_of X G z_isinstance
  have y_bool := PySem.W.mg_none_of X G z_bool
  have y_len := PySem.W.mg_none_of X G z_len
  have y_all := PySem.W.mg_none_of X G z_all
  have y_range := PySem.W.mg_none_of X G z_range
  have y_ValueError := PySem.W.mg_none_of X G z_ValueError
  have y_list := PySem.W.mg_none_of X G z_list
  have y_dict := PySem.W.mg_none_of X G z_dict
  have y_sorted := PySem.W.mg_none_of X G z_sorted
  have k11 : KAll K mg b2 := ⟨⟨b1, b3, b4, b5, b6, b7, b8, b9, b10, b11, PySem.W.mg_of X G x1, PySem.W.mg_of X G x2, PySem.W.mg_of X G x3, PySem.W.mg_of X G x4, PySem.W.mg_of X G x5, PySem.W.mg_of X G x6, PySem.W.mg_of X G x7, PySem.W.mg_of X G x8, PySem.W.mg_of X G x9, PySem.W.mg_of X G x10, PySem.W.mg_of X G x11, ⟨ty, kind_of (cs := [b1, b2, b3, b4, b5, b6, b7, b8, b9, b10, b11]) (bs := beatBs) kt, ve⟩⟩⟩
  have ex : BEx K b2 := ⟨fe_row.pg, fe_row.hd, fe_row.nf, fe_place.nf, fe_one.nf, fe_other.nf⟩
  have ke := ke_beat (P := P) (w := w) (base := base) (k := 0) de fe_row fe_place fe_one fe_other
  have l1 := c_mixed (P := P) (w := w) (base := base) (j := 0) d__law_mixed
  have l2 := c_cell (P := P) (w := w) (base := base) (j := 0) d__law_cell y_len
  have l3 := c_names (P := P) (w := w) (base := base) (j := 0) d__law_names y_range
  have p1 := cf_parting (P := P) (w := w) (base := base) (j := 0) d_parting y_all
  have p2 := cx_parting (j := 2) (i := 1) (by omega) d_parting y_all ke bm bt
  have g1 := c_comes (P := P) (w := w) (base := base) (j := 0) d__law_comes
  have g2 := c_good d__law_good y_list y_isinstance y_dict y_bool y_sorted g1
  have m1 := cu_marks (P := P) (w := w) (base := base) (j := 0) d__law_marks y_isinstance y_ValueError k11
  have r1 := cx_parted (j := 6) d__law_parted (PySem.W.mg_of X G xr) (cls_of re ne) be ex (CalX_up p2 (by omega)) (p1.up (by omega)) ((c_parting p1).up (by omega)) (g2.up (by omega)) (CalU_up m1 (by omega))
  have R := ok_law (j := 7) F y_range (l1.up (by omega)) (l2.up (by omega)) (l3.up (by omega)) r1
  exact to0 R fun vs H Q E ⟨q, ns, e, hS, hl, k⟩ => ⟨[.lst (ns.map D.int)], e ▸ .cons (.lst hS (dvs_ints ns)) .nil, ns, rfl, fun v H' dv => by cases dv; exact k H'⟩
theorem all_mk {l : PySem.W.OpenLaw} {w : World} {K : PySem.W.Frag} {h : Heap} {mg : Str → Option Value} {fa f1 : Addr} (X : K.In h) (G : h.Ns mainGlobals mg) (hfa : mg "law" = some (.ref fa))
    {od1 an1 : Option Addr} {sl1 : Array (Option Value)} {oc1 kV1 dc1 pm1 cd1 ct1 : Value}
    (la : PySem.W.nsIn K mainGlobals "law" = some (some (.ref f1))) (ll : K.lookup f1 = some ⟨oc1, od1, .func (PySem.W.fnOf "law" "law" (defArgs s_law) (defBody s_law) (defScope s_law) .none kV1 dc1 pm1 an1 cd1 ct1), sl1⟩) (lc : PySem.W.codeIn K cd1 "law" = true) (lk : PySem.W.keepIn K (.ref f1) = true)
    (R : ∀ (P : Program) (base : Heap) (f : Addr) (fd : FuncData), Fun K "law" "law" s_law f fd → FnOk P w K mg base CX0 8 f fd ["_law_script"] (spLaw K))
    : ∃ fd : FuncData, (∀ (s : Shared) (v : Value), BindsTo s fd ⟨[v], []⟩ [("_law_script", v)]) ∧ ∀ base : Heap, K.In base → base.Ns mainGlobals mg → FnOk l.prog w K mg base CX0 8 fa fd ["_law_script"] (spLaw K) := by
  have e := hfa.symm.trans (PySem.W.mg_of X G la)
  cases e
  exact ⟨PySem.W.fnOf "law" "law" (defArgs s_law) (defBody s_law) (defScope s_law) .none kV1 dc1 pm1 an1 cd1 ct1, fun s v => .of_eq rfl, fun base _ _ => R _ base _ _ (fun_mk (st := s_law) ll lc lk)⟩
theorem walk {l : PySem.W.OpenLaw} {q : Program} {loose : List Str} {XP : (Str → Option Value) → Heap → Prop} {YP : World → Heap → Prop} {d : DefRec} {K : Params → PySem.W.Frag} (hn : l.most = some 63) (hdf : d.params.defaults = [])
    (hY : ∀ (w : World) (h : Heap), YP w h → (K w.params).In h)
    (F : ∀ (w : World) (mg : Str → Option Value) (fa : Addr) (h : Heap), (K w.params).In h → h.Ns mainGlobals mg → mg d.name = some (.ref fa) →
      ∃ fd : FuncData, (∀ (s : Shared) (u : Value), BindsTo s fd ⟨[u], []⟩ [("_law_script", u)]) ∧ ∀ base : Heap, (K w.params).In base → base.Ns mainGlobals mg → FnOk l.prog w (K w.params) mg base CX0 8 fa fd ["_law_script"] (spLaw (K w.params))) :
    PySem.W.WalkO q loose XP YP l.row.toRowW d [] (fun f vs => PySem.call f vs) :=
  L2.walk_of (n := 63) (k := 8) (x := "_law_script") (CX := fun _ => CX0) (sp := fun w => spLaw (K w.params)) hn (by decide) hdf ⟨rfl, by decide, by decide⟩ hY F (fun _ _ a ns hl _ hS => ⟨a, ns, rfl, hS, hl, fun _ => rfl⟩) fun _ _ _ _ _ z => z
end K34
open PySem PySem.W PyProof.Rows
namespace PySem.W.Fast
def tw10085940001797309093 := 0
def tw10212341782401057672 := 0
def tw10228051835617944671 := 0
def tw10377158385338225003 := 0
def tw10460808613237738432 := 0
def tw10754002426540277295 := 0
def tw10851836588893278106 := 0
def tw10907500022454370897 := 0
def tw10973439649783462125 := 0
def tw10984805099103491699 := 0
def tw11199493863899646342 := 0
def tw11213378585672586026 := 0
def tw11215461943441173267 := 0
def tw11352277253584084447 := 0
def tw11598400033808965703 := 0
def tw11739168123276771790 := 0
def tw1208788437899137750 := 0
def tw12447785225299585581 := 0
def tw12820775950008797837 := 0
def tw1289788554282610779 := 0
def tw13173845864168763767 := 0
def tw13204080278771532278 := 0
def tw13269786225817891900 := 0
def tw13305026881389872090 := 0
def tw13326913218745147492 := 0
def tw13359710278903752891 := 0
def tw13738378538310528153 := 0
def tw1383471643460806692 := 0
def tw1413292030263792146 := 0
def tw14516017043887645193 := 0
def tw14521475919089980018 := 0
def tw14586635992156550969 := 0
def tw14629340088322826028 := 0
def tw14751641949033581568 := 0
def tw14867487737605072782 := 0
def tw14994297494144579981 := 0
def tw15090950927073438094 := 0
def tw1510745462184137831 := 0
def tw15229767633174278185 := 0
def tw15461988235252535925 := 0
def tw15474206861349033577 := 0
def tw1554069004657037152 := 0
def tw15543233800332025955 := 0
def tw1564146893611335013 := 0
def tw1565343426088213819 := 0
def tw15728191262829473815 := 0
def tw15750090623499653916 := 0
def tw15756850025509506541 := 0
def tw15883590999020140449 := 0
def tw16048129692847511629 := 0
def tw16352436692145832651 := 0
def tw16396228665505568677 := 0
def tw16405935872004367222 := 0
def tw16788579601847054138 := 0
def tw1680001916637411082 := 0
def tw16910771031493460296 := 0
def tw1693469957464917577 := 0
def tw17120299432551066359 := 0
def tw17427787995596394426 := 0
def tw17490438434322655178 := 0
def tw17509503882208966948 := 0
def tw17671253975051278778 := 0
def tw17700606048923901353 := 0
def tw18032636737581187230 := 0
def tw18035433834228468429 := 0
def tw18158318623605685208 := 0
def tw1816782140511814526 := 0
def tw18242630386749795578 := 0
def tw1947352683221621643 := 0
def tw2047584746719710640 := 0
def tw2115683700381461229 := 0
def tw2130076648513171094 := 0
def tw222672267847434287 := 0
def tw2397069686820591425 := 0
def tw2920368086489948964 := 0
def tw3063794507075184034 := 0
def tw329491807095536571 := 0
def tw3799782576061095507 := 0
def tw3884844413552254312 := 0
def tw3920133124198951996 := 0
def tw4277798079263003305 := 0
def tw4296716632258502140 := 0
def tw4545191040832257723 := 0
def tw4570648425134909257 := 0
def tw4593060162092284995 := 0
def tw4643056498474578970 := 0
def tw4689780953055106192 := 0
def tw4690760584101512676 := 0
def tw487299683761858166 := 0
def tw4955100347111823227 := 0
def tw5212887988013860619 := 0
def tw5324660357533338750 := 0
def tw5683173945497407613 := 0
def tw5819912414175465448 := 0
def tw5872710293128405114 := 0
def tw606018607670622767 := 0
def tw6069118212872020034 := 0
def tw614001300422269973 := 0
def tw6465581548316537925 := 0
def tw6494381842243217126 := 0
def tw660380830338654336 := 0
def tw6711643432844150219 := 0
def tw6814801389302771840 := 0
def tw6855184716676042746 := 0
def tw704597045205140021 := 0
def tw7975921461157342216 := 0
def tw8126243614463523782 := 0
def tw8342900652701292030 := 0
def tw840788955136863752 := 0
def tw8442370422244023266 := 0
def tw844662415782166806 := 0
def tw8475708852504909846 := 0
def tw8477954587584396273 := 0
def tw8701044196200140578 := 0
def tw874619582071417249 := 0
def tw9031971661644792938 := 0
def tw9189620373434057200 := 0
def tw9606362071840568138 := 0
def tw9673155500123297214 := 0
def tw9687448943983837146 := 0
end PySem.W.Fast
set_option maxRecDepth 100000 in
set_option maxHeartbeats 0 in
theorem PySem.Challenge.cw_runrows_k34_beats_part_holds : PySem.Challenge.rw_runrows_k34_beats_part.Holds := by
  w_on; o_law; k_head; (case hw => w_witness2)
  k_fill
  refine K34.walk (l := PySem.Challenge.rw_runrows_k34_beats_part) rfl rfl (fun w h Y => PySem.W.kIn_of Y) ?F
  case F =>
    intro w mg fa h KX G hmg
    refine' K34.all_mk KX G hmg ?la ?ll ?lc ?lk (K34.all_ok KX G ?x1 ?x2 ?x3 ?x4 ?x5 ?x6 ?x7 ?x8 ?x9 ?x10 ?x11 ?xr ?ty ?kt ?ve ?re ?ne ?be ?bm ?bt ?de ?fe_row ?fe_place ?fe_one ?fe_other ?d_parting ?d__law_cell ?d__law_mixed ?d__law_names ?d__law_marks ?d__law_comes ?d__law_good ?d__law_parted ?z_isinstance ?z_bool ?z_len ?z_all ?z_range ?z_ValueError ?z_list ?z_dict ?z_sorted)
    (case la => k_is)
    (case ll => k_is)
    (case lc => k_is)
    (case lk => k_is)
    (case x1 => k_is)
    (case x2 => k_is)
    (case x3 => k_is)
    (case x4 => k_is)
    (case x5 => k_is)
    (case x6 => k_is)
    (case x7 => k_is)
    (case x8 => k_is)
    (case x9 => k_is)
    (case x10 => k_is)
    (case x11 => k_is)
    (case xr => k_is)
    (case ty => exact K34.ety_mk)
    (case kt => exact K34.kr_cons (K34.kr_cons (K34.kr_cons (K34.kr_cons (K34.kr_cons (K34.kr_cons (K34.kr_cons (K34.kr_cons (K34.kr_cons (K34.kr_cons (K34.kr_cons (K34.kr_nil))))))))))))
    (case ve => kit_is)
    (case re => kit_is)
    (case ne => decide)
    (case be => k_is)
    (case bm => k_is)
    (case bt => k_is)
    (case de => exact K34.de_mk KX G)
    (case fe_row => exact K34.fld_mk)
    (case fe_place => exact K34.fld_mk)
    (case fe_one => exact K34.fld_mk)
    (case fe_other => exact K34.fld_mk)
    (case d_parting => exact K34.df_mk KX G)
    (case d__law_cell => exact K34.df_mk KX G)
    (case d__law_mixed => exact K34.df_mk KX G)
    (case d__law_names => exact K34.df_mk KX G)
    (case d__law_marks => exact K34.df_mk KX G)
    (case d__law_comes => exact K34.df_mk KX G)
    (case d__law_good => exact K34.df_mk KX G)
    (case d__law_parted => exact K34.df_mk KX G)
    (case z_isinstance => k_is)
    (case z_bool => k_is)
    (case z_len => k_is)
    (case z_all => k_is)
    (case z_range => k_is)
    (case z_ValueError => k_is)
    (case z_list => k_is)
    (case z_dict => k_is)
    (case z_sorted => k_is)
#print axioms PySem.Challenge.cw_runrows_k34_beats_part_holds
