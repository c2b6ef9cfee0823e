import PyProof.Rows.All
import Wide.All
import OpenK.AllK
import Wide.FinOn
import Lean
import PyProof.EqAt
import PyProof.EqKinds
import PyProof.TupleCall
import PyProof.ExcAttrAll.ValueError
import PyProof.EnumMake
import PyProof.EnumStmt
import PyProof.Rows.EnumRows
import KE.KDictOf
import KE.KEqDict
import PyProof.Draws
import PySem.Challenge.RW_runrows_k06_beats
set_option Elab.async false
set_option linter.all false
set_option maxRecDepth 100000
set_option maxHeartbeats 4000000
namespace L2
open PySem PySem.Spec PyProof.Rows
abbrev Key := Sum Int Str
def mz : Key -> Value -> Bool
 | .inl k, v => Value.isInt k v
 | .inr x, v => Value.isStrOf x v
def F5 (w : World) : Key -> Int
 | .inl k => hashInt k
 | .inr x => hashStr w x
theorem bH : ∀ {k : Key} {v : Value}, mz k v = true -> (∃ i t, k = Sum.inl i /\ v = Value.int i t) \/ (∃ x t, k = Sum.inr x /\ v = Value.str x t)
 | .inl i, v, h => by
  obtain ⟨t, e⟩ := Value.isInt_shape (k := i) (v := v) h
  exact .inl ⟨i, t, rfl, e⟩
 | .inr x, v, h => by
  obtain ⟨t, e⟩ := Value.isStrOf_shape (x := x) (v := v) h
  exact .inr ⟨x, t, rfl, e⟩
theorem uo (i : Int) (t : Tok) : mz (.inl i) (.int i t) = true := by simp [mz, Value.isInt]
theorem uq (x : Str) (t : Tok) : mz (.inr x) (.str x t) = true := by simp [mz, Value.isStrOf]
theorem CK (a b : Int) : decide ((Sum.inl a : Key) = Sum.inl b) = (a == b) := by
 by_cases e : a = b
 ·subst e; simp
 ·have h : ¬ (Sum.inl a : Key) = Sum.inl b := fun q => e (Sum.inl.inj q)
  rw [decide_eq_false h]
  exact (beq_eq_false_iff_ne.mpr e).symm
theorem CN (a b : Str) : decide ((Sum.inr a : Key) = Sum.inr b) = decide (a = b) := by
 by_cases e : a = b
 ·subst e; simp
 ·have h : ¬ (Sum.inr a : Key) = Sum.inr b := fun q => e (Sum.inr.inj q)
  rw [decide_eq_false h, decide_eq_false e]
theorem CL (a : Int) (b : Str) : decide ((Sum.inl a : Key) = Sum.inr b) = false := decide_eq_false (fun q => nomatch q)
theorem CM (a : Str) (b : Int) : decide ((Sum.inr a : Key) = Sum.inl b) = false := decide_eq_false (fun q => nomatch q)
def bb (prog : Program) (w : World) : PySem.KeyKind prog w Key where
 is := mz
 hash := F5 w
 inj := fun v a b ha hb => by
  rcases bH ha with ⟨i, t, rfl, rfl⟩ | ⟨x, t, rfl, rfl⟩
  ·rcases bH hb with ⟨j, u, rfl, e⟩ | ⟨y, u, rfl, e⟩
   ·injection e with e1 _; rw [e1]
   ·exact nomatch e
  ·rcases bH hb with ⟨j, u, rfl, e⟩ | ⟨y, u, rfl, e⟩
   ·exact nomatch e
   ·injection e with e1 _; rw [e1]
 byValue := fun k v h => by
  rcases bH h with ⟨i, t, rfl, rfl⟩ | ⟨x, t, rfl, rfl⟩ <;> rfl
 pyHash := fun hv h => by
  rcases bH hv with ⟨i, t, rfl, rfl⟩ | ⟨x, t, rfl, rfl⟩
  ·exact wpAny_pyHash_int h
  ·exact wpAny_pyHash_str h
 eqBool := fun hu hv h => by
  rcases bH hu with ⟨i, t, rfl, rfl⟩ | ⟨x, t, rfl, rfl⟩
  ·rcases bH hv with ⟨j, u, rfl, rfl⟩ | ⟨y, u, rfl, rfl⟩
   ·rw [CK] at h; exact wpAny_eqBool_int h
   ·rw [CL] at h; exact SeqAt.EqAt.int_str i t y u _ _ _ _ h
  ·rcases bH hv with ⟨j, u, rfl, rfl⟩ | ⟨y, u, rfl, rfl⟩
   ·rw [CM] at h; exact SeqAt.EqAt.str_int x t j u _ _ _ _ h
   ·rw [CN] at h; exact wpAny_eqBool_str h
 «strs» := fun k x t v h => by
  rcases bH h with ⟨i, u, rfl, e⟩ | ⟨y, u, rfl, e⟩
  ·exact nomatch e
  ·injection e with e1 _
   subst e1
   cases v <;> rfl
theorem qK (prog : Program) (w : World) (i : Int) (t : Tok) : (bb prog w).is (.inl i) (.int i t) = true := uo i t
theorem qL (prog : Program) (w : World) (x : Str) (t : Tok) : (bb prog w).is (.inr x) (.str x t) = true := uq x t
inductive V where
 | aV | bl (b : Bool) | int (i : Int) | str (x : Str) | qm (b : Array UInt8) | Ff (b : UInt64) | ref (a : Addr) | ty (n : String)
 deriving DecidableEq
def RelV : V -> Value -> Prop
 | .aV, u => u = Value.none
 | .bl b, u => u = Value.bool b
 | .int i, u => ∃ t, u = Value.int i t
 | .str x, u => ∃ t, u = Value.str x t
 | .qm b, u => ∃ t, u = Value.bytes b t
 | .Ff b, u => ∃ t, u = Value.float b t
 | .ref a, u => u = Value.ref a
 | .ty n, u => u = Value.type n
abbrev Vals : List V -> List Value -> Prop := Paired RelV
theorem Vals.length {xs : List V} {us : List Value} (r : Vals xs us) : xs.length = us.length := Paired.length r
theorem Vals.get : ∀ {xs : List V} {us : List Value} {i : Nat} {x : V}, Vals xs us -> xs[i]? = some x -> ∃ u, us[i]? = some u /\ RelV x u
 | _, _, _, _, .nil, e => by simp at e
 | _, _, 0, _, .cons r _, e => by simp at e; subst e; exact ⟨_, rfl, r⟩
 | _, _, i + 1, x, .cons _ t, e => by
  obtain ⟨u, h1, h2⟩ := Vals.get (i := i) (x := x) t (by simpa using e)
  exact ⟨u, by simpa using h1, h2⟩
theorem Vals.append : ∀ {xs ys : List V} {us ws : List Value}, Vals xs us -> Vals ys ws -> Vals (xs ++ ys) (us ++ ws)
 | _, _, _, _, .nil, s => s
 | _, _, _, _, .cons r t, s => .cons r (Vals.append t s)
theorem Vals.take : ∀ {xs : List V} {us : List Value} (n : Nat), Vals xs us -> Vals (xs.take n) (us.take n)
 | _, _, 0, _ => .nil
 | _, _, _ + 1, .nil => .nil
 | _, _, n + 1, .cons r t => .cons r (Vals.take n t)
theorem Vals.drop : ∀ {xs : List V} {us : List Value} (n : Nat), Vals xs us -> Vals (xs.drop n) (us.drop n)
 | _, _, 0, r => r
 | _, _, _ + 1, .nil => .nil
 | _, _, n + 1, .cons _ t => Vals.drop n t
def cz : Option V -> Option Value -> Prop
 | some v, some u => RelV v u
 | none, none => True
 | _, _ => False
def KV {κ : Type} : List (κ × V) -> List (κ × Value) -> Prop := Paired fun (p : κ × V) (q : κ × Value) => p.1 = q.1 /\ RelV p.2 q.2
def kV : Key -> V
 | .inl i => .int i
 | .inr x => .str x
inductive HO where
 /-- a list -/
 | lst (xs : List V)
 /-- a tuple (never changes) -/
 | tup (xs : List V)
 /-- a dict whose keys are ints and texts; one whose keys are tuples of ints and texts (the empty one is both) -/
 | dK (kvs : List (Key × V)) | dT (kvs : List (List Key × V))
 /-- a set of ints: its members, its size -/
 | set (S : Int -> Bool) (n : Nat)
 /-- an instance of the class at C, its dict at dx, its attributes -/
 | ins (C dx : Addr) (fs : List (Str × V))
 /-- the dict of the instance at x -/
 | own (x : Addr)
 /-- the dict of an exception -/
 | xd (fs : List (Str × V))
 /-- a bound method, f of x -/
 | met (f x : Addr)
 /-- a range object lo, lo + 1, .. below hi -/
 | Dq (lo hi : Int)
 /-- a thing that is known to the object (the script; a dict while a loop walks it): read, never written while it is so -/
 | fT (o : Obj) (u : HO)
 /-- a code object's table -/
 | yP (ps : Array Value)
 /-- any other thing, by what is true of its one object (a def of one's own: SetO a S n := HO.ext fun h => ..) -/
 | ext (φ : Heap -> Prop)
abbrev Hp := Addr -> Option HO
def upd (H : Hp) (a : Addr) (o : HO) : Hp := fun b => if b = a then some o else H b
theorem aI {H : Hp} {a : Addr} {o : HO} : upd H a o a = some o := by unfold upd; rw [if_pos rfl]
theorem aE {H : Hp} {a b : Addr} {o : HO} (h : b ≠ a) : upd H a o b = H b := by unfold upd; rw [if_neg h]
theorem g8 {H : Hp} {a : Addr} {o u : HO} : upd (upd H a o) a u = upd H a u := by
 funext b; unfold upd; split <;> rfl
theorem Ek {H : Hp} {a b : Addr} {o u : HO} (h : H a = some o) (h' : H b = some u) (d : o ≠ u) : a ≠ b := by
 intro e; subst e; rw [h] at h'; exact d (Option.some.inj h')
theorem aJ {H : Hp} {a b : Addr} {o : HO} (h : H a = some o) (h' : H b = none) : a ≠ b := by
 intro e; subst e; rw [h] at h'; cases h'
section
variable (P : Program) (w : World)
def aL (H : Hp) (h : Heap) (a : Addr) : HO -> Prop
 | .lst xs => xs.length <= sizeLine /\ ∃ (its : List Value) (n : Nat), Vals xs its /\ h.get? a = some { cls := .type "list", data := .seq its.toArray n }
 | .tup xs => xs.length <= sizeLine /\ ∃ its : List Value, Vals xs its /\ IsTup h a its.toArray
 | .dK kvs => kvs.length <= sizeLine /\ (a == sysModules) = false /\ ∃ vs, KV kvs vs /\ h.DictOf (bb P w) a vs
 | .dT kvs => kvs.length <= sizeLine /\ (a == sysModules) = false /\ ∃ xs : List (List Key × Addr × Value),
   Paired (fun (p : List Key × V) (q : List Key × Addr × Value) => p.1 = q.1 /\ H q.2.1 = some (.tup (p.1.map kV)) /\ RelV p.2 q.2.2) kvs xs /\
   ∃ o es ep, h.get? a = some o /\ o.ExactDict /\ o.data = .dict es ep /\ es.toList = xs.map (entryOfKey (tupleKind (bb P w))) /\ (xs.map (·.1)).Nodup
 | .set S n => h.SetOf (intKind P w) a S n
 | .ins C dx fs => H dx = some (.own a) /\ fs.length <= 1000 /\ dx ≠ a /\ h.get? a = some (PySem.W.instObj C dx) /\
   ∃ mA, h.Ns1 dx mA /\ (∀ f, cz (fs.lookup f) (mA f)) /\ PySem.Within mA (fs.map (·.1))
 | .own _ => ∃ o, h.get? a = some o
 | .xd fs => ∃ mA, h.Ns1 a mA /\ ∀ f, cz (fs.lookup f) (mA f)
 | .Dq lo hi => ∃ t u v, h.get? a = some { cls := .type "range", data := .fields #[.int lo t, .int hi u, .int 1 v] }
 | .fT o u => h.get? a = some o /\ aL H h a u
 | .yP ps => h.get? a = some { cls := .none, data := .fields ps }
 | .met f x => h.get? a = some (PySem.W.methodObj (.ref f) (.ref x))
 | .ext φ => φ h /\ (∃ o, h.get? a = some o) /\ ∀ h1 h2 : Heap, φ h1 -> (∀ o, h1.get? a = some o -> h2.get? a = some o) -> φ h2
def cQ (H : Hp) (h : Heap) : Prop := ∀ a o, H a = some o -> aL P w H h a o
end
section
variable {P : Program} {w : World} {H H' : Hp} {h h' : Heap} {a : Addr} {o : HO}
theorem aL.lt (x : aL P w H h a o) : a < h.objs.size := by
 cases o with
 | lst xs => obtain ⟨_, _, _, _, e⟩ := x; exact Heap.lt_size e
 | tup xs => obtain ⟨_, _, _, p⟩ := x; exact p.lt
 | dK kvs => obtain ⟨_, _, _, _, o, _, _, e, _⟩ := x; exact Heap.lt_size e
 | dT kvs => obtain ⟨_, _, _, _, o, _, _, e, _⟩ := x; exact Heap.lt_size e
 | set S n => obtain ⟨o, _, _, _, e, _⟩ := x; exact Heap.lt_size e
 | ins C dx fs => obtain ⟨_, _, _, e, _⟩ := x; exact Heap.lt_size e
 | own y => obtain ⟨_, e⟩ := x; exact Heap.lt_size e
 | xd fs => obtain ⟨_, ⟨_, _, _, e, _⟩, _⟩ := x; exact Heap.lt_size e
 | Dq lo hi => obtain ⟨_, _, _, e⟩ := x; exact Heap.lt_size e
 | fT ob u => obtain ⟨e, _⟩ := x; exact Heap.lt_size e
 | yP ps => exact Heap.lt_size (show h.get? a = some _ from x)
 | met f y => exact Heap.lt_size (show h.get? a = some _ from x)
 | ext φ => obtain ⟨_, ⟨_, e⟩, _⟩ := x; exact Heap.lt_size e
theorem Paired.xH {α β : Type} {F G : α -> β -> Prop} : ∀ {l₁ : List α} {l₂ : List β}, Paired F l₁ l₂ -> (∀ a b, F a b -> G a b) -> Paired G l₁ l₂
 | _, _, .nil, _ => .nil
 | _, _, .cons r t, f => .cons (f _ _ r) (Paired.xH t f)
theorem Paired.imp' {α β : Type} {F G : α -> β -> Prop} (f : ∀ a b, F a b -> G a b) {l₁ : List α} {l₂ : List β} (r : Paired F l₁ l₂) : Paired G l₁ l₂ := Paired.xH r f
theorem aL.iW (x : aL P w H h a o) (k : ∀ b u, (b = a \/ H b = some (.own a)) -> h.get? b = some u -> h'.get? b = some u)
  (ho : ∀ b, H b = some (.own a) -> H' b = some (.own a)) (ht : ∀ b xs, H b = some (.tup xs) -> H' b = some (.tup xs)) : aL P w H' h' a o := by
 induction o with
 | lst xs => obtain ⟨z, its, n, r, e⟩ := x; exact ⟨z, its, n, r, k _ _ (.inl rfl) e⟩
 | tup xs => obtain ⟨z, its, r, ob, e, c⟩ := x; exact ⟨z, its, r, ob, k _ _ (.inl rfl) e, c⟩
 | dK kvs => obtain ⟨z, y, vs, r, ob, es, ep, e, c⟩ := x; exact ⟨z, y, vs, r, ob, es, ep, k _ _ (.inl rfl) e, c⟩
 | dT kvs =>
  obtain ⟨z, y, xs, r, ob, es, ep, e, c⟩ := x
  exact ⟨z, y, xs, Paired.xH r fun p q z => ⟨z.1, ht _ _ z.2.1, z.2.2⟩, ob, es, ep, k _ _ (.inl rfl) e, c⟩
 | set S n => obtain ⟨ob, es, ep, t, e, c⟩ := x; exact ⟨ob, es, ep, t, k _ _ (.inl rfl) e, c⟩
 | ins C dx fs =>
  obtain ⟨d, z, ne, e, mA, ⟨od, es, ep, e2, c⟩, r⟩ := x
  exact ⟨ho _ d, z, ne, k _ _ (.inl rfl) e, mA, ⟨od, es, ep, k _ _ (.inr d) e2, c⟩, r⟩
 | own y => obtain ⟨ob, e⟩ := x; exact ⟨ob, k _ _ (.inl rfl) e⟩
 | xd fs => obtain ⟨mA, ⟨od, es, ep, e, c⟩, r⟩ := x; exact ⟨mA, ⟨od, es, ep, k _ _ (.inl rfl) e, c⟩, r⟩
 | Dq lo hi => obtain ⟨t, u, v, e⟩ := x; exact ⟨t, u, v, k _ _ (.inl rfl) e⟩
 | fT ob u ih => obtain ⟨e, q⟩ := x; exact ⟨k _ _ (.inl rfl) e, ih q⟩
 | yP ps =>
  have e : h.get? a = some { cls := .none, data := .fields ps } := x
  show h'.get? a = some { cls := .none, data := .fields ps }
  exact k a _ (.inl rfl) e
 | met f y =>
  have e : h.get? a = some (PySem.W.methodObj (.ref f) (.ref y)) := x
  show h'.get? a = some (PySem.W.methodObj (.ref f) (.ref y))
  exact k a _ (.inl rfl) e
 | ext φ => obtain ⟨p, ⟨o, e⟩, st⟩ := x; exact ⟨st _ _ p fun o q => k _ _ (.inl rfl) q, ⟨o, k _ _ (.inl rfl) e⟩, st⟩
theorem cQ.lt (x : cQ P w H h) (e : H a = some o) : a < h.objs.size := (x a o e).lt
theorem cQ.fresh (x : cQ P w H h) (e : h.objs.size <= a) : H a = none := by
 cases q : H a with
 | none => rfl
 | some u => exact absurd (Nat.lt_of_lt_of_le (x.lt q) e) (Nat.lt_irrefl _)
theorem cQ.kept (x : cQ P w H h) (k : ∀ b u, h.get? b = some u -> h'.get? b = some u) : cQ P w H h' := fun a o e =>
 (x a o e).iW (fun b u _ q => k b u q) (fun _ q => q) fun _ _ q => q
theorem cQ.laid (x : cQ P w H h) (k : ∀ b u, h.get? b = some u -> h'.get? b = some u) (hp : h.objs.size <= a) (new : aL P w (upd H a o) h' a o) : cQ P w (upd H a o) h' := fun b u e => by
 have hn := x.fresh hp
 by_cases hb : b = a
 ·subst hb; rw [aI] at e; cases e; exact new
 ·rw [aE hb] at e
  exact (x b u e).iW (fun c v _ q => k c v q) (fun c q => by rw [aE (aJ q hn)]; exact q) fun c xs q => by rw [aE (aJ q hn)]; exact q
end
def Rd (H : Hp) (a : Addr) (u : HO) : Prop := H a = some u \/ ∃ o, H a = some (.fT o u)
theorem Rd.of {H : Hp} {a : Addr} {u : HO} (h : H a = some u) : Rd H a u := .inl h
theorem Rd.ok {P : Program} {w : World} {H : Hp} {h : Heap} {a : Addr} {u : HO} (r : Rd H a u) (x : cQ P w H h) : aL P w H h a u := by
 rcases r with r | ⟨o, r⟩
 ·exact x a u r
 ·obtain ⟨_, q⟩ := x a _ r
  exact q
def Ds : Option HO -> Prop
 | some (.lst _) => True
 | some (.dK _) => True
 | some (.dT _) => True
 | some (.set _ _) => True
 | some (.ins _ _ _) => True
 | some (.ext _) => True
 | _ => False
section
variable {P : Program} {w : World} {H : Hp} {h h' : Heap} {x e : Addr} {o' : HO}
theorem cQ.write (ok : cQ P w H h) (mu : Ds (H x)) (he : e = x \/ H e = some (.own x)) (k : ∀ b u, b ≠ e -> h.get? b = some u -> h'.get? b = some u) (heo : ∃ u, h'.get? e = some u)
  (new : aL P w (upd H x o') h' x o') : cQ P w (upd H x o') h' := fun b u q => by
 have nown : ∀ c y, H c = some (.own y) -> c ≠ x := fun c y r z => by subst z; rw [r] at mu; exact mu
 have ntup : ∀ c xs, H c = some (.tup xs) -> c ≠ x := fun c xs r z => by subst z; rw [r] at mu; exact mu
 by_cases hb : b = x
 ·subst hb; rw [aI] at q; cases q; exact new
 ·rw [aE hb] at q
  by_cases hbe : b = e
  ·have q' : H b = some (.own x) := by
    rcases he with z | z
    ·exact absurd (hbe.trans z) hb
    ·rw [hbe]; exact z
   rw [q] at q'; cases q'
   obtain ⟨v, hv⟩ := heo
   exact ⟨v, by rw [hbe]; exact hv⟩
  ·refine (ok b u q).iW (fun c v hc r => k c v ?_ r) (fun c r => by rw [aE (nown c b r)]; exact r) fun c xs r => by rw [aE (ntup c xs r)]; exact r
   rcases hc with rfl | hc
   ·exact hbe
   ·rintro rfl
    rcases he with z | z
    ·exact nown c b hc z
    ·rw [hc] at z; cases z; exact hb rfl
end
structure Un (fs ex : List Addr) (H H' : Hp) (h h' : Heap) : Prop where
 keep : ∀ b o, h.get? b = some o -> H b = none -> b ∉ fs -> b ∉ ex -> h'.get? b = some o
 slot : ∀ b o, h.get? b = some o -> H b = none -> b ∈ fs -> b ∉ ex -> ∃ sl, h'.get? b = some { o with slots := sl }
 free : ∀ b o, h.get? b = some o -> H b = none -> b ∉ ex -> H' b = none
 there : ∀ b o, h.get? b = some o -> b ∉ ex -> ∃ o', h'.get? b = some o'
 dG : ∀ b xs, H b = some (.tup xs) -> H' b = some (.tup xs)
 cE : ∀ b o u, H b = some (.fT o u) -> H' b = some (.fT o u)
 ee : ∀ b ps, H b = some (.yP ps) -> ∃ more, H' b = some (.yP (ps ++ more))
section
variable {fs fs' ex ex' : List Addr} {H H1 H2 : Hp} {h h1 h2 h' : Heap} {a x e : Addr} {o : HO}
theorem Un.any (u : Un fs ex H H1 h h1) {b : Addr} {ob : Obj} (q : h.get? b = some ob) (n : H b = none) (hx : b ∉ ex) : ∃ sl, h1.get? b = some { ob with slots := sl } := by
 by_cases hb : b ∈ fs
 ·exact u.slot b ob q n hb hx
 ·exact ⟨ob.slots, u.keep b ob q n hb hx⟩
theorem Un.kept (k : ∀ b u, h.get? b = some u -> h'.get? b = some u) : Un fs ex H H h h' :=
 ⟨fun b ob q _ _ _ => k b ob q, fun b ob q _ _ _ => ⟨ob.slots, k b ob q⟩, fun _ _ _ n _ => n, fun b ob q _ => ⟨ob, k b ob q⟩, fun _ _ q => q, fun _ _ _ q => q, fun _ ps q => ⟨#[], by rw [q]; simp⟩⟩
theorem Un.refl : Un fs ex H H h h := Un.kept fun _ _ q => q
theorem Un.laid (k : ∀ b u, h.get? b = some u -> h'.get? b = some u) (hp : h.objs.size <= a) (hn : H a = none) : Un fs ex H (upd H a o) h h' where
 keep := fun b u q _ _ _ => k b u q
 slot := fun b u q _ _ _ => ⟨u.slots, k b u q⟩
 free := fun b u q n _ => by rw [aE (Nat.ne_of_lt (Nat.lt_of_lt_of_le (Heap.lt_size q) hp))]; exact n
 there := fun b u q _ => ⟨u, k b u q⟩
 dG := fun b xs q => by rw [aE (aJ q hn)]; exact q
 cE := fun b u xs q => by rw [aE (aJ q hn)]; exact q
 ee := fun b ps q => ⟨#[], by rw [aE (aJ q hn), q]; simp⟩
theorem Un.write (mu : Ds (H x)) (he : e = x \/ H e = some (.own x)) (k : ∀ b u, b ≠ e -> h.get? b = some u -> h'.get? b = some u) (heo : ∃ u, h'.get? e = some u) : Un fs ex H (upd H x o) h h' := by
 have hx : ∀ b, H b = none -> b ≠ x := fun b n z => by subst z; rw [n] at mu; exact mu
 have hb : ∀ b, H b = none -> b ≠ e := fun b n z => by
  subst z
  rcases he with r | r
  ·exact hx b n r
  ·rw [n] at r; cases r
 have hm : ∀ b u, H b = some u -> ¬ Ds (some u) -> b ≠ x := fun b u q nm z => by subst z; rw [q] at mu; exact nm mu
 refine ⟨fun b u q n _ _ => k b u (hb b n) q, fun b u q n _ _ => ⟨u.slots, k b u (hb b n) q⟩, fun b u q n _ => by rw [aE (hx b n)]; exact n, fun b u q _ => ?_,
  fun b xs q => by rw [aE (hm b _ q fun z => z)]; exact q, fun b u xs q => by rw [aE (hm b _ q fun z => z)]; exact q, fun b ps q => ⟨#[], by rw [aE (hm b _ q fun z => z), q]; simp⟩⟩
 by_cases hbe : b = e
 ·subst hbe; exact heo
 ·exact ⟨u, k b u hbe q⟩
end
def Fl (h : Heap) (H : Hp) : List Addr := (List.range h.objs.size).filter fun a => (H a).isSome
def n_ (h : Heap) (H : Hp) : Heap := PySem.W.hideAll h (Fl h H)
theorem uZ (h : Heap) (H : Hp) : (n_ h H).objs.size = h.objs.size := PySem.W.hideAll_size _ _
theorem wj {h : Heap} {H : Hp} {b : Addr} {o : Obj} (e : h.get? b = some o) (n : H b = none) : (n_ h H).get? b = some o :=
 PySem.W.hideAll_get _ e fun hm => by
  have q : (H b).isSome = true := (List.mem_filter.mp hm).2
  rw [n] at q; simp at q
theorem z9 {h : Heap} {H : Hp} {b : Addr} {o : Obj} (e : (n_ h H).get? b = some o) : h.get? b = some o /\ H b = none := by
 have e' : h.get? b = some o := PySem.W.of_hideAll (Fl h H) e
 refine ⟨e', ?_⟩
 cases q : H b with
 | none => rfl
 | some x =>
  have hm : b ∈ Fl h H := List.mem_filter.mpr ⟨List.mem_range.mpr (Heap.lt_size e'), by simp [q]⟩
  have z : (n_ h H).get? b = none := PySem.W.hideAll_none (Fl h H) hm
  rw [z] at e; cases e
structure Mod (K : PySem.W.Frag) (mg : Str -> Option Value) (base : Heap) : Prop where
 CO : K.In base
 glob : base.Ns mainGlobals mg
 blt : ∃ mb, base.Ns builtinsNs mb /\ ∀ x : Str, x ≠ "__name__" -> mb x = bootBuiltins x
 nolimit : base.NoLimit
structure Cx where
 prog : Program
 w : World
 K : PySem.W.Frag
 mg : Str -> Option Value
 base : Heap
 A : Around
 N : List Str
 s₀ : Shared
 H₀ : Hp
 env : Env
 outer : List Env
 stack : List Env
 ex : List Addr
 fn : Str -> Bool
 calm : Bool
 pn : List (Addr × Obj)
 xe : Value -> Shared -> Prop
def kZ (l : List Env) : List Addr := l.filterMap (·.frame)
abbrev Cx.fs (X : Cx) : List Addr := kZ X.outer
def ye (sc : Scope) (x : Str) : Prop := sc.names.lookup x = some .local \/ sc.names.lookup x = some .cell \/ sc.names.lookup x = some .free
def Loc (sc : Scope) (x : Str) : Prop := sc.names.lookup x = some .local \/ sc.names.lookup x = some .cell
def Look (env : Env) (h : Heap) (m : Str -> Option Value) (x : Str) (u : Value) : Prop :=
 (env.kindOf x = some .local /\ m x = some u) \/ ((env.kindOf x = some .cell \/ env.kindOf x = some .free) /\ ∃ c, env.cells.lookup x = some c /\ h.IsCell c (some u))
structure Cx.Ok (X : Cx) : Prop where
 mod : Mod X.K X.mg X.base
 kind : X.env.scope.kind = .function
 glob : X.env.globals = mainGlobals
 blt : X.env.builtins = builtinsNs
 above : X.s₀.heap.objs.size <= X.env.locals
 inj : ∀ x y c, X.env.cells.lookup x = some c -> X.env.cells.lookup y = some c -> x = y
 has : ∀ x, (X.env.kindOf x = some .cell \/ X.env.kindOf x = some .free) -> ∃ c, X.env.cells.lookup x = some c
 A8 : ∀ x c, X.fn x = true -> X.env.cells.lookup x = some c -> X.s₀.heap.objs.size <= c
 hd : X.calm = true -> X.A.handled = none
 frames : X.A.frames = some X.stack
 DI : X.stack = X.outer \/ (X.stack = X.env :: X.outer /\ X.env.frame = some X.env.locals)
 EA : ∀ b ∈ X.ex, b ≠ X.env.locals /\ ∀ x c, X.env.cells.lookup x = some c -> c ≠ b
 bs : ∀ b o, X.base.get? b = some o -> X.s₀.heap.get? b = some o /\ X.H₀ b = none
 vU : X.base.objs.size <= X.s₀.heap.objs.size
 qR : ∀ b o, X.base.get? b = some o -> b ∉ X.ex
 nq : ∀ b ∈ X.ex, b ∉ X.fs
 e_ : X.s₀.heap.FunFrames X.base X.outer
 uY : ∀ b ∈ X.fs, X.H₀ b = none
structure Inv (X : Cx) (pins : List (Addr × Obj)) (σ : List (Option V)) (H : Hp) (s : Shared) : Prop where
 ok : X.Ok
 os : s.os = X.s₀.os
 bare : AllBare s.gens
 base : Un X.fs X.ex X.H₀ H X.s₀.heap s.heap
 loc : ∃ m, s.heap.Ns X.env.locals m /\ ∀ (i : Nat) (x : Str) (v : V), X.N[i]? = some x -> σ[i]? = some (some v) -> ye X.env.scope x -> ∃ u, RelV v u /\ Look X.env s.heap m x u
 cell : ∀ x c, X.env.cells.lookup x = some c -> ∃ v, s.heap.IsCell c v
 free : H X.env.locals = none
 bK : ∀ x c, X.env.cells.lookup x = some c -> H c = none
 pin : ∀ p ∈ X.pn ++ pins, s.heap.get? p.1 = some p.2 /\ H p.1 = none /\ p.1 ≠ X.env.locals /\ p.1 ∉ X.fs /\ ∀ v, p.2.data ≠ .cell v
 ah : cQ X.prog X.w H s.heap
 len : σ.length = X.N.length
section
variable {X : Cx} {pins : List (Addr × Obj)} {σ : List (Option V)} {H H' : Hp} {s : Shared} {h' : Heap}
theorem Cx.Ok.GQ (ok : X.Ok) {b : Addr} {o : Obj} (e : X.base.get? b = some o) : b ∉ X.fs := fun hb => by
 have := (ok.e_.mem hb).1
 rw [e] at this; cases this
theorem Inv.bs (I : Inv X pins σ H s) : ∀ b o, X.base.get? b = some o -> s.heap.get? b = some o /\ H b = none := fun b o e =>
 ⟨I.base.keep b o (I.ok.bs b o e).1 (I.ok.bs b o e).2 (I.ok.GQ e) (I.ok.qR b o e), I.base.free b o (I.ok.bs b o e).1 (I.ok.bs b o e).2 (I.ok.qR b o e)⟩
theorem Inv.bk (I : Inv X pins σ H s) : ∀ b o, X.base.get? b = some o -> s.heap.get? b = some o := fun b o e => (I.bs b o e).1
theorem Inv.mod (I : Inv X pins σ H s) : Mod X.K X.mg X.base := I.ok.mod
theorem Inv.iQ (I : Inv X pins σ H s) : X.K.In s.heap := I.ok.mod.CO.keeps I.bk
theorem Inv.lt (I : Inv X pins σ H s) : X.env.locals < s.heap.objs.size := let ⟨_, hn, _⟩ := I.loc; hn.lt
theorem Inv.sz (I : Inv X pins σ H s) : X.s₀.heap.objs.size <= s.heap.objs.size := Nat.le_trans I.ok.above (Nat.le_of_lt I.lt)
theorem Inv.GR (I : Inv X pins σ H s) {a : Addr} (h : s.heap.objs.size <= a) : a ∉ X.fs := fun hb => by
 obtain ⟨_, o, ho, _⟩ := I.ok.e_.mem hb
 exact absurd (Nat.lt_of_lt_of_le (Heap.lt_size ho) (Nat.le_trans I.sz h)) (Nat.lt_irrefl _)
theorem Inv.vv (I : Inv X pins σ H s) : ∀ x c, X.env.cells.lookup x = some c -> c ≠ X.env.locals := fun x c e z => by
 obtain ⟨v, o, ho, hd⟩ := I.cell x c e
 obtain ⟨m, ⟨o', es, ep, ho', hd', _⟩, _⟩ := I.loc
 rw [z, ho'] at ho; cases ho; rw [hd'] at hd; cases hd
theorem Inv.e_ (I : Inv X pins σ H s) : s.heap.FunFrames X.base X.outer := by
 have all : ∀ (l : List Env), (∀ b ∈ kZ l, b ∈ X.fs) -> X.s₀.heap.FunFrames X.base l -> s.heap.FunFrames X.base l := by
  intro l
  induction l with
  | nil => intro _ _; trivial
  | cons env r ih =>
   intro hs hl
   obtain ⟨hk, ⟨L, o, hf, hn, ho, hd⟩, hr⟩ := hl
   have hL : L ∈ X.fs := hs L (by unfold kZ; rw [List.filterMap_cons, hf]; exact List.mem_cons_self)
   obtain ⟨sl, e⟩ := I.base.slot L o ho (I.ok.uY L hL) hL fun z => I.ok.nq L z hL
   exact ⟨hk, ⟨L, _, hf, hn, e, hd⟩, ih (fun b hb => hs b (by unfold kZ; rw [List.filterMap_cons, hf]; exact List.mem_cons_of_mem _ hb)) hr⟩
 exact all X.outer (fun _ hb => hb) I.ok.e_
theorem Inv.stack (I : Inv X pins σ H s) : s.heap.FunFrames X.base X.stack := by
 rcases I.ok.DI with e | ⟨e, hf⟩
 ·rw [e]; exact I.e_
 ·rw [e]
  obtain ⟨m, hn, _⟩ := I.loc
  refine .cons (by rw [I.ok.kind]; decide) hf hn ?_ I.e_
  exact Heap.get?_none_of_le (Nat.le_trans I.ok.vU I.ok.above)
theorem Inv.iX (I : Inv X pins σ H s) : ∀ b ∈ kZ X.stack, b ∈ X.env.locals :: X.fs := fun b hb => by
 rcases I.ok.DI with e | ⟨e, hf⟩
 ·rw [e] at hb; exact List.mem_cons_of_mem _ hb
 ·rw [e] at hb
  unfold kZ at hb
  rw [List.filterMap_cons, hf] at hb
  exact hb
theorem Inv.pD (I : Inv X pins σ H s) : ∀ b ∈ kZ X.stack, H b = none := fun b hb => by
 rcases List.mem_cons.mp (I.iX b hb) with e | hb
 ·rw [e]; exact I.free
 ·obtain ⟨_, o, ho, _⟩ := I.ok.e_.mem hb
  exact I.base.free b o ho (I.ok.uY b hb) fun z => I.ok.nq b z hb
theorem Inv.step {g' : Array GenState} {t' : Nat} {d' : Drawn} {ch : List Addr} (I : Inv X pins σ H s)
  (hch : ∀ b ∈ ch, (b ∈ X.ex \/ X.s₀.heap.objs.size <= b) /\ b ≠ X.env.locals /\ (∀ x c, X.env.cells.lookup x = some c -> c ≠ b) /\ ∀ p ∈ X.pn ++ pins, p.1 ≠ b)
  (keep : ∀ b o, b ≠ X.env.locals -> b ∉ X.fs -> b ∉ ch -> s.heap.get? b = some o -> H b = none -> h'.get? b = some o)
  (slot : ∀ b o, b ≠ X.env.locals -> b ∈ X.fs -> b ∉ ch -> s.heap.get? b = some o -> H b = none -> ∃ sl, h'.get? b = some { o with slots := sl }) (free : ∀ b o, b ∉ ch -> s.heap.get? b = some o -> H b = none -> H' b = none)
  (there : ∀ b o, b ∉ ch -> s.heap.get? b = some o -> ∃ o', h'.get? b = some o')
  (dG : ∀ b xs, H b = some (.tup xs) -> H' b = some (.tup xs)) (cE : ∀ b o u, H b = some (.fT o u) -> H' b = some (.fT o u)) (ee : ∀ b ps, H b = some (.yP ps) -> ∃ more, H' b = some (.yP (ps ++ more)))
  (ns : ∀ m, s.heap.Ns X.env.locals m -> h'.Ns X.env.locals m) (ah : cQ X.prog X.w H' h') (hg : AllBare g') :
  Inv X pins σ H' { s with heap := h', gens := g', drawn := d', toks := t' } := by
 have neL : ∀ b o, X.s₀.heap.get? b = some o -> b ≠ X.env.locals := fun b o e => Nat.ne_of_lt (Nat.lt_of_lt_of_le (Heap.lt_size e) I.ok.above)
 have neC : ∀ b o, X.s₀.heap.get? b = some o -> b ∉ X.ex -> b ∉ ch := fun b o e hx hb => by
  rcases (hch b hb).1 with z | z
  ·exact hx z
  ·exact absurd (Nat.lt_of_lt_of_le (Heap.lt_size e) z) (Nat.lt_irrefl _)
 have cellK : ∀ x c, X.env.cells.lookup x = some c -> ∀ v, s.heap.IsCell c v -> h'.IsCell c v := fun x c e v ⟨o, ho, hd⟩ => by
  have nch : c ∉ ch := fun z => (hch c z).2.2.1 x c e rfl
  by_cases hc : c ∈ X.fs
  ·obtain ⟨sl, q⟩ := slot c o (I.vv x c e) hc nch ho (I.bK x c e)
   exact ⟨_, q, hd⟩
  ·exact ⟨o, keep c o (I.vv x c e) hc nch ho (I.bK x c e), hd⟩
 refine ⟨I.ok, I.os, hg, ⟨fun b o e n hb hx => ?_, fun b o e n hb hx => ?_, fun b o e n hx => ?_, fun b o e hx => ?_, fun b xs e => dG b xs (I.base.dG b xs e), fun b o xs e => cE b o xs (I.base.cE b o xs e), fun b ps e => ?_⟩, ?_, fun x c e => ?_, ?_, fun x c e => ?_, fun p hp => ?_, ah, I.len⟩
 ·exact keep b o (neL b o e) hb (neC b o e hx) (I.base.keep b o e n hb hx) (I.base.free b o e n hx)
 ·obtain ⟨sl, e1⟩ := I.base.slot b o e n hb hx
  obtain ⟨sl', e2⟩ := slot b _ (neL b o e) hb (neC b o e hx) e1 (I.base.free b o e n hx)
  exact ⟨sl', e2⟩
 ·obtain ⟨o', e1⟩ := I.base.there b o e hx
  exact free b o' (neC b o e hx) e1 (I.base.free b o e n hx)
 ·obtain ⟨o', e1⟩ := I.base.there b o e hx
  exact there b o' (neC b o e hx) e1
 ·obtain ⟨m1, e1⟩ := I.base.ee b ps e
  obtain ⟨m2, e2⟩ := ee b _ e1
  exact ⟨m1 ++ m2, by rw [e2, Array.append_assoc]⟩
 ·obtain ⟨m, hn, hl⟩ := I.loc
  refine ⟨m, ns m hn, fun i x v e1 e2 e3 => ?_⟩
  obtain ⟨u, r, l⟩ := hl i x v e1 e2 e3
  refine ⟨u, r, ?_⟩
  rcases l with l | ⟨k, c, e, z⟩
  ·exact .inl l
  ·exact .inr ⟨k, c, e, cellK x c e _ z⟩
 ·obtain ⟨v, z⟩ := I.cell x c e
  exact ⟨v, cellK x c e v z⟩
 ·obtain ⟨m, ⟨o, _, _, ho, _⟩, _⟩ := I.loc
  exact free _ o (fun z => (hch _ z).2.1 rfl) ho I.free
 ·obtain ⟨v, o, ho, hd⟩ := I.cell x c e
  exact free c o (fun z => (hch c z).2.2.1 x c e rfl) ho (I.bK x c e)
 ·obtain ⟨e, n, ne, nf, d⟩ := I.pin p hp
  have nch : p.1 ∉ ch := fun z => (hch p.1 z).2.2.2 p hp rfl
  exact ⟨keep p.1 p.2 ne nf nch e n, free p.1 p.2 nch e n, ne, nf, d⟩
theorem Inv.un {t' : Nat} (I : Inv X pins σ H s) (u : Un X.fs [] H H' s.heap h') (ah : cQ X.prog X.w H' h') : Inv X pins σ H' { s with heap := h', toks := t' } := by
 obtain ⟨m, ⟨o, es, ep, ho, r⟩, _⟩ := id I.loc
 obtain ⟨sl, hL⟩ := u.any ho I.free (by simp)
 exact I.step (g' := s.gens) (d' := s.drawn) (ch := []) (fun _ z => nomatch z) (fun b o _ hb _ e n => u.keep b o e n hb (by simp)) (fun b o _ hb _ e n => u.slot b o e n hb (by simp)) (fun b o _ e n => u.free b o e n (by simp)) (fun b o _ e => u.there b o e (by simp)) u.dG u.cE u.ee (fun m' hm => by
  obtain ⟨o', es', ep', ho', r'⟩ := hm
  rw [ho] at ho'; cases ho'
  exact ⟨_, es', ep', hL, r'⟩) ah I.bare
theorem Inv.call {g' : Array GenState} {t' : Nat} {d' : Drawn} {ch : List Addr} (I : Inv X pins σ H s) (u : Un (kZ X.stack) ch H H' s.heap h') (ah : cQ X.prog X.w H' h') (hg : AllBare g')
  (hch : ∀ b ∈ ch, (b ∈ X.ex \/ X.s₀.heap.objs.size <= b) /\ b ≠ X.env.locals /\ (∀ x c, X.env.cells.lookup x = some c -> c ≠ b) /\ ∀ p ∈ X.pn ++ pins, p.1 ≠ b) :
  Inv X pins σ H' { s with heap := h', gens := g', drawn := d', toks := t' } := by
 obtain ⟨m, ⟨o, es, ep, ho, r⟩, _⟩ := id I.loc
 obtain ⟨sl, hL⟩ := u.any ho I.free fun z => (hch _ z).2.1 rfl
 exact I.step (ch := ch) hch (fun b o hL hb hc e n => u.keep b o e n (fun z => (List.mem_cons.mp (I.iX b z)).elim hL hb) hc) (fun b o _ _ hc e n => u.any e n hc) (fun b o hc e n => u.free b o e n hc) (fun b o hc e => u.there b o e hc) u.dG u.cE u.ee (fun m' hm => by
  obtain ⟨o', es', ep', ho', r'⟩ := hm
  rw [ho] at ho'; cases ho'
  exact ⟨_, es', ep', hL, r'⟩) ah hg
theorem Inv.turned {t' : Nat} {it : Addr} (I : Inv X pins σ H s) (k : ∀ b o, b ≠ it -> s.heap.get? b = some o -> h'.get? b = some o) (hn : H it = none) (hL : it ≠ X.env.locals)
  (h1 : it ∈ X.ex \/ X.s₀.heap.objs.size <= it) (h2 : ∀ x c, X.env.cells.lookup x = some c -> c ≠ it) (h3 : ∀ p ∈ X.pn ++ pins, p.1 ≠ it) : Inv X pins σ H { s with heap := h', toks := t' } := by
 have nit : ∀ b u, H b = some u -> b ≠ it := fun b u e z => by rw [z, hn] at e; cases e
 refine I.step (g' := s.gens) (d' := s.drawn) (ch := [it]) (fun b hb => ?_) (fun b o _ _ hc e _ => k b o (fun z => hc (by simp [z])) e) (fun b o _ _ hc e _ => ⟨o.slots, k b o (fun z => hc (by simp [z])) e⟩) (fun _ _ _ _ n => n)
  (fun b o hc e => ⟨o, k b o (fun z => hc (by simp [z])) e⟩) (fun _ _ e => e) (fun _ _ _ e => e) (fun b ps e => ⟨#[], by rw [e]; simp⟩) (fun m hm => ?_) (fun b u e => ?_) I.bare
 ·have e : b = it := by simpa using hb
  subst e
  exact ⟨h1, hL, h2, h3⟩
 ·obtain ⟨o, es, ep, ho, r⟩ := hm
  exact ⟨o, es, ep, k _ o (Ne.symm hL) ho, r⟩
 ·refine (I.ah b u e).iW (fun c v hc q => k c v ?_ q) (fun _ q => q) fun _ _ q => q
  rcases hc with z | z
  ·rw [z]; exact nit b u e
  ·exact nit c _ z
theorem Inv.tok (I : Inv X pins σ H s) (t : Nat) : Inv X pins σ H { s with toks := t } := I.un (h' := s.heap) (t' := t) Un.refl I.ah
theorem Inv.kept {t' : Nat} (I : Inv X pins σ H s) (k : ∀ b u, s.heap.get? b = some u -> h'.get? b = some u) : Inv X pins σ H { s with heap := h', toks := t' } := I.un (Un.kept k) (I.ah.kept k)
theorem Inv.laid {a : Addr} {o : HO} {t' : Nat} (I : Inv X pins σ H s) (k : ∀ b u, s.heap.get? b = some u -> h'.get? b = some u) (hp : s.heap.objs.size <= a) (new : aL X.prog X.w (upd H a o) h' a o) :
  Inv X pins σ (upd H a o) { s with heap := h', toks := t' } := I.un (Un.laid k hp (I.ah.fresh hp)) (I.ah.laid k hp new)
theorem Inv.write {x e : Addr} {o : HO} {t' : Nat} (I : Inv X pins σ H s) (mu : Ds (H x)) (he : e = x \/ H e = some (.own x)) (k : ∀ b u, b ≠ e -> s.heap.get? b = some u -> h'.get? b = some u) (heo : ∃ u, h'.get? e = some u)
  (new : aL X.prog X.w (upd H x o) h' x o) : Inv X pins σ (upd H x o) { s with heap := h', toks := t' } := I.un (Un.write mu he k heo) (I.ah.write mu he k heo new)
theorem Inv.weak {σ' : List (Option V)} (I : Inv X pins σ H s) (hl : σ'.length = σ.length) (w : ∀ (i : Nat) v, σ'[i]? = some (some v) -> σ[i]? = some (some v)) : Inv X pins σ' H s :=
 ⟨I.ok, I.os, I.bare, I.base, let ⟨m, hn, hl'⟩ := I.loc; ⟨m, hn, fun i x v e1 e2 e3 => hl' i x v e1 (w i v e2) e3⟩, I.cell, I.free, I.bK, I.pin, I.ah, hl.trans I.len⟩
theorem Inv.oh {pins' : List (Addr × Obj)} (I : Inv X pins σ H s) (h : ∀ p ∈ pins', s.heap.get? p.1 = some p.2 /\ H p.1 = none /\ p.1 ≠ X.env.locals /\ p.1 ∉ X.fs /\ ∀ v, p.2.data ≠ .cell v) : Inv X pins' σ H s :=
 ⟨I.ok, I.os, I.bare, I.base, I.loc, I.cell, I.free, I.bK, fun p hp => (List.mem_append.mp hp).elim (fun z => I.pin p (List.mem_append_left _ z)) (h p), I.ah, I.len⟩
theorem qQ {N : List Str} (hN : N.Nodup) {i j : Nat} {x : Str} (a : N[i]? = some x) (b : N[j]? = some x) : i = j := by
 obtain ⟨h1, e1⟩ := List.getElem?_eq_some_iff.mp a
 obtain ⟨h2, e2⟩ := List.getElem?_eq_some_iff.mp b
 exact (List.getElem_inj hN).mp (e1.trans e2.symm)
theorem vJ {M : Model} {A : Around} {E : Value -> Shared -> Prop} {i : Nat} {x : Str} {v : V} {u : Value} {Q : Unit -> Shared -> Prop} (I : Inv X pins σ H s) (hN : X.N.Nodup) (hi : X.N[i]? = some x) (hx : Loc X.env.scope x) (r : RelV v u)
  (h : ∀ s', Inv X pins (σ.set i (some v)) H s' -> (∃ a, Heap.SameBut a s.heap s'.heap /\ (a = X.env.locals \/ X.env.cells.lookup x = some a)) -> Q () s') (hf : X.fn x = true \/ X.env.scope.names.lookup x = some .local := by first | exact .inl rfl | exact .inr rfl | assumption) : wpAny M A (storeName X.env x u) Q E s := by
 obtain ⟨m, hn, hl⟩ := id I.loc
 have hcls : (X.env.scope.kind == .class || (X.env.scope.kind == .module && X.env.locals != X.env.globals)) = false := by rw [I.ok.kind]; rfl
 have hiσ : i < σ.length := by rw [I.len]; exact (List.getElem?_eq_some_iff.mp hi).1
 have vv := I.vv
 have tracked : ∀ {a : Addr} {h' : Heap}, (∃ o, s.heap.get? a = some o /\ H a = none) -> Heap.SameBut a s.heap h' -> cQ X.prog X.w H h' := fun {a h'} ha hs b ob e => by
  obtain ⟨_, _, hfree⟩ := ha
  refine (I.ah b ob e).iW (fun c w' hc q => (hs.2 c ?_).trans q) (fun _ q => q) fun _ _ q => q
  rintro rfl
  rcases hc with rfl | hc
  ·rw [hfree] at e; cases e
  ·rw [hfree] at hc; cases hc
 rcases hx with hk | hk
 ·refine wpAny_storeName_local hk hn (fun h' hn' hs => ?_) hcls
  obtain ⟨oL, _, _, hoL, _⟩ := id hn
  refine h _ ⟨I.ok, I.os, I.bare, ⟨fun b o e n hb hx => ?_, fun b o e n hb hx => ?_, I.base.free, fun b o e hx => ?_, I.base.dG, I.base.cE, I.base.ee⟩, ⟨_, hn', fun j y v' e1 e2 e3 => ?_⟩, fun y c e => ?_, I.free, I.bK, fun p hp => ?_, tracked ⟨oL, hoL, I.free⟩ hs, by simpa using I.len⟩ ⟨_, hs, .inl rfl⟩
  ·exact (hs.2 b (Nat.ne_of_lt (Nat.lt_of_lt_of_le (Heap.lt_size e) I.ok.above))).trans (I.base.keep b o e n hb hx)
  ·obtain ⟨sl, e1⟩ := I.base.slot b o e n hb hx
   exact ⟨sl, (hs.2 b (Nat.ne_of_lt (Nat.lt_of_lt_of_le (Heap.lt_size e) I.ok.above))).trans e1⟩
  ·obtain ⟨o', e1⟩ := I.base.there b o e hx
   exact ⟨o', (hs.2 b (Nat.ne_of_lt (Nat.lt_of_lt_of_le (Heap.lt_size e) I.ok.above))).trans e1⟩
  ·by_cases hj : j = i
   ·subst hj
    rw [hi] at e1; cases e1
    rw [List.getElem?_set_self hiσ] at e2
    cases e2
    exact ⟨u, r, .inl ⟨hk, by simp⟩⟩
   ·rw [List.getElem?_set_ne (Ne.symm hj)] at e2
    obtain ⟨u', r', q⟩ := hl j y v' e1 e2 e3
    refine ⟨u', r', ?_⟩
    rcases q with ⟨k, e⟩ | ⟨k, c, e, z⟩
    ·refine .inl ⟨k, ?_⟩
     have : y ≠ x := fun e => hj (qQ hN e1 (e ▸ hi))
     simp [this, e]
    ·exact .inr ⟨k, c, e, z.sameBut hs (vv y c e)⟩
  ·obtain ⟨w', z⟩ := I.cell y c e
   exact ⟨w', z.sameBut hs (vv y c e)⟩
  ·obtain ⟨e, n, ne, nf, d⟩ := I.pin p hp
   exact ⟨(hs.2 p.1 ne).trans e, n, ne, nf, d⟩
 ·have hfn : X.fn x = true := by
   rcases hf with z | z
   ·exact z
   ·rw [z] at hk; cases hk
  obtain ⟨c, hc⟩ := I.ok.has x (.inl hk)
  obtain ⟨w', z⟩ := I.cell x c hc
  refine wpAny_storeName_cell I.ok.kind hk hc z (fun h' hc' hs => ?_)
  obtain ⟨oc, hoc, hocd⟩ := id z
  refine h { s with heap := h' } ⟨I.ok, I.os, I.bare, ⟨fun b o e n hb hx => ?_, fun b o e n hb hx => ?_, I.base.free, fun b o e hx => ?_, I.base.dG, I.base.cE, I.base.ee⟩, ⟨m, hn.sameBut hs (Ne.symm (vv x c hc)), fun j y v' e1 e2 e3 => ?_⟩, fun y c' e => ?_, I.free, I.bK, fun p hp => ?_, tracked ⟨oc, hoc, I.bK x c hc⟩ hs, by simpa using I.len⟩ ⟨c, hs, .inr hc⟩
  ·exact (hs.2 b (Nat.ne_of_lt (Nat.lt_of_lt_of_le (Heap.lt_size e) (I.ok.A8 x c hfn hc)))).trans (I.base.keep b o e n hb hx)
  ·obtain ⟨sl, e1⟩ := I.base.slot b o e n hb hx
   exact ⟨sl, (hs.2 b (Nat.ne_of_lt (Nat.lt_of_lt_of_le (Heap.lt_size e) (I.ok.A8 x c hfn hc)))).trans e1⟩
  ·obtain ⟨o', e1⟩ := I.base.there b o e hx
   exact ⟨o', (hs.2 b (Nat.ne_of_lt (Nat.lt_of_lt_of_le (Heap.lt_size e) (I.ok.A8 x c hfn hc)))).trans e1⟩
  ·by_cases hj : j = i
   ·subst hj
    rw [hi] at e1; cases e1
    rw [List.getElem?_set_self hiσ] at e2
    cases e2
    exact ⟨u, r, .inr ⟨.inl hk, c, hc, hc'⟩⟩
   ·rw [List.getElem?_set_ne (Ne.symm hj)] at e2
    obtain ⟨u', r', q⟩ := hl j y v' e1 e2 e3
    refine ⟨u', r', ?_⟩
    rcases q with q | ⟨k, c', e, z'⟩
    ·exact .inl q
    ·refine .inr ⟨k, c', e, z'.sameBut hs ?_⟩
     rintro rfl
     exact hj (qQ hN e1 (I.ok.inj _ _ _ e hc ▸ hi))
  ·by_cases hcc : c' = c
   ·subst hcc; exact ⟨_, hc'⟩
   ·obtain ⟨w2, z2⟩ := I.cell y c' e
    exact ⟨w2, z2.sameBut hs hcc⟩
  ·obtain ⟨e, n, ne, nf, d⟩ := I.pin p hp
   refine ⟨(hs.2 p.1 ?_).trans e, n, ne, nf, d⟩
   intro q
   rw [q, hoc] at e
   have q' : oc = p.2 := Option.some.inj e
   exact d w' (by rw [<- q']; exact hocd)
theorem lX {M : Model} {A : Around} {E : Value -> Shared -> Prop} {i : Nat} {x : Str} {v : V} {u : Value} {Q : Unit -> Shared -> Prop} (I : Inv X pins σ H s) (hN : X.N.Nodup) (hi : X.N[i]? = some x) (hx : Loc X.env.scope x) (r : RelV v u)
  (h : ∀ s', Inv X pins (σ.set i (some v)) H s' -> Q () s') (hf : X.fn x = true \/ X.env.scope.names.lookup x = some .local := by first | exact .inl rfl | exact .inr rfl | assumption) : wpAny M A (storeName X.env x u) Q E s :=
 vJ I hN hi hx r (fun s' I' _ => h s' I') hf
theorem Inv.mX {s' : Shared} {ch : List Addr} (I : Inv X pins σ H s) (ho : s'.os = s.os) (u : Un (kZ X.stack) ch H H' s.heap s'.heap) (ah : cQ X.prog X.w H' s'.heap) (hg : AllBare s'.gens)
  (hch : ∀ b ∈ ch, (b ∈ X.ex \/ X.s₀.heap.objs.size <= b) /\ b ≠ X.env.locals /\ (∀ x c, X.env.cells.lookup x = some c -> c ≠ b) /\ ∀ p ∈ X.pn ++ pins, p.1 ≠ b) : Inv X pins σ H' s' := by
 obtain ⟨h', g', d', t', o'⟩ := s'
 have e : o' = s.os := ho
 subst e
 exact I.call (g' := g') (t' := t') (d' := d') u ah hg hch
end
abbrev XK := Value -> Option Addr -> Hp -> Prop
abbrev St := List (Option V)
abbrev VK := V -> Hp -> Prop
abbrev TE := St -> Hp -> VK -> Prop
abbrev TT := St -> Hp -> (Bool -> Hp -> Prop) -> Prop
abbrev TA := St -> Hp -> (List V -> Hp -> Prop) -> Prop
structure Ends where
 nx : St -> Hp -> Prop
 rt : VK
 bk : St -> Hp -> Prop := fun _ _ => False
 ct : St -> Hp -> Prop := fun _ _ => False
abbrev TS := Ends -> St -> Hp -> Prop
def EP (X : Cx) (pins : List (Addr × Obj)) (σ : St) (Q : VK) (u : Value) (s' : Shared) : Prop := ∃ v H', Inv X pins σ H' s' /\ RelV v u /\ Q v H'
def TP (X : Cx) (pins : List (Addr × Obj)) (σ : St) (Q : Bool -> Hp -> Prop) (b : Bool) (s' : Shared) : Prop := ∃ H', Inv X pins σ H' s' /\ Q b H'
def AP (X : Cx) (pins : List (Addr × Obj)) (σ : St) (Q : List V -> Hp -> Prop) (us : List Value) (s' : Shared) : Prop := ∃ vs H', Inv X pins σ H' s' /\ Vals vs us /\ Q vs H'
def SP (X : Cx) (pins : List (Addr × Obj)) (D : Ends) (f : Flow) (s' : Shared) : Prop :=
 match f with
 | .next => ∃ σ' H', Inv X pins σ' H' s' /\ D.nx σ' H'
 | .brk => ∃ σ' H', Inv X pins σ' H' s' /\ D.bk σ' H'
 | .cont => ∃ σ' H', Inv X pins σ' H' s' /\ D.ct σ' H'
 | .ret u => ∃ v σ' H', Inv X pins σ' H' s' /\ RelV v u /\ D.rt v H'
def PE (X : Cx) (e : Expr) (t : TE) : Prop :=
 ∀ (pins : List (Addr × Obj)) (s : Shared) (σ : St) (H : Hp) (Q : VK), Inv X pins σ H s -> t σ H Q -> wpAny (model X.prog X.w) X.A (eval e X.env) (EP X pins σ Q) X.xe s
def PT (X : Cx) (e : Expr) (t : TT) : Prop :=
 ∀ (pins : List (Addr × Obj)) (s : Shared) (σ : St) (H : Hp) (Q : Bool -> Hp -> Prop), Inv X pins σ H s -> t σ H Q -> wpAny (model X.prog X.w) X.A (isTrue e X.env (eval e X.env)) (TP X pins σ Q) X.xe s
def PW (X : Cx) (e : Expr) (t : TT) : Prop :=
 ∀ (whole : Sem Value) (pins : List (Addr × Obj)) (s : Shared) (σ : St) (H : Hp) (Q : Bool -> Hp -> Prop), Inv X pins σ H s -> t σ H Q -> wpAny (model X.prog X.w) X.A (isTrue e X.env whole) (TP X pins σ Q) X.xe s
theorem PW.pt {X : Cx} {e : Expr} {t : TT} (h : PW X e t) : PT X e t := h _
def PA (X : Cx) (es : List Expr) (t : TA) : Prop :=
 ∀ (pos : Pos) (pins : List (Addr × Obj)) (s : Shared) (σ : St) (H : Hp) (Q : List V -> Hp -> Prop), Inv X pins σ H s -> t σ H Q -> wpAny (model X.prog X.w) X.A (spliced (backTo pos (starEach es X.env))) (AP X pins σ Q) X.xe s
def PS (X : Cx) (st : Stmt) (t : TS) : Prop :=
 ∀ (pins : List (Addr × Obj)) (s : Shared) (σ : St) (H : Hp) (D : Ends), Inv X pins σ H s -> t D σ H -> wpAny (model X.prog X.w) X.A (exec st X.env) (SP X pins D) X.xe s
def gi (X : Cx) (st : List Stmt) (t : TS) : Prop :=
 ∀ (pins : List (Addr × Obj)) (s : Shared) (σ : St) (H : Hp) (D : Ends), Inv X pins σ H s -> t D σ H -> wpAny (model X.prog X.w) X.A (execs st X.env) (SP X pins D) X.xe s
theorem au {α : Type} {t : Sem α} {Q Q' : α -> Shared -> Prop} {M : Model} {A : Around} {E : Value -> Shared -> Prop} {s : Shared} (h : wpAny M A t Q E s) (hQ : ∀ a s, Q a s -> Q' a s) : wpAny M A t Q' E s := wpAny_mono h hQ fun _ _ x => x
section
variable {X : Cx}
def DN (i : Nat) : TE := fun σ H Q => ∃ v, σ[i]? = some (some v) /\ Q v H
def tC (v : V) : TE := fun _ H Q => Q v H
theorem js {i : Nat} {x : Str} {pos : Pos} (hN : X.N[i]? = some x) (hv : ye X.env.scope x) (hd : (x == ("__debug__" : Str)) = false := by decide) (hcd : (x == ("__classdict__" : Str)) = false := by decide) : PE X (.Name x pos) (DN i) := by
 intro pins s σ H Q I h
 obtain ⟨v, e, h⟩ := h
 obtain ⟨m, hn, hl⟩ := I.loc
 obtain ⟨u, r, l⟩ := hl i x v hN e hv
 have fin : EP X pins σ Q u s := ⟨v, H, I, r, h⟩
 rcases l with ⟨hk, hm⟩ | ⟨hk, c, hc, hcell⟩
 ·exact wpAny_Name (wpAny_loadName_local I.ok.kind hk hn hm fin) hd
 ·rcases hk with hk | hk
  ·exact wpAny_Name (wpAny_loadName_cell I.ok.kind hk hc hcell fin) hd
  ·exact wpAny_Name (wpAny_loadName_free I.ok.kind hk hc hcell fin hcd) hd
theorem Cu {i j pos} : PE X (.Constant (.int i) j pos) (tC (.int i)) := fun _ _ _ H _ I h => wpAny_Constant_int ⟨.int i, H, I.tok _, ⟨_, rfl⟩, h⟩
theorem Et {b j pos} : PE X (.Constant (.bool b) j pos) (tC (.bl b)) := fun _ _ _ H _ I h => Constant_bool ⟨.bl b, H, I, rfl, h⟩
theorem Cv {j pos} : PE X (.Constant .none j pos) (tC .aV) := fun _ _ _ H _ I h => Constant_none ⟨.aV, H, I, rfl, h⟩
theorem Cy {x j pos} : PE X (.Constant (.str x) j pos) (tC (.str x)) := fun _ _ _ H _ I h => Calls.Constant_str ⟨.str x, H, I.tok _, ⟨_, rfl⟩, h⟩
def Gl (X : Cx) (x : Str) : Prop := X.env.kindOf x = some .globalImplicit
theorem gw {E : Value -> Shared -> Prop} {pins : List (Addr × Obj)} {s : Shared} {σ : St} {H : Hp} {x : Str} {u : Value} {pos : Pos} {Q : Value -> Shared -> Prop} (I : Inv X pins σ H s) (hg : Gl X x) (hm : X.mg x = some u) (h : Q u s)
  (hd : (x == ("__debug__" : Str)) = false := by decide) : wpAny (model X.prog X.w) X.A (eval (.Name x pos) X.env) Q E s :=
 Calls.Name_function_global I.ok.kind hg (Calls.loadGlobal_global (by rw [I.ok.glob]; exact I.mod.glob.keeps I.bk) hm h) hd
theorem iR {E : Value -> Shared -> Prop} {pins : List (Addr × Obj)} {s : Shared} {σ : St} {H : Hp} {x : Str} {u : Value} {pos : Pos} {Q : Value -> Shared -> Prop} (I : Inv X pins σ H s) (hg : Gl X x) (hm : X.mg x = none) (hv : bootBuiltins x = some u) (h : Q u s)
  (hn : x ≠ "__name__" := by decide) (hd : (x == ("__debug__" : Str)) = false := by decide) : wpAny (model X.prog X.w) X.A (eval (.Name x pos) X.env) Q E s := by
 obtain ⟨mb, h1, h2⟩ := I.mod.blt
 exact Calls.Name_function_global I.ok.kind hg (Calls.loadGlobal_builtin (by rw [I.ok.glob]; exact I.mod.glob.keeps I.bk) hm (by rw [I.ok.blt]; exact h1.keeps I.bk) ((h2 x hn).trans hv) h) hd
theorem kl {x : Str} {v : V} {u : Value} {pos : Pos} (hg : Gl X x) (hm : X.mg x = some u) (r : RelV v u) (hd : (x == ("__debug__" : Str)) = false := by decide) : PE X (.Name x pos) (tC v) :=
 fun _ _ _ H _ I h => gw I hg hm ⟨v, H, I, r, h⟩ hd
theorem t4 {x : Str} {v : V} {u : Value} {pos : Pos} (hg : Gl X x) (hm : X.mg x = none) (hv : bootBuiltins x = some u) (r : RelV v u) (hn : x ≠ "__name__" := by decide) (hd : (x == ("__debug__" : Str)) = false := by decide) : PE X (.Name x pos) (tC v) :=
 fun _ _ _ H _ I h => iR I hg hm hv ⟨v, H, I, r, h⟩ hn hd
variable {a b : Expr} {ta tb : TE} {pos : Pos}
variable {tA tB' : TT} {rest : List Expr}
def Gg (t u : TT) : TT := fun σ H Q => t σ H fun c H1 => if c = true then u σ H1 Q else Q false H1
def Hg (t u : TT) : TT := fun σ H Q => t σ H fun c H1 => if c = true then Q true H1 else u σ H1 Q
def Gm (t : TT) : TT := fun σ H Q => t σ H fun c H1 => Q (!c) H1
theorem Aa (ha : PT X a tA) : PW X (.BoolOp .And [a] pos) tA := by
 intro wh pins s σ H Q I h
 refine isTrue_and (au (ha pins s σ H Q I h) fun c s1 e => ?_)
 cases c with
 | true => exact isTrue_and_nil e
 | false => exact e
theorem C8 (ha : PT X a tA) : PW X (.BoolOp .Or [a] pos) tA := by
 intro wh pins s σ H Q I h
 refine isTrue_or (au (ha pins s σ H Q I h) fun c s1 e => ?_)
 cases c with
 | false => exact isTrue_or_nil e
 | true => exact e
theorem C7 (ha : PT X a tA) (hb : PW X (.BoolOp .And (b :: rest) pos) tB') : PW X (.BoolOp .And (a :: b :: rest) pos) (Gg tA tB') := by
 intro wh pins s σ H Q I h
 refine isTrue_and (au (ha pins s σ H _ I h) fun c s1 ⟨H1, I1, q1⟩ => ?_)
 cases c with
 | true => exact hb wh pins s1 σ H1 Q I1 q1
 | false => exact ⟨H1, I1, q1⟩
theorem Ey (ha : PT X a tA) (hb : PW X (.BoolOp .Or (b :: rest) pos) tB') : PW X (.BoolOp .Or (a :: b :: rest) pos) (Hg tA tB') := by
 intro wh pins s σ H Q I h
 refine isTrue_or (au (ha pins s σ H _ I h) fun c s1 ⟨H1, I1, q1⟩ => ?_)
 cases c with
 | true => exact ⟨H1, I1, q1⟩
 | false => exact hb wh pins s1 σ H1 Q I1 q1
theorem C6 (ha : PT X a tA) : PT X (.UnaryOp .Not a pos) (Gm tA) := by
 intro pins s σ H Q I h
 exact isTrue_not (ha pins s σ H (fun c H1 => Q (!c) H1) I h)
def FC (ta tb : TE) : TE := fun σ H Q => ta σ H fun x H1 => ∃ c, x = .bl c /\ if c = true then tb σ H1 Q else Q (.bl false) H1
def Gn (ta tb : TE) : TE := fun σ H Q => ta σ H fun x H1 => ∃ c, x = .bl c /\ if c = true then Q (.bl true) H1 else tb σ H1 Q
theorem Cw {op} {t : TE} (h : PE X a t) : PE X (.BoolOp op [a] pos) t := fun pins s σ H Q I hw => BoolOp_one (h pins s σ H Q I hw)
theorem Ct (ha : PE X a ta) (hb : PE X (.BoolOp .And (b :: rest) pos) tb) : PE X (.BoolOp .And (a :: b :: rest) pos) (FC ta tb) := by
 intro pins s σ H Q I h
 refine BoolOp_and (au (ha pins s σ H _ I h) fun v s1 ⟨x, H1, I1, r1, q1⟩ => ?_)
 obtain ⟨c, rfl, q1⟩ := q1
 cases r1
 refine wpAny_truthy_bool ?_
 cases c with
 | true => exact hb pins s1 σ H1 Q I1 q1
 | false => exact ⟨.bl false, H1, I1, rfl, q1⟩
theorem Ew (ha : PE X a ta) (hb : PE X (.BoolOp .Or (b :: rest) pos) tb) : PE X (.BoolOp .Or (a :: b :: rest) pos) (Gn ta tb) := by
 intro pins s σ H Q I h
 refine BoolOp_or (au (ha pins s σ H _ I h) fun v s1 ⟨x, H1, I1, r1, q1⟩ => ?_)
 obtain ⟨c, rfl, q1⟩ := q1
 cases r1
 refine wpAny_truthy_bool ?_
 cases c with
 | false => exact hb pins s1 σ H1 Q I1 q1
 | true => exact ⟨.bl true, H1, I1, rfl, q1⟩
def Hf (t : TT) (ta tb : TE) : TE := fun σ H Q => t σ H fun c H1 => if c = true then ta σ H1 Q else tb σ H1 Q
theorem xb {c : Expr} (hc : PT X c tA) (ha : PE X a ta) (hb : PE X b tb) : PE X (.IfExp c a b pos) (Hf tA ta tb) := by
 intro pins s σ H Q I h
 refine wpAny_IfExp (au (hc pins s σ H _ I h) fun d s1 ⟨H1, I1, q1⟩ => ?_)
 cases d with
 | true => exact ha pins s1 σ H1 Q I1 q1
 | false => exact hb pins s1 σ H1 Q I1 q1
end
def c_ (K : PySem.W.Frag) (H : Hp) (a : Addr) (xs : List V) : Prop :=
 Rd H a (.lst xs) \/
  ∃ (o : Obj) (its : Array Value) (n : Nat), K.lookup a = some o /\ o.cls = .type "list" /\ o.dict = none /\ o.data = .seq its n /\ its.size <= sizeLine /\ Vals xs its.toList
def ej (K : PySem.W.Frag) (H : Hp) (a : Addr) (xs : List V) : Prop :=
 Rd H a (.tup xs) \/
  ∃ (o : Obj) (its : Array Value) (n : Nat), K.lookup a = some o /\ o.cls = .type "tuple" /\ o.data = .seq its n /\ its.size <= sizeLine /\ Vals xs its.toList
def Fq : Value -> Option V
 | .none => some .aV
 | .bool b => some (.bl b)
 | .int i _ => some (.int i)
 | .str x _ => some (.str x)
 | .bytes b _ => some (.qm b)
 | .float b _ => some (.Ff b)
 | .ref a => some (.ref a)
 | .type n => some (.ty n)
 | _ => none
theorem RelV.abs {x : V} {u : Value} (r : RelV x u) : Fq u = some x := by
 cases x with
 | aV => cases r; rfl
 | bl _ => cases r; rfl
 | int _ => obtain ⟨t, rfl⟩ := r; rfl
 | str _ => obtain ⟨t, rfl⟩ := r; rfl
 | qm _ => obtain ⟨t, rfl⟩ := r; rfl
 | Ff _ => obtain ⟨t, rfl⟩ := r; rfl
 | ref _ => cases r; rfl
 | ty _ => cases r; rfl
theorem RelV.inj {x y : V} {u : Value} (r : RelV x u) (q : RelV y u) : x = y := Option.some.inj (r.abs.symm.trans q.abs)
theorem Vals.inj : ∀ {xs ys : List V} {us : List Value}, Vals xs us -> Vals ys us -> xs = ys
 | _, _, _, .nil, .nil => rfl
 | _, _, _, .cons r t, .cons r' t' => by rw [r.inj r', Vals.inj t t']
section
variable {X : Cx} {pins : List (Addr × Obj)} {σ : St} {H : Hp} {s : Shared} {a : Addr} {xs ys : List V}
theorem c_.of {K : PySem.W.Frag} (h : H a = some (.lst xs)) : c_ K H a xs := .inl (.inl h)
theorem ej.of {K : PySem.W.Frag} (h : H a = some (.tup xs)) : ej K H a xs := .inl (.inl h)
theorem Inv.list (I : Inv X pins σ H s) (h : c_ X.K H a xs) : ∃ its : List Value, Vals xs its /\ PlainL s.heap a its.toArray /\ xs.length <= sizeLine := by
 rcases h with h | ⟨o, its, n, hk, hc, hd, hs, hz, r⟩
 ·obtain ⟨z, its, n, r, e⟩ := h.ok I.ah
  exact ⟨its, r, ⟨_, n, e, rfl, rfl, rfl⟩, z⟩
 ·refine ⟨its.toList, r, ⟨o, n, I.iQ a o hk, hc, hd, by simpa using hs⟩, ?_⟩
  have e := r.length
  simp only [Array.length_toList] at e
  omega
theorem Inv.tuple (I : Inv X pins σ H s) (h : ej X.K H a xs) : ∃ its : List Value, Vals xs its /\ IsTup s.heap a its.toArray /\ xs.length <= sizeLine := by
 rcases h with h | ⟨o, its, n, hk, hc, hs, hz, r⟩
 ·obtain ⟨z, its, r, p⟩ := h.ok I.ah
  exact ⟨its, r, p, z⟩
 ·refine ⟨its.toList, r, ⟨o, I.iQ a o hk, hc, n, by simpa using hs⟩, ?_⟩
  have e := r.length
  simp only [Array.length_toList] at e
  omega
theorem Inv.qI (I : Inv X pins σ H s) (h : c_ X.K H a xs) (h' : c_ X.K H a ys) : xs = ys := by
 obtain ⟨its, r, ⟨o, n, e, _, _, d⟩, _⟩ := I.list h
 obtain ⟨its', r', ⟨o', n', e', _, _, d'⟩, _⟩ := I.list h'
 rw [e] at e'; cases e'
 rw [d] at d'
 injection d' with d1 _
 have : its = its' := by simpa using congrArg Array.toList d1
 subst this
 exact r.inj r'
theorem Inv.nH (I : Inv X pins σ H s) (h : ej X.K H a xs) (h' : ej X.K H a ys) : xs = ys := by
 obtain ⟨its, r, ⟨o, e, _, n, d⟩, _⟩ := I.tuple h
 obtain ⟨its', r', ⟨o', e', _, n', d'⟩, _⟩ := I.tuple h'
 rw [e] at e'; cases e'
 rw [d] at d'
 injection d' with d1 _
 have : its = its' := by simpa using congrArg Array.toList d1
 subst this
 exact r.inj r'
end
abbrev Cx.kT (X : Cx) (E : Value -> Shared -> Prop) : Cx := { X with xe := E }
abbrev Cx.Cf (X : Cx) : Cx := X.kT fun _ _ => False
theorem Cx.Ok.kT {X : Cx} (ok : X.Ok) (E : Value -> Shared -> Prop) : (X.kT E).Ok :=
 ⟨ok.mod, ok.kind, ok.glob, ok.blt, ok.above, ok.inj, ok.has, ok.A8, ok.hd, ok.frames, ok.DI, ok.EA, ok.bs, ok.vU, ok.qR, ok.nq, ok.e_, ok.uY⟩
theorem Cx.Ok.eh {X : Cx} {E : Value -> Shared -> Prop} (ok : (X.kT E).Ok) : X.Ok :=
 ⟨ok.mod, ok.kind, ok.glob, ok.blt, ok.above, ok.inj, ok.has, ok.A8, ok.hd, ok.frames, ok.DI, ok.EA, ok.bs, ok.vU, ok.qR, ok.nq, ok.e_, ok.uY⟩
section
variable {X : Cx} {pins : List (Addr × Obj)} {σ : St} {H : Hp} {s : Shared} {E : Value -> Shared -> Prop}
theorem Inv.kT (I : Inv X pins σ H s) (E : Value -> Shared -> Prop) : Inv (X.kT E) pins σ H s := ⟨I.ok.kT E, I.os, I.bare, I.base, I.loc, I.cell, I.free, I.bK, I.pin, I.ah, I.len⟩
theorem Inv.eh (I : Inv (X.kT E) pins σ H s) : Inv X pins σ H s := ⟨I.ok.eh, I.os, I.bare, I.base, I.loc, I.cell, I.free, I.bK, I.pin, I.ah, I.len⟩
theorem SP.eh {D : Ends} {f : Flow} {s' : Shared} (h : SP (X.kT E) pins D f s') : SP X pins D f s' := by
 cases f with
 | next => obtain ⟨σ', H', I, q⟩ := h; exact ⟨σ', H', I.eh, q⟩
 | brk => obtain ⟨σ', H', I, q⟩ := h; exact ⟨σ', H', I.eh, q⟩
 | cont => obtain ⟨σ', H', I, q⟩ := h; exact ⟨σ', H', I.eh, q⟩
 | ret u => obtain ⟨v, σ', H', I, r, q⟩ := h; exact ⟨v, σ', H', I.eh, r, q⟩
theorem gi.Cf {st : List Stmt} {t : TS} (h : gi X.Cf st t) : gi X st t := fun pins s σ H D I hw =>
 wpAny_mono (h pins s σ H D (I.kT _) hw) (fun _ _ q => q.eh) fun _ _ z => False.elim z
end
section
variable {X : Cx} {st : Stmt} {rest : List Stmt} {t u : TS} {e : Expr} {te : TE} {pos : Pos}
def FJ : TS := fun D σ H => D.nx σ H
def Ax (t u : TS) : TS := fun D σ H => t { D with nx := u D } σ H
theorem oj : gi X [] FJ := fun _ _ σ H _ I h => wpAny_execs_nil ⟨σ, H, I, h⟩
theorem dz (h1 : PS X st t) (h2 : gi X rest u) : gi X (st :: rest) (Ax t u) := by
 intro pins s σ H D I h
 refine wpAny_execs_cons (au (h1 pins s σ H { D with nx := u D } I h) fun f s1 q => ?_)
 cases f with
 | next =>
  obtain ⟨σ', H', I', q⟩ := q
  exact h2 pins s1 σ' H' D I' q
 | ret v => exact q
 | brk => exact q
 | cont => exact q
theorem om (h1 : PS X st t) : gi X [st] t := by
 intro pins s σ H D I h
 refine wpAny_execs_cons (au (h1 pins s σ H D I h) fun f s1 q => ?_)
 cases f with
 | next => exact wpAny_execs_nil q
 | ret v => exact q
 | brk => exact q
 | cont => exact q
theorem Inv.quiet {pins : List (Addr × Obj)} {σ : St} {H : Hp} {s : Shared} (I : Inv X pins σ H s) : interactive X.env = false := by simp [interactive, I.ok.kind]
def FG (te : TE) : TS := fun D σ H => te σ H fun _ H1 => D.nx σ H1
theorem t7 (he : PE X e te) (hs : swapsWith e none pos.line X.env = pure false := by rfl) : PS X (.Expr e pos) (FG te) := by
 intro pins s σ H D I h
 exact wpAny_Expr_any (au (he pins s σ H _ I h) fun v s1 ⟨x, H1, I1, r1, q1⟩ => ⟨σ, H1, I1, q1⟩) I.quiet hs
def Gp (te : TE) : TS := fun D σ H => te σ H D.rt
theorem C5 (he : PE X e te) : PS X (.Return (some e) pos) (Gp te) := by
 intro pins s σ H D I h
 exact wpAny_Return_some (au (he pins s σ H _ I h) fun v s1 ⟨x, H1, I1, r1, q1⟩ => ⟨x, σ, H1, I1, r1, q1⟩)
def Gj (c : TT) (t u : TS) : TS := fun D σ H => c σ H fun b H1 => if b = true then t D σ H1 else u D σ H1
theorem BM {c : Expr} {a b : List Stmt} {tc : TT} (hc : PT X c tc) (ha : gi X a t) (hb : gi X b u) : PS X (.If c a b pos) (Gj tc t u) := by
 intro pins s σ H D I h
 refine wpAny_If (au (hc pins s σ H _ I h) fun d s1 ⟨H1, I1, q1⟩ => ?_)
 cases d with
 | true => exact ha pins s1 σ H1 D I1 q1
 | false => exact hb pins s1 σ H1 D I1 q1
def DL : TS := fun _ _ _ => False
theorem xo : PS X st DL := fun _ _ _ _ _ _ h => h.elim
end
abbrev TG := V -> St -> Hp -> (St -> Hp -> Prop) -> Prop
abbrev A6 := List V -> St -> Hp -> (St -> Hp -> Prop) -> Prop
def PG (X : Cx) (target : Expr) (t : TG) : Prop :=
 ∀ (pins : List (Addr × Obj)) (s : Shared) (σ : St) (H : Hp) (v : V) (u : Value) (Q : St -> Hp -> Prop), Inv X pins σ H s -> RelV v u -> t v σ H Q ->
  wpAny (model X.prog X.w) X.A (assign target X.env u) (fun _ s' => ∃ σ' H', Inv X pins σ' H' s' /\ Q σ' H') X.xe s
def yc (X : Cx) (ts : List Expr) (t : A6) : Prop :=
 ∀ (pins : List (Addr × Obj)) (s : Shared) (σ : St) (H : Hp) (vs : List V) (us : List Value) (Q : St -> Hp -> Prop), Inv X pins σ H s -> Vals vs us -> t vs σ H Q ->
  wpAny (model X.prog X.w) X.A (assignInOrder ((assignEach ts X.env).map (·.2)) us) (fun _ s' => ∃ σ' H', Inv X pins σ' H' s' /\ Q σ' H') X.xe s
section
variable {X : Cx} {pos : Pos}
def gI (i : Nat) : TG := fun v σ H Q => Q (σ.set i (some v)) H
theorem bS {i : Nat} {x : Str} (hN : X.N.Nodup) (hi : X.N[i]? = some x) (hx : Loc X.env.scope x) (hf : X.fn x = true \/ X.env.scope.names.lookup x = some .local := by first | exact .inl rfl | exact .inr rfl | assumption) : PG X (.Name x pos) (gI i) := by
 intro pins s σ H v u Q I r h
 exact wpAny_assign_Name (lX I hN hi hx r (fun s' I' => ⟨_, H, I', h⟩) hf)
def B7 : A6 := fun vs σ H Q => vs = [] /\ Q σ H
def ph (t : TG) (u : A6) : A6 := fun vs σ H Q => ∃ v r, vs = v :: r /\ t v σ H fun σ' H' => u r σ' H' Q
theorem t6 : yc X [] B7 := by
 intro pins s σ H vs us Q I r h
 obtain ⟨e, h⟩ := h
 subst e
 cases r
 exact assignInOrder_nil ⟨σ, H, I, h⟩
theorem lO {e : Expr} {es : List Expr} {t : TG} {u : A6} (h1 : PG X e t) (h2 : yc X es u)
  (hs : (assignEach (e :: es) X.env).map (·.2) = assign e X.env :: (assignEach es X.env).map (·.2) := by rfl) : yc X (e :: es) (ph t u) := by
 intro pins s σ H vs us Q I r h
 obtain ⟨v, vr, e1, h⟩ := h
 subst e1
 cases r with
 | cons r rr =>
  rw [hs]
  refine assignInOrder_cons (au (h1 pins s σ H _ _ _ I r h) fun _ s1 ⟨σ1, H1, I1, q1⟩ => ?_)
  exact h2 pins s1 σ1 H1 _ _ Q I1 rr q1
def B8 (K : PySem.W.Frag) (n : Nat) (t : A6) : TG := fun v σ H Q => ∃ a xs, v = .ref a /\ ej K H a xs /\ xs.length = n /\ t xs σ H Q
theorem xh {es : List Expr} {k : Nat} {t : A6} {n : Nat} (hc : X.calm = true) (h : yc X es t)
  (hn : (assignEach es X.env).length = n := by rfl) (hst : (assignEach es X.env).findIdx? (·.1) = none := by rfl) : PG X (.Tuple es k pos) (B8 X.K n t) := by
 intro pins s σ H v u Q I r hw
 obtain ⟨a, xs, e1, hq, hl, hw⟩ := hw
 subst e1
 cases r
 obtain ⟨its, rv, ht, hz⟩ := I.tuple hq
 refine assign_Tuple_tuple (I.ok.hd hc) ht (by simp [hn, <- hl, rv.length]) hst fun h' hx => ?_
 have I1 : Inv X pins σ H { s with heap := h' } := I.kept (t' := s.toks) fun b o e => hx b o (Nat.ne_of_lt (Heap.lt_size e)) e
 exact h pins _ σ H xs _ Q I1 (by simpa using rv) hw
def Gh (te : TE) (g : TG) : TS := fun D σ H => te σ H fun x H1 => g x σ H1 D.nx
theorem ro {i : Nat} {x : Str} {e : Expr} {te : TE} {pos' : Pos} (hN : X.N.Nodup) (hi : X.N[i]? = some x) (hx : Loc X.env.scope x) (he : PE X e te) (hs : swapsWith e (some (.Name x pos')) pos.line X.env = pure false := by rfl) (hf : X.fn x = true \/ X.env.scope.names.lookup x = some .local := by first | exact .inl rfl | exact .inr rfl | assumption) :
  PS X (.Assign [.Name x pos'] e pos) (Gh te (gI i)) := by
 intro pins s σ H D I h
 refine wpAny_Assign_Name (au (he pins s σ H _ I h) fun v s1 ⟨y, H1, I1, r1, q1⟩ => ?_) hs
 exact lX I1 hN hi hx r1 (fun s2 I2 => ⟨_, H1, I2, q1⟩) hf
end
section
variable {X : Cx} {pos : Pos}
end
structure It where
 go : Nat -> Hp -> Prop
 yZ : Nat -> Hp -> V -> Hp -> Prop
 stop : Nat -> Hp -> Prop
def ei (X : Cx) (pins : List (Addr × Obj)) (H : Hp) (b : Addr) : Prop :=
 H b = none /\ b ≠ X.env.locals /\ b ∉ X.fs /\ (b ∈ X.ex \/ X.s₀.heap.objs.size <= b) /\ (∀ x c, X.env.cells.lookup x = some c -> c ≠ b) /\ ∀ p ∈ X.pn ++ pins, p.1 ≠ b
theorem Inv.wY {X : Cx} {pins : List (Addr × Obj)} {σ : St} {H H' : Hp} {s : Shared} {b : Addr} (I : Inv X pins σ H s) (hb : s.heap.objs.size <= b) (hn : H' b = none) : ei X pins H' b := by
 refine ⟨hn, Nat.ne_of_gt (Nat.lt_of_lt_of_le I.lt hb), I.GR hb, .inr (Nat.le_trans I.sz hb), fun x c e z => ?_, fun p hp z => ?_⟩
 ·obtain ⟨v, q⟩ := I.cell x c e
  exact absurd (Nat.lt_of_lt_of_le q.lt (by rw [z]; exact hb)) (Nat.lt_irrefl _)
 ·exact absurd (Nat.lt_of_lt_of_le (Heap.lt_size (I.pin p hp).1) (by rw [z]; exact hb)) (Nat.lt_irrefl _)
structure Turn (P : Program) (w : World) (K : PySem.W.Frag) (tg : Expr) (J : It) (fp : List Addr) (it : Addr) (tn : Nat -> Heap -> Prop) : Prop where
 mem : it ∈ fp
 obj : ∀ i h, tn i h -> ∀ b ∈ fp, ∃ o, h.get? b = some o /\ ∀ v, o.data ≠ .cell v
 keep : ∀ i h h', tn i h -> (∀ b ∈ fp, ∀ o, h.get? b = some o -> h'.get? b = some o) -> tn i h'
 item : ∀ (X : Cx), X.prog = P -> X.w = w -> X.K = K -> X.calm = true -> ∀ (i : Nat) (pins : List (Addr × Obj)) (s : Shared) (σ : St) (H : Hp) (E : Value -> Shared -> Prop), Inv X pins σ H s -> (∀ b ∈ fp, ei X pins H b) -> tn i s.heap -> J.go i H ->
  wpAny (model P w) X.A (pyNext (.ref it)) (fun r s1 => ∃ u, r = some u /\
   wpAny (model P w) X.A (letOwnedTupleGo tg (.ref it) u) (fun _ s2 => ∃ x H', Inv X pins σ H' s2 /\ RelV x u /\ J.yZ i H x H' /\ tn (i + 1) s2.heap /\ ∀ b ∈ fp, H' b = none) E s1) E s
 done : ∀ (X : Cx), X.prog = P -> X.w = w -> X.K = K -> X.calm = true -> ∀ (i : Nat) (pins : List (Addr × Obj)) (s : Shared) (σ : St) (H : Hp) (E : Value -> Shared -> Prop), Inv X pins σ H s -> (∀ b ∈ fp, ei X pins H b) -> tn i s.heap -> J.stop i H ->
  wpAny (model P w) X.A (pyNext (.ref it)) (fun r s1 => r = none /\ Inv X pins σ H s1) E s
 self : ∀ (A : Around) (i : Nat) (s : Shared) (Q : Value -> Shared -> Prop) (E : Value -> Shared -> Prop), tn i s.heap -> Q (.ref it) s -> wpAny (model P w) A (pyIter (.ref it)) Q E s
abbrev TI := St -> Hp -> (It -> Hp -> Prop) -> Prop
def HA (X : Cx) (pins : List (Addr × Obj)) (σ : St) (tg : Expr) (R : It -> Hp -> Prop) (itv : Value) (s2 : Shared) : Prop :=
 ∃ (it : Addr) (fp : List Addr) (tn : Nat -> Heap -> Prop) (J : It) (H' : Hp), itv = .ref it /\ Inv X pins σ H' s2 /\ Turn X.prog X.w X.K tg J fp it tn /\ tn 0 s2.heap /\ (∀ b ∈ fp, ei X pins H' b) /\ R J H'
def PI (X : Cx) (tg iter : Expr) (wi : TI) : Prop :=
 ∀ (pins : List (Addr × Obj)) (s : Shared) (σ : St) (H : Hp) (R : It -> Hp -> Prop), Inv X pins σ H s -> wi σ H R ->
  wpAny (model X.prog X.w) X.A (eval iter X.env) (fun v s1 => wpAny (model X.prog X.w) X.A (pyIter v) (HA X pins σ tg R) X.xe s1) X.xe s
theorem pq {M : Model} {A : Around} {E : Value -> Shared -> Prop} {s : Shared} {tg : Expr} {it : Addr} {u : Value} {o : Obj} {n : String} {vs : Array Value} {Q : Unit -> Shared -> Prop} (ho : s.heap.get? it = some o) (hc : o.cls = .type n) (hd : o.data = .fields vs)
    (hn : ["enumerate", "zip", "dict_itemiterator", "dict_reverseitemiterator", "odict_iterator", "itertools.zip_longest", "itertools.pairwise"].contains n = false) (hQ : Q () s) : wpAny M A (letOwnedTupleGo tg (.ref it) u) Q E s := by
  unfold letOwnedTupleGo
  cases tg <;> first
    | exact wpAny_pure hQ
    | (cases u <;> first
        | exact wpAny_pure hQ
        | (refine wpAny_bind (wpAny_load ho ?_)
           rw [hc, hd]
           show wpAny M A (if (["enumerate", "zip", "dict_itemiterator", "dict_reverseitemiterator", "odict_iterator", "itertools.zip_longest", "itertools.pairwise"].contains n && vs[0]? == some (rawInt _)) = true then _ else _) Q E s
           rw [if_neg (by intro h; rw [hn, Bool.false_and] at h; cases h)]
           exact wpAny_pure hQ))
def G7 (K : PySem.W.Frag) (a : Addr) : It :=
 ⟨fun i H => ∃ xs x, c_ K H a xs /\ xs[i]? = some x, fun i H x H' => H' = H /\ ∀ xs, c_ K H a xs -> xs[i]? = some x, fun i H => ∃ xs, c_ K H a xs /\ xs.length <= i⟩
def G8 (K : PySem.W.Frag) (a : Addr) : It :=
 ⟨fun i H => ∃ xs x, ej K H a xs /\ xs[i]? = some x, fun i H x H' => H' = H /\ ∀ xs, ej K H a xs -> xs[i]? = some x, fun i H => ∃ xs, ej K H a xs /\ xs.length <= i⟩
def FY (lo : Int) (n : Nat) : It := ⟨fun i _ => i < n, fun i H x H' => H' = H /\ x = .int (lo + i), fun i _ => n <= i⟩
theorem vO {P : Program} {w : World} {K : PySem.W.Frag} {tg : Expr} (a it : Addr) : Turn P w K tg (G7 K a) [it] it (fun i h => h.IsListIter it a i) where
 mem := by simp
 obj := fun i h st b hb => by
  have e : b = it := by simpa using hb
  subst e
  obtain ⟨o, e, c, d⟩ := st
  exact ⟨o, e, fun v z => by rw [d] at z; cases z⟩
 keep := fun i h h' st k => st.at fun o e => k it (by simp) o e
 item := by
  intro X hP hw hK hc i pins s σ H E I hf st hg
  subst hP hw hK
  obtain ⟨xs, x, hq, hx⟩ := hg
  obtain ⟨its, rv, p, hz⟩ := I.list hq
  obtain ⟨u, hu, ru⟩ := rv.get hx
  obtain ⟨f0, f1, f2, f3, f4, f5⟩ := hf it (by simp)
  refine wpAny_pyNext_list_item st p.isList (x := u) (by simpa using hu) fun h' st' sb => ?_
  have I1 : Inv X pins σ H { s with heap := h' } := I.turned (t' := s.toks) (fun b o hb e => (sb.2 b hb).trans e) f0 f1 f3 f4 f5
  obtain ⟨o, e, c, d⟩ := id st'
  exact ⟨u, rfl, pq (s := { s with heap := h' }) e c d (by decide) ⟨x, H, I1, ru, ⟨rfl, fun ys hy => by rw [I.qI hy hq]; exact hx⟩, st', fun b hb => (hf b hb).1⟩⟩
 done := by
  intro X hP hw hK hc i pins s σ H E I hf st hg
  subst hP hw hK
  obtain ⟨xs, hq, hx⟩ := hg
  obtain ⟨its, rv, p, hz⟩ := I.list hq
  obtain ⟨f0, f1, f2, f3, f4, f5⟩ := hf it (by simp)
  have hl := rv.length
  exact wpAny_pyNext_list_end (I.ok.hd hc) st p.isList (by simp; omega) fun h' eb => ⟨rfl, I.turned (t' := s.toks) (fun b o hb e => eb b o hb e) f0 f1 f3 f4 f5⟩
 self := fun _ _ _ _ _ st h => wpAny_pyIter_listiter st h
theorem sO {P : Program} {w : World} {K : PySem.W.Frag} {tg : Expr} (a it : Addr) : Turn P w K tg (G8 K a) [it] it (fun i h => h.IsTupleIter it a i) where
 mem := by simp
 obj := fun i h st b hb => by
  have e : b = it := by simpa using hb
  subst e
  obtain ⟨o, e, c, d⟩ := st
  exact ⟨o, e, fun v z => by rw [d] at z; cases z⟩
 keep := fun i h h' st k => st.at fun o e => k it (by simp) o e
 item := by
  intro X hP hw hK hc i pins s σ H E I hf st hg
  subst hP hw hK
  obtain ⟨xs, x, hq, hx⟩ := hg
  obtain ⟨its, rv, p, hz⟩ := I.tuple hq
  obtain ⟨u, hu, ru⟩ := rv.get hx
  obtain ⟨f0, f1, f2, f3, f4, f5⟩ := hf it (by simp)
  refine wpAny_pyNext_tuple_item st (show s.heap.IsTuple a its.toArray from p) (x := u) (by simpa using hu) fun h' st' sb => ?_
  have I1 : Inv X pins σ H { s with heap := h' } := I.turned (t' := s.toks) (fun b o hb e => (sb.2 b hb).trans e) f0 f1 f3 f4 f5
  obtain ⟨o, e, c, d⟩ := id st'
  exact ⟨u, rfl, pq (s := { s with heap := h' }) e c d (by decide) ⟨x, H, I1, ru, ⟨rfl, fun ys hy => by rw [I.nH hy hq]; exact hx⟩, st', fun b hb => (hf b hb).1⟩⟩
 done := by
  intro X hP hw hK hc i pins s σ H E I hf st hg
  subst hP hw hK
  obtain ⟨xs, hq, hx⟩ := hg
  obtain ⟨its, rv, p, hz⟩ := I.tuple hq
  obtain ⟨f0, f1, f2, f3, f4, f5⟩ := hf it (by simp)
  have hl := rv.length
  exact wpAny_pyNext_tuple_end (I.ok.hd hc) st (show s.heap.IsTuple a its.toArray from p) (by simp; omega) fun h' eb => ⟨rfl, I.turned (t' := s.toks) (fun b o hb e => eb b o hb e) f0 f1 f3 f4 f5⟩
 self := fun _ _ _ _ _ st h => wpAny_pyIter_tupleiter st h
theorem sN {P : Program} {w : World} {K : PySem.W.Frag} {tg : Expr} (it : Addr) (lo : Int) (n : Nat) : Turn P w K tg (FY lo n) [it] it (fun i h => IsRangeIter h it (lo + (i : Nat) * 1) ((n : Int) - (i : Nat)) 1) where
 mem := by simp
 obj := fun i h st b hb => by
  have e : b = it := by simpa using hb
  subst e
  exact ⟨_, st, fun v z => by
   have z' : Data.fields _ = Data.cell v := z
   cases z'⟩
 keep := fun i h h' st k => k it (by simp) _ st
 item := by
  intro X hP hw hK hc i pins s σ H E I hf st hg
  subst hP hw hK
  obtain ⟨f0, f1, f2, f3, f4, f5⟩ := hf it (by simp)
  have W := Walks.range (prog := X.prog) (w := X.w) (I.ok.hd hc) it lo 1 n
  refine W.item i s _ _ hg st fun v h' tk hv st' kk => ?_
  obtain ⟨t, rfl⟩ := hv
  have I1 : Inv X pins σ H { s with heap := h', toks := tk } := I.turned (fun b o hb e => kk b o (by simpa using hb) e) f0 f1 f3 f4 f5
  refine ⟨_, rfl, pq (s := { s with heap := h', toks := tk }) (n := "range_iterator") st' rfl rfl (by decide) ⟨.int (lo + i), H, I1, ⟨t, ?_⟩, ⟨rfl, rfl⟩, st', fun b hb => (hf b hb).1⟩⟩
  rw [Int.mul_one]
 done := by
  intro X hP hw hK hc i pins s σ H E I hf st hg
  subst hP hw hK
  obtain ⟨f0, f1, f2, f3, f4, f5⟩ := hf it (by simp)
  exact wpAny_pyNext_range_end (I.ok.hd hc) st (by have : n <= i := hg; omega) fun h' eb => ⟨rfl, I.turned (t' := s.toks) (fun b o hb e => eb b o hb e) f0 f1 f3 f4 f5⟩
 self := fun _ _ _ _ _ st h => wpAny_pyIter_rangeiter st h
section
variable {X : Cx} {tg : Expr}
theorem xt {pins : List (Addr × Obj)} {σ : St} {H : Hp} {s : Shared} {R : It -> Hp -> Prop} {E : Value -> Shared -> Prop} {lo hi : Int} {t u v : Tok} {tk : Nat} (I : Inv X pins σ H s) (h1 : -(2 ^ 62) <= lo) (h2 : lo < 2 ^ 62) (h3 : -(2 ^ 62) <= hi) (h4 : hi < 2 ^ 62)
  (q : R (FY lo (hi - lo).toNat) H) : wpAny (model X.prog X.w) X.A (pyIter (.ref s.heap.objs.size)) (HA X pins σ tg R) E { s with heap := s.heap.push { cls := .type "range", data := .fields #[.int lo t, .int hi u, .int 1 v] }, toks := tk } := by
 refine wpAny_pyIter_range (IsRange.new ..) (small_one h1 h2 h3 h4) ?_
 have I1 : Inv X pins σ H { s with heap := s.heap.push { cls := .type "range", data := .fields #[.int lo t, .int hi u, .int 1 v] }, toks := tk } := I.kept fun b o e => Heap.get?_push_of_some _ e
 refine ⟨(s.heap.push { cls := .type "range", data := .fields #[.int lo t, .int hi u, .int 1 v] }).objs.size, [(s.heap.push { cls := .type "range", data := .fields #[.int lo t, .int hi u, .int 1 v] }).objs.size], _, _, H, rfl,
  I1.kept (t' := tk) fun b o e => Heap.get?_push_of_some _ e, sN _ lo (hi - lo).toNat, ?_, fun b hb => ?_, q⟩
 ·have e1 : lo + ((0 : Nat) : Int) * 1 = lo := by simp
  have e2 : (((hi - lo).toNat : Nat) : Int) - ((0 : Nat) : Int) = Builtin.Range.rangeSize lo hi 1 := by rw [rangeSize_one]; split <;> omega
  show IsRangeIter _ _ (lo + ((0 : Nat) : Int) * 1) ((((hi - lo).toNat : Nat) : Int) - ((0 : Nat) : Int)) 1
  rw [e1, e2]
  exact Heap.get?_push_size _ rfl
 ·have e : b = (s.heap.push { cls := .type "range", data := .fields #[.int lo t, .int hi u, .int 1 v] }).objs.size := by simpa using hb
  subst e
  exact I1.wY (Nat.le_refl _) (I1.ah.fresh (Nat.le_refl _))
def EN (ta : TA) : TI := fun σ H R => ta σ H fun vs H1 => ∃ j : Int, vs = [.int j] /\ -(2 ^ 62) <= j /\ j < 2 ^ 62 /\ R (FY 0 j.toNat) H1
theorem u7 {a : Expr} {ta : TA} {p pos : Pos} (hg : Gl X "range") (hm : X.mg "range" = none) (ha : PA X [a] ta) (hs : starEach [a] X.env = [(false, eval a X.env)] := by rfl) : PI X tg (.Call (.Name "range" p) [a] [] pos) (EN ta) := by
 intro pins s σ H R I h
 refine Call_ (iR I hg hm boot_range (PyProof.Rows.callWith_type1 (au (ha pos pins s σ H _ I h) fun us s1 ⟨vs, H1, I1, r1, q1⟩ => ?_) hs rfl))
 obtain ⟨j, e, q1, q2, q⟩ := q1
 subst e
 cases r1 with
 | cons r rr =>
  cases rr
  obtain ⟨t, rfl⟩ := r
  exact call_range_1 (xt I1 (by omega) (by omega) q1 q2 (by simpa using q))
def Gi (wi : TI) (g : TG) (tb : TS) : TS := fun D σ H => wi σ H fun J H1 => ∃ W : Nat -> Nat -> St -> Hp -> Prop, (∃ m, W 0 m σ H1) /\ ∀ i m σ H, W i m σ H ->
 (J.stop i H /\ D.nx σ H) \/ (J.go i H /\ ∃ N : St -> Hp -> Prop, (∀ σ' H', N σ' H' -> ∃ m', m' < m /\ W (i + 1) m' σ' H') /\ ∀ x H', J.yZ i H x H' -> g x σ H' fun σ2 H2 => tb { D with nx := N, ct := N, bk := D.nx } σ2 H2)
def gP (fp : List Addr) (h : Heap) : List (Addr × Obj) := fp.filterMap fun b => (h.get? b).map fun o => (b, o)
theorem b6 {fp : List Addr} {h : Heap} {b : Addr} {o : Obj} (hb : b ∈ fp) (e : h.get? b = some o) : (b, o) ∈ gP fp h := List.mem_filterMap.mpr ⟨b, hb, by rw [e]; rfl⟩
theorem jr {fp : List Addr} {h : Heap} {p : Addr × Obj} (hp : p ∈ gP fp h) : p.1 ∈ fp /\ h.get? p.1 = some p.2 := by
 obtain ⟨b, hb, e⟩ := List.mem_filterMap.mp hp
 cases q : h.get? b with
 | none => rw [q] at e; cases e
 | some o =>
  rw [q] at e
  have e' : (b, o) = p := Option.some.inj e
  subst e'
  exact ⟨hb, q⟩
theorem Inv.pinned {pins : List (Addr × Obj)} {σ : St} {H : Hp} {s : Shared} {fp : List Addr} (I : Inv X pins σ H s) (hf : ∀ b ∈ fp, ei X pins H b) (ho : ∀ b ∈ fp, ∃ o, s.heap.get? b = some o /\ ∀ v, o.data ≠ .cell v) : Inv X (pins ++ gP fp s.heap) σ H s :=
 I.oh fun p hp => (List.mem_append.mp hp).elim (fun z => I.pin p (List.mem_append_right _ z)) fun z => by
  obtain ⟨hb, e⟩ := jr z
  obtain ⟨f0, f1, f2, _⟩ := hf p.1 hb
  obtain ⟨o, e', d⟩ := ho p.1 hb
  rw [e] at e'; cases e'
  exact ⟨e, f0, f1, f2, d⟩
theorem Inv.cv {pins pl : List (Addr × Obj)} {σ : St} {H : Hp} {s : Shared} (I : Inv X (pins ++ pl) σ H s) : Inv X pins σ H s := I.oh fun p hp => I.pin p (List.mem_append_right _ (List.mem_append_left _ hp))
theorem xm {iter : Expr} {body : List Stmt} {wi : TI} {g : TG} {tb : TS} {pos : Pos} (hp : PassesOwn (model X.prog X.w) X.A X.env X.xe) (hc : X.calm = true) (hi : PI X tg iter wi) (hg : PG X tg g) (hb : gi X body tb)
  (hs : ∀ x, foldedSetIterable iter X.env x = pure x := by intro _; rfl) : PS X (.For tg iter body [] pos) (Gi wi g tb) := by
 intro pins s σ H D I h
 refine wpAny_For (au (hi pins s σ H _ I h) fun v s1 h1 => au h1 fun itv s2 h2 => ?_) hs
 obtain ⟨it, fp, tn, J, H2, e, I2, T, st2, f2, W, ⟨m0, w0⟩, turn⟩ := h2
 subst e
 -- what stays true of the iterator's objects through the loop
 have stat : ∀ {H' : Hp}, (∀ b ∈ fp, H' b = none) -> ∀ b ∈ fp, ei X pins H' b := fun hn b hb => ⟨hn b hb, (f2 b hb).2⟩
 refine codeAny_forLoop_any (fun n s' => ∃ i σ' H', Inv X pins σ' H' s' /\ tn i s'.heap /\ (∀ b ∈ fp, H' b = none) /\ W i n σ' H') ?_ m0 ⟨0, σ, H2, I2, st2, fun b hb => (f2 b hb).1, w0⟩
 rintro n s3 ⟨i, σ3, H3, I3, st3, fr3, w3⟩
 rcases turn i n σ3 H3 w3 with ⟨stop, qn⟩ | ⟨go, N, hN, step⟩
 ·refine wpAny_passesOwn hp (au (T.done X rfl rfl rfl hc i pins s3 σ3 H3 X.xe I3 (stat fr3) st3 stop) fun r s4 ⟨hr, I4⟩ => ?_)
  subst hr
  exact wpAny_execs_nil ⟨σ3, H3, I4, qn⟩
 ·refine wpAny_passesOwn hp (au (T.item X rfl rfl rfl hc i pins s3 σ3 H3 X.xe I3 (stat fr3) st3 go) fun r s4 ⟨u, hr, h4⟩ => ?_)
  subst hr
  refine wpAny_passesOwn hp (au h4 fun _ s5 ⟨x, H5, I5, r5, y5, st5, fr5⟩ => ?_)
  have I5' := I5.pinned (stat fr5) (T.obj _ _ st5)
  refine wpAny_passesOwn hp (au (hg _ s5 σ3 H5 x u _ I5' r5 (step x H5 y5)) fun _ s6 ⟨σ6, H6, I6, q6⟩ => ?_)
  refine wpAny_passesOwn hp (au (hb _ s6 σ6 H6 _ I6 q6) fun f s7 q7 => ?_)
  have again : ∀ {σ7 : St} {H7 : Hp}, Inv X (pins ++ gP fp s5.heap) σ7 H7 s7 -> N σ7 H7 -> ∃ m, m < n /\ ∃ i σ' H', Inv X pins σ' H' s7 /\ tn i s7.heap /\ (∀ b ∈ fp, H' b = none) /\ W i m σ' H' := fun {σ7 H7} I7 n7 => by
   obtain ⟨m', hm, w7⟩ := hN σ7 H7 n7
   refine ⟨m', hm, i + 1, σ7, H7, I7.cv, T.keep _ _ _ st5 fun b hb o e => (I7.pin (b, o) (List.mem_append_right _ (List.mem_append_right _ (b6 hb e)))).1, fun b hb => ?_, w7⟩
   obtain ⟨o, e, d⟩ := T.obj _ _ st5 b hb
   exact (I7.pin (b, o) (List.mem_append_right _ (List.mem_append_right _ (b6 hb e)))).2.1
  cases f with
  | next => obtain ⟨σ7, H7, I7, n7⟩ := q7; exact again I7 n7
  | cont => obtain ⟨σ7, H7, I7, n7⟩ := q7; exact again I7 n7
  | brk => obtain ⟨σ7, H7, I7, q7⟩ := q7; exact ⟨σ7, H7, I7.cv, q7⟩
  | ret v => obtain ⟨x7, σ7, H7, I7, r7, q7⟩ := q7; exact ⟨x7, σ7, H7, I7.cv, r7, q7⟩
end
abbrev R2 := V -> V -> Hp -> VK -> Prop
def eQ (X : Cx) (f : Value -> Value -> Sem Value) (r : R2) : Prop :=
 ∀ (pins : List (Addr × Obj)) (s : Shared) (σ : St) (H : Hp) (x y : V) (v u : Value) (Q : VK), Inv X pins σ H s -> RelV x v -> RelV y u -> r x y H Q ->
  wpAny (model X.prog X.w) X.A (f v u) (EP X pins σ Q) X.xe s
def Fp (X : Cx) (f : Value -> Sem Value) (r : V -> Hp -> VK -> Prop) : Prop :=
 ∀ (pins : List (Addr × Obj)) (s : Shared) (σ : St) (H : Hp) (x : V) (v : Value) (Q : VK), Inv X pins σ H s -> RelV x v -> r x H Q ->
  wpAny (model X.prog X.w) X.A (f v) (EP X pins σ Q) X.xe s
def g_ (X : Cx) (f : Value) (r : List V -> Hp -> VK -> Prop) : Prop :=
 ∀ (pins : List (Addr × Obj)) (s : Shared) (σ : St) (H : Hp) (xs : List V) (us : List Value) (Q : VK), Inv X pins σ H s -> Vals xs us -> r xs H Q ->
  wpAny (model X.prog X.w) X.A (call f us) (EP X pins σ Q) X.xe s
def Fo (X : Cx) (r : V -> Hp -> (Bool -> Hp -> Prop) -> Prop) : Prop :=
 ∀ (pins : List (Addr × Obj)) (s : Shared) (σ : St) (H : Hp) (x : V) (v : Value) (Q : Bool -> Hp -> Prop), Inv X pins σ H s -> RelV x v -> r x H Q ->
  wpAny (model X.prog X.w) X.A (truthy v) (TP X pins σ Q) X.xe s
def DM (r : R2) (ta tb : TE) : TE := fun σ H Q => ta σ H fun x H1 => tb σ H1 fun y H2 => r x y H2 Q
def Hj (r : V -> Hp -> VK -> Prop) (ta : TE) : TE := fun σ H Q => ta σ H fun x H1 => r x H1 Q
def rI (C : Int -> Int -> Prop) (g : Int -> Int -> V) : R2 := fun x y H Q => ∃ i j, x = .int i /\ y = .int j /\ C i j /\ Q (g i j) H
def yh (g : Int -> Int -> V) : R2 := fun x y H Q => ∃ i j, x = .int i /\ y = .int j /\ Q (g i j) H
def rU (g : Int -> V) : V -> Hp -> VK -> Prop := fun x H Q => ∃ i, x = .int i /\ Q (g i) H
section
variable {X : Cx} {a b c : Expr} {ta tb tc : TE} {pos : Pos}
theorem Bk (ha : PE X a ta) (hb : PE X b tb) {pins : List (Addr × Obj)} {s : Shared} {σ : St} {H : Hp} {R : V -> V -> Hp -> Prop} (I : Inv X pins σ H s)
  (h : ta σ H fun x H1 => tb σ H1 fun y H2 => R x y H2) {Q : Value -> Shared -> Prop} {f : Value -> Value -> Sem Value}
  (hf : ∀ v u s2 x y H2, Inv X pins σ H2 s2 -> RelV x v -> RelV y u -> R x y H2 -> wpAny (model X.prog X.w) X.A (f v u) Q X.xe s2) :
  wpAny (model X.prog X.w) X.A (eval a X.env) (fun v s₁ => wpAny (model X.prog X.w) X.A (eval b X.env) (fun u s₂ => wpAny (model X.prog X.w) X.A (f v u) Q X.xe s₂) X.xe s₁) X.xe s := by
 refine au (ha pins s σ H _ I h) fun v s1 ⟨x, H1, I1, r1, q1⟩ => ?_
 refine au (hb pins s1 σ H1 _ I1 q1) fun u s2 ⟨y, H2, I2, r2, q2⟩ => ?_
 exact hf v u s2 x y H2 I2 r1 r2 q2
theorem Eu {op : Operator} {r : R2} (ho : eQ X (binaryOp op) r) (ha : PE X a ta) (hb : PE X b tb) : PE X (.BinOp a op b pos) (DM r ta tb) := by
 intro pins s σ H Q I h
 exact wpAny_BinOp (Bk ha hb I h fun v u s2 x y H2 I2 rx ry q => ho pins s2 σ H2 x y v u Q I2 rx ry q)
theorem Ex {op : UnaryOp} {r : V -> Hp -> VK -> Prop} (ho : Fp X (unaryOp op) r) (ha : PE X a ta) : PE X (.UnaryOp op a pos) (Hj r ta) := by
 intro pins s σ H Q I h
 exact UnaryOp_ (au (ha pins s σ H _ I h) fun v s1 ⟨x, H1, I1, r1, q1⟩ => ho pins s1 σ H1 x v Q I1 r1 q1)
theorem GV {f : Value -> Value -> Sem Value} {C : Int -> Int -> Prop} {g : Int -> Int -> Int}
  (rule : ∀ (i j : Int) (t u : Tok) (s : Shared) (Q : Value -> Shared -> Prop) (E : Value -> Shared -> Prop), C i j -> Q (.int (g i j) s.toks) { s with toks := s.toks + 1 } -> wpAny (model X.prog X.w) X.A (f (.int i t) (.int j u)) Q E s) :
  eQ X f (rI C fun i j => .int (g i j)) := by
 intro pins s σ H x y v u Q I rx ry h
 obtain ⟨i, j, rfl, rfl, hc, q⟩ := h
 obtain ⟨t, rfl⟩ := rx
 obtain ⟨t', rfl⟩ := ry
 exact rule i j t t' s _ _ hc ⟨.int (g i j), H, I.tok _, ⟨_, rfl⟩, q⟩
theorem Ep {f : Value -> Value -> Sem Value} {g : Int -> Int -> Int}
  (rule : ∀ (i j : Int) (t u : Tok) (s : Shared) (Q : Value -> Shared -> Prop) (E : Value -> Shared -> Prop), Q (.int (g i j) s.toks) { s with toks := s.toks + 1 } -> wpAny (model X.prog X.w) X.A (f (.int i t) (.int j u)) Q E s) :
  eQ X f (yh fun i j => .int (g i j)) := by
 intro pins s σ H x y v u Q I rx ry h
 obtain ⟨i, j, rfl, rfl, q⟩ := h
 obtain ⟨t, rfl⟩ := rx
 obtain ⟨t', rfl⟩ := ry
 exact rule i j t t' s _ _ ⟨.int (g i j), H, I.tok _, ⟨_, rfl⟩, q⟩
theorem Cj {f : Value -> Value -> Sem Value} {g : Int -> Int -> Bool}
  (rule : ∀ (i j : Int) (t u : Tok) (s : Shared) (Q : Value -> Shared -> Prop) (E : Value -> Shared -> Prop), Q (.bool (g i j)) s -> wpAny (model X.prog X.w) X.A (f (.int i t) (.int j u)) Q E s) :
  eQ X f (yh fun i j => .bl (g i j)) := by
 intro pins s σ H x y v u Q I rx ry h
 obtain ⟨i, j, rfl, rfl, q⟩ := h
 obtain ⟨t, rfl⟩ := rx
 obtain ⟨t', rfl⟩ := ry
 exact rule i j t t' s _ _ ⟨.bl (g i j), H, I, rfl, q⟩
def Ba (i j : Int) : Prop := 0 < j /\ j < 1073741824
def nO (i j : Int) : Prop := (-(2 ^ 64) < i /\ i < 2 ^ 64) \/ (-(2 ^ 64) < j /\ j < 2 ^ 64)
theorem nO.ok {i j : Int} (h : nO i j) : IntMulOk i j := by
 rcases h with ⟨h1, h2⟩ | ⟨h1, h2⟩
 ·exact .of_left (intBits_le_64 h1 h2)
 ·exact .of_right (intBits_le_64 h1 h2)
theorem Ck : eQ X (binaryOp .Add) (yh fun i j => .int (i + j)) := Ep fun _ _ _ _ _ _ _ q => add_int q
theorem Cr : eQ X (binaryOp .Sub) (yh fun i j => .int (i - j)) := Ep fun _ _ _ _ _ _ _ q => sub_int q
theorem AF : eQ X (binaryOp .FloorDiv) (rI Ba fun i j => .int (i / j)) := GV fun i j _ _ _ _ _ hc q => by
 have h1 : (0 : Int) < j := hc.1
 have h2 : j < 1073741824 := hc.2
 exact floordiv_int (by omega) (by rw [Int.fdiv_eq_ediv_of_nonneg i (by omega)]; exact q) (.inl (PyProof.noPylong_small (by omega)))
theorem Co : eQ X (binaryOp .Mod) (rI (fun _ j => 0 < j) fun i j => .int (i % j)) := GV fun i j _ _ _ _ _ hc q => by
 have h1 : (0 : Int) < j := hc
 exact mod_int' (by omega) (by rw [Int.fmod_eq_emod_of_nonneg i (by omega)]; exact q)
theorem Hm {f : Value -> Sem Value} {g : Int -> Int}
  (rule : ∀ (i : Int) (t : Tok) (s : Shared) (Q : Value -> Shared -> Prop) (E : Value -> Shared -> Prop), Q (.int (g i) s.toks) { s with toks := s.toks + 1 } -> wpAny (model X.prog X.w) X.A (f (.int i t)) Q E s) :
  Fp X f (rU fun i => .int (g i)) := by
 intro pins s σ H x v Q I rx h
 obtain ⟨i, rfl, q⟩ := h
 obtain ⟨t, rfl⟩ := rx
 exact rule i t s _ _ ⟨.int (g i), H, I.tok _, ⟨_, rfl⟩, q⟩
theorem DS : Fp X (unaryOp .USub) (rU fun i => .int (-i)) := Hm fun _ _ _ _ _ q => neg_int q
end
def E9 : V -> V -> Bool
 | .aV, .aV => true | .aV, .int _ => true | .int _, .aV => true | .aV, .bl _ => true | .bl _, .aV => true | .aV, .str _ => true | .str _, .aV => true
 | .int _, .int _ => true | .bl _, .bl _ => true | .str _, .str _ => true | .qm _, .qm _ => true
 | .int _, .str _ => true | .str _, .int _ => true | .bl _, .str _ => true | .str _, .bl _ => true
 | _, _ => false
def HH : R2 := fun x y H Q => E9 x y = true /\ Q (.bl (decide (x = y))) H
def HJ : R2 := fun x y H Q => E9 x y = true /\ Q (.bl (!decide (x = y))) H
theorem tG {i j : Int} : decide (V.int i = V.int j) = (i == j) := by
 rw [Bool.eq_iff_iff]
 simp
theorem wA {i j : Bool} : decide (V.bl i = V.bl j) = (i == j) := by
 rw [Bool.eq_iff_iff]
 simp
theorem tH {i j : Str} : decide (V.str i = V.str j) = (i == j) := by
 rw [Bool.eq_iff_iff]
 simp
theorem tF {i j : Array UInt8} : decide (V.qm i = V.qm j) = (i.toList == j.toList) := by
 rw [Bool.eq_iff_iff]
 cases i
 cases j
 simp
section
variable {X : Cx} {a b c : Expr} {ta tb tc : TE} {pos : Pos}
theorem ae {pins : List (Addr × Obj)} {σ : St} {H : Hp} {s : Shared} {Q : VK} {k k' : Bool} (I : Inv X pins σ H s) (q : Q (.bl k) H) (e : k = k') : EP X pins σ Q (.bool k') s := by
 subst e
 exact ⟨.bl k, H, I, rfl, q⟩
theorem BI : eQ X (compareOp .Eq) HH := by
 intro pins s σ H x y v u Q I rx ry h
 obtain ⟨hs, q⟩ := h
 cases x with
 | aV =>
  cases rx
  cases y with
  | aV => cases ry; exact PySem.EqNone.eq_none_none (ae I q (by simp))
  | bl j => cases ry; exact PySem.EqNone.eq_none_bool (ae I q (by simp))
  | int j => obtain ⟨t', rfl⟩ := ry; exact PySem.EqNone.eq_none_int (ae I q (by simp))
  | str j => obtain ⟨t', rfl⟩ := ry; exact PySem.EqNone.eq_none_str (ae I q (by simp))
  | _ => exact absurd (show false = true from hs) Bool.false_ne_true
 | bl i =>
  cases rx
  cases y with
  | aV => cases ry; exact PySem.EqNone.eq_bool_none (ae I q (by simp))
  | bl j => cases ry; exact eq_bool (ae I q wA)
  | str j => obtain ⟨t', rfl⟩ := ry; exact PySem.EqMixed.eq_bool_str (ae I q (by simp))
  | _ => exact absurd (show false = true from hs) Bool.false_ne_true
 | int i =>
  obtain ⟨t, rfl⟩ := rx
  cases y with
  | aV => cases ry; exact PySem.EqNone.eq_int_none (ae I q (by simp))
  | int j => obtain ⟨t', rfl⟩ := ry; exact eq_int (ae I q tG)
  | str j => obtain ⟨t', rfl⟩ := ry; exact PySem.EqMixed.eq_int_str (ae I q (by simp))
  | _ => exact absurd (show false = true from hs) Bool.false_ne_true
 | str i =>
  obtain ⟨t, rfl⟩ := rx
  cases y with
  | aV => cases ry; exact PySem.EqNone.eq_str_none (ae I q (by simp))
  | bl j => cases ry; exact PySem.EqMixed.eq_str_bool (ae I q (by simp))
  | int j => obtain ⟨t', rfl⟩ := ry; exact PySem.EqMixed.eq_str_int (ae I q (by simp))
  | str j => obtain ⟨t', rfl⟩ := ry; exact eq_str (ae I q tH)
  | _ => exact absurd (show false = true from hs) Bool.false_ne_true
 | qm i =>
  obtain ⟨t, rfl⟩ := rx
  cases y with
  | qm j => obtain ⟨t', rfl⟩ := ry; exact PySem.W.eq_bytes (ae I q tF)
  | _ => exact absurd (show false = true from hs) Bool.false_ne_true
 | _ => cases y <;> exact absurd (show false = true from hs) Bool.false_ne_true
theorem Es : eQ X (compareOp .NotEq) HJ := by
 intro pins s σ H x y v u Q I rx ry h
 obtain ⟨hs, q⟩ := h
 cases x with
 | aV =>
  cases rx
  cases y with
  | aV => cases ry; exact PySem.EqNone.ne_none_none (ae I q (by simp))
  | bl j => cases ry; exact PySem.EqNone.ne_none_bool (ae I q (by simp))
  | int j => obtain ⟨t', rfl⟩ := ry; exact PySem.EqNone.ne_none_int (ae I q (by simp))
  | str j => obtain ⟨t', rfl⟩ := ry; exact PySem.EqNone.ne_none_str (ae I q (by simp))
  | _ => exact absurd (show false = true from hs) Bool.false_ne_true
 | bl i =>
  cases rx
  cases y with
  | aV => cases ry; exact PySem.EqNone.ne_bool_none (ae I q (by simp))
  | bl j => cases ry; exact ne_bool (ae I q (congrArg not wA))
  | str j => obtain ⟨t', rfl⟩ := ry; exact PySem.EqMixed.ne_bool_str (ae I q (by simp))
  | _ => exact absurd (show false = true from hs) Bool.false_ne_true
 | int i =>
  obtain ⟨t, rfl⟩ := rx
  cases y with
  | aV => cases ry; exact PySem.EqNone.ne_int_none (ae I q (by simp))
  | int j => obtain ⟨t', rfl⟩ := ry; exact ne_int (ae I q (congrArg not tG))
  | str j => obtain ⟨t', rfl⟩ := ry; exact PySem.EqMixed.ne_int_str (ae I q (by simp))
  | _ => exact absurd (show false = true from hs) Bool.false_ne_true
 | str i =>
  obtain ⟨t, rfl⟩ := rx
  cases y with
  | aV => cases ry; exact PySem.EqNone.ne_str_none (ae I q (by simp))
  | bl j => cases ry; exact PySem.EqMixed.ne_str_bool (ae I q (by simp))
  | int j => obtain ⟨t', rfl⟩ := ry; exact PySem.EqMixed.ne_str_int (ae I q (by simp))
  | str j => obtain ⟨t', rfl⟩ := ry; exact ne_str (ae I q (congrArg not tH))
  | _ => exact absurd (show false = true from hs) Bool.false_ne_true
 | qm i =>
  obtain ⟨t, rfl⟩ := rx
  cases y with
  | qm j => obtain ⟨t', rfl⟩ := ry; exact PySem.W.ne_bytes (ae I q (congrArg not tF))
  | _ => exact absurd (show false = true from hs) Bool.false_ne_true
 | _ => cases y <;> exact absurd (show false = true from hs) Bool.false_ne_true
theorem Er : eQ X (compareOp .Lt) (yh fun i j => .bl (decide (i < j))) := Cj fun _ _ _ _ _ _ _ q => lt_int q
theorem xU : eQ X (compareOp .LtE) (yh fun i j => .bl (decide (i <= j))) := Cj fun _ _ _ _ _ _ _ q => le_int q
theorem BJ : eQ X (compareOp .Gt) (yh fun i j => .bl (decide (j < i))) := Cj fun _ _ _ _ _ _ _ q => gt_int q
theorem m9 : eQ X (compareOp .In) (fun x y H Q => ∃ i j, x = .str i /\ y = .str j /\ Q (.bl (!(Builtin.Str.occurrences j i 0 j.length 1).isEmpty)) H) := by
 intro pins s σ H x y v u Q I rx ry h
 obtain ⟨i, j, rfl, rfl, q⟩ := h
 obtain ⟨t, rfl⟩ := rx
 obtain ⟨t', rfl⟩ := ry
 exact in_str (ae I q rfl)
theorem Cn : eQ X (compareOp .Is) (fun x y H Q => y = .aV /\ Q (.bl (decide (x = .aV))) H) := by
 intro pins s σ H x y v u Q I rx ry h
 obtain ⟨rfl, q⟩ := h
 cases ry
 refine is_none_gen (ae I q ?_)
 cases x <;> first
  | (cases rx; rfl)
  | (obtain ⟨t, rfl⟩ := rx; rfl)
theorem AH : eQ X (compareOp .IsNot) (fun x y H Q => y = .aV /\ Q (.bl (!decide (x = .aV))) H) := by
 intro pins s σ H x y v u Q I rx ry h
 obtain ⟨rfl, q⟩ := h
 cases ry
 refine isnot_none_gen (ae I q ?_)
 cases x <;> first
  | (cases rx; rfl)
  | (obtain ⟨t, rfl⟩ := rx; rfl)
theorem oY : eQ X (compareOp .NotIn) (fun x y H Q => ∃ i j, x = .str i /\ y = .str j /\ Q (.bl (!(!(Builtin.Str.occurrences j i 0 j.length 1).isEmpty))) H) := by
 intro pins s σ H x y v u Q I rx ry h
 obtain ⟨i, j, rfl, rfl, q⟩ := h
 obtain ⟨t, rfl⟩ := rx
 obtain ⟨t', rfl⟩ := ry
 exact notIn_str (ae I q rfl)
theorem eQ.or {f : Value -> Value -> Sem Value} {r r' : R2} (h : eQ X f r) (h' : eQ X f r') : eQ X f (fun x y H Q => r x y H Q \/ r' x y H Q) := by
 intro pins s σ H x y v u Q I rx ry q
 rcases q with q | q
 ·exact h pins s σ H x y v u Q I rx ry q
 ·exact h' pins s σ H x y v u Q I rx ry q
theorem eW (b : Expr) {op : CmpOp} (h : op ≠ .In := by decide) (h2 : op ≠ .NotIn := by decide) : behindInMarks op b = false := by
 have e1 : (op == CmpOp.In) = false := by cases op <;> first | rfl | exact absurd rfl h
 have e2 : (op == CmpOp.NotIn) = false := by cases op <;> first | rfl | exact absurd rfl h2
 cases b <;> simp [behindInMarks, e1, e2]
theorem AI {op : CmpOp} {r : R2} (ho : eQ X (compareOp op) r) (ha : PE X a ta) (hb : PE X b tb) (hm : behindInMarks op b = false) : PE X (.Compare a [op] [b] pos) (DM r ta tb) := by
 intro pins s σ H Q I h
 exact wpAny_Compare1 (Bk ha hb I h fun v u s2 x y H2 I2 rx ry q => ho pins s2 σ H2 x y v u Q I2 rx ry q) hm
def BV (t : TE) : TT := fun σ H Q => t σ H fun x H' => ∃ k, x = .bl k /\ Q k H'
theorem AX {op : CmpOp} {r : R2} (ho : eQ X (compareOp op) r) (ha : PE X a ta) (hb : PE X b tb) (hm : behindInMarks op b = false) : PT X (.Compare a [op] [b] pos) (BV (DM r ta tb)) := by
 intro pins s σ H Q I h
 refine wpAny_isTrue_Compare1 (au (ha pins s σ H _ I h) fun v s1 ⟨x, H1, I1, r1, q1⟩ => au (hb pins s1 σ H1 _ I1 q1) fun u s2 ⟨y, H2, I2, r2, q2⟩ =>
  au (ho pins s2 σ H2 x y v u _ I2 r1 r2 q2) fun c s3 ⟨z, H3, I3, r3, k, e, q3⟩ => ?_) hm
 subst e
 cases r3
 exact wpAny_truthy_bool ⟨H3, I3, q3⟩
def yK (r r' : R2) (ta tb tc : TE) : TE := fun σ H Q => ta σ H fun x H1 => tb σ H1 fun y H2 => r x y H2 fun z H3 => ∃ k, z = .bl k /\
 (if k = true then tc σ H3 fun w' H4 => r' y w' H4 Q else Q (.bl false) H3)
theorem xZ {op op' : CmpOp} {r r' : R2} (ho : eQ X (compareOp op) r) (ho' : eQ X (compareOp op') r') (ha : PE X a ta) (hb : PE X b tb) (hc : PE X c tc)
  (hm : lastMarks [op, op'] [b, c] = false := by with_unfolding_all rfl) : PE X (.Compare a [op, op'] [b, c] pos) (yK r r' ta tb tc) := by
 intro pins s σ H Q I h
 refine Compare_chain (au (ha pins s σ H _ I h) fun v s1 ⟨x, H1, I1, r1, q1⟩ => chain_link (au (hb pins s1 σ H1 _ I1 q1) fun u s2 ⟨y, H2, I2, r2, q2⟩ =>
  au (ho pins s2 σ H2 x y v u _ I2 r1 r2 q2) fun d s3 ⟨z, H3, I3, r3, k, e, q3⟩ => ?_)) hm
 subst e
 cases r3
 refine wpAny_truthy_bool ?_
 cases k with
 | false => exact ite_ff ⟨.bl false, H3, I3, rfl, q3⟩
 | true => exact ite_tt (chain_last (au (hc pins s3 σ H3 _ I3 q3) fun w' s4 ⟨z', H4, I4, r4, q4⟩ => ho' pins s4 σ H4 y z' u w' Q I4 r2 r4 q4))
def Bf (K : PySem.W.Frag) (x : V) (H : Hp) (k : Bool) : Prop :=
 match x with
 | .aV => k = false
 | .bl b => k = b
 | .int i => k = (i != 0)
 | .str y => y.length <= sizeLine /\ k = ((y.length : Int) != 0)
 | .qm y => y.size <= sizeLine /\ k = ((y.size : Int) != 0)
 | .ref p => (∃ xs, c_ K H p xs /\ k = !xs.isEmpty) \/ (∃ xs, ej K H p xs /\ k = !xs.isEmpty) \/ ∃ kvs, H p = some (.dK kvs) /\ k = !kvs.isEmpty
 | _ => False
theorem rP {κ : Type} {kvs : List (κ × V)} {vs : List (κ × Value)} (r : KV kvs vs) : (!vs.isEmpty) = !kvs.isEmpty := by
 cases r <;> rfl
theorem lE {xs : List V} {its : List Value} (r : Vals xs its) : (!its.toArray.isEmpty) = !xs.isEmpty := by
 cases r <;> simp
theorem lI : (sizeLine : Nat) < 2 ^ 63 := by rw [sizeLine_eq]; decide
theorem DO : Fo X (fun x H Q => ∃ k, Bf X.K x H k /\ Q k H) := by
 intro pins s σ H x v Q I rx h
 obtain ⟨k, e, q⟩ := h
 have hl := lI
 have hs : sizeLine = 16777216 := sizeLine_eq
 cases x with
 | aV =>
  cases rx
  have e' : k = false := e
  subst e'
  exact truthy_none ⟨H, I, q⟩
 | bl b =>
  cases rx
  have e' : k = b := e
  subst e'
  exact wpAny_truthy_bool ⟨H, I, q⟩
 | int i =>
  obtain ⟨t, rfl⟩ := rx
  have e' : k = (i != 0) := e
  subst e'
  exact PySem.P.truthy_int ⟨H, I, q⟩
 | str y =>
  obtain ⟨t, rfl⟩ := rx
  obtain ⟨hy, e'⟩ : y.length <= sizeLine /\ k = ((y.length : Int) != 0) := e
  subst e'
  exact PySem.P.truthy_str (by omega) ⟨H, I.tok _, q⟩
 | qm y =>
  obtain ⟨t, rfl⟩ := rx
  obtain ⟨hy, e'⟩ : y.size <= sizeLine /\ k = ((y.size : Int) != 0) := e
  subst e'
  exact PySem.W.truthy_bytes (by omega) ⟨H, I.tok _, q⟩
 | ref p =>
  cases rx
  have e' : (∃ xs, c_ X.K H p xs /\ k = !xs.isEmpty) \/ (∃ xs, ej X.K H p xs /\ k = !xs.isEmpty) \/ ∃ kvs, H p = some (.dK kvs) /\ k = !kvs.isEmpty := e
  rcases e' with ⟨xs, hx, e'⟩ | ⟨xs, hx, e'⟩ | ⟨kvs, hx, e'⟩
  ·subst e'
   obtain ⟨its, r, pl, hz⟩ := I.list hx
   have hlen := r.length
   exact wpAny_truthy_list pl.isList (by simp only [List.size_toArray]; omega) ⟨H, I.tok _, by rw [lE r]; exact q⟩
  ·subst e'
   obtain ⟨its, r, pl, hz⟩ := I.tuple hx
   have hlen := r.length
   exact truthy_tuple pl (by simp only [List.size_toArray]; omega) ⟨H, I.tok _, by rw [lE r]; exact q⟩
  ·subst e'
   obtain ⟨hz, hS, vs, r, m⟩ : kvs.length <= sizeLine /\ (p == sysModules) = false /\ ∃ vs, KV kvs vs /\ s.heap.DictOf (bb X.prog X.w) p vs := I.ah p _ hx
   have hlen : kvs.length = vs.length := Paired.length r
   exact wpAny_truthy_dict hS m (by omega) ⟨H, I.tok _, by rw [rP r]; exact q⟩
 | _ => exact (show False from e).elim
theorem xp (ha : PE X a ta) (he : ∀ whole, isTrue a X.env whole = (do let v <- whole; standAt a.pos; holding [v] (truthy v))) :
  PT X a (fun σ H Q => ta σ H fun x H' => ∃ k, Bf X.K x H' k /\ Q k H') := by
 intro pins s σ H Q I h
 exact isTrue_plain (au (ha pins s σ H _ I h) fun v s1 ⟨x, H1, I1, r1, q1⟩ => DO pins s1 σ H1 x v Q I1 r1 q1) (he _)
theorem rk : eQ X (binaryOp .Add) (fun x y H Q => ∃ i j, x = .str i /\ y = .str j /\ i.length + j.length <= sizeLine /\ Q (.str (i ++ j)) H) := by
 intro pins s σ H x y v u Q I rx ry h
 obtain ⟨i, j, rfl, rfl, hz, q⟩ := h
 obtain ⟨t, rfl⟩ := rx
 obtain ⟨t', rfl⟩ := ry
 exact add_str (fun t' tk => ⟨.str (i ++ j), H, I.tok _, ⟨_, rfl⟩, q⟩) hz
theorem vals1 {x : V} {us : List Value} (r : Vals [x] us) : ∃ u, us = [u] /\ RelV x u := by
 cases r with
 | cons r1 r2 => cases r2; exact ⟨_, rfl, r1⟩
theorem vals2 {x y : V} {us : List Value} (r : Vals [x, y] us) : ∃ u w', us = [u, w'] /\ RelV x u /\ RelV y w' := by
 cases r with
 | cons r1 r2 =>
  cases r2 with
  | cons r3 r4 => cases r4; exact ⟨_, _, rfl, r1, r3⟩
theorem uL : g_ X (.type "int") (fun xs H Q => (∃ i, xs = [.int i] /\ Q (.int i) H) \/ ∃ k, xs = [.bl k] /\ Q (.int (if k then 1 else 0)) H) := by
 intro pins s σ H xs us Q I r h
 rcases h with ⟨i, rfl, q⟩ | ⟨k, rfl, q⟩
 ·obtain ⟨u, rfl, t, rfl⟩ := vals1 r
  exact call_int_int ⟨.int i, H, I, ⟨_, rfl⟩, q⟩
 ·obtain ⟨u, rfl, r1⟩ := vals1 r
  cases r1
  exact call_int_bool ⟨.int (if k then 1 else 0), H, I.tok _, ⟨_, rfl⟩, q⟩
def Dr (K : PySem.W.Frag) (x : V) (H : Hp) (n : Nat) : Prop :=
 match x with
 | .str y => y.length <= sizeLine /\ n = y.length
 | .qm y => y.size <= sizeLine /\ n = y.size
 | .ref p => (∃ xs, c_ K H p xs /\ n = xs.length) \/ ∃ xs, ej K H p xs /\ n = xs.length
 | _ => False
theorem vn : g_ X (.builtin "len") (fun xs H Q => ∃ x n, xs = [x] /\ Dr X.K x H n /\ Q (.int n) H) := by
 intro pins s σ H xs us Q I r h
 obtain ⟨x, n, rfl, e, q⟩ := h
 obtain ⟨u, rfl, rx⟩ := vals1 r
 have hl := lI
 have hs : sizeLine = 16777216 := sizeLine_eq
 cases x with
 | str y =>
  obtain ⟨t, rfl⟩ := rx
  obtain ⟨hy, e'⟩ : y.length <= sizeLine /\ n = y.length := e
  subst e'
  exact len_str (by omega) ⟨.int _, H, I.tok _, ⟨_, rfl⟩, q⟩
 | qm y =>
  obtain ⟨t, rfl⟩ := rx
  obtain ⟨hy, e'⟩ : y.size <= sizeLine /\ n = y.size := e
  subst e'
  exact PySem.W.len_bytes (by omega) ⟨.int _, H, I.tok _, ⟨_, rfl⟩, q⟩
 | ref p =>
  cases rx
  have e' : (∃ xs, c_ X.K H p xs /\ n = xs.length) \/ ∃ xs, ej X.K H p xs /\ n = xs.length := e
  rcases e' with ⟨xs, hx, e'⟩ | ⟨xs, hx, e'⟩
  ·subst e'
   obtain ⟨its, r', pl, hz⟩ := I.list hx
   have hlen := r'.length
   exact Calls.call_len_list pl.isList (by simp only [List.size_toArray]; omega) ⟨.int xs.length, H, I.tok _, ⟨_, by simp only [List.size_toArray]; rw [hlen]⟩, q⟩
  ·subst e'
   obtain ⟨its, r', pl, hz⟩ := I.tuple hx
   have hlen := r'.length
   exact len_tuple pl (by simp only [List.size_toArray]; omega) ⟨.int xs.length, H, I.tok _, ⟨_, by simp only [List.size_toArray]; rw [hlen]⟩, q⟩
 | _ => exact (show False from e).elim
end
structure pJ (h : Heap) (x dx C : Addr) (mA : Str -> Option Value) : Prop where
 obj : h.get? x = some (PySem.W.instObj C dx)
 ns : h.Ns1 dx mA
 ne : dx ≠ x
theorem jn {h : Heap} {dx : Addr} {mA : Str -> Option Value} (n : h.Ns1 dx mA) : ∃ od, h.get? dx = some od /\ ∀ name, PySem.W.lookIn name od = some (mA name) := by
 obtain ⟨o, es, ep, ho, hd, hk, _, hm⟩ := n
 refine ⟨o, ho, fun name => ?_⟩
 have e := hm name
 unfold nsFind findBy at e
 rw [<- Array.find?_toList] at e
 unfold PySem.W.lookIn
 rw [hd]
 dsimp only
 split
 ·rename_i y q
  rw [q] at e
  exact congrArg some e
 ·rename_i q
  rw [q] at e
  have a : es.toList.any (·.refKey) = false := by
   rw [List.any_eq_false]
   intro y hy
   obtain ⟨z, t, hkey⟩ := hk y (Array.mem_toList_iff.mp hy)
   simp [DictEntry.refKey, hkey]
  have a' : ¬ es.toList.any (·.refKey) = true := by rw [a]; exact Bool.false_ne_true
  rw [if_neg a']
  exact congrArg some e
theorem pJ.look {h : Heap} {x dx C : Addr} {mA : Str -> Option Value} (I : pJ h x dx C mA) : ∃ od, PySem.W.InstAt h x (PySem.W.instObj C dx) C (some od) /\ ∀ name, PySem.W.lookIn name od = some (mA name) :=
 let ⟨od, ho, hl⟩ := jn I.ns
 ⟨od, ⟨I.obj, rfl, rfl, ho⟩, hl⟩
section
variable {prog : Program} {w : World} {A : Around} {E : Value -> Shared -> Prop} {s : Shared} {K : PySem.W.Frag} {x dx C f : Addr} {mA : Str -> Option Value} {name : Str} {v : Value}
theorem get_map {expr : Bool} {Q : Value -> Shared -> Prop} (X : K.In s.heap) (I : pJ s.heap x dx C mA) (hg : PySem.W.plainGet K C name = true) (hh : PySem.W.hasDictIn K C = true)
  (ha : PySem.W.findIn K (.ref C) name = some none) (hv : mA name = some v) (hv' : PySem.W.handedIn v = true) (h : Q v { s with toks := s.toks + 1 }) :
  wpAny (model prog w) A (getAttr (.ref x) name expr) Q E s := by
 obtain ⟨od, J, hl⟩ := I.look
 exact PySem.W.get_value X J (PySem.W.plainGet_of hg).1 (PySem.W.findObj_own hh ha rfl (by rw [hl, hv])) hv' h
theorem wc {pl : Sem Bool} {Q : Value × List Value -> Shared -> Prop} (X : K.In s.heap) (I : pJ s.heap x dx C mA) (hg : PySem.W.plainGet K C name = true)
  (hf : PySem.W.findIn K (.ref C) name = some (some (.ref f))) (ht : PySem.W.isFn K (.ref f) = true) (hv : mA name = none) (h : Q (.ref f, [.ref x]) s) :
  wpAny (model prog w) A (getMethod (.ref x) name pl) Q E s := by
 obtain ⟨od, J, hl⟩ := I.look
 exact PySem.W.method_fn X J (PySem.W.plainGet_of hg).1 (PySem.W.plainGet_of hg).2 hf (beq_iff_eq.mp ht) (by show (PySem.W.lookIn name od).map (·.isSome) = some false; rw [hl, hv]; rfl) h
theorem An {ns : List Str} {Q : Unit -> Shared -> Prop} (X : K.In s.heap) (I : pJ s.heap x dx C mA)
  (hs : PySem.W.findIn K (.ref C) "__setattr__" = some (some (.builtin "object.__setattr__"))) (hp : PySem.W.plainOver K C = true) (ht : PySem.W.takerIn K C name = some none) (hh : PySem.W.hasDictIn K C = true)
  (hw : PySem.Within mA ns) (hsz : ns.length <= sizeLine)
  (h : ∀ h', pJ h' x dx C (fun y => if y = name then some v else mA y) -> Heap.SameBut dx s.heap h' -> Q () { s with heap := h', toks := s.toks + 2 }) :
  wpAny (model prog w) A (setAttr (.ref x) name v) Q E s := by
 obtain ⟨od, J, hl⟩ := I.look
 refine PySem.W.set_plain X J hs (PySem.W.osa_open (s := { s with toks := s.toks + 1 }) (r := none) X J hp ht fun b => ?_)
 obtain ⟨cd, hc, hd'⟩ := PySem.W.any_some hh
 have hx : s.heap.get? x = some ⟨.ref C, some dx, .plain, #[]⟩ := I.obj
 refine wpAny_bind (wpAny_pure (wpAny_bind (wpAny_bind (wpAny_loadPart hx (wpAny_bind (PySem.W.Looks.here (s := { s with toks := s.toks + 1 }) (PySem.W.looks_clsIn X hc) ?_))))))
 rw [hd']
 refine wpAny_pure (a := some dx) (wpAny_bind (wpAny_pure (wpAny_bind ?_)))
 refine wpAny_nsSet1 (s := { s with toks := s.toks + 1 }) I.ns fun h' hn2 hs2 => ?_
 obtain ⟨oD, esD, epD, hoD, hdD, hcD⟩ := hn2.count (PySem.Within.cons name v hw)
 refine wpAny_bind (wpAny_lookBehind hoD (by rw [hdD]; exact pastItsLine_dict (Nat.le_trans hcD (by rw [List.length_cons]; omega))) ?_)
 exact wpAny_pure (h _ ⟨(hs2.2 _ (Ne.symm I.ne)).trans I.obj, hn2, I.ne⟩ hs2)
theorem xG {R : Result -> Shared -> Prop} {vs : List Value} {kw : List (Str × Value)} (X : K.In s.heap) (hm : PySem.W.makesIn K C = true)
  (hi : PySem.W.findIn K (.ref C) "__init__" = some (some (.ref f))) (hf : PySem.W.typeIn K (.ref f) = some (.type "function"))
  (h : codeAny (model prog w) (A.under (.builtin "type.__call__" ⟨.ref C :: vs, kw⟩)) (.call (.ref f) ⟨.ref (s.heap.objs.size + 1) :: vs, kw⟩) (PySem.W.InitBack (s.heap.objs.size + 1) R)
   { s with heap := (s.heap.push PySem.W.emptyDict).push (PySem.W.instObj C s.heap.objs.size) }) :
  codeAny (model prog w) A (.call (.ref C) ⟨vs, kw⟩) R s := by
 obtain ⟨hh, g, d, t, os⟩ := s
 exact PySem.W.make_core (PySem.W.makes_of X hm) (PySem.W.looks_findIn X hi) (fun self => PySem.W.bind_fn X self hf) (.inl rfl) h
end
def eC (f : Str) (v : V) : List (Str × V) -> List (Str × V)
 | [] => [(f, v)]
 | (g, x) :: r => if g = f then (g, v) :: r else (g, x) :: eC f v r
theorem gK (f g : Str) (v : V) : ∀ fs : List (Str × V), (eC f v fs).lookup g = if g = f then some v else fs.lookup g
 | [] => by
  show List.lookup g [(f, v)] = _
  by_cases h : g = f
  ·have hb : (g == f) = true := beq_iff_eq.mpr h
   simp only [List.lookup, hb, if_pos h]
  ·have hb : (g == f) = false := beq_eq_false_iff_ne.mpr h
   simp only [List.lookup, hb, if_neg h]
 | (k, x) :: r => by
  have ih := gK f g v r
  rw [show eC f v ((k, x) :: r) = (if k = f then (k, v) :: r else (k, x) :: eC f v r) from rfl]
  by_cases hk : k = f
  ·rw [if_pos hk]
   by_cases h : g = k
   ·have hb : (g == k) = true := beq_iff_eq.mpr h
    simp only [List.lookup, hb, if_pos (h.trans hk)]
   ·have hb : (g == k) = false := beq_eq_false_iff_ne.mpr h
    simp only [List.lookup, hb, if_neg (fun e : g = f => h (e.trans hk.symm))]
  ·rw [if_neg hk]
   by_cases h : g = k
   ·have hb : (g == k) = true := beq_iff_eq.mpr h
    simp only [List.lookup, hb, if_neg (fun e : g = f => hk (h.symm.trans e))]
   ·have hb : (g == k) = false := beq_eq_false_iff_ne.mpr h
    simp only [List.lookup, hb]
    exact ih
theorem fB (f : Str) (v : V) : ∀ fs : List (Str × V), f ∈ (eC f v fs).map (·.1) /\ ∀ g, g ∈ fs.map (·.1) -> g ∈ (eC f v fs).map (·.1)
 | [] => ⟨by simp [eC], fun g h => by simp at h⟩
 | (k, x) :: r => by
  obtain ⟨i1, i2⟩ := fB f v r
  rw [show eC f v ((k, x) :: r) = (if k = f then (k, v) :: r else (k, x) :: eC f v r) from rfl]
  by_cases hk : k = f
  ·rw [if_pos hk]
   subst hk
   exact ⟨by simp, fun g h => by simpa using h⟩
  ·rw [if_neg hk]
   refine ⟨?_, fun g h => ?_⟩
   ·rw [List.map_cons]
    exact List.mem_cons_of_mem _ i1
   ·rw [List.map_cons] at h ⊢
    rcases List.mem_cons.mp h with e | e
    ·exact List.mem_cons.mpr (.inl e)
    ·exact List.mem_cons_of_mem _ (i2 g e)
theorem j6 (f : Str) (v : V) : ∀ fs : List (Str × V), (eC f v fs).length <= fs.length + 1
 | [] => by simp [eC]
 | (k, x) :: r => by
  have ih := j6 f v r
  rw [show eC f v ((k, x) :: r) = (if k = f then (k, v) :: r else (k, x) :: eC f v r) from rfl]
  by_cases hk : k = f
  ·rw [if_pos hk, List.length_cons, List.length_cons]; omega
  ·rw [if_neg hk, List.length_cons, List.length_cons]; omega
theorem cz.some_of {v : V} {o : Option Value} (r : cz (some v) o) : ∃ u, o = some u /\ RelV v u := by
 cases o with
 | none => exact (show False from r).elim
 | some u => exact ⟨u, rfl, r⟩
theorem cz.none_of {o : Option Value} (r : cz none o) : o = none := by
 cases o with
 | none => rfl
 | some u => exact (show False from r).elim
theorem mr {v : V} {u : Value} (r : RelV v u) : PySem.W.handedIn u = true := by
 cases v with
 | aV => cases (show u = Value.none from r); rfl
 | bl b => cases (show u = Value.bool b from r); rfl
 | int i => obtain ⟨t, e⟩ := (show ∃ t, u = Value.int i t from r); cases e; rfl
 | str x => obtain ⟨t, e⟩ := (show ∃ t, u = Value.str x t from r); cases e; rfl
 | qm b => obtain ⟨t, e⟩ := (show ∃ t, u = Value.bytes b t from r); cases e; rfl
 | Ff b => obtain ⟨t, e⟩ := (show ∃ t, u = Value.float b t from r); cases e; rfl
 | ref a => cases (show u = Value.ref a from r); rfl
 | ty n => cases (show u = Value.type n from r); rfl
section
variable {P : Program} {w : World} {H H' : Hp} {h h' : Heap} {a C dx : Addr} {fs fs' : List (Str × V)}
theorem zW (ah : cQ P w H h) (e : H a = some (.ins C dx fs)) : ∃ mA, pJ h a dx C mA /\ (∀ f, cz (fs.lookup f) (mA f)) /\ PySem.Within mA (fs.map (·.1)) /\ fs.length <= 1000 /\ H dx = some (.own a) := by
 obtain ⟨d, z, ne, ob, mA, n, r, q⟩ := (show aL P w H h a (.ins C dx fs) from ah a _ e)
 exact ⟨mA, ⟨ob, n, ne⟩, r, q, z, d⟩
end
structure pH (K : PySem.W.Frag) (C : Addr) : Prop where
 pg : PySem.W.plainGet K C Str.empty = true
 hd : PySem.W.hasDictIn K C = true
 po : PySem.W.plainOver K C = true
 sa : PySem.W.findIn K (.ref C) "__setattr__" = some (some (.builtin "object.__setattr__"))
theorem pH.get {K : PySem.W.Frag} {C : Addr} (c : pH K C) (f : Str) : PySem.W.plainGet K C f = true := c.pg
def cy (K : PySem.W.Frag) (C : Addr) (f : Str) : Prop := PySem.W.findIn K (.ref C) f = some none
theorem cy.FO {K : PySem.W.Frag} {C : Addr} {f : Str} (n : cy K C f) : PySem.W.takerIn K C f = some none := by
 unfold PySem.W.takerIn
 rw [show PySem.W.findIn K (.ref C) f = some none from n]
 rfl
structure Meth (K : PySem.W.Frag) (C : Addr) (m : Str) (f : Addr) : Prop where
 at_ : PySem.W.findIn K (.ref C) m = some (some (.ref f))
 fn : PySem.W.isFn K (.ref f) = true
 kp : PySem.W.keepIn K (.ref f) = true
section
variable {X : Cx} {pins : List (Addr × Obj)} {σ : St} {H : Hp} {s : Shared} {a C dx : Addr} {fs : List (Str × V)} {f : Str} {v : V} {A : Around} {E : Value -> Shared -> Prop}
theorem sF {y : V} {u : Value} {Q : Unit -> Shared -> Prop} (I : Inv X pins σ H s) (e : H a = some (.ins C dx fs)) (c : pH X.K C) (n : cy X.K C f) (hl : fs.length < 1000) (ry : RelV y u)
  (h : ∀ s', Inv X pins σ (upd H a (.ins C dx (eC f y fs))) s' -> Q () s') : wpAny (model X.prog X.w) A (setAttr (.ref a) f u) Q E s := by
 obtain ⟨mA, O, r, wi, _, ho⟩ := zW I.ah e
 have hz : (fs.map (·.1)).length <= sizeLine := by rw [List.length_map, sizeLine_eq]; omega
 refine An I.iQ O c.sa c.po n.FO c.hd wi hz fun h' O' sb => h _ ?_
 have hd : ∃ o, h'.get? dx = some o := let ⟨o, _, _, e', _⟩ := O'.ns; ⟨o, e'⟩
 refine I.write (x := a) (e := dx) (by rw [e]; exact True.intro) (.inr ho) (fun b q hb z => (sb.2 b hb).trans z) hd ?_
 refine ⟨by rw [aE O.ne]; exact ho, ?_, O.ne, O'.obj, _, O'.ns, fun g => ?_, fun g hg => ?_⟩
 ·have := j6 f y fs; omega
 ·show cz ((eC f y fs).lookup g) (if g = f then some u else mA g)
  rw [gK]
  by_cases q : g = f
  ·rw [if_pos q, if_pos q]; exact ry
  ·rw [if_neg q, if_neg q]; exact r g
 ·by_cases q : g = f
  ·rw [q]; exact (fB f y fs).1
  ·refine (fB f y fs).2 g (wi g fun z => hg ?_)
   show (if g = f then some u else mA g) = none
   rw [if_neg q]; exact z
theorem Inv.made (I : Inv X pins σ H s) : Inv X pins σ (upd (upd H s.heap.objs.size (.own (s.heap.objs.size + 1))) (s.heap.objs.size + 1) (.ins C s.heap.objs.size []))
  { s with heap := (s.heap.push PySem.W.emptyDict).push (PySem.W.instObj C s.heap.objs.size) } := by
 have e1 : (s.heap.push PySem.W.emptyDict).get? s.heap.objs.size = some PySem.W.emptyDict := Heap.get?_push_size s.heap rfl
 have e2 : ((s.heap.push PySem.W.emptyDict).push (PySem.W.instObj C s.heap.objs.size)).get? (s.heap.objs.size + 1) = some (PySem.W.instObj C s.heap.objs.size) := by
  have := Heap.get?_push_size (s.heap.push PySem.W.emptyDict) (o := PySem.W.instObj C s.heap.objs.size) rfl
  rwa [Heap.size_push] at this
 have e3 : (s.heap.push PySem.W.emptyDict).Ns s.heap.objs.size (fun _ => none) := ⟨PySem.W.emptyDict, #[], _, e1, rfl, (fun e he => absurd he (by simp)), fun _ => rfl⟩
 have I1 := I.laid (a := s.heap.objs.size) (o := .own (s.heap.objs.size + 1)) (h' := s.heap.push PySem.W.emptyDict) (t' := s.toks) (fun b u q => Heap.get?_push_of_some _ q) (Nat.le_refl _) ⟨_, e1⟩
 refine I1.laid (a := s.heap.objs.size + 1) (o := .ins C s.heap.objs.size []) (t' := s.toks) (fun b u q => Heap.get?_push_of_some _ q) (Nat.le_of_eq (Heap.size_push _ _)) ?_
 have ne : s.heap.objs.size ≠ s.heap.objs.size + 1 := Nat.ne_of_lt (Nat.lt_succ_self _)
 refine ⟨by rw [aE ne, aI], Nat.zero_le _, ne, e2, fun _ => none, (Heap.Ns1.of_empty e3).at fun o q => Heap.get?_push_of_some _ q, fun _ => True.intro, fun y hy => absurd rfl hy⟩
theorem sr {prog : Program} {w : World} {env : Env} {e : Expr} {f : Str} {pos : Pos} {s : Shared} {Q : Value -> Shared -> Prop} (hb : attributeBase e f env (eval e env) = eval e env)
  (h : wpAny (model prog w) A (eval e env) (fun o s₁ => wpAny (model prog w) A (getAttr o f true) Q E s₁) E s) : wpAny (model prog w) A (eval (.Attribute e f pos) env) Q E s :=
 Attribute_any_ h (by rw [arm_eval_Attribute, hb])
end
def Gb (K : PySem.W.Frag) (ta tv : TE) (f : Str) : TS := fun D σ H => tv σ H fun y H1 => ta σ H1 fun x H2 => ∃ a C dx fs, x = .ref a /\ H2 a = some (.ins C dx fs) /\ pH K C /\ cy K C f /\ fs.length < 1000 /\
 D.nx σ (upd H2 a (.ins C dx (eC f y fs)))
section
variable {X : Cx} {o e value : Expr} {f : Str} {pos pos' tpos : Pos} {ta tv : TE}
theorem C4 (ha : PE X o ta) (hv : PE X value tv) (hs : swapsWith value (some (.Attribute o f pos')) pos.line X.env = pure false) : PS X (.Assign [.Attribute o f pos'] value pos) (Gb X.K ta tv f) := by
 intro pins s σ H D I h
 refine plainObj_wpAny_Assign_Attribute (au (hv pins s σ H _ I h) fun u s1 ⟨y, H1, I1, ry, q⟩ => au (ha pins s1 σ H1 _ I1 q) fun ov s2 ⟨x, H2, I2, rx, a, C, dx, fs, ex, ea, c, n, l, q2⟩ => ?_) hs
 subst ex
 obtain rfl : ov = Value.ref a := rx
 exact sF I2 ea c n l ry fun s3 I3 => ⟨σ, _, I3, q2⟩
end
section
variable {X : Cx} {pins : List (Addr × Obj)} {σ : St} {H : Hp} {s : Shared} {A : Around} {E : Value -> Shared -> Prop} {Q : Value -> Shared -> Prop} {c : Value} {b : Bool}
end
structure ao (k : Nat) (A : Around) : Prop where
 hd : A.handled = none
 dp : A.depth + 3 * k + 5 < recursionLimit
 un : A.units + 16 * k + 200 < cLine
theorem ao.mono {j k : Nat} {A : Around} (r : ao k A) (h : j <= k) : ao j A := ⟨r.hd, by have := r.dp; omega, by have := r.un; omega⟩
theorem ao.deeper {k : Nat} {A : Around} (r : ao (k + 1) A) (env : Env) : ao k (A.deeper env) :=
 ⟨r.hd, by have := r.dp; show A.depth + 1 + 3 * k + 5 < _; omega, by have := r.un; show A.units + 3 + 16 * k + 200 < _; omega⟩
theorem rX {A : Around} {C : Addr} {us : List Value} {kw : List (Str × Value)} : (A.under (.builtin "type.__call__" ⟨.ref C :: us, kw⟩)).depth = A.depth + 1 := by
 first | rfl | simp [Around.under, Code.weight, Code.isCreation, Code.isGuard, Code.isCaller, Code.frames, Code.isFrame, guardIds]
theorem rY {A : Around} {C : Addr} {us : List Value} {kw : List (Str × Value)} : (A.under (.builtin "type.__call__" ⟨.ref C :: us, kw⟩)).units = A.units + 1 := by
 first | rfl | simp [Around.under, Code.cUnits, Code.frames, Code.isFrame]
theorem ao.make {k : Nat} {A : Around} (r : ao (k + 1) A) (C : Addr) (us : List Value) (kw : List (Str × Value)) : ao k (A.under (.builtin "type.__call__" ⟨.ref C :: us, kw⟩)) :=
 ⟨r.hd, by have := r.dp; rw [rX]; omega, by have := r.un; rw [rY]; omega⟩
theorem ao.depth {k : Nat} {A : Around} (r : ao k A) : A.depth < recursionLimit := by have := r.dp; omega
theorem ao.units {k : Nat} {A : Around} (r : ao k A) : A.units + 64 < cLine := by have := r.un; omega
def yM : TA := fun _ H Q => Q [] H
def nF (ta : TE) (tr : TA) : TA := fun σ H Q => ta σ H fun x H1 => tr σ H1 fun xs H2 => Q (x :: xs) H2
section
variable {X : Cx} {e : Expr} {es : List Expr} {te : TE} {t : TA} {pos : Pos}
theorem gO : PA X [] yM := fun _ _ _ _ H Q I h => Calls.spliced_nil ⟨[], H, I, .nil, h⟩
theorem bq (ha : PE X e te) (hr : PA X es t) (hs : starEach (e :: es) X.env = (false, eval e X.env) :: starEach es X.env := by rfl) : PA X (e :: es) (nF te t) := by
 intro pos pins s σ H Q I h
 rw [hs]
 show wpAny _ _ (spliced ((false, eval e X.env) :: backTo pos (starEach es X.env))) _ _ s
 refine Calls.spliced_cons (au (ha pins s σ H _ I h) fun u s1 ⟨x, H1, I1, r1, q1⟩ => ?_)
 exact au (hr pos pins s1 σ H1 _ I1 q1) fun us s2 ⟨xs, H2, I2, r2, q2⟩ => ⟨x :: xs, H2, I2, .cons r1 r2, q2⟩
def Gq (t : TA) : TE := fun σ H Q => t σ H fun xs H1 => xs.length <= sizeLine /\ ∀ p, H1 p = none -> Q (.ref p) (upd H1 p (.tup xs))
def Gk (t : TA) : TE := fun σ H Q => t σ H fun xs H1 => xs.length <= sizeLine /\ ∀ p, H1 p = none -> Q (.ref p) (upd H1 p (.lst xs))
theorem xg {x1} (h : PA X es t) : PE X (.Tuple es x1 pos) (Gq t) := by
 intro pins s σ H Q I hq
 refine wpAny_Tuple_spliced (au (h pos pins s σ H _ I hq) fun us s1 ⟨xs, H1, I1, r, z, q⟩ => ⟨by rw [<- r.length]; exact z, ?_⟩)
 have hf : H1 s1.heap.objs.size = none := I1.ah.fresh (Nat.le_refl _)
 refine ⟨.ref s1.heap.objs.size, upd H1 s1.heap.objs.size (.tup xs), I1.laid (t' := s1.toks) (fun b u e => Heap.get?_push_of_some _ e) (Nat.le_refl _) ?_, rfl, q _ hf⟩
 exact ⟨z, us, r, ⟨_, Heap.get?_push_size _ rfl, rfl, _, rfl⟩⟩
theorem xc (h : PA X es t) : PE X (.List es pos) (Gk t) := by
 intro pins s σ H Q I hq
 refine wpAny_List_spliced (au (h pos pins s σ H _ I hq) fun us s1 ⟨xs, H1, I1, r, z, q⟩ => ⟨by rw [<- r.length]; exact z, ?_⟩)
 have hf : H1 s1.heap.objs.size = none := I1.ah.fresh (Nat.le_refl _)
 refine ⟨.ref s1.heap.objs.size, upd H1 s1.heap.objs.size (.lst xs), I1.laid (t' := s1.toks) (fun b u e => Heap.get?_push_of_some _ e) (Nat.le_refl _) ?_, rfl, q _ hf⟩
 exact ⟨z, us, 0, r, Heap.get?_push_size _ rfl⟩
end
abbrev Sp := List V -> Hp -> VK -> XK -> Prop
abbrev uF := List Env -> Hp -> Shared -> XK -> Value -> Shared -> Prop
structure lr (P : Program) (w : World) (K : PySem.W.Frag) (mg : Str -> Option Value) (base : Heap) (A : Around) (outer : List Env) (s : Shared) (H : Hp) : Prop where
 frames : A.frames = some outer
 mod : Mod K mg base
 bs : ∀ b o, base.get? b = some o -> s.heap.get? b = some o /\ H b = none
 vU : base.objs.size <= s.heap.objs.size
 e_ : s.heap.FunFrames base outer
 uY : ∀ b ∈ kZ outer, H b = none
 ah : cQ P w H s.heap
 bare : AllBare s.gens
def CE (outer : List Env) (P : Program) (w : World) (H : Hp) (s : Shared) (Q : VK) (u : Value) (s' : Shared) : Prop :=
 ∃ v H', s'.os = s.os /\ AllBare s'.gens /\ Un (kZ outer) [] H H' s.heap s'.heap /\ cQ P w H' s'.heap /\ RelV v u /\ Q v H'
def CR (CX : uF) (outer : List Env) (P : Program) (w : World) (H : Hp) (s : Shared) (Q : VK) (E : XK) (r : Result) (s' : Shared) : Prop :=
 match r with
 | .ok (.ret u) => CE outer P w H s Q u s'
 | .ok _ => False
 | .error e => CX outer H s E e s'
structure bR (P : Program) (w : World) (K : PySem.W.Frag) (mg : Str -> Option Value) (base : Heap) (CX : uF) (k : Nat) (f : Addr) (fd : FuncData) (ps : List Str) (sp : Sp) : Prop where
 len : ∀ vs H Q E, sp vs H Q E -> vs.length = ps.length
 run : ∀ (A : Around) (outer : List Env) (s : Shared) (H : Hp) (args : Args) (us : List Value) (vs : List V) (Q : VK) (E : XK), ao k A -> lr P w K mg base A outer s H -> BindsTo s fd args (ps.zip us) -> Vals vs us -> sp vs H Q E ->
  codeAny (model P w) A (.call (.ref f) args) (CR CX outer P w H s Q E) s
theorem bR.mono {P : Program} {w : World} {K : PySem.W.Frag} {mg : Str -> Option Value} {base : Heap} {CX : uF} {j k : Nat} {f : Addr} {fd : FuncData} {ps : List Str} {sp : Sp} (F : bR P w K mg base CX j f fd ps sp) (h : j <= k) :
  bR P w K mg base CX k f fd ps sp := ⟨F.len, fun A outer s H args us vs Q E hr => F.run A outer s H args us vs Q E (hr.mono h)⟩
theorem lr.make {P : Program} {w : World} {K : PySem.W.Frag} {mg : Str -> Option Value} {base : Heap} {A : Around} {outer : List Env} {s : Shared} {H : Hp} (e : lr P w K mg base A outer s H) (C : Addr) (us : List Value) (kw : List (Str × Value)) :
  lr P w K mg base (A.under (.builtin "type.__call__" ⟨.ref C :: us, kw⟩)) outer s H := ⟨by first | exact e.frames | (simpa [Around.under, Code.envs, Code.isFrame, pushEnvs] using e.frames), e.mod, e.bs, e.vU, e.e_, e.uY, e.ah, e.bare⟩
section
variable {X : Cx} {pins : List (Addr × Obj)} {σ : St} {H : Hp} {s s' : Shared}
theorem Inv.zJ (I : Inv X pins σ H s) : lr X.prog X.w X.K X.mg X.base X.A X.stack s H :=
 ⟨I.ok.frames, I.ok.mod, I.bs, Nat.le_trans I.ok.vU I.sz, I.stack, I.pD, I.ah, I.bare⟩
theorem Inv.after {Q : VK} {u : Value} (I : Inv X pins σ H s) (h : CE X.stack X.prog X.w H s Q u s') : EP X pins σ Q u s' := by
 obtain ⟨v, H', os, bare, un, ah, r, q⟩ := h
 obtain ⟨hh, g, d, t, os'⟩ := s'
 obtain rfl : os' = s.os := os
 exact ⟨v, H', I.call (h' := hh) (g' := g) (d' := d) (t' := t) (ch := []) un ah bare (fun b z => absurd z (by simp)), r, q⟩
end
def BU (sp : Sp) (dvs : List V) (E : XK) (t : TA) : TE := fun σ H Q => t σ H fun vs H1 => sp (vs ++ dvs) H1 Q E
def FI (C : Addr) (sp : Sp) (dvs : List V) (E : XK) (t : TA) : TE := fun σ H Q => t σ H fun vs H1 => ∀ x dx, H1 x = none -> H1 dx = none -> dx ≠ x ->
 sp (.ref x :: (vs ++ dvs)) (upd (upd H1 dx (.own x)) x (.ins C dx [])) (fun v H2 => v = .aV /\ Q (.ref x) H2) E
def Binds (K : PySem.W.Frag) (fd : FuncData) (ps : List Str) (ds : List Value) : Prop :=
 ∀ (s : Shared) (us : List Value), K.In s.heap -> (us ++ ds).length = ps.length -> BindsTo s fd ⟨us, []⟩ (ps.zip (us ++ ds))
theorem Binds.all {K : PySem.W.Frag} {fd : FuncData} {ps : List Str} (h : ∀ us : List Value, us.length = ps.length -> bindArgs fd ⟨us, []⟩ = pure (ps.zip us)) : Binds K fd ps [] := fun s us _ hl => by
 rw [List.append_nil] at hl ⊢
 exact .of_eq (h us hl)
def Passes (CX : uF) (X : Cx) (E : XK) : Prop := ∀ (pins : List (Addr × Obj)) (σ : St) (H : Hp) (s : Shared) (e : Value) (s' : Shared), Inv X pins σ H s -> CX X.stack H s E e s' -> X.xe e s'
section
variable {X : Cx} {CX : uF} {k : Nat} {f C : Addr} {fd : FuncData} {ps : List Str} {sp : Sp} {dvs : List V} {ds : List Value} {E : XK} {x m : Str} {p pos apos : Pos} {e o : Expr} {es : List Expr} {ta : TE} {t : TA}
theorem xx {pins : List (Addr × Obj)} {σ : St} {H : Hp} {s : Shared} {Q : VK} {us : List Value} {vs : List V} (F : bR X.prog X.w X.K X.mg X.base CX k f fd ps sp) (hr : ao k X.A) (hb : Binds X.K fd ps ds) (hd : Vals dvs ds) (hx : Passes CX X E)
  (I : Inv X pins σ H s) (r : Vals vs us) (h : sp (vs ++ dvs) H Q E) : wpAny (model X.prog X.w) X.A (call (.ref f) us) (EP X pins σ Q) X.xe s := by
 have r2 : Vals (vs ++ dvs) (us ++ ds) := r.append hd
 have hl : (us ++ ds).length = ps.length := by rw [<- r2.length]; exact F.len _ _ _ _ h
 refine wpAny_call (codeAny_mono (F.run X.A X.stack s H ⟨us, []⟩ (us ++ ds) (vs ++ dvs) Q E hr I.zJ (hb s us I.iQ hl) r2 h) fun r s' hq => ?_)
 cases r with
 | error e => exact hx pins σ H s e s' I hq
 | ok fl =>
  cases fl with
  | ret u => exact I.after hq
  | next => exact False.elim hq
  | brk => exact False.elim hq
  | cont => exact False.elim hq
theorem t5 (F : bR X.prog X.w X.K X.mg X.base CX k f fd ps sp) (hr : ao k X.A) (hg : Gl X x) (hm : X.mg x = some (.ref f)) (hk : PySem.W.keepIn X.K (.ref f) = true) (hb : Binds X.K fd ps ds) (hd : Vals dvs ds) (hx : Passes CX X E)
  (ha : PA X (e :: es) t) (hdb : (x == ("__debug__" : Str)) = false := by decide) (he : starEach (e :: es) X.env = (false, eval e X.env) :: starEach es X.env := by rfl) (hpl : (backTo pos (starEach es X.env)).any (·.1) = false := by rfl) :
  PE X (.Call (.Name x p) (e :: es) [] pos) (BU sp dvs E t) := by
 intro pins s σ H Q I h
 refine wpAny_Call_Name_kw (gw I hg hm ?_ hdb)
 refine PySem.W.callWith_K (h₀ := X.base) I.ok.mod.CO hk (au (ha pos pins s σ H _ I h) fun us s1 ⟨vs, H1, I1, r, q⟩ => ⟨I1.iQ, ?_⟩) he hpl
 exact xx F hr hb hd hx I1 r q
structure Mk (K : PySem.W.Frag) (C f : Addr) : Prop where
 makes : PySem.W.makesIn K C = true
 init : PySem.W.findIn K (.ref C) "__init__" = some (some (.ref f))
 fn : PySem.W.isFn K (.ref f) = true
 kp : PySem.W.keepIn K (.ref C) = true
theorem xy {pins : List (Addr × Obj)} {σ : St} {H : Hp} {s : Shared} {Q : VK} {us : List Value} {vs : List V} (M : Mk X.K C f) (F : bR X.prog X.w X.K X.mg X.base CX k f fd ps sp) (hr : ao (k + 1) X.A) (hb : Binds X.K fd ps ds) (hd : Vals dvs ds)
  (hx : Passes CX X E) (I : Inv X pins σ H s) (r : Vals vs us)
  (h : ∀ x dx, H x = none -> H dx = none -> dx ≠ x -> sp (.ref x :: (vs ++ dvs)) (upd (upd H dx (.own x)) x (.ins C dx [])) (fun v H2 => v = .aV /\ Q (.ref x) H2) E) :
  wpAny (model X.prog X.w) X.A (call (.ref C) us) (EP X pins σ Q) X.xe s := by
 have hq := h (s.heap.objs.size + 1) s.heap.objs.size (I.ah.fresh (Nat.le_succ _)) (I.ah.fresh (Nat.le_refl _)) (Nat.ne_of_lt (Nat.lt_succ_self _))
 have I2 := Inv.made (C := C) I
 have r2 : Vals (V.ref (s.heap.objs.size + 1) :: (vs ++ dvs)) (Value.ref (s.heap.objs.size + 1) :: (us ++ ds)) := .cons rfl (r.append hd)
 have hl : (Value.ref (s.heap.objs.size + 1) :: us ++ ds).length = ps.length := by
  have e := r2.length
  rw [F.len _ _ _ _ hq] at e
  exact e.symm
 refine wpAny_call (xG (f := f) I.iQ M.makes M.init (beq_iff_eq.mp M.fn) (codeAny_mono (F.run _ X.stack _ _ ⟨Value.ref (s.heap.objs.size + 1) :: us, []⟩ (Value.ref (s.heap.objs.size + 1) :: (us ++ ds)) _ _ E (hr.make C us [])
  (I2.zJ.make C us []) (hb _ (Value.ref (s.heap.objs.size + 1) :: us) I2.iQ hl) r2 hq) fun r s' hq' => ?_))
 cases r with
 | error e => exact hx pins σ _ _ e s' I2 hq'
 | ok fl =>
  cases fl with
  | ret u =>
   obtain ⟨v, H', I3, rv, ev, q3⟩ := I2.after hq'
   subst ev
   exact ⟨rv, ⟨V.ref (s.heap.objs.size + 1), H', I3, rfl, q3⟩⟩
  | next => exact False.elim hq'
  | brk => exact False.elim hq'
  | cont => exact False.elim hq'
theorem AM (M : Mk X.K C f) (F : bR X.prog X.w X.K X.mg X.base CX k f fd ps sp) (hr : ao (k + 1) X.A) (hg : Gl X x) (hm : X.mg x = some (.ref C)) (hb : Binds X.K fd ps ds) (hd : Vals dvs ds) (hx : Passes CX X E)
  (ha : PA X (e :: es) t) (hdb : (x == ("__debug__" : Str)) = false := by decide) (he : starEach (e :: es) X.env = (false, eval e X.env) :: starEach es X.env := by rfl) (hpl : (backTo pos (starEach es X.env)).any (·.1) = false := by rfl) :
  PE X (.Call (.Name x p) (e :: es) [] pos) (FI C sp dvs E t) := by
 intro pins s σ H Q I h
 refine wpAny_Call_Name_kw (gw I hg hm ?_ hdb)
 refine PySem.W.callWith_K (h₀ := X.base) I.ok.mod.CO M.kp (au (ha pos pins s σ H _ I h) fun us s1 ⟨vs, H1, I1, r, q⟩ => ⟨I1.iQ, ?_⟩) he hpl
 exact xy M F hr hb hd hx I1 r q
end
def PK (X : Cx) (kws : List Keyword) (t : TA) : Prop :=
 ∀ (pos : Pos) (pins : List (Addr × Obj)) (s : Shared) (σ : St) (H : Hp) (Q : List V -> Hp -> Prop), Inv X pins σ H s -> t σ H Q -> wpAny (model X.prog X.w) X.A (evalAll ((backToKw pos (keywordEach kws X.env)).map (·.2))) (AP X pins σ Q) X.xe s
section
variable {X : Cx} {CX : uF} {k : Nat} {f C : Addr} {fd : FuncData} {ps ks : List Str} {sp : Sp} {E : XK} {x m : Str} {p pos apos kpos : Pos} {e o : Expr} {es : List Expr} {kws : List Keyword} {te ta : TE} {t tk : TA} {nm : Option Str}
theorem C3 : PK X [] yM := fun _ _ _ _ H Q I h => wpAny_evalAll_nil ⟨[], H, I, .nil, h⟩
theorem AQ (ha : PE X e te) (hr : PK X kws t) : PK X (⟨nm, e, kpos⟩ :: kws) (nF te t) := by
 intro pos pins s σ H Q I h
 show wpAny _ _ (evalAll ((do let v <- eval e X.env; standAt pos; pure v) :: (backToKw pos (keywordEach kws X.env)).map (·.2))) _ _ s
 refine wpAny_evalAll_cons (wpAny_bind (au (ha pins s σ H _ I h) fun u s1 ⟨x, H1, I1, r1, q1⟩ => wpAny_bind (wpAny_standAt (wpAny_pure ?_))))
 exact au (hr pos pins s1 σ H1 _ I1 q1) fun us s2 ⟨xs, H2, I2, r2, q2⟩ => ⟨x :: xs, H2, I2, .cons r1 r2, q2⟩
variable {g : List Value -> List Value -> List Value} {gV : List V -> List V -> List V}
end
structure aG (N P : List Str) (sc : Scope) : Prop where
 kind : sc.kind = .function
 co : sc.isCoroutine = false
 gen : sc.isGenerator = false
 nd : N.Nodup
 pre : N.take P.length = P
 par : ∀ x ∈ P, sc.names.lookup x = some .local \/ sc.names.lookup x = some .cell
 Ce : ∀ y ∈ sc.names, y.2 ≠ .free
theorem mV {kindOf : Str -> Option NameKind} {x : Str} : ∀ {binds : List (Str × Value)} {m : Str -> Option Value}, (∀ v, (x, v) ∉ binds) -> bindL kindOf binds m x = m x
 | [], _, _ => rfl
 | (n, v) :: r, m, h => by
  unfold bindL
  rw [mV fun w hw => h w (List.mem_cons_of_mem _ hw)]
  split
  ·have : x ≠ n := by rintro rfl; exact h v List.mem_cons_self
   simp [this]
  ·rfl
theorem mT {kindOf : Str -> Option NameKind} {x : Str} : ∀ {binds : List (Str × Value)} {m : Str -> Option Value}, (∀ v, (x, v) ∉ binds) -> bindC kindOf binds m x = m x
 | [], _, _ => rfl
 | (n, v) :: r, m, h => by
  unfold bindC
  rw [mT fun w hw => h w (List.mem_cons_of_mem _ hw)]
  split
  ·rfl
  ·have : x ≠ n := by rintro rfl; exact h v List.mem_cons_self
   simp [this]
theorem mU {kindOf : Str -> Option NameKind} {x : Str} {v : Value} : ∀ {P : List Str} {vs : List Value} {i : Nat} {m : Str -> Option Value}, P.Nodup -> P[i]? = some x -> vs[i]? = some v -> kindOf x = some .local ->
  bindL kindOf (P.zip vs) m x = some v
 | [], _, _, _, _, h, _, _ => by simp at h
 | _ :: _, [], _, _, _, _, h, _ => by simp at h
 | p :: P, w :: vs, 0, m, nd, h1, h2, hk => by
  simp at h1 h2; subst h1; subst h2
  show bindL kindOf ((p, w) :: P.zip vs) m p = _
  unfold bindL
  rw [mV fun v hv => (List.nodup_cons.mp nd).1 (List.of_mem_zip hv).1, if_pos hk]
  simp
 | p :: P, w :: vs, i + 1, m, nd, h1, h2, hk => by
  show bindL kindOf ((p, w) :: P.zip vs) m x = _
  unfold bindL
  exact mU (i := i) (List.nodup_cons.mp nd).2 (by simpa using h1) (by simpa using h2) hk
theorem mS {kindOf : Str -> Option NameKind} {x : Str} {v : Value} : ∀ {P : List Str} {vs : List Value} {i : Nat} {m : Str -> Option Value}, P.Nodup -> P[i]? = some x -> vs[i]? = some v -> kindOf x ≠ some .local ->
  bindC kindOf (P.zip vs) m x = some v
 | [], _, _, _, _, h, _, _ => by simp at h
 | _ :: _, [], _, _, _, _, h, _ => by simp at h
 | p :: P, w :: vs, 0, m, nd, h1, h2, hk => by
  simp at h1 h2; subst h1; subst h2
  show bindC kindOf ((p, w) :: P.zip vs) m p = _
  unfold bindC
  rw [mT fun v hv => (List.nodup_cons.mp nd).1 (List.of_mem_zip hv).1, if_neg hk]
  simp
 | p :: P, w :: vs, i + 1, m, nd, h1, h2, hk => by
  show bindC kindOf ((p, w) :: P.zip vs) m x = _
  unfold bindC
  exact mS (i := i) (List.nodup_cons.mp nd).2 (by simpa using h1) (by simpa using h2) hk
def start (N : List Str) (vs : List V) : St := vs.map some ++ List.replicate (N.length - vs.length) none
def kN (CX : uF) (P : Program) (w : World) (K : PySem.W.Frag) (mg : Str -> Option Value) (base : Heap) (N : List Str) (qual : Str) (scope : Scope) (f : Addr) (cd : Value) (A : Around) (outer : List Env) (s : Shared) (H : Hp) (E : XK) : Cx where
 prog := P
 w := w
 K := K
 mg := mg
 base := base
 A := A.deeper (envOfC qual scope s.heap.objs.size f cd)
 N := N
 s₀ := s
 H₀ := H
 env := envOfC qual scope s.heap.objs.size f cd
 outer := outer
 stack := envOfC qual scope s.heap.objs.size f cd :: outer
 ex := []
 calm := true
 fn := fun _ => true
 pn := []
 xe := fun e s' => wpAny (model P w) (A.deeper (envOfC qual scope s.heap.objs.size f cd)) (leaving (envOfC qual scope s.heap.objs.size f cd) e) (fun _ s'' => CX outer H s E e s'') (fun e' s'' => CX outer H s E e' s'') s'
theorem pM {sc : Scope} {n : Nat} {x : Str} (h : sc.names.lookup x = some .cell) : ∃ c, (cellsFrom n sc.names []).lookup x = some c := by
 have q := PySem.W.cellsFrom_some sc.names n [] (.inl h)
 exact Option.isSome_iff_exists.mp q
theorem uj {CX : uF} {P : Program} {w : World} {K : PySem.W.Frag} {mg : Str -> Option Value} {base : Heap} {N ps : List Str} {qual : Str} {scope : Scope} {f : Addr} {cd : Value} {A : Around} {outer : List Env} {s s1 : Shared} {H : Hp} {E : XK} {us : List Value} {vs : List V}
  (S : aG N ps scope) (hd : A.handled = none) (e0 : lr P w K mg base A outer s H) (hl : vs.length = ps.length) (r : Vals vs us)
  (x : InCallC s s.heap.objs.size (bindL (envOfC qual scope s.heap.objs.size f cd).kindOf (ps.zip us) fun _ => none) (cellsFrom (s.heap.objs.size + 1) scope.names []) (bindC (envOfC qual scope s.heap.objs.size f cd).kindOf (ps.zip us) fun _ => none) s1) :
  Inv (kN CX P w K mg base N qual scope f cd A outer s H E) [] (start N vs) H s1 := by
 have hpl : ps.length <= N.length := by have := congrArg List.length S.pre; rw [List.length_take] at this; omega
 obtain ⟨h1, tk, rfl, hk⟩ := x.done
 have noA : ∀ b : Addr, b ∉ (kN CX P w K mg base N qual scope f cd A outer s H E).ex := fun b z => absurd (show b ∈ ([] : List Addr) from z) (by simp)
 refine ⟨⟨e0.mod, S.kind, rfl, rfl, Nat.le_refl _, fun y z c h1 h2 => ?_, fun y hy => ?_, fun y c _ h => ?_, fun _ => hd, Around.frames_deeper e0.frames, .inr ⟨rfl, rfl⟩, fun b z => absurd z (noA b), e0.bs, e0.vU, fun b _ _ => noA b, fun b z => absurd z (noA b), e0.e_, e0.uY⟩,
  rfl, e0.bare, Un.kept hk, ⟨_, x.toInCall.ns, fun i y v h1 h2 h3 => ?_⟩, fun y c h => ⟨_, x.cell y c h⟩, e0.ah.fresh (Nat.le_refl _), fun y c h => ?_, fun p hp => absurd (show p ∈ ([] : List (Addr × Obj)) from hp) (by simp), e0.ah.kept hk, ?_⟩
 ·exact name_of_addr x.apart (PySem.mem_of_lookup h1) (PySem.mem_of_lookup h2)
 ·have hy : scope.names.lookup y = some .cell \/ scope.names.lookup y = some .free := hy
  rcases hy with hy | hy
  ·exact pM hy
  ·exact absurd rfl (S.Ce _ (PySem.mem_of_lookup hy))
 ·exact Nat.le_of_lt (x.above y c (PySem.mem_of_lookup h))
 ·have hi : i < vs.length := by
   unfold start at h2
   by_cases hi : i < vs.length
   ·exact hi
   ·rw [List.getElem?_append_right (by simpa using hi)] at h2
    rw [List.getElem?_replicate] at h2
    split at h2 <;> cases h2
  have ha : vs[i]? = some v := by
   unfold start at h2
   rw [List.getElem?_append_left (by simpa using hi), List.getElem?_map] at h2
   cases e : vs[i]? with
   | none => rw [e] at h2; cases h2
   | some a => rw [e] at h2; cases h2; rfl
  obtain ⟨u, hu, rv⟩ := r.get ha
  have hp : ps[i]? = some y := by
   rw [<- S.pre, List.getElem?_take_of_lt (by omega)]; exact h1
  have ndP : ps.Nodup := by rw [<- S.pre]; exact S.nd.sublist (List.take_sublist _ _)
  refine ⟨u, rv, ?_⟩
  rcases S.par y (List.mem_of_getElem? hp) with k | k
  ·exact .inl ⟨k, mU ndP hp hu k⟩
  ·obtain ⟨c, e⟩ := pM (n := s.heap.objs.size + 1) k
   refine .inr ⟨.inl k, c, e, ?_⟩
   have q := x.cell y c e
   rw [mS ndP hp hu (by show scope.names.lookup y ≠ _; rw [k]; decide)] at q
   exact q
 ·exact e0.ah.fresh (Nat.le_of_lt (x.above y c (PySem.mem_of_lookup h)))
 ·unfold start
  show _ = N.length
  rw [List.length_append, List.length_map, List.length_replicate]
  omega
theorem pd {CX : uF} {P : Program} {w : World} {K : PySem.W.Frag} {mg : Str -> Option Value} {base : Heap} {k : Nat} {f : Addr} {name qual : Str} {params : Arguments} {body : List Stmt} {scope : Scope} {dV kV doc pm cdv ct oc : Value} {an od : Option Addr}
  {osl : Array (Option Value)} {N ps : List Str} {sp : Sp} (lk : K.lookup f = some ⟨oc, od, .func (PySem.W.fnOf name qual params body scope dV kV doc pm an cdv ct), osl⟩) (hcd : PySem.W.codeIn K cdv qual = true) (S : aG N ps scope)
  (len : ∀ vs H Q E, sp vs H Q E -> vs.length = ps.length)
  (hbody : ∀ (A : Around) (outer : List Env) (s : Shared) (H : Hp) (vs : List V) (Q : VK) (E : XK), ao k (A.deeper (envOfC qual scope s.heap.objs.size f cdv)) -> sp vs H Q E ->
   ∃ t, gi (kN CX P w K mg base N qual scope f cdv A outer s H E) body t /\ t { nx := fun _ H' => Q .aV H', rt := Q } (start N vs) H) :
  bR P w K mg base CX (k + 1) f (PySem.W.fnOf name qual params body scope dV kV doc pm an cdv ct) ps sp := by
 refine ⟨len, fun A outer s H args us vs Q E hr e0 hb r hsp => ?_⟩
 have hl := len _ _ _ _ hsp
 have KX : K.In s.heap := e0.mod.CO.keeps fun b o e => (e0.bs b o e).1
 have lim : s.heap.NoLimit := e0.mod.nolimit.keeps fun b o e => (e0.bs b o e).1
 have hkind : ∀ y ∈ ps.zip us, scope.names.lookup y.1 = some .local \/ (scope.names.lookup y.1 = some .cell /\ ((cellsFrom (s.heap.objs.size + 1) scope.names []).lookup y.1).isSome = true) := fun ⟨n, v⟩ hy => by
  rcases S.par n (List.of_mem_zip hy).1 with q | q
  ·exact .inl q
  ·exact .inr ⟨q, PySem.W.cellsFrom_some _ _ _ (.inl q)⟩
 refine codeAny_call_function hr.depth (KX _ _ lk) rfl S.co S.gen rfl (PySem.W.codeRec_of KX hcd) (hb _ _ _ _ ?_)
 refine wpAny_newFunctionEnv_cells S.kind hkind fun env he s1 x => ?_
 subst he
 refine ⟨lim.keeps x.toInCall.keep, codeAny_func ?_⟩
 obtain ⟨t, ht, hq⟩ := hbody A outer s H vs Q E (hr.deeper _) hsp
 have I : Inv (kN CX P w K mg base N qual scope f cdv A outer s H E) [] (start N vs) H s1 := uj S hr.hd e0 hl r x
 refine wpAny_mono (ht [] s1 (start N vs) H _ I hq) (fun fl s' hs => ?_) fun e s' hs => hs
 have fin : ∀ {σ' : St} {H' : Hp} {v : V} {u : Value}, Inv (kN CX P w K mg base N qual scope f cdv A outer s H E) [] σ' H' s' -> RelV v u -> Q v H' -> CE outer P w H s Q u s' :=
  fun {σ' H' v u} J rv q => ⟨v, H', J.os, J.bare, J.base, J.ah, rv, q⟩
 cases fl with
 | ret u =>
  obtain ⟨v, σ', H', J, rv, q⟩ := hs
  exact fin J rv q
 | next =>
  obtain ⟨σ', H', J, q⟩ := hs
  exact fin (v := V.aV) (u := Value.none) J rfl q
 | brk =>
  obtain ⟨_, _, _, q⟩ := hs
  exact False.elim q
 | cont =>
  obtain ⟨_, _, _, q⟩ := hs
  exact False.elim q
section
variable {X : Cx} {x : Str} {p pos : Pos} {e : Expr} {es : List Expr} {t : TA} {id T : String} {r : List V -> Hp -> VK -> Prop}
def FE (r : List V -> Hp -> VK -> Prop) (t : TA) : TE := fun σ H Q => t σ H fun vs H1 => r vs H1 Q
theorem dq (hc : g_ X (.builtin id) r) (hg : Gl X x) (hm : X.mg x = none) (hv : bootBuiltins x = some (.builtin id)) (ha : PA X (e :: es) t) (hn : x ≠ "__name__" := by decide) (hdb : (x == ("__debug__" : Str)) = false := by decide)
  (he : starEach (e :: es) X.env = (false, eval e X.env) :: starEach es X.env := by rfl) (hpl : (backTo pos (starEach es X.env)).any (·.1) = false := by rfl) : PE X (.Call (.Name x p) (e :: es) [] pos) (FE r t) := by
 intro pins s σ H Q I h
 refine wpAny_Call_Name_kw (iR I hg hm hv ?_ hn hdb)
 exact PyProof.Rows.callWith_builtin1 (au (ha pos pins s σ H _ I h) fun us s1 ⟨vs, H1, I1, r1, q1⟩ => hc pins s1 σ H1 vs us Q I1 r1 q1) he hpl
theorem nA (hc : g_ X (.type T) r) (hg : Gl X x) (hm : X.mg x = none) (hv : bootBuiltins x = some (.type T)) (ha : PA X (e :: es) t) (hn : x ≠ "__name__" := by decide) (hdb : (x == ("__debug__" : Str)) = false := by decide)
  (he : starEach (e :: es) X.env = (false, eval e X.env) :: starEach es X.env := by rfl) (hpl : (backTo pos (starEach es X.env)).any (·.1) = false := by rfl) : PE X (.Call (.Name x p) (e :: es) [] pos) (FE r t) := by
 intro pins s σ H Q I h
 refine wpAny_Call_Name_kw (iR I hg hm hv ?_ hn hdb)
 exact PyProof.Rows.callWith_type1 (au (ha pos pins s σ H _ I h) fun us s1 ⟨vs, H1, I1, r1, q1⟩ => hc pins s1 σ H1 vs us Q I1 r1 q1) he hpl
end
end L2
namespace HT
open PySem PyProof.Rows
section
open PySem.SeqAt
open PySem.AutoSeq1 (wpAny_loadPart')
open PySem.MeetsSeq PySem.MeetsSeq2 PySem.MeetsSeq3
end
section
variable {prog : Program} {w : World} {A : Around} {E : Value -> Shared -> Prop} {s : Shared}
theorem yx {t b : Addr} {vs ws : List Value} {Q : Value -> Shared -> Prop} (ht : IsTup s.heap t vs.toArray) (hb : IsTup s.heap b ws.toArray) (hv : vs ≠ [])
  (h1 : ws = [] -> Q (.ref t) s) (h2 : ws ≠ [] -> Q (.ref s.heap.objs.size) { s with heap := s.heap.push { cls := .type "tuple", data := .seq (vs ++ ws).toArray } })
  (hsz : vs.length + ws.length <= sizeLine) : wpAny (model prog w) A (binaryOp .Add (.ref t) (.ref b)) Q E s := by
 obtain ⟨⟨cls, dd, data, sl⟩, ho, hc, n, hd⟩ := id ht
 obtain ⟨⟨cls2, dd2, data2, sl2⟩, ho2, hc2, n2, hd2⟩ := id hb
 simp only at hc hd hc2 hd2
 subst hc hd hc2 hd2
 have e : vs.toArray ++ ws.toArray = (vs ++ ws).toArray := by simp
 by_cases hw : ws = []
 ·exact concat_meets ⟨_, ho, rfl⟩ ⟨_, ho2, rfl⟩ noFill_tuple_add seq_tuple_add PySem.F.slot_tuple_add PySem.F.entry_tuple_add (PySem.F.args_tuple_add_2 _ _)
   (tuple_addW1 t b vs.toArray ws.toArray n n2 dd dd2 sl sl2 (by simpa using hv) (by simp [hw])) ⟨ho, ho2, h1 hw⟩
 ·refine concat_meets ⟨_, ho, rfl⟩ ⟨_, ho2, rfl⟩ noFill_tuple_add seq_tuple_add PySem.F.slot_tuple_add PySem.F.entry_tuple_add (PySem.F.args_tuple_add_2 _ _)
   (tuple_addW2 t b vs.toArray ws.toArray n n2 dd dd2 sl sl2 (by simpa using hv) (by simpa using hw) (by rw [List.size_toArray, List.size_toArray]; exact hsz)) ⟨ho, ho2, ?_⟩
  rw [e]
  exact h2 hw
def cA (n d : Nat) : Option Int -> Nat
 | none => d
 | some v => if v < 0 then (v + (n : Int)).toNat else min v.toNat n
theorem Ai (n d k : Nat) : cA n d (some (k : Int)) = min k n := by
 show (if (k : Int) < 0 then ((k : Int) + (n : Int)).toNat else min (k : Int).toNat n) = min k n
 rw [if_neg (by omega), Int.toNat_natCast]
theorem DB (n d : Nat) (hd : d <= n) (o : Option Int) : cA n d o <= n := by
 cases o with
 | none => exact hd
 | some v =>
  show (if v < 0 then (v + (n : Int)).toNat else min v.toNat n) <= n
  by_cases hv : v < 0
  ·rw [if_pos hv]; omega
  ·rw [if_neg hv]; exact Nat.min_le_right _ _
theorem tB (v : Int) (n d : Nat) : (if v < 0 then max (v + (n : Int)) 0 else min v (n : Int)) = ((cA n d (some v) : Nat) : Int) := by
 show (if v < 0 then max (v + (n : Int)) 0 else min v (n : Int)) = (((if v < 0 then (v + (n : Int)).toNat else min v.toNat n) : Nat) : Int)
 by_cases hv : v < 0
 ·simp only [if_pos hv]; omega
 ·simp only [if_neg hv]; omega
theorem qv (lo hi : Option Int) (n : Nat) : Builtin.Slice.sliceAdjust lo hi 1 (n : Int) = (((cA n 0 lo : Nat) : Int), ((cA n n hi : Nat) : Int)) := by
 have h1 : ¬ ((1 : Int) < 0) := by omega
 unfold Builtin.Slice.sliceAdjust
 simp only [h1, if_false]
 refine Prod.ext ?_ ?_
 ·cases lo with
  | none => rfl
  | some v => exact tB v n 0
 ·cases hi with
  | none => rfl
  | some v => exact tB v n n
theorem rn (i j : Nat) : Builtin.Slice.slicePlaces (i : Int) (j : Int) 1 = j - i := by
 unfold Builtin.Slice.slicePlaces
 have h1 : (1 : Int) > 0 := by omega
 simp only [h1, if_true, Int.ediv_one]
 split <;> omega
theorem lW {v : Value} {o : Option Int} {Q : Option Int -> Shared -> Prop} (p : IsPart v o) (h : Q o s) : wpAny (model prog w) A (Builtin.Slice.slicePartIndex v) Q E s := by
 cases p with
 | none => exact slicePart_none h
 | int i t => exact slicePart_int h
theorem jx {sl : Addr} {vl vu : Value} {lo hi : Option Int} {n : Nat} {Q : Int × Int × Nat -> Shared -> Prop} (hs : s.heap.IsSliceOf sl vl vu .none) (pl : IsPart vl lo) (pu : IsPart vu hi)
  (h : Q (((cA n 0 lo : Nat) : Int), 1, cA n n hi - cA n 0 lo) s) : wpAny (model prog w) A (Builtin.Slice.sliceApplied (.ref sl) (pure (n : Int))) Q E s := by
 obtain ⟨os, hos, hcs, hds⟩ := id hs
 unfold Builtin.Slice.sliceApplied Builtin.Slice.sliceFields
 refine wpAny_bind (wpAny_bind (wpAny_field hos hds (x := vl) rfl (wpAny_bind (wpAny_field hos hds (x := vu) rfl (wpAny_bind (wpAny_field hos hds (x := .none) rfl (wpAny_pure ?_)))))))
 refine wpAny_bind (slicePart_none ?_)
 show wpAny _ _ (if ((1 : Int) == 0) = true then _ else _) _ _ s
 rw [if_neg (by decide)]
 refine wpAny_bind (lW pl (wpAny_bind (lW pu (wpAny_bind (wpAny_pure ?_)))))
 show wpAny _ _ (match Builtin.Slice.sliceAdjust lo hi 1 (n : Int) with | (lo, hi) => pure (lo, (1 : Int), Builtin.Slice.slicePlaces lo hi 1)) _ _ s
 rw [qv lo hi n]
 show wpAny _ _ (pure (((cA n 0 lo : Nat) : Int), (1 : Int), Builtin.Slice.slicePlaces ((cA n 0 lo : Nat) : Int) ((cA n n hi : Nat) : Int) 1)) _ _ s
 rw [rn]
 exact wpAny_pure h
theorem xj (xs : Array Value) (i k : Nat) : ((List.range k).filterMap fun (m : Nat) => xs[((i : Int) + (m : Int) * 1).toNat]?).toArray = ((xs.toList.drop i).take k).toArray := by
 have e : (fun (m : Nat) => xs[((i : Int) + (m : Int) * 1).toNat]?) = fun m => xs[i + m]? := by
  funext m
  have : ((i : Int) + (m : Int) * 1).toNat = i + m := by omega
  rw [this]
 rw [e]
 have := pick_run xs i k
 rw [List.filterMap_map] at this
 have e2 : ((fun x => xs[x]?) ∘ fun x => i + x) = fun m => xs[i + m]? := rfl
 rw [e2] at this
 rw [this]
theorem jA {t sl : Addr} {items : Array Value} {vl vu : Value} {lo hi : Option Int} {Q : Value -> Shared -> Prop} (ht : IsTup s.heap t items) (hs : s.heap.IsSliceOf sl vl vu .none) (pl : IsPart vl lo) (pu : IsPart vu hi)
  (hw : ¬ (cA items.size 0 lo = 0 /\ cA items.size items.size hi = items.size))
  (h : Q (.ref s.heap.objs.size) { s with heap := s.heap.push { cls := .type "tuple", data := .seq ((items.toList.drop (cA items.size 0 lo)).take (cA items.size items.size hi - cA items.size 0 lo)).toArray } })
  (hsz : items.size <= sizeLine) : wpAny (model prog w) A (getItem (.ref t) (.ref sl)) Q E s := by
 have htake : sizeOk (.seq ((items.toList.drop (cA items.size 0 lo)).take (cA items.size items.size hi - cA items.size 0 lo)).toArray) := by
  show ((items.toList.drop (cA items.size 0 lo)).take (cA items.size items.size hi - cA items.size 0 lo)).toArray.size <= sizeLine
  rw [List.size_toArray, List.length_take, List.length_drop, Array.length_toList]
  omega
 have hj : cA items.size items.size hi <= items.size := DB _ _ (Nat.le_refl _) hi
 obtain ⟨os, hos, hcs, hds⟩ := id hs
 have hTs : s.TypeIs (.ref sl) "slice" := ⟨os, hos, hcs⟩
 unfold getItem
 try with_reducible refine wpAny_holding ?_
 first | refine wpAny_bind (wpAny_pure ?_) | skip
 refine wpAny_bind (wpAny_sequenceKey ht.typeIs (by decide) ?_)
 refine wpAny_bind (wpAny_callSpecial?_slot (name := Str.ofString "__getitem__") ht.typeIs PyProof.Rows.slot_tuple_getitem
  (wpAny_call_entry PyProof.Rows.slot_tuple_getitem ht.typeIs entry_tuple_getitem ?_ (args_tuple_getitem _ _)))
 show wpAny _ _ (Builtin.Tuple.tupleItemsOf (.ref t) >>= _) _ _ s
 refine wpAny_bind (tupleItemsOf_ ht ?_)
 refine wpAny_bind (wpAny_typeOf hTs ?_)
 rw [if_pos (by decide)]
 refine wpAny_bind (jx hs pl pu ?_)
 have hno : ¬ ((((cA items.size 0 lo : Nat) : Int) == 0 && (1 : Int) == 1 && (cA items.size items.size hi - cA items.size 0 lo) == items.size) = true) := by
  intro q
  rw [Bool.and_eq_true, Bool.and_eq_true] at q
  have q1 : ((cA items.size 0 lo : Nat) : Int) = 0 := eq_of_beq q.1.1
  have q2 : cA items.size items.size hi - cA items.size 0 lo = items.size := eq_of_beq q.2
  exact hw ⟨by omega, by omega⟩
 show wpAny _ _ (if (((cA items.size 0 lo : Nat) : Int) == 0 && (1 : Int) == 1 && (cA items.size items.size hi - cA items.size 0 lo) == items.size) = true then _ else _) _ _ s
 rw [if_neg hno, xj]
 first
  | exact wpAny_bind (m := Builtin.Tuple.tupleExact _) (wpAny_newObj_type (wpAny_pure ⟨_, rfl, wpAny_pure h⟩) htake)
  | exact wpAny_bind (m := Builtin.Tuple.tupleExact _) (wpAny_newObj_type (wpAny_bind (wpAny_pure (wpAny_pure ⟨_, rfl, wpAny_pure h⟩))) htake)
  | exact wpAny_bind (wpAny_bind (m := Builtin.Tuple.tupleExact _) (wpAny_newObj_type (wpAny_pure (wpAny_pure ⟨_, rfl, wpAny_pure h⟩)) htake))
  | exact wpAny_bind (wpAny_bind (m := Builtin.Tuple.tupleExact _) (wpAny_newObj_type (wpAny_pure ⟨_, rfl, wpAny_pure h⟩) htake))
end
end HT
namespace L2
open PySem PySem.Spec PyProof.Rows
abbrev TO := St -> Hp -> (Option Int -> Hp -> Prop) -> Prop
def PO (X : Cx) (e : Option Expr) (t : TO) : Prop :=
 ∀ (pins : List (Addr × Obj)) (s : Shared) (σ : St) (H : Hp) (Q : Option Int -> Hp -> Prop), Inv X pins σ H s -> t σ H Q ->
  wpAny (model X.prog X.w) X.A (evalPart e X.env) (fun u s' => ∃ o H', Inv X pins σ H' s' /\ IsPart u o /\ Q o H') X.xe s
def Aw : TO := fun _ H Q => Q none H
def FK (t : TE) : TO := fun σ H Q => t σ H fun x H1 => ∃ i, x = .int i /\ Q (some i) H1
section
variable {X : Cx} {e : Expr} {te : TE} {lo hi : Option Expr} {tl th : TO} {pos p2 : Pos}
theorem AR : PO X none Aw := by
 intro pins s σ H Q I h
 rw [evalPart_none]
 exact wpAny_pure ⟨none, H, I, .none, h⟩
theorem AS (h : PE X e te) : PO X (some e) (FK te) := by
 intro pins s σ H Q I hw
 rw [evalPart_some]
 refine au (h pins s σ H _ I hw) fun u s1 ⟨x, H1, I1, r1, q1⟩ => ?_
 obtain ⟨i, rfl, q⟩ := q1
 obtain ⟨t, rfl⟩ := r1
 exact ⟨some i, H1, I1, .int i t, q⟩
def ym (X : Cx) (r : V -> Option Int -> Option Int -> Hp -> VK -> Prop) : Prop :=
 ∀ (pins : List (Addr × Obj)) (s : Shared) (σ : St) (H : Hp) (x : V) (v vl vu : Value) (lo hi : Option Int) (sl : Addr) (Q : VK), Inv X pins σ H s -> RelV x v -> s.heap.IsSliceOf sl vl vu .none -> IsPart vl lo -> IsPart vu hi -> r x lo hi H Q ->
  ∃ T id, typeLookup (.type T) "__getitem__" = pure (some (.builtin id)) /\ s.TypeIs v T /\ wpAny (model X.prog X.w) X.A (getItem v (.ref sl)) (EP X pins σ Q) X.xe s
theorem ym.or {r r' : V -> Option Int -> Option Int -> Hp -> VK -> Prop} (h : ym X r) (h' : ym X r') : ym X (fun x lo hi H Q => r x lo hi H Q \/ r' x lo hi H Q) := by
 intro pins s σ H x v vl vu lo hi sl Q I rx hs pl pu q
 rcases q with q | q
 ·exact h pins s σ H x v vl vu lo hi sl Q I rx hs pl pu q
 ·exact h' pins s σ H x v vl vu lo hi sl Q I rx hs pl pu q
def Hi (r : V -> Option Int -> Option Int -> Hp -> VK -> Prop) (te : TE) (tl th : TO) : TE := fun σ H Q => te σ H fun x H1 => tl σ H1 fun l H2 => th σ H2 fun u H3 => r x l u H3 Q
theorem xf {r : V -> Option Int -> Option Int -> Hp -> VK -> Prop} (hr : ym X r) (he : PE X e te) (hl : PO X lo tl) (hu : PO X hi th) : PE X (.Subscript e (.Slice lo hi none p2) pos) (Hi r te tl th) := by
 intro pins s σ H Q I h
 refine Subscript_ (au (he pins s σ H _ I h) fun v s1 ⟨x, H1, I1, r1, q1⟩ => ?_)
 refine wpAny_Slice (au (hl pins s1 σ H1 _ I1 q1) fun vl s2 ⟨l, H2, I2, pl, q2⟩ => au (hu pins s2 σ H2 _ I2 q2) fun vu s3 ⟨u, H3, I3, pu, q3⟩ => ?_)
 rw [evalPart_none]
 refine wpAny_pure ?_
 have I4 : Inv X pins σ H3 { s3 with heap := s3.heap.push { cls := .type "slice", data := .fields #[vl, vu, .none] } } := I3.kept (t' := s3.toks) fun b ob q => Heap.get?_push_of_some _ q
 obtain ⟨T, id, hT, ht, hg⟩ := hr pins { s3 with heap := s3.heap.push { cls := .type "slice", data := .fields #[vl, vu, .none] } } σ H3 x v vl vu l u s3.heap.objs.size Q I4 r1 (Heap.IsSliceOf.new ..) pl pu q3
 show wpAny (model X.prog X.w) X.A (subscriptTail e (.Slice lo hi none p2) v (.ref s3.heap.objs.size)) (EP X pins σ Q) X.xe { s3 with heap := s3.heap.push { cls := .type "slice", data := .fields #[vl, vu, .none] } }
 exact tail_any (ops := [.ref s3.heap.objs.size, v]) ht hT hg (by with_unfolding_all rfl)
def pQ (xs : List V) (lo hi : Option Int) : List V := (xs.drop (HT.cA xs.length 0 lo)).take (HT.cA xs.length xs.length hi - HT.cA xs.length 0 lo)
theorem j2 (xs : List V) (lo hi : Option Int) : (pQ xs lo hi).length <= xs.length := by
 unfold pQ
 rw [List.length_take, List.length_drop]
 omega
def E7 (K : PySem.W.Frag) : V -> Option Int -> Option Int -> Hp -> VK -> Prop := fun x lo hi H Q => ∃ a xs, x = .ref a /\ ej K H a xs /\
 ¬ (HT.cA xs.length 0 lo = 0 /\ HT.cA xs.length xs.length hi = xs.length) /\ ∀ p, H p = none -> Q (.ref p) (upd H p (.tup (pQ xs lo hi)))
theorem DH : ym X (E7 X.K) := by
 intro pins s σ H x v vl vu lo hi sl Q I rx hs pl pu h
 obtain ⟨a, xs, rfl, hx, hw, q⟩ := h
 cases rx
 obtain ⟨its, r, ht, hz⟩ := I.tuple hx
 have hlen : its.toArray.size = xs.length := by rw [List.size_toArray]; exact r.length.symm
 refine ⟨"tuple", _, PyProof.Rows.slot_tuple_getitem.lookup, ht.typeIs, ?_⟩
 refine HT.jA ht hs pl pu (by rw [hlen]; exact hw) ?_ (by rw [hlen]; exact hz)
 rw [hlen]
 refine ⟨.ref s.heap.objs.size, _, I.laid (t' := s.toks) (o := .tup (pQ xs lo hi)) (fun b ob q => Heap.get?_push_of_some _ q) (Nat.le_refl _) ?_, rfl, q _ (I.ah.fresh (Nat.le_refl _))⟩
 exact ⟨Nat.le_trans (j2 xs lo hi) hz, _, (r.drop (HT.cA xs.length 0 lo)).take (HT.cA xs.length xs.length hi - HT.cA xs.length 0 lo), IsTup.new _ _⟩
def BO (K : PySem.W.Frag) : R2 := fun x y H Q => ∃ a b xs ys, x = .ref a /\ y = .ref b /\ ej K H a xs /\ ej K H b ys /\ xs ≠ [] /\ xs.length + ys.length <= sizeLine /\
 (ys = [] -> Q (.ref a) H) /\ (ys ≠ [] -> ∀ p, H p = none -> Q (.ref p) (upd H p (.tup (xs ++ ys))))
theorem Vals.oW {xs : List V} {us : List Value} (r : Vals xs us) : us = [] ↔ xs = [] := by
 cases r with
 | nil => simp
 | cons _ _ => simp
theorem AE : eQ X (binaryOp .Add) (BO X.K) := by
 intro pins s σ H x y v u Q I rx ry h
 obtain ⟨a, b, xs, ys, rfl, rfl, ha, hb, hx, hz, q1, q2⟩ := h
 cases rx
 cases ry
 obtain ⟨its, r1, p1, _⟩ := I.tuple ha
 obtain ⟨its2, r2, p2, _⟩ := I.tuple hb
 refine HT.yx p1 p2 (fun z => hx (r1.oW.mp z)) (fun z => ⟨.ref a, H, I, rfl, q1 (r2.oW.mp z)⟩) (fun z => ?_) (by rw [<- r1.length, <- r2.length]; exact hz)
 refine ⟨.ref s.heap.objs.size, _, I.laid (t' := s.toks) (o := .tup (xs ++ ys)) (fun b ob q => Heap.get?_push_of_some _ q) (Nat.le_refl _) ?_, rfl, q2 (fun w => z (r2.oW.mpr w)) _ (I.ah.fresh (Nat.le_refl _))⟩
 exact ⟨by rw [List.length_append]; exact hz, _, r1.append r2, IsTup.new _ _⟩
end
def CD (n : Nat) (i : Int) : Option Nat := if 0 <= i then (if i < n then some i.toNat else none) else if -(n : Int) <= i then some (i + n).toNat else none
def eo {α : Type} (xs : List α) (i : Int) : Option α := (CD xs.length i).bind fun j => xs[j]?
theorem zb {n : Nat} {i : Int} {j : Nat} (h : CD n i = some j) : seqIndex? i n = some j /\ j < n /\ -(n : Int) <= i /\ i < n := by
 unfold CD at h
 by_cases h0 : 0 <= i
 ·rw [if_pos h0] at h
  by_cases h1 : i < n
  ·rw [if_pos h1] at h
   have e : i.toNat = j := Option.some.inj h
   exact ⟨by rw [seqIndex_of h0 h1, e], by omega, by omega, h1⟩
  ·rw [if_neg h1] at h; cases h
 ·rw [if_neg h0] at h
  by_cases h1 : -(n : Int) <= i
  ·rw [if_pos h1] at h
   have e : (i + n).toNat = j := Option.some.inj h
   exact ⟨by rw [seqIndex_neg (by omega) h1, e], by omega, h1, by omega⟩
  ·rw [if_neg h1] at h; cases h
theorem nS {α : Type} {xs : List α} {i : Int} {v : α} (h : eo xs i = some v) : ∃ j, seqIndex? i xs.length = some j /\ xs[j]? = some v /\ j < xs.length /\ -(xs.length : Int) <= i /\ i < xs.length := by
 unfold eo at h
 cases e : CD xs.length i with
 | none => rw [e] at h; cases h
 | some j =>
  rw [e] at h
  obtain ⟨h1, h2, h3, h4⟩ := zb e
  exact ⟨j, h1, h, h2, h3, h4⟩
def nR (b : Expr) : Prop := ∀ o i, subscripted b false o i = operate [o, i] (getItem o i)
def yb (X : Cx) (r : R2) : Prop :=
 ∀ (value slice : Expr) (pins : List (Addr × Obj)) (s : Shared) (σ : St) (H : Hp) (x y : V) (v u : Value) (Q : VK), Inv X pins σ H s -> RelV x v -> RelV y u -> r x y H Q ->
  subscripted slice false v u = operate [v, u] (getItem v u) -> wpAny (model X.prog X.w) X.A (subscriptTail value slice v u) (EP X pins σ Q) X.xe s
def HR (X : Cx) (id : String) (r : V -> List V -> Hp -> VK -> Prop) : Prop :=
 ∀ (pins : List (Addr × Obj)) (s : Shared) (σ : St) (H : Hp) (x : V) (xs : List V) (v : Value) (us : List Value) (Q : VK), Inv X pins σ H s -> RelV x v -> Vals xs us -> r x xs H Q ->
  wpAny (model X.prog X.w) X.A (call (.builtin id) (v :: us)) (EP X pins σ Q) X.xe s
section
variable {X : Cx} {a b : Expr} {ta tb : TE} {pos : Pos}
theorem yb.or {r r' : R2} (h : yb X r) (h' : yb X r') : yb X (fun x y H Q => r x y H Q \/ r' x y H Q) := by
 intro value slice pins s σ H x y v u Q I rx ry q hs
 rcases q with q | q
 ·exact h value slice pins s σ H x y v u Q I rx ry q hs
 ·exact h' value slice pins s σ H x y v u Q I rx ry q hs
theorem BL {r : R2} (hr : yb X r) (ha : PE X a ta) (hb : PE X b tb) (hs : nR b) : PE X (.Subscript a b pos) (DM r ta tb) := by
 intro pins s σ H Q I h
 exact Subscript_ (Bk ha hb I h fun v u s2 x y H2 I2 rx ry q => hr a b pins s2 σ H2 x y v u Q I2 rx ry q (hs _ _))
def E2 (K : PySem.W.Frag) : R2 := fun x y H Q => ∃ p xs i v, x = .ref p /\ y = .int i /\ c_ K H p xs /\ eo xs i = some v /\ Q v H
def E4 (K : PySem.W.Frag) : R2 := fun x y H Q => ∃ p xs i v, x = .ref p /\ y = .int i /\ ej K H p xs /\ eo xs i = some v /\ Q v H
def E3 : R2 := fun x y H Q => ∃ z i c, x = .str z /\ y = .int i /\ z.length <= sizeLine /\ eo z.cps.toList i = some c /\ Q (.str ⟨#[c]⟩) H
theorem zd : yb X (E2 X.K) := by
 intro value slice pins s σ H x y v u Q I rx ry h hs
 obtain ⟨p, xs, i, z, rfl, rfl, hq, he, q⟩ := h
 cases rx
 obtain ⟨t, rfl⟩ := ry
 obtain ⟨its, r, pl, hz⟩ := I.list hq
 obtain ⟨j, h1, h2, h3, h4, h5⟩ := nS he
 obtain ⟨w, ew, rw'⟩ := r.get h2
 have hl := r.length
 have hn := lI
 have fin : EP X pins σ Q w s := ⟨z, H, I, rw', q⟩
 by_cases h0 : 0 <= i
 ·have hj : i.toNat = j := by
   rw [seqIndex_of h0 h5] at h1
   exact Option.some.inj h1
  exact item_listR pl.isList h0 (by omega) (by rw [hj]; simpa using ew) fin hs
 ·have hj : (i + (its.toArray.size : Int)).toNat = j := by
   rw [seqIndex_neg (by omega) h4] at h1
   rw [List.size_toArray, <- hl]
   exact Option.some.inj h1
  exact subscriptTail_builtinR (x := w) pl.isList.typeIs slot_list_getitem.lookup
   (wpAny_getItem_list_neg (Q := fun r s' => r = w /\ EP X pins σ Q r s') pl.isList (by omega) (by rw [List.size_toArray] <;> omega) (by omega) (by rw [hj]; simpa using ew) ⟨rfl, fin⟩) hs
theorem CH : yb X (E4 X.K) := by
 intro value slice pins s σ H x y v u Q I rx ry h hs
 obtain ⟨p, xs, i, z, rfl, rfl, hq, he, q⟩ := h
 cases rx
 obtain ⟨t, rfl⟩ := ry
 obtain ⟨its, r, pl, hz⟩ := I.tuple hq
 obtain ⟨j, h1, h2, h3, h4, h5⟩ := nS he
 obtain ⟨w, ew, rw'⟩ := r.get h2
 have hl := r.length
 have hn := lI
 have fin : EP X pins σ Q w s := ⟨z, H, I, rw', q⟩
 exact subscriptTail_builtinR (x := w) pl.typeIs slot_tuple_getitem.lookup
  (getItem_tuple (j := j) (Q := fun r s' => r = w /\ EP X pins σ Q r s') pl (by omega) (by omega) (by rw [List.size_toArray, <- hl]; exact h1) (by simpa using ew) ⟨rfl, fin⟩) hs
theorem CG : yb X E3 := by
 intro value slice pins s σ H x y v u Q I rx ry h hs
 obtain ⟨z, i, c, rfl, rfl, hz, he, q⟩ := h
 obtain ⟨t, rfl⟩ := rx
 obtain ⟨t', rfl⟩ := ry
 obtain ⟨j, h1, h2, h3, h4, h5⟩ := nS he
 have hl : z.cps.toList.length = z.length := by simp [Str.length]
 rw [hl] at h1 h4 h5
 have hn := lI
 exact tail_any (typeIs_str s z t) slot_str_getitem.lookup (getItem_str (c := c) (by
  have e1 : decide (i < -(2 ^ 63 : Int)) = false := decide_eq_false (by omega)
  have e2 : decide (i ≥ 2 ^ 63) = false := decide_eq_false (by omega)
  rw [e1, e2, Bool.or_false]) (by rw [h1]; simpa using h2) ⟨.str ⟨#[c]⟩, H, I.tok _, ⟨_, rfl⟩, q⟩) hs
def HI (K : PySem.W.Frag) : R2 := fun x y H Q => E2 K x y H Q \/ E4 K x y H Q \/ E3 x y H Q
theorem CF : yb X (HI X.K) := zd.or (CH.or CG)
theorem pC (lo hi : Option Int) (n : Nat) : (sliceBounds lo hi none n).1 = ((HT.cA n 0 lo : Nat) : Int) /\ (sliceBounds lo hi none n).2.1 = ((HT.cA n n hi : Nat) : Int) /\ (sliceBounds lo hi none n).2.2 = 1 := by
 refine ⟨?_, ?_, rfl⟩
 ·cases lo with
  | none => simp [sliceBounds, HT.cA]
  | some i =>
   simp only [sliceBounds, HT.cA, Option.getD_none, show (1 : Int) > 0 by decide, if_true]
   by_cases h : i < 0
   ·simp only [h, if_true] <;> omega
   ·simp only [h, if_false] <;> omega
 ·cases hi with
  | none => simp [sliceBounds, HT.cA]
  | some i =>
   simp only [sliceBounds, HT.cA, Option.getD_none, show (1 : Int) > 0 by decide, if_true]
   by_cases h : i < 0
   ·simp only [h, if_true] <;> omega
   ·simp only [h, if_false] <;> omega
theorem mI (its : List Value) (lo hi : Option Int) : slicePick its.toArray lo hi none = ((its.drop (HT.cA its.length 0 lo)).take (HT.cA its.length its.length hi - HT.cA its.length 0 lo)).toArray := by
 obtain ⟨h1, h2, h3⟩ := pC lo hi its.toArray.size
 unfold slicePick
 rw [h1, h2, h3]
 simp only [sliceRange_one, pick_run, List.size_toArray] <;> rfl
def E6 (K : PySem.W.Frag) : V -> Option Int -> Option Int -> Hp -> VK -> Prop := fun x lo hi H Q => ∃ a xs, x = .ref a /\ c_ K H a xs /\ ∀ p, H p = none -> Q (.ref p) (upd H p (.lst (pQ xs lo hi)))
theorem Ap : ym X (E6 X.K) := by
 intro pins s σ H x v vl vu lo hi sl Q I rx hs pl pu h
 obtain ⟨a, xs, rfl, hx, q⟩ := h
 cases rx
 obtain ⟨its, r, ht, hz⟩ := I.list hx
 have hlen := r.length
 refine ⟨"list", _, slot_list_getitem.lookup, ht.isList.typeIs, ?_⟩
 refine wpAny_getItem_list_slice ht.isList hs pl pu .none (by simp) ?_ (by rw [List.size_toArray] <;> omega)
 rw [mI, <- hlen]
 refine ⟨.ref s.heap.objs.size, _, I.laid (t' := s.toks) (o := .lst (pQ xs lo hi)) (fun b ob q => Heap.get?_push_of_some _ q) (Nat.le_refl _) ?_, rfl, q _ (I.ah.fresh (Nat.le_refl _))⟩
 exact ⟨Nat.le_trans (j2 xs lo hi) hz, _, 0, (r.drop (HT.cA xs.length 0 lo)).take (HT.cA xs.length xs.length hi - HT.cA xs.length 0 lo), Heap.get?_push_size _ rfl⟩
def hJ : V -> Bool
 | .aV => true
 | .bl _ => true
 | .int _ => true
 | .str _ => true
 | _ => false
def zK : V -> V -> Bool
 | .aV, .aV => true
 | .bl a, .bl b => a == b
 | .bl a, .int b => (if a then 1 else 0) == b
 | .int a, .bl b => a == (if b then 1 else 0)
 | .int a, .int b => a == b
 | .str a, .str b => a == b
 | _, _ => false
theorem B0 {A : Around} {s : Shared} {y x : V} {u v : Value} (ry : RelV y u) (rx : RelV x v) (fy : hJ y = true) (fx : hJ x = true) : SeqAt.EqAt A s u v (zK y x) := by
 cases y with
 | aV =>
  cases ry
  cases x with
  | aV => cases rx; exact SeqAt.EqAt.same _
  | bl b => cases rx; exact SeqAt.EqAt.none_bool b
  | int b => obtain ⟨t, rfl⟩ := rx; exact SeqAt.EqAt.none_int b t
  | str b => obtain ⟨t, rfl⟩ := rx; exact SeqAt.EqAt.none_str b t
  | _ => exact absurd (show false = true from fx) Bool.false_ne_true
 | bl a =>
  cases ry
  cases x with
  | aV => cases rx; exact SeqAt.EqAt.bool_none a
  | bl b => cases rx; exact SeqAt.EqAt.bool_bool a b
  | int b => obtain ⟨t, rfl⟩ := rx; exact SeqAt.EqAt.bool_int a b t
  | str b => obtain ⟨t, rfl⟩ := rx; exact SeqAt.EqAt.bool_str a b t
  | _ => exact absurd (show false = true from fx) Bool.false_ne_true
 | int a =>
  obtain ⟨t', rfl⟩ := ry
  cases x with
  | aV => cases rx; exact SeqAt.EqAt.int_none a t'
  | bl b => cases rx; exact SeqAt.EqAt.int_bool a t' b
  | int b => obtain ⟨t, rfl⟩ := rx; exact SeqAt.EqAt.int_int a t' b t
  | str b => obtain ⟨t, rfl⟩ := rx; exact SeqAt.EqAt.int_str a t' b t
  | _ => exact absurd (show false = true from fx) Bool.false_ne_true
 | str a =>
  obtain ⟨t', rfl⟩ := ry
  cases x with
  | aV => cases rx; exact SeqAt.EqAt.str_none a t'
  | bl b => cases rx; exact SeqAt.EqAt.str_bool a t' b
  | int b => obtain ⟨t, rfl⟩ := rx; exact SeqAt.EqAt.str_int a t' b t
  | str b => obtain ⟨t, rfl⟩ := rx; exact SeqAt.EqAt.str_str a t' b t
  | _ => exact absurd (show false = true from fx) Bool.false_ne_true
 | _ => exact absurd (show false = true from fy) Bool.false_ne_true
def rD (x : V) (u : Value) : Bool := match u with
 | .none => zK .aV x
 | .bool b => zK (.bl b) x
 | .int i _ => zK (.int i) x
 | .str z _ => zK (.str z) x
 | _ => false
theorem wQ {x y : V} {u : Value} (r : RelV y u) (f : hJ y = true) : rD x u = zK y x := by
 cases y with
 | aV => cases r; rfl
 | bl b => cases r; rfl
 | int i => obtain ⟨t, rfl⟩ := r; rfl
 | str z => obtain ⟨t, rfl⟩ := r; rfl
 | _ => exact absurd (show false = true from f) Bool.false_ne_true
theorem ib {x : V} : ∀ {xs : List V} {us : List Value}, Vals xs us -> xs.all hJ = true -> us.any (rD x) = xs.any fun y => zK y x
 | _, _, .nil, _ => rfl
 | y :: xs, u :: us, .cons r t, f => by
  rw [List.all_cons, Bool.and_eq_true] at f
  rw [List.any_cons, List.any_cons, wQ r f.1, ib t f.2]
theorem gM {A : Around} {s : Shared} {x : V} {v : Value} (rx : RelV x v) (fx : hJ x = true) : ∀ {xs : List V} {us : List Value}, Vals xs us -> xs.all hJ = true -> ∀ u ∈ us, SeqAt.EqAt A s u v (rD x u)
 | _, _, .nil, _ => fun u hu => by cases hu
 | y :: xs, u :: us, .cons r t, f => fun u' hu => by
  rw [List.all_cons, Bool.and_eq_true] at f
  rcases List.mem_cons.mp hu with rfl | hu
  ·rw [wQ r f.1]; exact B0 r rx f.1 fx
  ·exact gM rx fx t f.2 u' hu
def yg (x : V) (xs : List V) : Bool := xs.any fun y => zK y x
def Fi (K : PySem.W.Frag) (neg : Bool) : R2 := fun x y H Q => ∃ p xs, y = .ref p /\ (c_ K H p xs \/ ej K H p xs) /\ hJ x = true /\ xs.all hJ = true /\ Q (.bl (if neg then !yg x xs else yg x xs)) H
theorem m8 : eQ X (compareOp .In) (Fi X.K false) := by
 intro pins s σ H x y v u Q I rx ry h
 obtain ⟨p, xs, rfl, hq, fx, fs, q⟩ := h
 cases ry
 rcases hq with hq | hq
 ·obtain ⟨its, r, pl, hz⟩ := I.list hq
  refine SeqAt.in_listAt (rD x) pl.isList (fun w hw => gM rx fx r fs w (by simpa using hw)) ⟨.bl _, H, I, rfl, ?_⟩
  rw [show its.toArray.any (rD x) = its.any (rD x) by simp, ib r fs]
  exact q
 ·obtain ⟨its, r, pl, hz⟩ := I.tuple hq
  refine SeqAt.in_tupleAt (rD x) pl (fun w hw => gM rx fx r fs w (by simpa using hw)) ⟨.bl _, H, I, rfl, ?_⟩
  rw [show its.toArray.any (rD x) = its.any (rD x) by simp, ib r fs]
  exact q
theorem oX : eQ X (compareOp .NotIn) (Fi X.K true) := by
 intro pins s σ H x y v u Q I rx ry h
 obtain ⟨p, xs, rfl, hq, fx, fs, q⟩ := h
 cases ry
 rcases hq with hq | hq
 ·obtain ⟨its, r, pl, hz⟩ := I.list hq
  refine SeqAt.notIn_listAt (rD x) pl.isList (fun w hw => gM rx fx r fs w (by simpa using hw)) ⟨.bl _, H, I, rfl, ?_⟩
  rw [show its.toArray.any (rD x) = its.any (rD x) by simp, ib r fs]
  exact q
 ·obtain ⟨its, r, pl, hz⟩ := I.tuple hq
  refine SeqAt.notIn_tupleAt (rD x) pl (fun w hw => gM rx fx r fs w (by simpa using hw)) ⟨.bl _, H, I, rfl, ?_⟩
  rw [show its.toArray.any (rD x) = its.any (rD x) by simp, ib r fs]
  exact q
def HK (K : PySem.W.Frag) (T : String) (x : V) (H : Hp) : Prop := match x with
 | .str _ => T = "str"
 | .int _ => T = "int"
 | .ref p => (T = "list" /\ ∃ xs, c_ K H p xs) \/ (T = "tuple" /\ ∃ o, K.lookup p = some o /\ o.cls = .type "tuple" /\ o.dict = none) \/
   (T = "dict" /\ ((∃ kvs, H p = some (.dK kvs)) \/ ∃ kvs, H p = some (.dT kvs))) \/ (T = "set" /\ ∃ S n, H p = some (.set S n))
 | _ => False
theorem DQ {pins : List (Addr × Obj)} {σ : St} {H : Hp} {s : Shared} {T : String} {x : V} {v : Value} (I : Inv X pins σ H s) (r : RelV x v) (ty : HK X.K T x H) :
  s.TypeIs v T /\ ∀ a, v = .ref a -> ∃ ob, s.heap.get? a = some ob /\ ob.dict = none := by
 cases x with
 | str z =>
  obtain ⟨t, rfl⟩ := r
  cases (show T = "str" from ty)
  exact ⟨typeIs_str s z t, fun _ e => nomatch e⟩
 | int i =>
  obtain ⟨t, rfl⟩ := r
  cases (show T = "int" from ty)
  exact ⟨typeIs_int s i t, fun _ e => nomatch e⟩
 | ref p =>
  cases r
  rcases ty with ⟨rfl, xs, hq⟩ | ⟨rfl, o, hk, hc, hd⟩ | ⟨rfl, hk⟩ | ⟨rfl, S, n, hk⟩
  ·obtain ⟨its, _, pl, _⟩ := I.list hq
   refine ⟨pl.isList.typeIs, fun a e => ?_⟩
   cases e
   obtain ⟨o, n, e, c, hd, _⟩ := pl
   exact ⟨o, e, hd⟩
  ·refine ⟨⟨o, I.iQ p o hk, hc⟩, fun a e => ?_⟩
   cases e
   exact ⟨o, I.iQ _ o hk, hd⟩
  ·have z : ∃ o, s.heap.get? p = some o /\ o.ExactDict := by
    rcases hk with ⟨kvs, hk⟩ | ⟨kvs, hk⟩
    ·obtain ⟨_, _, _, _, o, _, _, e, ex, _⟩ := I.ah p _ hk
     exact ⟨o, e, ex⟩
    ·obtain ⟨_, _, _, _, o, _, _, e, ex, _⟩ := I.ah p _ hk
     exact ⟨o, e, ex⟩
   obtain ⟨o, e, ex⟩ := z
   refine ⟨⟨o, e, ex.1⟩, fun a e2 => ?_⟩
   cases e2
   exact ⟨o, e, ex.2.1⟩
  ·obtain ⟨o, _, _, _, e, ex, _⟩ := I.ah p _ hk
   refine ⟨⟨o, e, ex.1⟩, fun a e2 => ?_⟩
   cases e2
   exact ⟨o, e, ex.2.1⟩
 | _ => exact False.elim ty
def He (K : PySem.W.Frag) (T : String) (r : V -> List V -> Hp -> VK -> Prop) (to : TE) (t : TA) : TE := fun σ H Q => to σ H fun x H1 => HK K T x H1 /\ t σ H1 fun xs H2 => r x xs H2 Q
variable {o e : Expr} {es : List Expr} {to : TE} {t : TA} {name : Str} {apos cpos : Pos} {T id : String} {r : V -> List V -> Hp -> VK -> Prop}
theorem BK (pa : PlainAttrs T) (slot : Slot T name id) (hty : typeOf (.builtin id) = pure (.type "method_descriptor")) (hm : HR X id r) (ho : PE X o to) (ha : PA X (e :: es) t)
  (hbase : attributeBase o name X.env (eval o X.env) = eval o X.env := by rfl)
  (hfew : ((backTo cpos (starEach (e :: es) X.env)).all (fun x => !x.1) && (backToKw cpos (keywordEach [] X.env)).all (fun x => x.1.isSome)
   && decide ((e :: es).length + ([] : List Keyword).length + (if ([] : List Keyword).isEmpty then 0 else 1) < 30)) = true := by rfl)
  (hline : (apos.endLine == cpos.line) = true := by rfl) (hs : starEach (e :: es) X.env = (false, eval e X.env) :: starEach es X.env := by rfl) (hplain : (backTo cpos (starEach es X.env)).any (·.1) = false := by rfl) :
  PE X (.Call (.Attribute o name apos) (e :: es) [] cpos) (He X.K T r to t) := by
 intro pins s σ H Q I h
 refine wpAny_Call_method_late hbase hfew hline rfl (au (ho pins s σ H _ I h) fun v s1 ⟨x, H1, I1, r1, ty, q1⟩ => ?_)
 obtain ⟨h1, h2⟩ := DQ I1 r1 ty
 refine ⟨T, id, pa, slot, hty, h1, h2, ?_⟩
 have hA := ha cpos pins s1 σ H1 _ I1 q1
 rw [hs] at hA ⊢
 refine Calls.callWith_builtin (by show (false || (backTo cpos (starEach es X.env)).any (·.1)) = false; rw [hplain] <;> rfl) (Calls.evalArgs_plain ?_)
 exact au hA fun us s2 ⟨vs, H2, I2, r2, q2⟩ => hm pins s2 σ H2 x vs v us Q I2 r1 r2 q2
end
def G9 (X : Cx) (id : String) (r : V -> List V -> Hp -> VK -> Prop) : Prop :=
 ∀ (pins : List (Addr × Obj)) (s : Shared) (σ : St) (H : Hp) (x : V) (xs : List V) (v : Value) (us : List Value) (Q : VK), Inv X pins σ H s -> RelV x v -> Vals xs us -> r x xs H Q ->
  wpAny (model X.prog X.w) X.A (call (.builtin id) (v :: us)) (EP X pins σ Q) X.xe s
theorem Vals.one : ∀ {x : V} {us : List Value}, Vals [x] us -> ∃ u, us = [u] /\ RelV x u
 | _, _, .cons r .nil => ⟨_, rfl, r⟩
theorem Vals.zero : ∀ {us : List Value}, Vals [] us -> us = []
 | _, .nil => rfl
section
variable {X : Cx} {pins : List (Addr × Obj)} {σ : St} {H : Hp} {s : Shared} {l b : Addr} {xs ys zs : List V}
theorem Inv.F8 {its its' : List Value} {n : Nat} {f : Array Value -> Array Value} {t' : Nat} (I : Inv X pins σ H s) (hH : H l = some (.lst xs))
  (e : s.heap.get? l = some { cls := .type "list", data := .seq its.toArray n }) (hf : f its.toArray = its'.toArray) (hv : Vals ys its') (hz : ys.length <= sizeLine) :
  Inv X pins σ (upd H l (.lst ys)) { s with heap := s.heap.update l (Obj.mapSeq f), toks := t' } := by
 have q := PySem.IsL.update e f
 rw [hf] at q
 refine I.write (x := l) (e := l) (by rw [hH]; exact trivial) (.inl rfl) (fun b' u hb hu => (Heap.get?_update_other s.heap (Obj.mapSeq f) (Ne.symm hb)).trans hu) ⟨_, q⟩ ?_
 exact ⟨hz, its', _, hv, q⟩
theorem Inv.F7 {its : List Value} {t' : Nat} (I : Inv X pins σ H s) (hv : Vals ys its) (hz : ys.length <= sizeLine) :
  Inv X pins σ (upd H s.heap.objs.size (.lst ys)) { s with heap := s.heap.push { cls := .type "list", data := .seq its.toArray }, toks := t' } :=
 I.laid (fun _ _ q => Heap.get?_push_of_some _ q) (Nat.le_refl _) ⟨hz, its, 0, hv, Heap.get?_push_size _ rfl⟩
theorem Inv.fresh (I : Inv X pins σ H s) : H s.heap.objs.size = none := I.ah.fresh (Nat.le_refl _)
theorem Inv.F9 (I : Inv X pins σ H s) (hH : H l = some (.lst xs)) : xs.length <= sizeLine /\ ∃ (its : List Value) (n : Nat), Vals xs its /\ xs.length = its.length /\ s.heap.get? l = some { cls := .type "list", data := .seq its.toArray n } := by
 obtain ⟨z, its, n, r, e⟩ := I.ah l _ hH
 exact ⟨z, its, n, r, r.length, e⟩
end
section
variable {X : Cx}
def Ad : V -> List V -> Hp -> VK -> Prop := fun x vs H Q => ∃ l xs y, x = .ref l /\ vs = [y] /\ H l = some (.lst xs) /\ xs.length < sizeLine /\ Q .aV (upd H l (.lst (xs ++ [y])))
theorem jo : G9 X "list.append" Ad := by
 intro pins s σ H x vs v us Q I rx rv h
 obtain ⟨l, xs, y, rfl, rfl, hH, hz, q⟩ := h
 cases rx
 obtain ⟨u, rfl, ru⟩ := rv.one
 obtain ⟨z, its, n, r, hl, e⟩ := I.F9 hH
 refine call_meets F.slot_list_append ⟨_, e, rfl⟩ F.entry_list_append (F.args_list_append_2 _ _) (PySem.list_append l its.toArray n u (by rw [List.size_toArray]; omega)) ⟨e, ?_⟩
 refine ⟨.aV, _, I.F8 (its' := its ++ [u]) hH e (by simp) (r.append (.cons ru .nil)) ?_, rfl, q⟩
 rw [List.length_append, List.length_singleton]
 omega
end
section
variable {prog : Program} {w : World} {A : Around} {E : Value -> Shared -> Prop} {s : Shared}
end
section
variable {X : Cx}
end
end L2
namespace G4
open PySem PySem.W PySem.Calls PyProof.Rows
theorem kO {P : Params} {h : Heap} : ∀ (ns : List Int) (vs : List Value), WellAll P h vs (ns.map WData.int) -> IntsAre vs ns := by
 intro ns
 induction ns with
 | nil =>
  intro vs w
  rw [List.map_nil] at w
  cases w
  exact .nil
 | cons n ns ih =>
  intro vs w
  rw [List.map_cons] at w
  cases w with
  | cons a b =>
   cases a
   exact .cons _ _ (ih _ b)
theorem vE {l : OpenLaw} {n : Nat} (hn : l.most = some n) {P : Params} {h : Heap} {args : List WData} {vals : List Value}
  (hpre : l.row.toRowW.claim.pre args = true) (hwl : WellAll P h vals args) :
  ∃ a vs ns, vals = [Value.ref a] /\ args = [WData.list (ns.map WData.int)] /\ h.get? a = some { cls := .type "list", data := .seq vs.toArray } /\ IntsAre vs ns /\ ns.length <= n := by
 have hsh : WShape.hasAll [] args [.list .int] = true := (pre_splitW hpre).1
 have hc : l.pre.holds [] { args := args } = true := (pre_splitW hpre).2
 obtain ⟨d, r, rfl, h1, h2⟩ := hasAllW_cons hsh
 obtain rfl := hasAllW_nil h2
 obtain ⟨xs, rfl, h3⟩ := hasW_list h1
 obtain ⟨ns, rfl⟩ := items_int h3
 have hlen : ns.length <= n := by
  unfold OpenLaw.pre at hc
  have h4 : (WTm.not (.lt (.lit (.int (n : Int))) (.len (.arg 0)))).holds [] { args := [.list (ns.map .int)] } = true := by
   have h4 := (holds_andW hc).1
   rw [hn] at h4
   exact h4
  have h5 := condW_of h4 (w_not (w_lt w_lit (w_len_list (w_arg rfl))))
  rw [List.length_map] at h5
  refine Nat.le_of_not_lt fun q => ?_
  have q' : (n : Int) < ((ns.length : Nat) : Int) := by omega
  first
   | (rw [decide_eq_true q'] at h5; exact absurd h5 (by decide))
   | (simp at h5; omega)
 cases hwl with
 | cons w1 w2 =>
  cases w2
  cases w1 with
  | list ho hall => exact ⟨_, _, ns, rfl, rfl, ho, kO ns _ hall, hlen⟩
theorem u9 (l : OpenLaw) (args : List WData) : l.row.toRowW.claim.post args (.bool true) args = true :=
 postW_of (r := l.row.toRowW) (X := (true == true))
  (show WShape.has [] (.bool true) .bool = true by first | rfl | decide | simp [WShape.has, WShape.arms, WShape.armsAll])
  (show (WTm.eq .res (.lit (.bool true))).value [] { args := args, res := some (.bool true), after := args } = some (.bool (true == true)) from w_eq_bool (w_res rfl) w_lit) rfl
theorem pL {l : OpenLaw} {n : Nat} {q : Program} {loose : List Str} {XP : (Str -> Option Value) -> Heap -> Prop} {YP : World -> Heap -> Prop} {d : DefRec}
  (hn : l.most = some n) (hdf : d.params.defaults = [])
  (call : ∀ (w : World) (s₀ s₁ : Shared) (mg mb : Str -> Option Value) (fa : Addr) (o : Obj) (pm cd doc : Value) (a : Addr) (vs : List Value) (ns : List Int),
   Ground q loose [] XP w s₀ mg mb s₁.heap -> YP w s₁.heap ->
   s₁.heap.get? fa = some o -> o.data = .func (docDef d.name d.params d.body d.scope pm cd doc) -> s₁.heap.CodeRec cd d.name -> mg d.name = some (.ref fa) ->
   s₁.heap.get? a = some { cls := .type "list", data := .seq vs.toArray } -> IntsAre vs ns -> ns.length <= n -> s₁.gens = #[] ->
   codeAny (model l.prog w) callerA (.call (.ref fa) ⟨[.ref a], []⟩) (fun r s' => r = .ok (.ret (.bool true)) /\ OldK s₁.heap s'.heap /\ s'.os = s₁.os /\ AllBare s'.gens) s₁) :
  WalkO q loose XP YP l.row.toRowW d [] (fun f vs => PySem.call f vs) := by
 intro w s₀ s₁ mg mb G Y fa o pm cd doc dV kV ho hd hcd hD hmg hg args vals as hpre hlay hrd hwl hlo
 obtain rfl : dV = .none := Dflts.none hD hdf
 obtain rfl : kV = .none := Dflts.noKw hD
 obtain ⟨a, vs, ns, rfl, rfl, hobj, hints, hlen⟩ := vE hn hpre hwl
 refine enter_call (codeAny_mono (call w s₀ s₁ mg mb fa o pm cd doc a vs ns G Y ho (fd_plain hd) hcd hmg hobj hints hlen hg) fun r s' hq => ?_)
 obtain ⟨rfl, h2, h3, h4⟩ := hq
 exact ⟨.inl ⟨.bool true, .bool true, [], rfl, fun _ => rfl, .bool true, u9 l _, fun _ => ⟨List.Pairwise.nil, fun _ hm => (nomatch hm)⟩⟩, h2, h3, h4⟩
section
variable {prog : Program} {w : World} {A : Around} {E : Value -> Shared -> Prop} {s : Shared} {K : Frag}
end
end G4
namespace L2
open PySem PySem.Spec PyProof.Rows
theorem nM : ∀ {vs : List Value} {ns : List Int}, IntsAre vs ns -> Vals (ns.map V.int) vs
 | _, _, .nil => .nil
 | _, _, .cons n t h => .cons ⟨t, rfl⟩ (nM h)
def Be (H : Hp) : Prop := ∀ b, H b = none \/ ∃ o xs, H b = some (.fT o (.lst xs))
theorem wz {P : Program} {w : World} {K : PySem.W.Frag} {mg mb : Str -> Option Value} {CX : uF} {k : Nat} {fa a : Addr} {fd : FuncData} {x : Str} {sp : Sp} {s₁ : Shared} {vs : List Value} {ns : List Int}
  (KX : K.In s₁.heap) (hns : s₁.heap.Ns mainGlobals mg) (hb : s₁.heap.Ns builtinsNs mb) (hbb : ∀ x : Str, x ≠ "__name__" -> mb x = bootBuiltins x) (hlim : s₁.heap.NoLimit) (hg : s₁.gens = #[])
  (ha : s₁.heap.get? a = some { cls := .type "list", data := .seq vs.toArray }) (hi : IntsAre vs ns) (hl : ns.length <= sizeLine) (hr : ao k callerA)
  (F : ∀ base : Heap, K.In base -> base.Ns mainGlobals mg -> bR P w K mg base CX k fa fd [x] sp) (hbind : ∀ (s : Shared) (u : Value), BindsTo s fd ⟨[u], []⟩ [(x, u)])
  (hsp : ∀ H : Hp, Be H -> c_ K H a (ns.map V.int) -> sp [.ref a] H (fun v _ => v = .bl true) fun _ _ _ => False)
  (hCX : ∀ H e s', CX [] H s₁ (fun _ _ _ => False) e s' -> False) :
  codeAny (model P w) callerA (.call (.ref fa) ⟨[.ref a], []⟩) (fun r s' => r = .ok (.ret (.bool true)) /\ OldK s₁.heap s'.heap /\ s'.os = s₁.os /\ AllBare s'.gens) s₁ := by
 have rv := nM hi
 have lenV := hi.length
 -- from an abstract heap in which nothing but the script may be tracked
 have core : ∀ H : Hp, Be H -> c_ K H a (ns.map V.int) -> cQ P w H s₁.heap -> (∀ b, H b ≠ none -> b = a) -> (H a ≠ none -> K.lookup a = none) ->
   codeAny (model P w) callerA (.call (.ref fa) ⟨[.ref a], []⟩) (fun r s' => r = .ok (.ret (.bool true)) /\ OldK s₁.heap s'.heap /\ s'.os = s₁.os /\ AllBare s'.gens) s₁ := by
  intro H hO hS ah hA hK
  have base_of : ∀ {b : Addr} {o : Obj}, s₁.heap.get? b = some o -> H b = none -> (n_ s₁.heap H).get? b = some o := fun e n => wj e n
  have noA : ∀ {b : Addr} {o : Obj} {es : Array DictEntry} {ep : Nat}, s₁.heap.get? b = some o -> o.data = .dict es ep -> H b = none := fun {b o es ep} e d => by
   cases q : H b with
   | none => rfl
   | some u =>
    have e' : b = a := hA b (by rw [q]; simp)
    subst e'
    rw [ha] at e; cases e
    have d' : Data.seq vs.toArray _ = Data.dict es ep := d
    cases d'
  have nsK : ∀ {b : Addr} {m : Str -> Option Value}, s₁.heap.Ns b m -> (n_ s₁.heap H).Ns b m := fun {b m} ⟨o, es, ep, e, d, r⟩ => ⟨o, es, ep, base_of e (noA e d), d, r⟩
  have hKb : K.In (n_ s₁.heap H) := fun b o e => base_of (KX b o e) (by
   cases q : H b with
   | none => rfl
   | some u =>
    have e' : b = a := hA b (by rw [q]; simp)
    subst e'
    rw [hK (by rw [q]; simp)] at e; cases e)
  have hM : Mod K mg (n_ s₁.heap H) := ⟨hKb, nsK hns, ⟨mb, nsK hb, hbb⟩, let ⟨mc, h1, h2⟩ := hlim; ⟨mc, nsK h1, h2⟩⟩
  have e0 : lr P w K mg (n_ s₁.heap H) callerA [] s₁ H := ⟨rfl, hM, fun b o e => z9 e, Nat.le_of_eq (uZ _ _), trivial, fun b hb => absurd (show b ∈ ([] : List Addr) from hb) (by simp), ah, .of_eq hg⟩
  refine codeAny_mono ((F _ hKb (nsK hns)).run callerA [] s₁ H ⟨[.ref a], []⟩ [.ref a] [.ref a] _ _ hr e0 (hbind s₁ (.ref a)) (.cons rfl .nil) (hsp H hO hS)) fun r s' h => ?_
  cases r with
  | error e => exact (hCX H e s' h).elim
  | ok fl =>
   cases fl with
   | next => exact False.elim h
   | brk => exact False.elim h
   | cont => exact False.elim h
   | ret u =>
    obtain ⟨v, H', os, bare, un, hok', r', q⟩ := h
    have q' : v = .bl true := q
    subst q'
    obtain rfl : u = Value.bool true := r'
    refine ⟨rfl, OldK.of_keep fun b o e => ?_, os, bare⟩
    cases q : H b with
    | none => exact un.keep b o e q (by intro z; exact absurd (show b ∈ ([] : List Addr) from z) (by simp)) (by simp)
    | some u =>
     rcases hO b with z | ⟨ob, xs, z⟩
     ·rw [q] at z; cases z
     ·have z2 := un.cE b ob _ z
      obtain ⟨e1, _⟩ := ah b _ z
      obtain ⟨e2, _⟩ := hok' b _ z2
      rw [e] at e1; cases e1
      exact e2
 cases hk : K.lookup a with
 | some o =>
  -- the script is one of the module's own objects
  have e := KX a o hk
  rw [ha] at e
  cases e
  refine core (fun _ => none) (fun _ => .inl rfl) (.inr ⟨_, vs.toArray, _, hk, rfl, rfl, rfl, by rw [List.size_toArray, lenV]; exact hl, by simpa using rv⟩) (fun b u z => by have z' : (none : Option HO) = some u := z; cases z') (fun b z => absurd rfl z) fun z => absurd rfl z
 | none =>
  refine core (fun b => if b = a then some (.fT { cls := .type "list", data := .seq vs.toArray } (.lst (ns.map V.int))) else none) (fun b => ?_) (.inl (.inr ⟨{ cls := .type "list", data := .seq vs.toArray }, if_pos rfl⟩)) (fun b u z => ?_) (fun b z => ?_) fun _ => hk
  ·by_cases hb : b = a
   ·exact .inr ⟨_, _, if_pos hb⟩
   ·exact .inl (if_neg hb)
  ·by_cases hb : b = a
   ·have z' := (if_pos hb).symm.trans z
    cases z'
    subst hb
    exact ⟨ha, by rw [List.length_map]; exact hl, vs, _, rv, ha⟩
   ·have z' := (if_neg hb).symm.trans z
    cases z'
  ·by_cases hb : b = a
   ·exact hb
   ·exact absurd (if_neg hb) z
theorem A2 {l : PySem.W.OpenLaw} {n k : Nat} {q : Program} {loose : List Str} {XP : (Str -> Option Value) -> Heap -> Prop} {YP : World -> Heap -> Prop} {d : DefRec} {K : Params -> PySem.W.Frag} {CX : World -> uF} {sp : World -> Sp} {x : Str}
  (hn : l.most = some n) (hn2 : n <= sizeLine) (hdf : d.params.defaults = []) (hr : ao k callerA)
  (hY : ∀ (w : World) (h : Heap), YP w h -> (K w.params).In h)
  (F : ∀ (w : World) (mg : Str -> Option Value) (fa : Addr) (h : Heap), (K w.params).In h -> h.Ns mainGlobals mg -> mg d.name = some (.ref fa) ->
   ∃ fd : FuncData, (∀ (s : Shared) (u : Value), BindsTo s fd ⟨[u], []⟩ [(x, u)]) /\
    ∀ base : Heap, (K w.params).In base -> base.Ns mainGlobals mg -> bR l.prog w (K w.params) mg base (CX w) k fa fd [x] (sp w))
  (hsp : ∀ (w : World) (H : Hp) (a : Addr) (ns : List Int), ns.length <= n -> Be H -> c_ (K w.params) H a (ns.map V.int) -> sp w [.ref a] H (fun v _ => v = .bl true) fun _ _ _ => False)
  (hCX : ∀ (w : World) (H : Hp) (s : Shared) (e : Value) (s' : Shared), CX w [] H s (fun _ _ _ => False) e s' -> False) :
  PySem.W.WalkO q loose XP YP l.row.toRowW d [] (fun f vs => PySem.call f vs) := by
 refine G4.pL hn hdf fun w s₀ s₁ mg mb fa o pm cd doc a vs ns G Y ho hd hcd hmg hobj hints hlen hg => ?_
 have KX := hY w _ Y
 obtain ⟨fd, hb, hF⟩ := F w mg fa _ KX G.T.g hmg
 exact wz KX G.T.g G.T.b G.T.builtins G.T.nolimit hg hobj hints (Nat.le_trans hlen hn2) hr hF hb (fun H hO hS => hsp w H a ns hlen hO hS) fun H e s' => hCX w H s₁ e s'
def bZ (s : Stmt) : Arguments := match s with
 | .FunctionDef _ a _ _ _ _ _ _ _ _ => a
 | _ => { posonlyargs := [], args := [], vararg := none, kwonlyargs := [], kw_defaults := [], kwarg := none, defaults := [] }
def aY (s : Stmt) : List Stmt := match s with
 | .FunctionDef _ _ b _ _ _ _ _ _ _ => b
 | _ => []
def aC (s : Stmt) : Scope := match s with
 | .FunctionDef _ _ _ _ _ _ sc _ _ _ => sc
 | _ => { kind := .function, names := [], isGenerator := false, isCoroutine := false }
abbrev km : uF := fun _ _ _ _ _ _ => False
abbrev E0 : XK := fun _ _ _ => False
theorem tw {X : Cx} : Passes km X E0 := fun _ _ _ _ _ _ _ h => h.elim
structure qq (K : PySem.W.Frag) (x qual : Str) (st : Stmt) (f : Addr) (fd : FuncData) : Prop where
 ex : ∃ (oc : Value) (od : Option Addr) (kV doc pm : Value) (an : Option Addr) (cdv ct : Value) (osl : Array (Option Value)),
  fd = PySem.W.fnOf x qual (bZ st) (aY st) (aC st) .none kV doc pm an cdv ct /\ K.lookup f = some ⟨oc, od, .func fd, osl⟩ /\ PySem.W.codeIn K cdv qual = true
 kp : PySem.W.keepIn K (.ref f) = true
section
variable {P : Program} {w : World} {K : PySem.W.Frag} {mg : Str -> Option Value} {base : Heap}
theorem qq.ok {x qual : Str} {st : Stmt} {f : Addr} {fd : FuncData} {N ps : List Str} {k : Nat} {sp : Sp} (F : qq K x qual st f fd) (S : aG N ps (aC st)) (len : ∀ vs H Q E, sp vs H Q E -> vs.length = ps.length)
  (hbody : ∀ (cdv : Value) (A : Around) (outer : List Env) (s : Shared) (H : Hp) (vs : List V) (Q : VK) (E : XK), ao k (A.deeper (envOfC qual (aC st) s.heap.objs.size f cdv)) -> sp vs H Q E ->
   ∃ t, gi (kN km P w K mg base N qual (aC st) f cdv A outer s H E).Cf (aY st) t /\ t { nx := fun _ H' => Q .aV H', rt := Q } (start N vs) H) : bR P w K mg base km (k + 1) f fd ps sp := by
 obtain ⟨oc, od, kV, doc, pm, an, cdv, ct, osl, rfl, lk, hcd⟩ := F.ex
 refine pd lk hcd S len fun A outer s H vs Q E hr hsp => ?_
 obtain ⟨t, h, q⟩ := hbody cdv A outer s H vs Q E hr hsp
 exact ⟨t, h.Cf, q⟩
theorem qq.binds {x qual : Str} {st : Stmt} {f : Addr} {fd : FuncData} {ps : List Str} (F : qq K x qual st f fd)
  (h : ∀ (kV doc pm : Value) (an : Option Addr) (cdv ct : Value) (us : List Value), us.length = ps.length -> bindArgs (PySem.W.fnOf x qual (bZ st) (aY st) (aC st) .none kV doc pm an cdv ct) ⟨us, []⟩ = pure (ps.zip us)) : Binds K fd ps [] := by
 obtain ⟨oc, od, kV, doc, pm, an, cdv, ct, osl, rfl, lk, hcd⟩ := F.ex
 exact .all (h kV doc pm an cdv ct)
theorem iM {x qual : Str} {st : Stmt} {f : Addr} {oc : Value} {od an : Option Addr} {osl : Array (Option Value)} {kV doc pm cdv ct : Value} (l : K.lookup f = some ⟨oc, od, .func (PySem.W.fnOf x qual (bZ st) (aY st) (aC st) .none kV doc pm an cdv ct), osl⟩)
  (c : PySem.W.codeIn K cdv qual = true) (k : PySem.W.keepIn K (.ref f) = true) : qq K x qual st f (PySem.W.fnOf x qual (bZ st) (aY st) (aC st) .none kV doc pm an cdv ct) := ⟨⟨oc, od, kV, doc, pm, an, cdv, ct, osl, rfl, l, c⟩, k⟩
end
theorem vI {n : Nat} (h : n <= 1000) : n < sizeLine := Nat.lt_of_le_of_lt h (by decide)
section
variable {X : Cx}
theorem pv (i : Nat) {x : Str} {pos : Pos} (hN : X.N[i]? = some x := by rfl) (hv : ye X.env.scope x := by first | exact Or.inl rfl | exact Or.inr (Or.inl rfl) | exact Or.inr (Or.inr rfl)) (hd : (x == ("__debug__" : Str)) = false := by decide)
  (hcd : (x == ("__classdict__" : Str)) = false := by decide) : PE X (.Name x pos) (DN i) := js hN hv hd hcd
end
theorem aT {A B : Prop} (h : B) : if false = true then A else B := by
 rw [if_neg Bool.false_ne_true]
 exact h
theorem aZ {A B : Prop} (h : A) : if true = true then A else B := by
 rw [if_pos rfl]
 exact h
def aK (H H' : Hp) : Prop := ∀ b o, H b = some o -> H' b = some o
theorem aK.refl (H : Hp) : aK H H := fun _ _ h => h
theorem aK.trans {H H1 H2 : Hp} (a : aK H H1) (b : aK H1 H2) : aK H H2 := fun c o h => b c o (a c o h)
theorem aK.free {H H' : Hp} (e : aK H H') {l : Addr} (h : H' l = Option.none) : H l = Option.none := by
 cases q : H l with
 | none => rfl
 | some o =>
  rw [e l o q] at h
  cases h
theorem aK.seq {K : PySem.W.Frag} {H H' : Hp} {a : Addr} {xs : List V} (e : aK H H') (h : c_ K H a xs) : c_ K H' a xs := by
 rcases h with (h | ⟨o, h⟩) | h
 ·exact .inl (.inl (e _ _ h))
 ·exact .inl (.inr ⟨o, e _ _ h⟩)
 ·exact .inr h
section
variable {κ : Type} [DecidableEq κ]
def kQ (kvs : List (κ × V)) (k : κ) : Option V := (kvs.find? fun kv => decide (kv.1 = k)).map (·.2)
def putK (kvs : List (κ × V)) (k : κ) (v : V) : List (κ × V) :=
 if (kvs.any fun kv => decide (kv.1 = k)) = true then kvs.map (fun kv => if kv.1 = k then (kv.1, v) else kv) else kvs ++ [(k, v)]
theorem lh {p : κ × V} {r : List (κ × V)} {k : κ} (e : p.1 = k) : kQ (p :: r) k = some p.2 := by simp [kQ, List.find?_cons, e]
theorem lg {p : κ × V} {r : List (κ × V)} {k : κ} (e : ¬ p.1 = k) : kQ (p :: r) k = kQ r k := by simp [kQ, List.find?_cons, e]
theorem qk (k : κ) : ∀ kvs : List (κ × V), (kvs.any fun kv => decide (kv.1 = k)) = (kQ kvs k).isSome
 | [] => rfl
 | p :: r => by
  rw [List.any_cons]
  by_cases e : p.1 = k
  ·simp only [lh e, decide_eq_true e, Bool.true_or, Option.isSome_some]
  ·rw [lg e, decide_eq_false e, Bool.false_or]; exact qk k r
theorem j7 (kvs : List (κ × V)) (k : κ) (v : V) : (putK kvs k v).length <= kvs.length + 1 := by
 unfold putK
 split
 ·rw [List.length_map]; omega
 ·rw [List.length_append, List.length_cons, List.length_nil]; omega
theorem cz.uk {o : Option V} {u : Option Value} (r : cz o u) : o.isSome = u.isSome := by
 cases o with
 | none => cases u with
  | none => rfl
  | some _ => exact (show False from r).elim
 | some _ => cases u with
  | none => exact (show False from r).elim
  | some _ => rfl
theorem KV.val {kvs : List (κ × V)} {vs : List (κ × Value)} (r : KV kvs vs) (k : κ) : cz (kQ kvs k) (valueAt vs k) := by
 unfold KV at r
 induction r with
 | nil => exact True.intro
 | @cons p q ps qs h t ih =>
  obtain ⟨h1, h2⟩ := h
  by_cases e : p.1 = k
  ·have e' : q.1 = k := h1.symm.trans e
   have b : valueAt (q :: qs) k = some q.2 := by simp [valueAt, List.find?_cons, e']
   rw [lh e, b]; exact h2
  ·have e' : ¬ q.1 = k := fun z => e (h1.trans z)
   have b : valueAt (q :: qs) k = valueAt qs k := by simp [valueAt, List.find?_cons, e']
   rw [lg e, b]; exact ih
theorem KV.any {kvs : List (κ × V)} {vs : List (κ × Value)} (r : KV kvs vs) (k : κ) : (kvs.any fun kv => decide (kv.1 = k)) = vs.any fun kv => decide (kv.1 = k) := by
 unfold KV at r
 induction r with
 | nil => rfl
 | cons h t ih => rw [List.any_cons, List.any_cons, ih, h.1]
theorem KV.DA {kvs : List (κ × V)} {vs : List (κ × Value)} (r : KV kvs vs) (k : κ) {y : V} {u : Value} (ry : RelV y u) :
  KV (kvs.map fun kv => if kv.1 = k then (kv.1, y) else kv) (vs.map fun kv => if kv.1 = k then (kv.1, u) else kv) := by
 unfold KV at r ⊢
 induction r with
 | nil => exact .nil
 | @cons p q ps qs h t ih =>
  rw [List.map_cons, List.map_cons]
  refine .cons ?_ ih
  obtain ⟨h1, h2⟩ := h
  by_cases e : p.1 = k
  ·rw [if_pos e, if_pos (h1.symm.trans e)]; exact ⟨h1, ry⟩
  ·rw [if_neg e, if_neg (fun z => e (h1.trans z))]; exact ⟨h1, h2⟩
theorem KV.put {kvs : List (κ × V)} {vs : List (κ × Value)} (r : KV kvs vs) (k : κ) {y : V} {u : Value} (ry : RelV y u) : KV (putK kvs k y) (stored vs k u) := by
 unfold putK stored
 rw [r.any k]
 by_cases e : (vs.any fun kv => decide (kv.1 = k)) = true
 ·rw [if_pos e, if_pos e]; exact r.DA k ry
 ·rw [if_neg e, if_neg e]; exact Paired.snoc r ⟨rfl, ry⟩
theorem KV.length {kvs : List (κ × V)} {vs : List (κ × Value)} (r : KV kvs vs) : kvs.length = vs.length := Paired.length r
end
theorem wx {P : Program} {w : World} {k : Key} {u : Value} (r : RelV (kV k) u) : (bb P w).is k u = true := by
 cases k with
 | inl i => obtain ⟨t, e⟩ := (show ∃ t, u = Value.int i t from r); subst e; exact qK P w i t
 | inr x => obtain ⟨t, e⟩ := (show ∃ t, u = Value.str x t from r); subst e; exact qL P w x t
theorem my {P : Program} {w : World} : ∀ {ks : List Key} {us : List Value}, Vals (ks.map kV) us -> ItemsAre (bb P w) ks us
 | [], _, r => by rw [List.map_nil] at r; cases r; exact .nil
 | k :: ks, _, r => by
  rw [List.map_cons] at r
  cases r with
  | cons h t => exact .cons (wx h) (my t)
abbrev KT (H : Hp) : List (List Key × V) -> List (List Key × Addr × Value) -> Prop := Paired fun p q => p.1 = q.1 /\ H q.2.1 = some (.tup (p.1.map kV)) /\ RelV p.2 q.2.2
theorem KT.val {H : Hp} {kvs : List (List Key × V)} {xs : List (List Key × Addr × Value)} (r : KT H kvs xs) (k : List Key) : cz (kQ kvs k) ((atKey xs k).map (·.2)) := by
 induction r with
 | nil => exact True.intro
 | @cons p q ps qs h t ih =>
  obtain ⟨h1, _, h2⟩ := h
  by_cases e : p.1 = k
  ·have e' : q.1 = k := h1.symm.trans e
   have b : atKey (q :: qs) k = some q.2 := by simp [atKey, List.find?_cons, e']
   rw [lh e, b]; exact h2
  ·have e' : ¬ q.1 = k := fun z => e (h1.trans z)
   have b : atKey (q :: qs) k = atKey qs k := by simp [atKey, List.find?_cons, e']
   rw [lg e, b]; exact ih
theorem KT.DA {H : Hp} {kvs : List (List Key × V)} {xs : List (List Key × Addr × Value)} (r : KT H kvs xs) (k : List Key) {y : V} {u : Value} (ry : RelV y u) :
  KT H (kvs.map fun kv => if kv.1 = k then (kv.1, y) else kv) (xs.map (putAt k u)) := by
 induction r with
 | nil => exact .nil
 | @cons p q ps qs h t ih =>
  rw [List.map_cons, List.map_cons]
  refine .cons ?_ ih
  obtain ⟨h1, h2, h3⟩ := h
  unfold putAt
  by_cases e : p.1 = k
  ·rw [if_pos e, if_pos (h1.symm.trans e)]; exact ⟨h1, h2, ry⟩
  ·rw [if_neg e, if_neg (fun z => e (h1.trans z))]; exact ⟨h1, h2, h3⟩
theorem KT.put {H : Hp} {kvs : List (List Key × V)} {xs : List (List Key × Addr × Value)} (r : KT H kvs xs) (k : List Key) {b : Addr} {y : V} {u : Value} (hb : H b = some (.tup (k.map kV))) (ry : RelV y u) :
  KT H (putK kvs k y) (storedH xs k b u) := by
 have e : (kvs.any fun kv => decide (kv.1 = k)) = (atKey xs k).isSome := by
  rw [qk, (r.val k).uk, Option.isSome_map]
 unfold putK storedH
 rw [e]
 by_cases q : (atKey xs k).isSome = true
 ·rw [if_pos q, if_pos q]; exact r.DA k ry
 ·rw [if_neg q, if_neg q]; exact Paired.snoc r ⟨rfl, hb, ry⟩
theorem KT.keeps {H H' : Hp} {kvs : List (List Key × V)} {xs : List (List Key × Addr × Value)} (r : KT H kvs xs) (ht : ∀ b ys, H b = some (.tup ys) -> H' b = some (.tup ys)) : KT H' kvs xs :=
 Paired.xH r fun _ _ z => ⟨z.1, ht _ _ z.2.1, z.2.2⟩
section
variable {P : Program} {w : World} {H : Hp} {h : Heap} {a : Addr}
theorem BP {u : HO} (ok : cQ P w H h) (e : Rd H a u) : aL P w H h a u := e.ok ok
theorem mj {kvs : List (Key × V)} (ok : cQ P w H h) (e : Rd H a (.dK kvs)) : kvs.length <= sizeLine /\ (a == sysModules) = false /\ ∃ vs, KV kvs vs /\ h.DictOf (bb P w) a vs :=
 show aL P w H h a (.dK kvs) from BP ok e
theorem D9 {kvs : List (Key × V)} (ok : cQ P w H h) (e : H a = some (.dK kvs)) : kvs.length <= sizeLine /\ (a == sysModules) = false /\ ∃ vs, KV kvs vs /\ h.DictOf (bb P w) a vs := mj ok (.inl e)
theorem rR {ks : List Key} (ok : cQ P w H h) (e : H a = some (.tup (ks.map kV))) : (tupleKind (bb P w)).is h ks a := by
 obtain ⟨_, its, r, o, h1, h2, n, h3⟩ := (show aL P w H h a (.tup (ks.map kV)) from ok a _ e)
 exact ⟨o, its.toArray, n, h1, h2, h3, by simpa using my r⟩
theorem wO {kvs : List (List Key × V)} (ok : cQ P w H h) (e : Rd H a (.dT kvs)) : kvs.length <= sizeLine /\ (a == sysModules) = false /\
  ∃ xs, KT H kvs xs /\ h.DictOfH (tupleKind (bb P w)) a xs := by
 obtain ⟨z, y, xs, r, o, es, ep, h1, h2, h3, h4, h5⟩ := (show aL P w H h a (.dT kvs) from BP ok e)
 refine ⟨z, y, xs, r, o, es, ep, h1, h2, h3, h4, fun x hx => ?_, h5⟩
 have all : ∀ {l : List (List Key × V)} {m : List (List Key × Addr × Value)}, KT H l m -> ∀ x ∈ m, (tupleKind (bb P w)).is h x.1 x.2.1 := by
  intro l m q
  induction q with
  | nil => intro x hx; exact nomatch hx
  | @cons p q ps qs hq t ih =>
   intro x hx
   rcases List.mem_cons.mp hx with e | hx
   ·subst e
    exact rR ok (by rw [<- hq.1]; exact hq.2.1)
   ·exact ih x hx
 exact all r x hx
theorem D_ {kvs : List (List Key × V)} (ok : cQ P w H h) (e : H a = some (.dT kvs)) : kvs.length <= sizeLine /\ (a == sysModules) = false /\
  ∃ xs, KT H kvs xs /\ h.DictOfH (tupleKind (bb P w)) a xs := wO ok (.inl e)
end
def Bb (H : Hp) (a : Addr) (y : V) (r : Option V) : Prop :=
 (∃ kvs k, Rd H a (.dK kvs) /\ y = kV k /\ r = kQ kvs k) \/ ∃ kvs k b, Rd H a (.dT kvs) /\ y = .ref b /\ H b = some (.tup (k.map kV)) /\ r = kQ kvs k
def vY (H : Hp) (a : Addr) (y v : V) (H' : Hp) : Prop :=
 (∃ kvs k, H a = some (.dK kvs) /\ y = kV k /\ kvs.length < sizeLine /\ H' = upd H a (.dK (putK kvs k v))) \/
 ∃ kvs k b, H a = some (.dT kvs) /\ y = .ref b /\ H b = some (.tup (k.map kV)) /\ kvs.length < sizeLine /\ H' = upd H a (.dT (putK kvs k v))
theorem vY.k {H : Hp} {a : Addr} {kvs : List (Key × V)} {k : Key} {v : V} (e : H a = some (.dK kvs)) (hl : kvs.length < sizeLine) : vY H a (kV k) v (upd H a (.dK (putK kvs k v))) := .inl ⟨kvs, k, e, rfl, hl, rfl⟩
section
variable {X : Cx} {pins : List (Addr × Obj)} {σ : St} {H : Hp} {s : Shared} {a : Addr} {y v : V} {u r : Value} {o : Option V} {A : Around} {E : Value -> Shared -> Prop}
theorem Inv.big (I : Inv X pins σ H s) : sysModules < s.heap.objs.size := by
 have h : mainGlobals < s.heap.objs.size := (I.mod.glob.keeps I.bk).lt
 exact Nat.lt_trans (by decide) h
theorem uO {Q : Value -> Shared -> Prop} (hu : A.units + 1 < cLine) (I : Inv X pins σ H s) (g : Bb H a y (some v)) (ry : RelV y u) (h : ∀ w' s', Inv X pins σ H s' -> RelV v w' -> Q w' s') :
  wpAny (model X.prog X.w) A (getItem (.ref a) u) Q E s := by
 rcases g with ⟨kvs, k, e, ey, l⟩ | ⟨kvs, k, b, e, ey, eb, l⟩
 ·subst ey
  obtain ⟨z, hd, vs, rel, dd⟩ := mj I.ah e
  obtain ⟨w', hw, rw'⟩ := cz.some_of (v := v) (o := valueAt vs k) (by rw [l]; exact rel.val k)
  exact wpAny_getItem_of (wx ry) dd.mapOf hw (h w' _ (I.tok _) rw')
 ·subst ey
  cases (show u = Value.ref b from ry)
  obtain ⟨z, hd, xs, rel, dd⟩ := wO I.ah e
  obtain ⟨w', hw, rw'⟩ := cz.some_of (v := v) (o := (atKey xs k).map (·.2)) (by rw [l]; exact rel.val k)
  obtain ⟨p, hp, hp2⟩ := Option.map_eq_some_iff.mp hw
  refine wpAny_getItem_heap (tupleKind_room_in1 hu) (rR I.ah eb) dd hp ?_
  rw [hp2]
  exact h w' _ (I.tok _) rw'
theorem tE {h' : Heap} {t' : Nat} {ob : HO} (I : Inv X pins σ H s) (mu : Ds (H a)) (hs : Heap.SameBut a s.heap h') (he : ∃ q, h'.get? a = some q) (new : aL X.prog X.w (upd H a ob) h' a ob) :
  Inv X pins σ (upd H a ob) { s with heap := h', toks := t' } :=
 I.write (x := a) (e := a) mu (.inl rfl) (fun b q hb z => (hs.2 b hb).trans z) he new
theorem wF {P : Program} {w : World} {H' : Hp} {h' : Heap} {kvs : List (Key × V)} {vs : List (Key × Value)} (z : kvs.length <= sizeLine) (hd : (a == sysModules) = false) (rel : KV kvs vs) (dd : h'.DictOf (bb P w) a vs) :
  aL P w H' h' a (.dK kvs) := ⟨z, hd, vs, rel, dd⟩
theorem uQ {H' : Hp} {Q : Unit -> Shared -> Prop} (hu : A.units + 1 < cLine) (I : Inv X pins σ H s) (g : vY H a y v H') (ry : RelV y u) (rv : RelV v r) (h : ∀ s', Inv X pins σ H' s' -> Q () s') :
  wpAny (model X.prog X.w) A (setItem (.ref a) u r) Q E s := by
 rcases g with ⟨kvs, k, e, ey, l, eH⟩ | ⟨kvs, k, b, e, ey, eb, l, eH⟩
 ·subst ey eH
  obtain ⟨z, hd, vs, rel, dd⟩ := D9 I.ah e
  have hz : vs.length <= sizeLine := by rw [<- rel.length]; exact z
  have hl : (putK kvs k v).length <= sizeLine := by have := j7 kvs k v; omega
  refine wpAny_setItem_pairs (hsz := hz) (wx ry) dd fun h' dd' hs => h _ ?_
  have he : ∃ q, h'.get? a = some q := let ⟨q, _, _, hq, _⟩ := dd'; ⟨q, hq⟩
  exact tE I (by rw [e]; exact True.intro) hs he (wF hl hd (rel.put k rv) dd')
 ·subst ey eH
  cases (show u = Value.ref b from ry)
  obtain ⟨z, hd, xs, rel, dd⟩ := D_ I.ah e
  have hz : xs.length <= sizeLine := by rw [<- Paired.length rel]; exact z
  have hl : (putK kvs k v).length <= sizeLine := by have := j7 kvs k v; omega
  refine wpAny_setItem_heap (hsz := hz) (tupleKind_room_in1 hu) (rR I.ah eb) dd fun h' dd' hs => h _ ?_
  obtain ⟨q, es, ep, hq, h2, h3, h4, _, h5⟩ := dd'
  refine tE I (by rw [e]; exact True.intro) hs ⟨q, hq⟩ ⟨hl, hd, _, (rel.put k eb rv).keeps fun c ys ec => ?_, q, es, ep, hq, h2, h3, h4, h5⟩
  rw [aE (Ek ec e (fun z => nomatch z))]
  exact ec
end
section
variable {X : Cx} {pins : List (Addr × Obj)} {σ : St} {H : Hp} {s : Shared} {a : Addr} {kvs : List (Key × V)} {k : Key} {u : Value} {A : Around} {E : Value -> Shared -> Prop}
end
def Bd (i : Expr) : Prop := ∀ ov iv, subscripted i false ov iv = operate [ov, iv] (getItem ov iv)
theorem Au {prog : Program} {w : World} {A : Around} {E : Value -> Shared -> Prop} {s : Shared} {env : Env} {value slice : Expr} {pos : Pos} {T id : String} {Q : Value -> Shared -> Prop}
  (hl : typeLookup (.type T) "__getitem__" = pure (some (.builtin id))) (hs : Bd slice)
  (h : wpAny (model prog w) A (eval value env) (fun o s₁ => wpAny (model prog w) A (eval slice env) (fun i s₂ => s₂.TypeIs o T /\ wpAny (model prog w) A (getItem o i) Q E s₂) E s₁) E s) :
  wpAny (model prog w) A (eval (.Subscript value slice pos) env) Q E s := by
 refine Subscript_ (wpAny_mono h (fun o s₁ h₁ => wpAny_mono h₁ (fun i s₂ h₂ => ?_) fun _ _ x => x) fun _ _ x => x)
 obtain ⟨hT, h₂⟩ := h₂
 unfold subscriptTail
 refine wpAny_bind ?_
 rw [getitemInPython_of_ne hT.not_modules]
 refine wpAny_bind (wpAny_specialOf hT hl ?_)
 have fin : wpAny (model prog w) A (subscripted slice false o i) (fun r s₃ => wpAny (model prog w) A (letTemporaryGo value o r >>= fun _ => pure r) Q E s₃) E s₂ := by
  rw [hs o i]
  exact wpAny_operating (wpAny_mono h₂ (fun r s₃ h₃ => wpAny_bind (wpAny_letTemporaryGo (wpAny_pure h₃))) fun _ _ x => x)
 first
  | exact wpAny_pure (wpAny_bind fin)
  | exact wpAny_bind (wpAny_pure (wpAny_bind fin))
  | exact wpAny_bind fin
theorem pU {X : Cx} {pins : List (Addr × Obj)} {σ : St} {H : Hp} {s : Shared} {a : Addr} {y : V} {o : Option V} (I : Inv X pins σ H s) (g : Bb H a y o) : s.TypeIs (.ref a) "dict" := by
 rcases g with ⟨kvs, k, e, _, _⟩ | ⟨kvs, k, b, e, _, _, _⟩
 ·obtain ⟨_, _, vs, _, dd⟩ := mj I.ah e
  exact dd.typeIs
 ·obtain ⟨_, _, xs, _, dd⟩ := wO I.ah e
  exact dd.typeIs
def FF (td ty : TE) : TE := fun σ H Q => td σ H fun x H1 => ty σ H1 fun y H2 => ∃ a v, x = .ref a /\ Bb H2 a y (some v) /\ Q v H2
def E8 (td ty tv : TE) : TS := fun D σ H => tv σ H fun v H1 => td σ H1 fun x H2 => ty σ H2 fun y H3 => ∃ a H4, x = .ref a /\ vY H3 a y v H4 /\ D.nx σ H4
section
variable {X : Cx} {o i e value : Expr} {pos pos' tpos : Pos} {td ty tv : TE}
theorem AK (hu : X.A.units + 1 < cLine) (ho : PE X o td) (hi : PE X i ty) (hs : Bd i) : PE X (.Subscript o i pos) (FF td ty) := by
 intro pins s σ H Q I h
 refine Au PySem.F.slot_dict_getitem.lookup hs (au (ho pins s σ H _ I h) fun u s1 ⟨x, H1, I1, rx, q1⟩ => au (hi pins s1 σ H1 _ I1 q1) fun iv s2 ⟨y, H2, I2, ry, a, v, ex, g, q2⟩ => ?_)
 subst ex
 obtain rfl : u = Value.ref a := rx
 exact ⟨pU I2 g, uO hu I2 g ry fun w' s3 I3 rw' => ⟨v, H2, I3, rw', q2⟩⟩
theorem AV (hu : X.A.units + 1 < cLine) (ho : PE X o td) (hi : PE X i ty) (hv : PE X value tv) (hs : swapsWith value (some (.Subscript o i pos')) pos.line X.env = pure false) :
  PS X (.Assign [.Subscript o i pos'] value pos) (E8 td ty tv) := by
 intro pins s σ H D I h
 refine wpAny_Assign_Subscript (au (hv pins s σ H _ I h) fun r s1 ⟨v, H1, I1, rv, q1⟩ => au (ho pins s1 σ H1 _ I1 q1) fun u s2 ⟨x, H2, I2, rx, q2⟩ => au (hi pins s2 σ H2 _ I2 q2) fun iv s3 ⟨y, H3, I3, ry, a, H4, ex, g, q3⟩ => ?_) hs
 subst ex
 obtain rfl : u = Value.ref a := rx
 exact uQ hu I3 g ry rv fun s4 I4 => ⟨σ, H4, I4, q3⟩
end
theorem wD {P : Program} {w : World} {H : Hp} (h : Heap) (hb : sysModules < h.objs.size) : aL P w H (h.push { cls := .type "dict", data := .dict #[] }) h.objs.size (.dK []) :=
 ⟨Nat.zero_le _, beq_eq_false_iff_ne.mpr (Ne.symm (Nat.ne_of_lt hb)), [], .nil, Heap.DictOf.new h⟩
def DK : TE := fun _ H Q => ∀ p, H p = none -> Q (.ref p) (upd H p (.dK []))
section
variable {X : Cx} {pos : Pos}
theorem xa : PE X (.Dict [] [] pos) DK := fun pins s σ H Q I h =>
 wpAny_Dict_empty ⟨.ref s.heap.objs.size, _, I.laid (a := s.heap.objs.size) (o := .dK []) (t' := s.toks) (fun _ _ q => Heap.get?_push_of_some _ q) (Nat.le_refl _) (wD s.heap I.big), rfl, h _ (I.ah.fresh (Nat.le_refl _))⟩
end
section
variable {X : Cx} {pins : List (Addr × Obj)} {σ : St} {H : Hp} {s : Shared} {a : Addr} {y d : V} {u r : Value} {o : Option V} {A : Around} {E : Value -> Shared -> Prop}
end
section
variable {X : Cx} {o e f : Expr} {apos cpos : Pos} {td ty tx : TE}
end
section
variable {X : Cx} {pins : List (Addr × Obj)} {σ : St} {H : Hp} {s : Shared} {a : Addr} {kvs : List (Key × V)} {A : Around} {E : Value -> Shared -> Prop}
end
section
variable {X : Cx} {pins : List (Addr × Obj)} {σ : St} {H : Hp} {s : Shared} {a : Addr} {y : V} {u : Value} {A : Around} {E : Value -> Shared -> Prop}
end
section
variable {X : Cx}
end
section
variable {κ : Type} [DecidableEq κ]
end
def ag (X : Cx) (scope : Scope) (cl : List (Str × Addr)) (C : Addr) (N : List Str) (fp : List Addr) (s₂ : Shared) (H₂ : Hp) : Cx where
 prog := X.prog
 w := X.w
 K := X.K
 mg := X.mg
 base := X.base
 A := X.A
 N := N
 s₀ := s₂
 H₀ := H₂
 env := compEnvC scope cl C X.env
 outer := X.stack
 stack := X.stack
 ex := fp
 fn := fun _ => false
 calm := X.calm
 pn := []
 xe := fun _ _ => False
theorem oq {scope : Scope} {env : Env} {y : Str} (nc : ∀ z ∈ scope.names, z.2 ≠ .cell) (h : (relabel scope env).names.lookup y = some .cell \/ (relabel scope env).names.lookup y = some .free) : scope.names.lookup y = some .free := by
 have key : ∀ (l : List (Str × NameKind)), (∀ z ∈ l, z.2 ≠ .cell) -> ((l.map fun (n, k) => if (k == NameKind.free && env.scope.kind == .function && env.kindOf n == some .cell) then (n, NameKind.cell) else (n, k)).lookup y = some .cell \/
   (l.map fun (n, k) => if (k == NameKind.free && env.scope.kind == .function && env.kindOf n == some .cell) then (n, NameKind.cell) else (n, k)).lookup y = some .free) -> l.lookup y = some .free := by
  intro l
  induction l with
  | nil => intro _ h; rcases h with h | h <;> simp at h
  | cons p r ih =>
   obtain ⟨n, k⟩ := p
   intro hn h
   have hr := ih (fun z hz => hn z (List.mem_cons_of_mem _ hz))
   have hk : k ≠ .cell := hn (n, k) List.mem_cons_self
   by_cases hc : (k == NameKind.free && env.scope.kind == .function && env.kindOf n == some .cell) = true
   ·have kf : k = .free := by
     rw [Bool.and_eq_true, Bool.and_eq_true] at hc
     exact eq_of_beq hc.1.1
    subst kf
    simp only [List.map_cons, if_pos hc] at h
    cases hx : y == n with
    | true => simp only [List.lookup_cons, hx]
    | false =>
     simp only [List.lookup_cons, hx] at h ⊢
     exact hr h
   ·simp only [List.map_cons, if_neg hc] at h
    cases hx : y == n with
    | true =>
     simp only [List.lookup_cons, hx] at h ⊢
     rcases h with h | h
     ·cases h; exact absurd rfl hk
     ·exact h
    | false =>
     simp only [List.lookup_cons, hx] at h ⊢
     exact hr h
 exact key scope.names nc h
theorem nz {scope : Scope} {env : Env} {y : Str} (h : scope.names.lookup y = some .free) : (relabel scope env).names.lookup y = some .cell \/ (relabel scope env).names.lookup y = some .free := by
 have key : ∀ (l : List (Str × NameKind)), l.lookup y = some .free -> ((l.map fun (n, k) => if (k == NameKind.free && env.scope.kind == .function && env.kindOf n == some .cell) then (n, NameKind.cell) else (n, k)).lookup y = some .cell \/
   (l.map fun (n, k) => if (k == NameKind.free && env.scope.kind == .function && env.kindOf n == some .cell) then (n, NameKind.cell) else (n, k)).lookup y = some .free) := by
  intro l
  induction l with
  | nil => intro h; simp at h
  | cons p r ih =>
   obtain ⟨n, k⟩ := p
   intro h
   by_cases hc : (k == NameKind.free && env.scope.kind == .function && env.kindOf n == some .cell) = true
   ·simp only [List.map_cons, if_pos hc]
    cases hx : y == n with
    | true => simp only [List.lookup_cons, hx]; exact .inl trivial
    | false =>
     simp only [List.lookup_cons, hx] at h ⊢
     exact ih h
   ·simp only [List.map_cons, if_neg hc]
    cases hx : y == n with
    | true => simp only [List.lookup_cons, hx] at h ⊢; exact .inr h
    | false =>
     simp only [List.lookup_cons, hx] at h ⊢
     exact ih h
 exact key scope.names h
structure bA (X : Cx) (scope : Scope) (cl : List (Str × Addr)) (T : List Str) (caps : List Nat) (cn : List Str) : Prop where
 kind : scope.kind = .function
 Bp : closureFor scope X.env = pure cl
 xN : ∀ y ∈ scope.names, y.2 ≠ .cell
 names : ∀ y ∈ scope.names, y.2 = .local -> scope.names.lookup y.1 = some .local
 sub : ∀ y c, cl.lookup y = some c -> X.env.cells.lookup y = some c
 has : ∀ y, scope.names.lookup y = some .free -> ∃ c, cl.lookup y = some c
 HC : Paired (fun (j : Nat) (y : Str) => X.N[j]? = some y /\ (X.env.kindOf y = some .cell \/ X.env.kindOf y = some .free) /\ scope.names.lookup y = some .free) caps cn
def nD (n : Nat) (caps : List Nat) (σ : St) : St := List.replicate n none ++ caps.map fun j => (σ[j]?).getD none
def Le (σ σ' : St) : Prop := σ.length = σ'.length /\ ∀ (i : Nat) v, σ[i]? = some (some v) -> σ'[i]? = some (some v)
theorem Le.one {r : St} {x : Option V} : Le (none :: r) (x :: r) := ⟨rfl, fun i v h => by
 cases i with
 | zero => simp at h
 | succ i => simpa using h⟩
def sq (X : Cx) (ifs : List Expr) (t : TT) : Prop :=
 ∀ (pins : List (Addr × Obj)) (s : Shared) (σ : St) (H : Hp) (Q : Bool -> Hp -> Prop), Inv X pins σ H s -> t σ H Q ->
  wpAny (model X.prog X.w) X.A (forIn ifs true fun c r => if r = true then do let ok <- isTrue c X.env (eval c X.env); pure (ForInStep.yield ok) else pure (ForInStep.yield r)) (TP X pins σ Q) X.xe s
def Gr : TT := fun _ H Q => Q true H
theorem AY {X : Cx} : sq X [] Gr := fun pins s σ H Q I h => wpAny_tests_nil ⟨H, I, h⟩
theorem AZ {X : Cx} {c : Expr} {t : TT} (h : PT X c t) : sq X [c] t := fun pins s σ H Q I q => wpAny_tests_one (h pins s σ H Q I q)
theorem nW {prog : Program} {w : World} {A : Around} {R : Result -> Shared -> Prop} {s : Shared} {elt target iter : Expr} {ifs : List Expr} {scope : Scope} {pos : Pos} {it acc : Value} {env : Env} (I : Nat -> Shared -> Prop)
  (turn : ∀ n s, I n s -> wpAny (model prog w) A (pyNext it) (fun r s₁ => match r with
   | none => R (.ok .next) s₁
   | some v => wpAny (model prog w) A (letOwnedTupleGo target it v) (fun _ s₀ => wpAny (model prog w) A (assign target env v) (fun _ s₂ =>
     wpAny (model prog w) A (forIn ifs true fun c r => if r = true then do let ok <- isTrue c env (eval c env); pure (ForInStep.yield ok) else pure (ForInStep.yield r)) (fun ok s₃ =>
      if ok = true then wpAny (model prog w) A (eval elt env) (fun x s₄ =>
       wpAny (model prog w) A (call (.builtin "list.append") [acc, x]) (fun _ s₅ => ∃ m, m < n /\ I m s₅) (fun _ _ => False) s₄) (fun _ _ => False) s₃
      else ∃ m, m < n /\ I m s₃) (fun _ _ => False) s₂) (fun _ _ => False) s₀) (fun _ _ => False) s₁) (fun _ _ => False) s)
  (n : Nat) (h : I n s) :
  codeAny (model prog w) A (.compLoop (.ListComp elt [⟨target, iter, ifs, 0⟩] scope pos) 0 it acc env) R s := by
 refine codeAny_loop rfl I (fun n s hI => ?_) n h
 show wpAny _ A ((compTurn (.ListComp elt [⟨target, iter, ifs, 0⟩] scope pos) 0 it acc env).onRaise (fun x => do noteFrame x env; theTreesLotGoes x)) _ _ s
 refine wpAny_noted ?_
 rw [compTurn_list]
 refine wpAny_bind (wpAny_standAt (wpAny_bind (wpAny_mono (turn n s hI) (fun r s₁ h₁ => ?_) fun _ _ h' => h'.elim)))
 cases r with
 | none => exact wpAny_pure h₁
 | some v =>
  refine wpAny_bind (wpAny_mono h₁ (fun _ s₀ h₀ => ?_) fun _ _ h' => h'.elim)
  refine wpAny_bind (wpAny_mono h₀ (fun _ s₂ h₂ => wpAny_bind (wpAny_mono h₂ (fun ok s₃ h₃ => ?_) fun _ _ h' => h'.elim)) fun _ _ h' => h'.elim)
  cases ok with
  | false => exact wpAny_pure ⟨rfl, h₃⟩
  | true =>
   exact wpAny_bind (wpAny_bind (wpAny_mono h₃ (fun x s₄ h₄ => wpAny_bind (wpAny_mono h₄ (fun _ s₅ h₅ => wpAny_pure (wpAny_pure ⟨rfl, h₅⟩)) fun _ _ h' => h'.elim)) fun _ _ h' => h'.elim))
section
variable {X : Cx} {scope : Scope} {cl : List (Str × Addr)} {T cn : List Str} {caps : List Nat} {pins : List (Addr × Obj)} {σ : St} {H2 : Hp} {s2 : Shared} {C : Addr} {h₁ : Heap} {tk : Nat} {fp : List Addr} {ix : Addr}
theorem ku (S : bA X scope cl T caps cn) (I2 : Inv X pins σ H2 s2) (f2 : ∀ b ∈ fp, ei X pins H2 b) (fo : ∀ b ∈ fp, b < s2.heap.objs.size)
  (hC : C = s2.heap.objs.size + 1) (old : ∀ b o, s2.heap.get? b = some o -> h₁.get? b = some o) (hacc : ∃ n, h₁.get? s2.heap.objs.size = some { cls := .type "list", data := .seq #[] n }) (hns : h₁.Ns C fun _ => none) :
  Inv (ag X scope cl C (T ++ cn) fp s2 H2) [] (nD T.length caps σ) (upd H2 s2.heap.objs.size (.lst [])) { s2 with heap := h₁, toks := tk } := by
 have hfr : H2 s2.heap.objs.size = none := I2.fresh
 have lt_of : ∀ y c, cl.lookup y = some c -> c < s2.heap.objs.size := fun y c e => by
  obtain ⟨v, o, ho, _⟩ := I2.cell y c (S.sub y c e)
  exact Heap.lt_size ho
 refine ⟨⟨I2.ok.mod, S.kind, I2.ok.glob, I2.ok.blt, by show s2.heap.objs.size <= C; rw [hC]; exact Nat.le_succ _, fun y z c h1 h2 => I2.ok.inj y z c (S.sub y c h1) (S.sub z c h2), fun y hy => S.has y (oq S.xN hy), fun y c hf _ => (Bool.false_ne_true hf).elim,
  I2.ok.hd, I2.ok.frames, .inl rfl, fun b hb => ⟨?_, fun y c e => ?_⟩, I2.bs, Nat.le_trans I2.ok.vU I2.sz, fun b o e hb => ?_, fun b hb hs => ?_, I2.stack, I2.pD⟩, rfl, I2.bare, Un.laid old (Nat.le_refl _) hfr, ⟨_, hns, fun i y v e1 e2 e3 => ?_⟩, fun y c e => ?_, ?_, fun y c e => ?_, fun p hp => ?_, I2.ah.laid old (Nat.le_refl _) ?_, ?_⟩
 ·show b ≠ C
  rw [hC]
  exact Nat.ne_of_lt (Nat.lt_succ_of_lt (fo b hb))
 ·exact (f2 b hb).2.2.2.2.1 y c (S.sub y c e)
 ·have h0 := I2.ok.bs b o e
  rcases (f2 b hb).2.2.2.1 with z | z
  ·exact I2.ok.qR b o e z
  ·exact absurd (Nat.lt_of_lt_of_le (Heap.lt_size h0.1) z) (Nat.lt_irrefl _)
 ·rcases List.mem_cons.mp (I2.iX b hs) with z | z
  ·exact (f2 b hb).2.1 z
  ·exact (f2 b hb).2.2.1 z
 ·-- the slots
  have hT : T.length <= i := by
   by_cases hi : i < T.length
   ·unfold nD at e2
    rw [List.getElem?_append_left (by simpa using hi), List.getElem?_replicate] at e2
    split at e2 <;> cases e2
   ·omega
  obtain ⟨k, rfl⟩ : ∃ k, i = T.length + k := ⟨i - T.length, by omega⟩
  have e1' : cn[k]? = some y := by
   have q : (T ++ cn)[T.length + k]? = some y := e1
   rw [List.getElem?_append_right (by omega)] at q
   simpa using q
  have e2' : (caps.map fun j => (σ[j]?).getD none)[k]? = some (some v) := by
   unfold nD at e2
   rw [List.getElem?_append_right (by simp)] at e2
   simpa using e2
  have pr : ∀ {cs : List Nat} {ns : List Str} {k : Nat}, Paired (fun (j : Nat) (y : Str) => X.N[j]? = some y /\ (X.env.kindOf y = some .cell \/ X.env.kindOf y = some .free) /\ scope.names.lookup y = some .free) cs ns ->
    ns[k]? = some y -> (cs.map fun j => (σ[j]?).getD none)[k]? = some (some v) -> ∃ (j : Nat), X.N[j]? = some y /\ (X.env.kindOf y = some .cell \/ X.env.kindOf y = some .free) /\ scope.names.lookup y = some .free /\ σ[j]? = some (some v) := by
   intro cs ns k p
   induction p generalizing k with
   | nil => intro q; simp at q
   | cons a t ih =>
    rename_i j0 y0 l1 l2
    cases k with
    | zero =>
     intro q1 q2
     simp at q1 q2
     subst q1
     refine ⟨j0, a.1, a.2.1, a.2.2, ?_⟩
     cases e : σ[j0]? with
     | none => rw [e] at q2; simp at q2
     | some z => rw [e] at q2; simp at q2; rw [q2]
    | succ k => intro q1 q2; exact ih (by simpa using q1) (by simpa using q2)
  obtain ⟨j, n1, kd, fr, sv⟩ := pr S.HC e1' e2'
  obtain ⟨m, hn, hl⟩ := I2.loc
  obtain ⟨u, r, lk⟩ := hl j y v n1 sv (by rcases kd with z | z; exact .inr (.inl z); exact .inr (.inr z))
  refine ⟨u, r, .inr ⟨nz fr, ?_⟩⟩
  obtain ⟨c, hc⟩ := S.has y fr
  rcases lk with ⟨z, _⟩ | ⟨_, c', hc', hcell⟩
  ·rcases kd with q | q <;> (rw [z] at q; cases q)
  ·have : c = c' := by
    have := S.sub y c hc
    rw [hc'] at this
    exact (Option.some.inj this).symm
   subst this
   obtain ⟨o, ho, hd⟩ := hcell
   exact ⟨c, hc, o, old c o ho, hd⟩
 ·obtain ⟨v, o, ho, hd⟩ := I2.cell y c (S.sub y c e)
  exact ⟨v, o, old c o ho, hd⟩
 ·show upd H2 s2.heap.objs.size (.lst []) C = none
  rw [aE (by rw [hC]; exact Nat.succ_ne_self _)]
  exact I2.ah.fresh (by rw [hC]; exact Nat.le_succ _)
 ·rw [aE (Nat.ne_of_lt (lt_of y c e))]
  exact I2.bK y c (S.sub y c e)
 ·exact absurd (show p ∈ ([] : List (Addr × Obj)) from hp) (by simp)
 ·obtain ⟨n, e⟩ := hacc
  exact ⟨Nat.zero_le _, [], n, .nil, e⟩
 ·have hp : ∀ {cs : List Nat} {ns : List Str} {F : Nat -> Str -> Prop}, Paired F cs ns -> cs.length = ns.length := fun p => Paired.length p
  show (nD T.length caps σ).length = (T ++ cn).length
  unfold nD
  rw [List.length_append, List.length_replicate, List.length_map, List.length_append, hp S.HC]
theorem pO (I2 : Inv X pins σ H2 s2) (f2 : ∀ b ∈ fp, ei X pins H2 b) (hC : s2.heap.objs.size <= C) {N : List Str} {σ' : St} {H' : Hp} {s' : Shared} (J : Inv (ag X scope cl C N fp s2 H2) [] σ' H' s') :
  ∃ oC m, s'.heap.get? C = some oC /\ s'.heap.Ns C m /\ Inv X (pins ++ [(C, oC)]) σ H' s' /\ ei X pins H' C := by
 obtain ⟨m, hn, _⟩ := J.loc
 obtain ⟨oC, es, ep, ho, hd, hrest⟩ := id hn
 have I3 : Inv X pins σ H' s' := I2.mX (ch := fp) J.os J.base J.ah J.bare fun b hb => ⟨(f2 b hb).2.2.2.1, (f2 b hb).2.1, (f2 b hb).2.2.2.2.1, (f2 b hb).2.2.2.2.2⟩
 have fC : ei X pins H' C := I2.wY hC J.free
 refine ⟨oC, m, ho, hn, I3.oh fun p hp => ?_, fC⟩
 rcases List.mem_append.mp hp with z | z
 ·exact I3.pin p (List.mem_append_right _ z)
 ·have e : p = (C, oC) := by simpa using z
  subst e
  exact ⟨ho, fC.1, fC.2.1, fC.2.2.1, fun v q => by rw [hd] at q; cases q⟩
end
def vX (J : It) (D : Addr) (H1 : Hp) (σ0 : St) (g : TG) (tt : TT) (te : TE) (Q : VK) : Prop := ∃ W : Nat -> Nat -> List V -> Hp -> Prop, (∃ m, W 0 m [] (upd H1 D (.lst []))) /\
 ∀ i m ys H, W i m ys H -> H D = some (.lst ys) /\ ((J.stop i H /\ Q (.ref D) H) \/ (J.go i H /\ ∀ x H', J.yZ i H x H' -> g x σ0 H' fun σ2 H2 => Le σ0 σ2 /\ tt σ2 H2 fun b H3 =>
  if b = true then te σ2 H3 fun y H4 => H4 D = some (.lst ys) /\ ys.length < sizeLine /\ ∃ m', m' < m /\ W (i + 1) m' (ys ++ [y]) (upd H4 D (.lst (ys ++ [y]))) else ∃ m', m' < m /\ W (i + 1) m' ys H3))
def qZ (n : Nat) (caps : List Nat) (wi : TI) (g : TG) (tt : TT) (te : TE) : TE := fun σ H Q => wi σ H fun J H1 => ∀ D, H1 D = none -> vX J D H1 (nD n caps σ) g tt te Q
section
variable {X : Cx} {scope : Scope} {cl : List (Str × Addr)} {T cn : List Str} {caps : List Nat} {elt tg iter : Expr} {ifs : List Expr} {wi : TI} {g : TG} {tt : TT} {te : TE} {pos : Pos}
theorem kr (S : bA X scope cl T caps cn) (hc : X.calm = true) (hg : ∀ C fp s₂ H₂, PG (ag X scope cl C (T ++ cn) fp s₂ H₂) tg g) (ht : ∀ C fp s₂ H₂, sq (ag X scope cl C (T ++ cn) fp s₂ H₂) ifs tt)
  (he : ∀ C fp s₂ H₂, PE (ag X scope cl C (T ++ cn) fp s₂ H₂) elt te) {pins : List (Addr × Obj)} {σ : St} {H2 : Hp} {s2 : Shared} {it : Addr} {fp : List Addr} {tn : Nat -> Heap -> Prop} {J : It} {E : Value -> Shared -> Prop} {Q : VK}
  {RR : Value -> Addr -> Result -> Shared -> Prop} (I2 : Inv X pins σ H2 s2) (Tn : Turn X.prog X.w X.K tg J fp it tn) (st2 : tn 0 s2.heap) (f2 : ∀ b ∈ fp, ei X pins H2 b)
  (q : ∀ D, H2 D = none -> vX J D H2 (nD T.length caps σ) g tt te Q)
  (fin : ∀ D C oC m H' s', Inv X (pins ++ [(C, oC)]) σ H' s' -> s'.heap.get? C = some oC -> s'.heap.Ns C m -> ei X pins H' C -> Q (.ref D) H' -> RR (.ref D) C (.ok .next) s') :
  wpAny (model X.prog X.w) X.A (newList []) (fun acc s₃ => wpAny (model X.prog X.w) X.A (newFunctionEnv scope X.env.globals cl [] X.env.qual none .none (some X.env)) (fun cenv s₄ =>
   codeAny (model X.prog X.w) X.A (.compStart (.ListComp elt [⟨tg, iter, ifs, 0⟩] scope pos) 0 (.ref it) acc { cenv with scope := relabel scope X.env }) (RR acc cenv.locals) s₄) E s₃) E s2 := by
 refine wpAny_newObj_type (wpAny_newFunctionEnv S.xN (by intro y hy; simp at hy) (fun h₁ hns₁ hsb₁ => ?_) S.kind)
 dsimp only at hns₁ hsb₁ ⊢
 generalize hH2 : s2.heap.push { cls := .type "list", dict := none, data := .seq ([] : List Value).toArray } = G2 at hns₁ hsb₁ ⊢
 have hC : G2.objs.size = s2.heap.objs.size + 1 := by rw [<- hH2, Heap.size_push]
 have hDC : s2.heap.objs.size ≠ G2.objs.size := by omega
 have old : ∀ b o, s2.heap.get? b = some o -> h₁.get? b = some o := fun b o e => hsb₁.extBut b o (by rw [hC]; exact Nat.ne_of_lt (Nat.lt_succ_of_lt (Heap.lt_size e))) (Heap.get?_push_of_some _ (hH2 ▸ Heap.get?_push_of_some _ e))
 have hacc : ∃ n, h₁.get? s2.heap.objs.size = some { cls := .type "list", data := .seq #[] n } := ⟨_, hsb₁.extBut _ _ hDC (Heap.get?_push_of_some _ (hH2 ▸ Heap.get?_push_size _ rfl))⟩
 have fo : ∀ b ∈ fp, b < s2.heap.objs.size := fun b hb => by
  obtain ⟨o, e, _⟩ := Tn.obj 0 _ st2 b hb
  exact Heap.lt_size e
 obtain ⟨W, ⟨m0, w0⟩, turn⟩ := q s2.heap.objs.size I2.fresh
 have st1 : tn 0 h₁ := Tn.keep 0 _ _ st2 fun b hb o e => old b o e
 have fr0 : ∀ b ∈ fp, upd H2 s2.heap.objs.size (.lst []) b = none := fun b hb => by rw [aE (Nat.ne_of_lt (fo b hb))]; exact (f2 b hb).1
 have loop : ∀ s₃ : Shared, s₃ = { s2 with heap := h₁, toks := s2.toks + ([] : List (Str × Value)).length } ->
   codeAny (model X.prog X.w) X.A (.compLoop (.ListComp elt [⟨tg, iter, ifs, 0⟩] scope pos) 0 (.ref it) (.ref s2.heap.objs.size) (compEnvC scope cl G2.objs.size X.env)) (RR (.ref s2.heap.objs.size) G2.objs.size) s₃ := by
  intro s₃ hs3
  have I0 : Inv (ag X scope cl G2.objs.size (T ++ cn) fp s2 H2) [] (nD T.length caps σ) (upd H2 s2.heap.objs.size (.lst [])) s₃ := by
   rw [hs3]
   exact ku S I2 f2 fo hC old hacc (by simpa using hns₁)
  have st3 : tn 0 s₃.heap := by rw [hs3]; exact st1
  have stat : ∀ {H' : Hp}, (∀ b ∈ fp, H' b = none) -> ∀ b ∈ fp, ei (ag X scope cl G2.objs.size (T ++ cn) fp s2 H2) [] H' b := fun {H'} hn b hb => by
   refine ⟨hn b hb, ?_, fun hs => ?_, .inl hb, fun y c e => (f2 b hb).2.2.2.2.1 y c (S.sub y c e), fun p hp => absurd (show p ∈ ([] : List (Addr × Obj)) from hp) (by simp)⟩
   ·show b ≠ G2.objs.size
    rw [hC]
    exact Nat.ne_of_lt (Nat.lt_succ_of_lt (fo b hb))
   ·rcases List.mem_cons.mp (I2.iX b hs) with z | z
    ·exact (f2 b hb).2.1 z
    ·exact (f2 b hb).2.2.1 z
  refine nW (fun n s' => ∃ i ys H', Inv (ag X scope cl G2.objs.size (T ++ cn) fp s2 H2) [] (nD T.length caps σ) H' s' /\ tn i s'.heap /\ (∀ b ∈ fp, H' b = none) /\ W i n ys H') ?_ m0 ⟨0, [], _, I0, st3, fr0, w0⟩
  rintro n s4 ⟨i, ys, H4, I4, st4, fr4, w4⟩
  obtain ⟨hD, tr⟩ := turn i n ys H4 w4
  rcases tr with ⟨stop, qn⟩ | ⟨go, step⟩
  ·refine au (Tn.done (ag X scope cl G2.objs.size (T ++ cn) fp s2 H2) rfl rfl rfl hc i [] s4 (nD T.length caps σ) H4 (fun _ _ => False) I4 (stat fr4) st4 stop) fun r s5 ⟨hr, I5⟩ => ?_
   subst hr
   obtain ⟨oC, m, a1, a2, a3, a4⟩ := pO I2 f2 (by omega) I5
   exact fin _ _ oC m H4 s5 a3 a1 a2 a4 qn
  ·refine au (Tn.item (ag X scope cl G2.objs.size (T ++ cn) fp s2 H2) rfl rfl rfl hc i [] s4 (nD T.length caps σ) H4 (fun _ _ => False) I4 (stat fr4) st4 go) fun r s5 ⟨u, hr, h5⟩ => ?_
   subst hr
   refine au h5 fun _ s6 ⟨x, H6, I6, r6, y6, st6, fr6⟩ => ?_
   have I6' := I6.pinned (stat fr6) (Tn.obj _ _ st6)
   refine au (hg _ fp s2 H2 _ s6 _ H6 x u _ I6' r6 (step x H6 y6)) fun _ s7 ⟨σ7, H7, I7, le7, q7⟩ => ?_
   have again : ∀ {σ8 : St} {H8 : Hp} {s8 : Shared} {zs : List V} {m' : Nat}, Le (nD T.length caps σ) σ8 -> Inv (ag X scope cl G2.objs.size (T ++ cn) fp s2 H2) ([] ++ gP fp s6.heap) σ8 H8 s8 -> m' < n -> W (i + 1) m' zs H8 ->
     ∃ m, m < n /\ ∃ i ys H', Inv (ag X scope cl G2.objs.size (T ++ cn) fp s2 H2) [] (nD T.length caps σ) H' s8 /\ tn i s8.heap /\ (∀ b ∈ fp, H' b = none) /\ W i m ys H' := fun {σ8 H8 s8 zs m'} le I8 hm w8 => by
    refine ⟨m', hm, i + 1, zs, H8, I8.cv.weak le.1 le.2, Tn.keep _ _ _ st6 fun b hb o e => (I8.pin (b, o) (List.mem_append_right _ (List.mem_append_right _ (b6 hb e)))).1, fun b hb => ?_, w8⟩
    obtain ⟨o, e, d⟩ := Tn.obj _ _ st6 b hb
    exact (I8.pin (b, o) (List.mem_append_right _ (List.mem_append_right _ (b6 hb e)))).2.1
   refine au (ht _ fp s2 H2 _ s7 σ7 H7 _ I7 q7) fun ok s8 ⟨H8, I8, q8⟩ => ?_
   cases ok with
   | false =>
    rw [if_neg Bool.false_ne_true] at q8 ⊢
    obtain ⟨m', hm, w8⟩ := q8
    exact again le7 I8 hm w8
   | true =>
    rw [if_pos rfl] at q8 ⊢
    refine au (he _ fp s2 H2 _ s8 σ7 H8 _ I8 q8) fun v9 s9 ⟨y, H9, I9, r9, hD9, hz9, m', hm, w9⟩ => ?_
    refine au (jo _ s9 σ7 H9 (.ref s2.heap.objs.size) [y] (.ref s2.heap.objs.size) [v9] (fun _ H => H = upd H9 s2.heap.objs.size (.lst (ys ++ [y]))) I9 rfl (.cons r9 .nil) ⟨_, ys, y, rfl, rfl, hD9, hz9, rfl⟩) fun _ s10 ⟨_, H10, I10, _, e10⟩ => ?_
    subst e10
    exact again le7 I10 hm w9
 exact codeAny_compStart_list (loop _ rfl) (Tn.self X.A 0 _ _ _ st1 (loop _ rfl))
theorem AJ (S : bA X scope cl T caps cn) (hc : X.calm = true) (hi : PI X tg iter wi) (hg : ∀ C fp s₂ H₂, PG (ag X scope cl C (T ++ cn) fp s₂ H₂) tg g) (ht : ∀ C fp s₂ H₂, sq (ag X scope cl C (T ++ cn) fp s₂ H₂) ifs tt)
  (he : ∀ C fp s₂ H₂, PE (ag X scope cl C (T ++ cn) fp s₂ H₂) elt te) (hs : ∀ x, foldedSetIterable iter X.env x = pure x := by intro _; rfl) :
  PE X (.ListComp elt [⟨tg, iter, ifs, 0⟩] scope pos) (qZ T.length caps wi g tt te) := by
 intro pins s σ H Q I h
 rw [eval_ListComp]
 refine wpAny_comprehension_free (use := none) rfl hs S.Bp S.kind S.names (au (hi pins s σ H _ I h) fun v s1 h1 => au h1 fun itv s2 h2 => ?_)
 obtain ⟨it, fp, tn, J, H2, e, I2, Tn, st2, f2, q⟩ := h2
 subst e
 refine kr (RR := fun acc C => compPost (model X.prog X.w) X.A X.xe none (EP X pins σ Q) acc C) S hc hg ht he I2 Tn st2 f2 q fun D C oC m H' s' I' ho hn fC qD => ?_
 refine ⟨m, hn, fun h' hs' => ⟨.ref D, H', ?_, rfl, qD⟩⟩
 obtain ⟨hp, g, d, t, os⟩ := s'
 exact I'.cv.turned (fun b o hb e => (hs'.2 b hb).trans e) fC.1 fC.2.1 fC.2.2.2.1 fC.2.2.2.2.1 fC.2.2.2.2.2
def BR (i : Nat) (t : TE) : TS := fun D σ H => t σ H fun x H1 => D.nx (σ.set i (some x)) H1
theorem AU {i : Nat} {y : Str} {py spos : Pos} (hN : X.N.Nodup) (hi' : X.N[i]? = some y) (hy : Loc X.env.scope y) (S : bA X scope cl T caps cn) (hc : X.calm = true) (hi : PI X tg iter wi)
  (hg : ∀ C fp s₂ H₂, PG (ag X scope cl C (T ++ cn) fp s₂ H₂) tg g) (ht : ∀ C fp s₂ H₂, sq (ag X scope cl C (T ++ cn) fp s₂ H₂) ifs tt)
  (he : ∀ C fp s₂ H₂, PE (ag X scope cl C (T ++ cn) fp s₂ H₂) elt te) (hsw : swapsWith (.ListComp elt [⟨tg, iter, ifs, 0⟩] scope pos) (some (.Name y py)) spos.line X.env = pure true := by rfl)
  (hf : X.fn y = true \/ X.env.scope.names.lookup y = some .local := by first | exact .inl rfl | exact .inr rfl | assumption)
  (hs : ∀ x, foldedSetIterable iter X.env x = pure x := by intro _; rfl) :
  PS X (.Assign [.Name y py] (.ListComp elt [⟨tg, iter, ifs, 0⟩] scope pos) spos) (BR i (qZ T.length caps wi g tt te)) := by
 intro pins s σ H D I h
 rw [exec_Assign_Name_used _ _ _ _ hsw]
 refine wpAny_bind (wpAny_standAt (wpAny_bind ?_))
 show wpAny _ X.A (do let _ <- comprehension (.ListComp elt [⟨tg, iter, ifs, 0⟩] scope pos) scope X.env _ (newList []) false (eval iter X.env) (some (assign (.Name y py) X.env))) _ _ s
 refine wpAny_bind (wpAny_mono (wpAny_comprehension_free (use := some (assign (.Name y py) X.env)) (Q := fun _ s' => SP X pins D .next s') rfl hs S.Bp S.kind S.names
  (au (hi pins s σ H _ I h) fun v s1 h1 => au h1 fun itv s2 h2 => ?_)) (fun _ s' hq => wpAny_pure (wpAny_pure hq)) fun _ _ e => e)
 obtain ⟨it, fp, tn, J, H2, e, I2, Tn, st2, f2, q⟩ := h2
 subst e
 refine kr (Q := fun x H1 => D.nx (σ.set i (some x)) H1) (RR := fun acc C => compPost (model X.prog X.w) X.A X.xe (some (assign (.Name y py) X.env)) (fun _ s' => SP X pins D .next s') acc C) S hc hg ht he I2 Tn st2 f2 q fun Dd C oC m H' s' I' ho hn fC qD => ?_
 show wpAny _ X.A (assign (.Name y py) X.env (.ref Dd)) _ _ s'
 refine au (bS (i := i) hN hi' hy hf (pins ++ [(C, oC)]) s' σ H' (.ref Dd) (.ref Dd) (fun σ' H1 => σ' = σ.set i (some (.ref Dd)) /\ H1 = H') I' rfl ⟨rfl, rfl⟩) fun _ s'' ⟨σ'', H'', I'', e1, e2⟩ => ?_
 subst e1 e2
 have hoC : s''.heap.get? C = some oC := (I''.pin (C, oC) (List.mem_append_right _ (List.mem_append_right _ (List.mem_singleton.mpr rfl)))).1
 obtain ⟨oC', es, ep, ho', r⟩ := hn
 rw [ho] at ho'
 cases ho'
 refine ⟨m, ⟨oC, es, ep, hoC, r⟩, fun h' hs' => ⟨σ.set i (some (.ref Dd)), H'', ?_, qD⟩⟩
 obtain ⟨hp, g, d, t, os⟩ := s''
 exact I''.cv.turned (fun b o hb e => (hs'.2 b hb).trans e) fC.1 fC.2.1 fC.2.2.2.1 fC.2.2.2.2.1 fC.2.2.2.2.2
end
section
variable {X : Cx}
theorem xT : eQ X (compareOp .Is) (fun x y H Q => ∃ a b, x = .bl a /\ y = .bl b /\ Q (.bl (a == b)) H) := by
 intro pins s σ H x y v u Q I rx ry h
 obtain ⟨a, b, rfl, rfl, q⟩ := h
 cases rx
 cases ry
 exact is_bool (ae I q rfl)
theorem qU : eQ X (compareOp .IsNot) (fun x y H Q => ∃ a b, x = .bl a /\ y = .bl b /\ Q (.bl (a != b)) H) := by
 intro pins s σ H x y v u Q I rx ry h
 obtain ⟨a, b, rfl, rfl, q⟩ := h
 cases rx
 cases ry
 exact isnot_bool (ae I q rfl)
theorem AG : eQ X (binaryOp .Mult) (rI IntMulOk fun i j => .int (i * j)) := GV fun _ _ _ _ _ _ _ hc q => mul_int q hc
end
mutual
inductive iH (K : PySem.W.Frag) (H : Hp) : V -> PyData -> Prop
 | aV : iH K H .aV .none
 | bl (b : Bool) : iH K H (.bl b) (.bool b)
 | int (i : Int) : iH K H (.int i) (.int i)
 | str (x : Str) : iH K H (.str x) (.str x)
 | lst {a : Addr} {xs : List V} {ds : List PyData} : c_ K H a xs -> gA K H xs ds -> iH K H (.ref a) (.list ds)
 | tup {a : Addr} {xs : List V} {ds : List PyData} : ej K H a xs -> gA K H xs ds -> iH K H (.ref a) (.tuple ds)
inductive gA (K : PySem.W.Frag) (H : Hp) : List V -> List PyData -> Prop
 | nil : gA K H [] []
 | cons {x : V} {d : PyData} {xs : List V} {ds : List PyData} : iH K H x d -> gA K H xs ds -> gA K H (x :: xs) (d :: ds)
end
theorem IsTup.of_get {h : Heap} {a : Addr} {its : Array Value} (p : IsTup h a its) : ∃ o n, h.get? a = some o /\ o.cls = .type "tuple" /\ o.data = .seq its n := by
 obtain ⟨o, h1, h2, n, h3⟩ := p
 exact ⟨o, n, h1, h2, h3⟩
mutual
theorem iH.reads {X : Cx} {pins : List (Addr × Obj)} {σ : St} {H : Hp} {s : Shared} (I : Inv X pins σ H s) : ∀ {v : V} {d : PyData} {u : Value}, iH X.K H v d -> RelV v u -> ∃ as, Reads s.heap u d as
 | _, _, u, .aV, r => by cases (show u = Value.none from r); exact ⟨_, .none⟩
 | _, _, u, .bl b, r => by cases (show u = Value.bool b from r); exact ⟨_, .bool b⟩
 | _, _, u, .int i, r => by obtain ⟨t, q⟩ := (show ∃ t, u = Value.int i t from r); cases q; exact ⟨_, .int i t⟩
 | _, _, u, .str x, r => by obtain ⟨t, q⟩ := (show ∃ t, u = Value.str x t from r); cases q; exact ⟨_, .str x t⟩
 | _, _, u, @iH.lst _ _ a xs ds h1 h2, r => by
  cases (show u = Value.ref a from r)
  obtain ⟨its, rv, pl, _⟩ := I.list h1
  obtain ⟨as, q⟩ := gA.reads I h2 rv
  obtain ⟨o, n, e1, e2, _, e3⟩ := pl
  exact ⟨_, reads_list_at e1 e2 e3 (by simpa using q)⟩
 | _, _, u, @iH.tup _ _ a xs ds h1 h2, r => by
  cases (show u = Value.ref a from r)
  obtain ⟨its, rv, pl, _⟩ := I.tuple h1
  obtain ⟨as, q⟩ := gA.reads I h2 rv
  obtain ⟨o, n, e1, e2, e3⟩ := IsTup.of_get pl
  exact ⟨_, reads_tuple_at e1 e2 e3 (by simpa using q)⟩
theorem gA.reads {X : Cx} {pins : List (Addr × Obj)} {σ : St} {H : Hp} {s : Shared} (I : Inv X pins σ H s) : ∀ {vs : List V} {ds : List PyData} {us : List Value}, gA X.K H vs ds -> Vals vs us -> ∃ as, ReadsAll s.heap us ds as
 | _, _, us, .nil, r => by cases r; exact ⟨_, .nil⟩
 | _, _, us, .cons h1 h2, r => by
  cases r with
  | cons r1 r2 =>
   obtain ⟨as, q⟩ := iH.reads I h1 r1
   obtain ⟨bs, p⟩ := gA.reads I h2 r2
   exact ⟨_, .cons q p⟩
end
def Ae (K : PySem.W.Frag) (neg : Bool) : R2 := fun x y H Q => ∃ d e, iH K H x d /\ iH K H y e /\ SeqAt.shaped d = true /\ SeqAt.shaped e = true /\ Q (.bl (if neg then !PyData.eqv d e else PyData.eqv d e)) H
section
variable {X : Cx}
theorem xS (hu : X.A.units + 64 < cLine) : eQ X (compareOp .Eq) (Ae X.K false) := by
 intro pins s σ H x y v u Q I rx ry h
 obtain ⟨d, e, hx, hy, sx, sy, q⟩ := h
 obtain ⟨as, p1⟩ := hx.reads I rx
 obtain ⟨bs, p2⟩ := hy.reads I ry
 exact eq_dataH p1 p2 sx sy hu ⟨.bl _, H, I, rfl, q⟩
theorem Cp (hu : X.A.units + 64 < cLine) : eQ X (compareOp .NotEq) (Ae X.K true) := by
 intro pins s σ H x y v u Q I rx ry h
 obtain ⟨d, e, hx, hy, sx, sy, q⟩ := h
 obtain ⟨as, p1⟩ := hx.reads I rx
 obtain ⟨bs, p2⟩ := hy.reads I ry
 exact ne_dataH p1 p2 sx sy hu ⟨.bl _, H, I, rfl, q⟩
theorem uI {bs : List Bool} : ∀ {us : List Value}, Vals (bs.map V.bl) us -> ∀ (i : Nat) (v : Value), us[i]? = some v -> ∃ b, bs[i]? = some b /\ v = .bool b := by
 intro us r i v e
 have hl := r.length
 rw [List.length_map] at hl
 have hi : i < us.length := (List.getElem?_eq_some_iff.mp e).1
 have hb : bs[i]? = some bs[i] := List.getElem?_eq_getElem (by omega)
 obtain ⟨u, h1, h2⟩ := r.get (i := i) (x := V.bl bs[i]) (by rw [List.getElem?_map, hb]; rfl)
 rw [e] at h1
 cases h1
 exact ⟨_, hb, h2⟩
theorem rq (bs : List Bool) : ((List.range bs.length).all fun i => (bs[i]?).getD true) = bs.all id := PyProof.Rows.LSm.range_all bs
theorem vm : g_ X (.builtin "all") (fun xs H Q => ∃ (p : Addr) (bs : List Bool), xs = [.ref p] /\ X.A.handled = none /\ c_ X.K H p (bs.map V.bl) /\ Q (.bl (bs.all id)) H) := by
 intro pins s σ H xs us Q I r h
 obtain ⟨p, bs, rfl, hh, hS, q⟩ := h
 obtain ⟨u, rfl, ru⟩ := vals1 r
 cases (show u = Value.ref p from ru)
 obtain ⟨its, rv, pl, _⟩ := I.list hS
 have hl := pl.isList
 have hlt : p < s.heap.objs.size := pl.lt
 have hb := uI rv
 have hlen : its.length = bs.length := by have := rv.length; rw [List.length_map] at this; exact this.symm
 refine call_all_walk (wpAny_pyIter_list hl ?_)
 refine ⟨s.heap.objs.size, [s.heap.objs.size, p], [s.heap.objs.size], its.toArray.size, _, _, fun i => (bs[i]?).getD true, rfl, Walks.list (A := X.A.in1) hh _ p (Nat.ne_of_lt hlt) its.toArray,
  ⟨⟨_, Heap.get?_push_size _ rfl, rfl, rfl⟩, hl.push _⟩, fun i v s' Q' E' hP hQ => ?_, fun h' tk hk => ?_⟩
 ·obtain ⟨b, e, rfl⟩ := hb i v (by simpa using hP)
  simp only [e, Option.getD_some] at hQ
  exact wpAny_truthy_bool hQ
 ·have e : ((List.range its.toArray.size).all fun i => (bs[i]?).getD true) = bs.all id := by
   rw [List.size_toArray, hlen]; exact rq bs
  rw [e]
  exact ⟨.bl (bs.all id), H, I.kept (PyProof.Rows.LSm.kept_iter hk), rfl, q⟩
end
section
variable {X : Cx} {a b c : Expr} {ta tb : TE} {pos : Pos} {k : Int} {op op' : CmpOp} {p p' : Int -> Int -> Bool}
end
theorem aS {H : Hp} {p : Addr} {o : HO} (h : H p = none) : aK H (upd H p o) := fun b u e => by
 rw [aE (aJ e h)]
 exact e
theorem PE.imp {X : Cx} {e : Expr} {t t' : TE} (h : PE X e t) (f : ∀ σ H Q, t' σ H Q -> t σ H Q) : PE X e t' := fun pins s σ H Q I q => h pins s σ H Q I (f σ H Q q)
def Fn (x : Str) : It := ⟨fun i _ => i < x.cps.size, fun i H v H' => H' = H /\ ∃ c, x.cps[i]? = some c /\ v = .str ⟨#[c]⟩, fun i _ => x.cps.size <= i⟩
theorem vP {P : Program} {w : World} {K : PySem.W.Frag} {tg : Expr} (x : Str) (t : Tok) (it : Addr) : Turn P w K tg (Fn x) [it] it (fun i h => h.IsStrIter it "str_ascii_iterator" x t i) where
 mem := by simp
 obj := fun i h st b hb => by
  have e : b = it := by simpa using hb
  subst e
  obtain ⟨o, e, c, d⟩ := st
  exact ⟨o, e, fun v z => by rw [d] at z; cases z⟩
 keep := fun i h h' st k => by
  obtain ⟨o, e, r⟩ := st
  exact ⟨o, k it (by simp) o e, r⟩
 item := by
  intro X hP hw hK hc i pins s σ H E I hf st hg
  subst hP hw hK
  obtain ⟨f0, f1, f2, f3, f4, f5⟩ := hf it (by simp)
  have hi : i < x.cps.size := hg
  refine wpAny_pyNext_ascii_item st (c := x.cps[i]) (by simp [hi]) fun h' st' sb => ?_
  have I1 : Inv X pins σ H { s with heap := h', toks := s.toks + 1 } := I.turned (fun b o hb e => (sb.2 b hb).trans e) f0 f1 f3 f4 f5
  obtain ⟨o, e, c, d⟩ := id st'
  exact ⟨_, rfl, pq (s := { s with heap := h', toks := s.toks + 1 }) e c d (by decide) ⟨.str ⟨#[x.cps[i]]⟩, H, I1, ⟨_, rfl⟩, ⟨rfl, _, by simp [hi], rfl⟩, st', fun b hb => (hf b hb).1⟩⟩
 done := by
  intro X hP hw hK hc i pins s σ H E I hf st hg
  subst hP hw hK
  obtain ⟨f0, f1, f2, f3, f4, f5⟩ := hf it (by simp)
  have hi : x.cps.size <= i := hg
  exact wpAny_pyNext_ascii_end (I.ok.hd hc) st (by simp [hi]) fun h' eb => ⟨rfl, I.turned (t' := s.toks) (fun b o hb e => eb b o hb e) f0 f1 f3 f4 f5⟩
 self := fun _ _ _ _ _ st h => wpAny_pyIter_striter_ascii st h
theorem vQ {P : Program} {w : World} {K : PySem.W.Frag} {tg : Expr} (x : Str) (t : Tok) (it : Addr) : Turn P w K tg (Fn x) [it] it (fun i h => h.IsStrIter it "str_iterator" x t i) where
 mem := by simp
 obj := fun i h st b hb => by
  have e : b = it := by simpa using hb
  subst e
  obtain ⟨o, e, c, d⟩ := st
  exact ⟨o, e, fun v z => by rw [d] at z; cases z⟩
 keep := fun i h h' st k => by
  obtain ⟨o, e, r⟩ := st
  exact ⟨o, k it (by simp) o e, r⟩
 item := by
  intro X hP hw hK hc i pins s σ H E I hf st hg
  subst hP hw hK
  obtain ⟨f0, f1, f2, f3, f4, f5⟩ := hf it (by simp)
  have hi : i < x.cps.size := hg
  refine wpAny_pyNext_wide_item st (c := x.cps[i]) (by simp [hi]) fun h' st' sb => ?_
  have I1 : Inv X pins σ H { s with heap := h', toks := s.toks + 1 } := I.turned (fun b o hb e => (sb.2 b hb).trans e) f0 f1 f3 f4 f5
  obtain ⟨o, e, c, d⟩ := id st'
  exact ⟨_, rfl, pq (s := { s with heap := h', toks := s.toks + 1 }) e c d (by decide) ⟨.str ⟨#[x.cps[i]]⟩, H, I1, ⟨_, rfl⟩, ⟨rfl, _, by simp [hi], rfl⟩, st', fun b hb => (hf b hb).1⟩⟩
 done := by
  intro X hP hw hK hc i pins s σ H E I hf st hg
  subst hP hw hK
  obtain ⟨f0, f1, f2, f3, f4, f5⟩ := hf it (by simp)
  have hi : x.cps.size <= i := hg
  exact wpAny_pyNext_wide_end (I.ok.hd hc) st (by simp [hi]) fun h' eb => ⟨rfl, I.turned (t' := s.toks) (fun b o hb e => eb b o hb e) f0 f1 f3 f4 f5⟩
 self := fun _ _ _ _ _ st h => wpAny_pyIter_striter_wide st h
section
variable {X : Cx} {tg : Expr}
end
theorem nN : ∀ l : List (Str × Tok), Vals ((l.map (·.1)).map V.str) (strValues l)
 | [] => .nil
 | (x, t) :: r => .cons ⟨t, rfl⟩ (nN r)
theorem vS (tk : Nat) (ws : List Str) : Vals (ws.map V.str) (strsFrom tk ws) := by
 have h := nN (numbered tk ws)
 rw [numbered_texts, <- strsFrom_eq] at h
 exact h
section
variable {X : Cx}
open Builtin Builtin.Str in
theorem xM : G9 X "str.split" (fun x vs H Q => ∃ z y, x = .str z /\ vs = [.str y] /\ (y.length == 0) = false /\ z.length + 2 <= sizeLine /\ ∀ p, H p = none -> Q (.ref p) (upd H p (.lst ((Txt.split z y).map V.str)))) := by
 intro pins s σ H x vs v us Q I rx rv h
 obtain ⟨z, y, rfl, rfl, hy, hz, q⟩ := h
 obtain ⟨t, rfl⟩ := rx
 obtain ⟨w', rfl, u, rfl⟩ := rv.one
 have hle : (Txt.split z y).length <= sizeLine := Nat.le_trans (split_le z y) hz
 have hz0 : z.length <= sizeLine := by omega
 have q := q s.heap.objs.size I.fresh
 cases h1 : (decide (z.length < y.length) || decide (strKind z < strKind y)) with
 | true =>
  have e : Txt.split z y = [z] := if_pos h1
  rw [e] at q
  refine call_meets F.slot_str_split (typeIs_str _ _ _) F.entry_str_split (F.args_str_split_2 _ _) (meets_str_split_cannot_occur z y t u h1) ?_
  exact ⟨.ref s.heap.objs.size, _, I.laid (t' := s.toks) (o := .lst [.str z]) (fun b ob q => Heap.get?_push_of_some _ q) (Nat.le_refl _) ⟨by show 1 <= sizeLine; decide, _, 0, .cons ⟨t, rfl⟩ .nil, Heap.get?_push_size _ rfl⟩, rfl, q⟩
 | false =>
  cases hf : (occurrences z y 0 z.length (z.length + 1)).isEmpty with
  | true =>
   have e : Txt.split z y = [z] := (if_neg (ne_true_of_eq_false h1)).trans (if_pos hf)
   rw [e] at q
   refine call_meets F.slot_str_split (typeIs_str _ _ _) F.entry_str_split (F.args_str_split_2 _ _) (meets_str_split_not_found z y t u h1 hy hf) ?_
   exact ⟨.ref s.heap.objs.size, _, I.laid (t' := s.toks) (o := .lst [.str z]) (fun b ob q => Heap.get?_push_of_some _ q) (Nat.le_refl _) ⟨by show 1 <= sizeLine; decide, _, 0, .cons ⟨t, rfl⟩ .nil, Heap.get?_push_size _ rfl⟩, rfl, q⟩
  | false =>
   have e : Txt.split z y = partsBetween z (occurrences z y 0 z.length (z.length + 1)) y.length := (if_neg (ne_true_of_eq_false h1)).trans (if_neg (ne_true_of_eq_false hf))
   rw [e] at q hle
   refine call_meets F.slot_str_split (typeIs_str _ _ _) F.entry_str_split (F.args_str_split_2 _ _) (meets_str_split_sep z y t u h1 hy hf hz0 hle) ?_
   exact ⟨.ref s.heap.objs.size, _, I.laid (o := .lst ((partsBetween z (occurrences z y 0 z.length (z.length + 1)) y.length).map V.str)) (fun b ob q => Heap.get?_push_of_some _ q) (Nat.le_refl _)
    ⟨by rw [List.length_map]; exact hle, _, 0, vS _ _, Heap.get?_push_size _ rfl⟩, rfl, q⟩
theorem lG {v : Value} {o : Option Int} (p : IsPart v o) : ∃ l : Option (Int × Tok), v = partValue l /\ o = l.map (·.1) := by
 cases p with
 | none => exact ⟨none, rfl, rfl⟩
 | int i t => exact ⟨some (i, t), rfl, rfl⟩
theorem DG : ym X (fun x lo hi H Q => ∃ z, x = .str z /\ z.length <= sizeLine /\ Q (.str (Txt.slice z lo hi)) H) := by
 intro pins s σ H x v vl vu lo hi sl Q I rx hs pl pu h
 obtain ⟨z, rfl, hz, q⟩ := h
 obtain ⟨t, rfl⟩ := rx
 obtain ⟨l, rfl, rfl⟩ := lG pl
 obtain ⟨u, rfl, rfl⟩ := lG pu
 refine ⟨"str", _, F.slot_str_getitem.lookup, typeIs_str _ _ _, wpAny_getItem_str_slice (l := l) (u := u) (st := none) hs rfl ?_⟩
 exact post_val_or_str ⟨Nat.le_trans (Txt.slice_le z _ _) hz, fun t' k => ⟨.str (Txt.slice z _ _), H, I.tok _, ⟨t', rfl⟩, q⟩⟩
end
theorem mem_of_lookup {β : Type} {y : Str} {v : β} : ∀ {l : List (Str × β)}, l.lookup y = some v -> (y, v) ∈ l
 | [], h => by simp at h
 | (x, u) :: r, h => by
  rw [List.lookup_cons] at h
  cases e : y == x with
  | true =>
   rw [e] at h
   have h1 := Option.some.inj h
   have h2 := eq_of_beq e
   subst h1 h2
   exact List.mem_cons_self
  | false =>
   rw [e] at h
   exact List.mem_cons_of_mem _ (mem_of_lookup h)
theorem j1 {X : Cx} {scope : Scope} {T : List Str} (hk : scope.kind = .function) (hc : closureFor scope X.env = pure []) (h1 : ∀ y ∈ scope.names, y.2 ≠ .cell) (h2 : ∀ y ∈ scope.names, y.2 ≠ .free)
  (h3 : ∀ y ∈ scope.names, y.2 = .local -> scope.names.lookup y.1 = some .local) : bA X scope [] T [] [] :=
 ⟨hk, hc, h1, h3, fun y c h => by simp at h, fun y h => absurd rfl (h2 _ (mem_of_lookup h)), .nil⟩
theorem vw {X : Cx} {scope : Scope} {T cn : List Str} {caps : List Nat} {cl : List (Str × Addr)} (hk : scope.kind = .function) (hc : closureFor scope X.env = pure cl) (h1 : ∀ y ∈ scope.names, y.2 ≠ .cell)
  (h2 : ∀ y ∈ scope.names, y.2 = .free -> (cl.lookup y.1).isSome = true) (h3 : ∀ y ∈ scope.names, y.2 = .local -> scope.names.lookup y.1 = some .local) (hs : ∀ p ∈ cl, X.env.cells.lookup p.1 = some p.2)
  (hp : Paired (fun (j : Nat) (y : Str) => X.N[j]? = some y /\ (X.env.kindOf y = some .cell \/ X.env.kindOf y = some .free) /\ scope.names.lookup y = some .free) caps cn) : bA X scope cl T caps cn :=
 ⟨hk, hc, h1, h3, fun y c h => hs (y, c) (mem_of_lookup h), fun y h => Option.isSome_iff_exists.mp (h2 _ (mem_of_lookup h) rfl), hp⟩
def del (H : Hp) (a : Addr) : Hp := fun b => if b = a then none else H b
theorem ir {H : Hp} {a : Addr} : del H a a = none := if_pos rfl
theorem bW {H : Hp} {a b : Addr} (h : b ≠ a) : del H a b = H b := if_neg h
section
variable {X : Cx} {pins : List (Addr × Obj)} {σ : St} {H : Hp} {s : Shared} {a : Addr} {ys : List V}
theorem aL.hide {P : Program} {w : World} {h : Heap} {b : Addr} : ∀ {o : HO}, aL P w H h b o -> H a = some (.lst ys) -> aL P w (del H a) h b o
 | .lst _, x, _ => x
 | .tup _, x, _ => x
 | .dK _, x, _ => x
 | .dT kvs, x, e => by
  obtain ⟨h1, h2, xs, hp, r⟩ := x
  refine ⟨h1, h2, xs, Paired.imp' (fun p q ⟨z1, z2, z3⟩ => ⟨z1, ?_, z3⟩) hp, r⟩
  rw [bW (fun z => by rw [z, e] at z2; cases z2)]
  exact z2
 | .set _ _, x, _ => x
 | .ins C dx fs, x, e => by
  obtain ⟨h1, r⟩ := x
  refine ⟨?_, r⟩
  rw [bW (fun z => by rw [z, e] at h1; cases h1)]
  exact h1
 | .own _, x, _ => x
 | .xd _, x, _ => x
 | .met _ _, x, _ => x
 | .Dq _ _, x, _ => x
 | .fT o u, x, e => ⟨x.1, aL.hide x.2 e⟩
 | .yP _, x, _ => x
 | .ext _, x, _ => x
theorem aL.more {P : Program} {w : World} {h : Heap} {b : Addr} {u : HO} (n : H a = none) : ∀ {o : HO}, aL P w H h b o -> aL P w (upd H a u) h b o
 | .lst _, x => x
 | .tup _, x => x
 | .dK _, x => x
 | .dT kvs, x => by
  obtain ⟨h1, h2, xs, hp, r⟩ := x
  refine ⟨h1, h2, xs, Paired.imp' (fun p q ⟨z1, z2, z3⟩ => ⟨z1, ?_, z3⟩) hp, r⟩
  rw [aE (aJ z2 n)]
  exact z2
 | .set _ _, x => x
 | .ins C dx fs, x => by
  obtain ⟨h1, r⟩ := x
  refine ⟨?_, r⟩
  rw [aE (aJ h1 n)]
  exact h1
 | .own _, x => x
 | .xd _, x => x
 | .met _ _, x => x
 | .Dq _ _, x => x
 | .fT o u, x => ⟨x.1, aL.more n x.2⟩
 | .yP _, x => x
 | .ext _, x => x
theorem Inv.hide (I : Inv X pins σ H s) (e : H a = some (.lst ys)) (hfs : a ∉ X.fs) : ∃ ob, (∃ (its : List Value) (n : Nat), Vals ys its /\ ob = { cls := .type "list", data := .seq its.toArray n }) /\ s.heap.get? a = some ob /\ Inv X (pins ++ [(a, ob)]) σ (del H a) s := by
 obtain ⟨hz, its, n, hv, ho⟩ := (show aL X.prog X.w H s.heap a (.lst ys) from I.ah a _ e)
 refine ⟨_, ⟨its, n, hv, rfl⟩, ho, ⟨I.ok, I.os, I.bare, ⟨I.base.keep, I.base.slot, fun b o q n hx => ?_, I.base.there, fun b xs q => ?_, fun b o u q => ?_, fun b ps q => ?_⟩, I.loc, I.cell, ?_, fun x c q => ?_, fun p hp => ?_, fun b o q => ?_, I.len⟩⟩
 ·have z := I.base.free b o q n hx
  unfold del
  split
  ·rfl
  ·exact z
 ·have z := I.base.dG b xs q
  rw [bW (fun w => by rw [w, e] at z; cases z)]
  exact z
 ·have z := I.base.cE b o u q
  rw [bW (fun w => by rw [w, e] at z; cases z)]
  exact z
 ·obtain ⟨more, z⟩ := I.base.ee b ps q
  exact ⟨more, by rw [bW (fun w => by rw [w, e] at z; cases z)]; exact z⟩
 ·unfold del
  split
  ·rfl
  ·exact I.free
 ·unfold del
  split
  ·rfl
  ·exact I.bK x c q
 ·rw [<- List.append_assoc] at hp
  rcases List.mem_append.mp hp with z | z
  ·obtain ⟨p1, p2, p3, p4, p5⟩ := I.pin p z
   refine ⟨p1, ?_, p3, p4, p5⟩
   unfold del
   split
   ·rfl
   ·exact p2
  ·rw [List.mem_singleton.mp z]
   refine ⟨ho, ir, fun w => ?_, hfs, fun v q => by cases q⟩
   have f := I.free
   rw [<- w, e] at f
   cases f
 ·by_cases hb : b = a
  ·rw [hb, ir] at q
   cases q
  ·rw [bW hb] at q
   exact (I.ah b o q).hide e
theorem Inv.yR {ob : Obj} {its : List Value} {n : Nat} (I : Inv X (pins ++ [(a, ob)]) σ H s) (hv : Vals ys its) (ho : ob = { cls := .type "list", data := .seq its.toArray n }) (hz : ys.length <= sizeLine)
  (hne : ∀ b o, X.s₀.heap.get? b = some o -> X.H₀ b = none -> b ∉ X.ex -> b ≠ a) (hp0 : ∀ p ∈ X.pn ++ pins, p.1 ≠ a) (hc : ∀ x c, X.env.cells.lookup x = some c -> c ≠ a) : H a = none /\ Inv X pins σ (upd H a (.lst ys)) s := by
 obtain ⟨g1, g2, g3, g4, g5⟩ := I.pin (a, ob) (List.mem_append_right _ (List.mem_append_right _ (List.mem_singleton.mpr rfl)))
 have g2' : H a = none := g2
 refine ⟨g2', ⟨I.ok, I.os, I.bare, ⟨I.base.keep, I.base.slot, fun b o q n hx => ?_, I.base.there, fun b xs q => ?_, fun b o u q => ?_, fun b ps q => ?_⟩, I.loc, I.cell, ?_, fun x c q => ?_, fun p hp => ?_, fun b o q => ?_, I.len⟩⟩
 ·rw [aE (hne b o q n hx)]
  exact I.base.free b o q n hx
 ·have z := I.base.dG b xs q
  rw [aE (aJ z g2')]
  exact z
 ·have z := I.base.cE b o u q
  rw [aE (aJ z g2')]
  exact z
 ·obtain ⟨more, z⟩ := I.base.ee b ps q
  exact ⟨more, by rw [aE (aJ z g2')]; exact z⟩
 ·rw [aE (Ne.symm g3)]
  exact I.free
 ·rw [aE (hc x c q)]
  exact I.bK x c q
 ·obtain ⟨p1, p2, p3, p4, p5⟩ := I.pin p (by rw [<- List.append_assoc]; exact List.mem_append_left _ hp)
  refine ⟨p1, ?_, p3, p4, p5⟩
  rw [aE (hp0 p hp)]
  exact p2
 ·by_cases hb : b = a
  ·rw [hb, aI] at q
   cases q
   subst ho
   exact ⟨hz, its, n, hv, hb ▸ g1⟩
  ·rw [aE hb] at q
   exact (I.ah b o q).more g2'
theorem Inv.hidden (I : Inv X pins σ H s) (e : H a = some (.lst ys)) : a ∉ X.fs /\ (∀ b o, X.s₀.heap.get? b = some o -> X.H₀ b = none -> b ∉ X.ex -> b ≠ a) /\ (∀ p ∈ X.pn ++ pins, p.1 ≠ a) /\ ∀ x c, X.env.cells.lookup x = some c -> c ≠ a := by
 refine ⟨fun hb => ?_, fun b o q n hx z => ?_, fun p hp z => ?_, fun x c q z => ?_⟩
 ·have h1 := I.ok.uY a hb
  obtain ⟨_, o, ho, _⟩ := I.ok.e_.mem hb
  have hx : a ∉ X.ex := fun hx => I.ok.nq a hx hb
  have := I.base.free a o ho h1 hx
  rw [e] at this
  cases this
 ·have := I.base.free b o q n hx
  rw [z, e] at this
  cases this
 ·have := (I.pin p hp).2.1
  rw [z, e] at this
  cases this
 ·have := I.bK x c q
  rw [z, e] at this
  cases this
end
section
variable {X : Cx} {e : Expr} {te : TE} {tt : TT}
def sH (te : TE) : TE := fun σ H Q => ∃ D ys, H D = some (.lst ys) /\ te σ (del H D) fun y H4 => H4 D = none -> Q y (upd H4 D (.lst ys))
theorem lN (he : PE X e te) : PE X e (sH te) := by
 intro pins s σ H Q I h
 obtain ⟨D, ys, hD, q⟩ := h
 obtain ⟨k1, k2, k3, k4⟩ := I.hidden hD
 have hz : ys.length <= sizeLine := (show aL X.prog X.w H s.heap D (.lst ys) from I.ah D _ hD).1
 obtain ⟨ob, ⟨its, n, hv, hob⟩, _, I'⟩ := I.hide hD k1
 refine au (he (pins ++ [(D, ob)]) s σ (del H D) _ I' q) fun v s1 ⟨y, H4, I4, r, k⟩ => ?_
 obtain ⟨h0, I5⟩ := I4.yR hv hob hz k2 k3 k4
 exact ⟨y, _, I5, r, k h0⟩
def sQ (tt : TT) : TT := fun σ H Q => ∃ D ys, H D = some (.lst ys) /\ tt σ (del H D) fun b H4 => H4 D = none -> Q b (upd H4 D (.lst ys))
theorem jt {ifs : List Expr} (he : sq X ifs tt) : sq X ifs (sQ tt) := by
 intro pins s σ H Q I h
 obtain ⟨D, ys, hD, q⟩ := h
 obtain ⟨k1, k2, k3, k4⟩ := I.hidden hD
 have hz : ys.length <= sizeLine := (show aL X.prog X.w H s.heap D (.lst ys) from I.ah D _ hD).1
 obtain ⟨ob, ⟨its, n, hv, hob⟩, _, I'⟩ := I.hide hD k1
 refine au (he (pins ++ [(D, ob)]) s σ (del H D) _ I' q) fun v s1 ⟨H4, I4, k⟩ => ?_
 obtain ⟨h0, I5⟩ := I4.yR hv hob hz k2 k3 k4
 exact ⟨_, I5, k h0⟩
end
theorem tI {H : Hp} {a : Addr} {o : HO} (h : H a = none) : del (upd H a o) a = H := by
 funext b
 unfold del upd
 by_cases hb : b = a
 ·rw [if_pos hb, hb, h]
 ·rw [if_neg hb, if_neg hb]
def cG (H : Hp) (a dx : Addr) : Hp := fun b => if b = a \/ b = dx then none else H b
def shown (H : Hp) (a dx C : Addr) (fs : List (Str × V)) : Hp := upd (upd H dx (.own a)) a (.ins C dx fs)
theorem BC {H : Hp} {a dx : Addr} : cG H a dx a = none := if_pos (.inl rfl)
theorem BD {H : Hp} {a dx : Addr} : cG H a dx dx = none := if_pos (.inr rfl)
theorem jk {H : Hp} {a dx b : Addr} (h : b ≠ a) (h' : b ≠ dx) : cG H a dx b = H b := if_neg (fun z => z.elim h h')
theorem jF {H : Hp} {a dx b : Addr} (h : H b = none) : cG H a dx b = none := by unfold cG; split <;> first | rfl | exact h
section
variable {X : Cx} {pins : List (Addr × Obj)} {σ : St} {H : Hp} {s : Shared} {a dx C : Addr} {fs : List (Str × V)}
theorem Inv.EJ (I : Inv X pins σ H s) (e : H a = some (.ins C dx fs)) (hfs : a ∉ X.fs) (hfd : dx ∉ X.fs) :
  ∃ od, (∃ mA es ep, od.data = .dict es ep /\ (∀ h : Heap, h.get? dx = some od -> h.Ns1 dx mA) /\ (∀ f, cz (fs.lookup f) (mA f)) /\ PySem.Within mA (fs.map (·.1))) /\ dx ≠ a /\ fs.length <= 1000 /\ Inv X (pins ++ [(a, PySem.W.instObj C dx), (dx, od)]) σ (cG H a dx) s := by
 obtain ⟨d, z, ne, ea, mA, ⟨od, es, ep, e2, c⟩, r⟩ := (show aL X.prog X.w H s.heap a (.ins C dx fs) from I.ah a _ e)
 have nc : ∀ v, od.data ≠ .cell v := fun v q => by rw [c.1] at q; cases q
 refine ⟨od, ⟨mA, es, ep, c.1, fun h q => ⟨od, es, ep, q, c⟩, r⟩, ne, z, ⟨I.ok, I.os, I.bare, ⟨I.base.keep, I.base.slot, fun b o q n hx => jF (I.base.free b o q n hx), I.base.there, fun b xs q => ?_, fun b o u q => ?_, fun b ps q => ?_⟩, I.loc, I.cell, jF I.free, fun x c q => jF (I.bK x c q), fun p hp => ?_, fun b o q => ?_, I.len⟩⟩
 ·have z := I.base.dG b xs q
  rw [jk (fun w => by rw [w, e] at z; cases z) (fun w => by rw [w, d] at z; cases z)]
  exact z
 ·have z := I.base.cE b o u q
  rw [jk (fun w => by rw [w, e] at z; cases z) (fun w => by rw [w, d] at z; cases z)]
  exact z
 ·obtain ⟨more, z⟩ := I.base.ee b ps q
  exact ⟨more, by rw [jk (fun w => by rw [w, e] at z; cases z) (fun w => by rw [w, d] at z; cases z)]; exact z⟩
 ·rw [<- List.append_assoc] at hp
  rcases List.mem_append.mp hp with z | z
  ·obtain ⟨p1, p2, p3, p4, p5⟩ := I.pin p z
   exact ⟨p1, jF p2, p3, p4, p5⟩
  ·rcases List.mem_cons.mp z with z | z
   ·rw [z]
    refine ⟨ea, BC, fun w => ?_, hfs, fun v q => by cases q⟩
    have f := I.free
    rw [<- w, e] at f
    cases f
   ·rw [List.mem_singleton.mp z]
    refine ⟨e2, BD, fun w => ?_, hfd, nc⟩
    have f := I.free
    rw [<- w, d] at f
    cases f
 ·by_cases hb : b = a
  ·rw [hb, BC] at q
   cases q
  ·by_cases hb2 : b = dx
   ·rw [hb2, BD] at q
    cases q
   ·rw [jk hb hb2] at q
    refine (I.ah b o q).iW (fun _ _ _ z => z) (fun c hc => ?_) (fun c xs hc => ?_)
    ·rw [jk (fun w => by rw [w, e] at hc; cases hc) (fun w => by rw [w, d] at hc; cases hc; exact hb rfl)]
     exact hc
    ·rw [jk (fun w => by rw [w, e] at hc; cases hc) (fun w => by rw [w, d] at hc; cases hc)]
     exact hc
theorem Inv.A0 {od : Obj} {mA : Str -> Option Value} (I : Inv X (pins ++ [(a, PySem.W.instObj C dx), (dx, od)]) σ H s) (hm : ∀ h : Heap, h.get? dx = some od -> h.Ns1 dx mA) (hr : ∀ f, cz (fs.lookup f) (mA f)) (hw : PySem.Within mA (fs.map (·.1)))
  (ne : dx ≠ a) (hz : fs.length <= 1000) (hne : ∀ b o, X.s₀.heap.get? b = some o -> X.H₀ b = none -> b ∉ X.ex -> b ≠ a /\ b ≠ dx) (hp0 : ∀ p ∈ X.pn ++ pins, p.1 ≠ a /\ p.1 ≠ dx) (hc : ∀ x c, X.env.cells.lookup x = some c -> c ≠ a /\ c ≠ dx) :
  H a = none /\ H dx = none /\ Inv X pins σ (shown H a dx C fs) s := by
 obtain ⟨g1, g2, g3, g4, g5⟩ := I.pin (a, PySem.W.instObj C dx) (List.mem_append_right _ (List.mem_append_right _ (List.mem_cons_self)))
 obtain ⟨k1, k2, k3, k4, k5⟩ := I.pin (dx, od) (List.mem_append_right _ (List.mem_append_right _ (List.mem_cons_of_mem _ (List.mem_singleton.mpr rfl))))
 have g2' : H a = none := g2
 have k2' : H dx = none := k2
 have sn : ∀ {b : Addr}, b ≠ a -> b ≠ dx -> shown H a dx C fs b = H b := fun h1 h2 => by unfold shown; rw [aE h1, aE h2]
 have sa : shown H a dx C fs a = some (.ins C dx fs) := aI
 have sd : shown H a dx C fs dx = some (.own a) := by unfold shown; rw [aE ne, aI]
 refine ⟨g2', k2', ⟨I.ok, I.os, I.bare, ⟨I.base.keep, I.base.slot, fun b o q n hx => ?_, I.base.there, fun b xs q => ?_, fun b o u q => ?_, fun b ps q => ?_⟩, I.loc, I.cell, ?_, fun x c q => ?_, fun p hp => ?_, fun b o q => ?_, I.len⟩⟩
 ·obtain ⟨n1, n2⟩ := hne b o q n hx
  rw [sn n1 n2]
  exact I.base.free b o q n hx
 ·have z := I.base.dG b xs q
  rw [sn (aJ z g2') (aJ z k2')]
  exact z
 ·have z := I.base.cE b o u q
  rw [sn (aJ z g2') (aJ z k2')]
  exact z
 ·obtain ⟨more, z⟩ := I.base.ee b ps q
  exact ⟨more, by rw [sn (aJ z g2') (aJ z k2')]; exact z⟩
 ·rw [sn (Ne.symm g3) (Ne.symm k3)]
  exact I.free
 ·obtain ⟨n1, n2⟩ := hc x c q
  rw [sn n1 n2]
  exact I.bK x c q
 ·obtain ⟨p1, p2, p3, p4, p5⟩ := I.pin p (by rw [<- List.append_assoc]; exact List.mem_append_left _ hp)
  obtain ⟨n1, n2⟩ := hp0 p hp
  refine ⟨p1, ?_, p3, p4, p5⟩
  rw [sn n1 n2]
  exact p2
 ·by_cases hb : b = a
  ·rw [hb, sa] at q
   cases q
   rw [hb]
   exact ⟨sd, hz, ne, g1, mA, hm _ k1, hr, hw⟩
  ·by_cases hb2 : b = dx
   ·rw [hb2, sd] at q
    cases q
    rw [hb2]
    exact ⟨_, k1⟩
   ·rw [sn hb hb2] at q
    refine (I.ah b o q).iW (fun _ _ _ z => z) (fun c hc => ?_) (fun c xs hc => ?_)
    ·rw [sn (aJ hc g2') (aJ hc k2')]
     exact hc
    ·rw [sn (aJ hc g2') (aJ hc k2')]
     exact hc
theorem Inv.qT {o : HO} (I : Inv X pins σ H s) (e : H a = some o) : a ∉ X.fs /\ (∀ b o, X.s₀.heap.get? b = some o -> X.H₀ b = none -> b ∉ X.ex -> b ≠ a) /\ (∀ p ∈ X.pn ++ pins, p.1 ≠ a) /\ ∀ x c, X.env.cells.lookup x = some c -> c ≠ a := by
 refine ⟨fun hb => ?_, fun b o q n hx z => ?_, fun p hp z => ?_, fun x c q z => ?_⟩
 ·have h1 := I.ok.uY a hb
  obtain ⟨_, o, ho, _⟩ := I.ok.e_.mem hb
  have hx : a ∉ X.ex := fun hx => I.ok.nq a hx hb
  have := I.base.free a o ho h1 hx
  rw [e] at this
  cases this
 ·have := I.base.free b o q n hx
  rw [z, e] at this
  cases this
 ·have := (I.pin p hp).2.1
  rw [z, e] at this
  cases this
 ·have := I.bK x c q
  rw [z, e] at this
  cases this
theorem wZ {G : Prop} (I : Inv X pins σ H s) (e : H a = some (.ins C dx fs))
  (h : ∀ pl : List (Addr × Obj), Inv X (pins ++ pl) σ (cG H a dx) s -> (∀ (σ' : St) (H' : Hp) (s' : Shared), Inv X (pins ++ pl) σ' H' s' -> H' a = none /\ H' dx = none /\ dx ≠ a /\ Inv X pins σ' (shown H' a dx C fs) s') -> G) : G := by
 obtain ⟨k1, k2, k3, k4⟩ := I.qT e
 obtain ⟨d, _⟩ := (show aL X.prog X.w H s.heap a (.ins C dx fs) from I.ah a _ e)
 obtain ⟨m1, m2, m3, m4⟩ := I.qT d
 obtain ⟨od, ⟨mA, es, ep, _, hm, hr, hw⟩, ne, hz, I'⟩ := I.EJ e k1 m1
 refine h _ I' fun σ' H' s' J => ?_
 obtain ⟨z1, z2, J'⟩ := J.A0 hm hr hw ne hz (fun b o q n hx => ⟨k2 b o q n hx, m2 b o q n hx⟩) (fun p hp => ⟨k3 p hp, m3 p hp⟩) (fun x c q => ⟨k4 x c q, m4 x c q⟩)
 exact ⟨z1, z2, ne, J'⟩
end
section
variable {X : Cx} {e : Expr} {te : TE} {st : Stmt} {ts : TS}
def Av (te : TE) : TE := fun σ H Q => ∃ a dx C fs, H a = some (.ins C dx fs) /\ te σ (cG H a dx) fun y H4 => H4 a = none -> H4 dx = none -> dx ≠ a -> Q y (shown H4 a dx C fs)
theorem u5 (he : PE X e te) : PE X e (Av te) := by
 intro pins s σ H Q I ⟨a, dx, C, fs, ha, q⟩
 refine wZ I ha fun pl I' back => ?_
 refine au (he (pins ++ pl) s σ _ _ I' q) fun v s1 ⟨y, H4, I4, r, k⟩ => ?_
 obtain ⟨z1, z2, ne, J⟩ := back _ _ _ I4
 exact ⟨y, _, J, r, k z1 z2 ne⟩
def Ah (ts : TS) : TS := fun D σ H => ∃ a dx C fs, H a = some (.ins C dx fs) /\
 ts ⟨fun σ' H4 => H4 a = none -> H4 dx = none -> dx ≠ a -> D.nx σ' (shown H4 a dx C fs), fun v H4 => H4 a = none -> H4 dx = none -> dx ≠ a -> D.rt v (shown H4 a dx C fs),
  fun σ' H4 => H4 a = none -> H4 dx = none -> dx ≠ a -> D.bk σ' (shown H4 a dx C fs), fun σ' H4 => H4 a = none -> H4 dx = none -> dx ≠ a -> D.ct σ' (shown H4 a dx C fs)⟩ σ (cG H a dx)
theorem u_ (he : PS X st ts) : PS X st (Ah ts) := by
 intro pins s σ H D I ⟨a, dx, C, fs, ha, q⟩
 refine wZ I ha fun pl I' back => ?_
 refine au (he (pins ++ pl) s σ _ _ I' q) fun f s1 hq => ?_
 cases f with
 | next =>
  obtain ⟨σ', H', J, k⟩ := hq
  obtain ⟨z1, z2, ne, J'⟩ := back _ _ _ J
  exact ⟨σ', _, J', k z1 z2 ne⟩
 | brk =>
  obtain ⟨σ', H', J, k⟩ := hq
  obtain ⟨z1, z2, ne, J'⟩ := back _ _ _ J
  exact ⟨σ', _, J', k z1 z2 ne⟩
 | cont =>
  obtain ⟨σ', H', J, k⟩ := hq
  obtain ⟨z1, z2, ne, J'⟩ := back _ _ _ J
  exact ⟨σ', _, J', k z1 z2 ne⟩
 | ret u =>
  obtain ⟨v, σ', H', J, r, k⟩ := hq
  obtain ⟨z1, z2, ne, J'⟩ := back _ _ _ J
  exact ⟨v, σ', _, J', r, k z1 z2 ne⟩
theorem gv {H : Hp} {a dx C : Addr} {fs : List (Str × V)} (h1 : H a = none) (h2 : H dx = none) : cG (shown H a dx C fs) a dx = H := by
 funext b
 unfold cG shown upd
 by_cases hb : b = a
 ·rw [if_pos (.inl hb), hb, h1]
 ·by_cases hb2 : b = dx
  ·rw [if_pos (.inr hb2), hb2, h2]
  ·rw [if_neg (fun z => z.elim hb hb2), if_neg hb, if_neg hb2]
theorem vR {H : Hp} {a dx C : Addr} {fs fs' : List (Str × V)} : upd (shown H a dx C fs) a (.ins C dx fs') = shown H a dx C fs' := g8
theorem jY {H : Hp} {a dx C : Addr} {fs : List (Str × V)} : shown H a dx C fs a = some (.ins C dx fs) := aI
end
def hidL (H : Hp) (L : List Addr) : Hp := fun b => if b ∈ L then none else H b
def showL (H' H : Hp) (L : List Addr) : Hp := fun b => if b ∈ L then H b else H' b
theorem hidL_in {H : Hp} {L : List Addr} {b : Addr} (h : b ∈ L) : hidL H L b = none := if_pos h
theorem hidL_out {H : Hp} {L : List Addr} {b : Addr} (h : b ∉ L) : hidL H L b = H b := if_neg h
theorem hidL_none {H : Hp} {L : List Addr} {b : Addr} (h : H b = none) : hidL H L b = none := by unfold hidL; split <;> first | rfl | exact h
theorem hidL_some {H : Hp} {L : List Addr} {b : Addr} {o : HO} (h : hidL H L b = some o) : b ∉ L /\ H b = some o := by
 unfold hidL at h
 split at h
 ·cases h
 ·rename_i z; exact ⟨z, h⟩
theorem hidL_same {H : Hp} {L : List Addr} : aK (hidL H L) H := fun b o h => (hidL_some h).2
theorem hidL_nil {H : Hp} : hidL H [] = H := by funext b; exact if_neg (fun h => nomatch h)
theorem showL_in {H H' : Hp} {L : List Addr} {b : Addr} (h : b ∈ L) : showL H' H L b = H b := if_pos h
theorem showL_out {H H' : Hp} {L : List Addr} {b : Addr} (h : b ∉ L) : showL H' H L b = H' b := if_neg h
theorem hidL_showL {H H' : Hp} {L : List Addr} (h : ∀ b ∈ L, H' b = none) : hidL (showL H' H L) L = H' := by
 funext b
 by_cases hb : b ∈ L
 ·rw [hidL_in hb, h b hb]
 ·rw [hidL_out hb, showL_out hb]
inductive HidOk (H : Hp) (L : List Addr) (a : Addr) : Prop
 | lst (xs : List V) (h : H a = some (.lst xs))
 | dK (kvs : List (Key × V)) (h : H a = some (.dK kvs))
 | ins (C dx : Addr) (fs : List (Str × V)) (h : H a = some (.ins C dx fs)) (hd : dx ∈ L)
 | own (C b : Addr) (fs : List (Str × V)) (h : H a = some (.own b)) (hb : b ∈ L) (hi : H b = some (.ins C a fs))
section
variable {X : Cx} {pins : List (Addr × Obj)} {σ : St} {H : Hp} {s : Shared} {L : List Addr}
theorem HidOk.there {a : Addr} (h : HidOk H L a) : ∃ o, H a = some o := by cases h <;> exact ⟨_, by assumption⟩
theorem HidOk.notup {a : Addr} (h : HidOk H L a) : (∀ xs, H a ≠ some (.tup xs)) /\ (∀ o u, H a ≠ some (.fT o u)) /\ (∀ ps, H a ≠ some (.yP ps)) /\ ∀ b, H a = some (.own b) -> b ∈ L := by
 cases h with
 | lst xs h => rw [h]; exact ⟨fun _ q => (nomatch q), fun _ _ q => (nomatch q), fun _ q => (nomatch q), fun _ q => (nomatch q)⟩
 | dK xs h => rw [h]; exact ⟨fun _ q => (nomatch q), fun _ _ q => (nomatch q), fun _ q => (nomatch q), fun _ q => (nomatch q)⟩
 | ins C dx fs h hd => rw [h]; exact ⟨fun _ q => (nomatch q), fun _ _ q => (nomatch q), fun _ q => (nomatch q), fun _ q => (nomatch q)⟩
 | own C b fs h hb hi => rw [h]; exact ⟨fun _ q => (nomatch q), fun _ _ q => (nomatch q), fun _ q => (nomatch q), fun c q => by cases q; exact hb⟩
theorem HidOk.obj {a : Addr} (h : HidOk H L a) (I : Inv X pins σ H s) : ∃ o, s.heap.get? a = some o /\ ∀ v, o.data ≠ .cell v := by
 cases h with
 | lst xs h =>
  obtain ⟨_, its, n, _, ho⟩ := (show aL X.prog X.w H s.heap a (.lst xs) from I.ah a _ h)
  exact ⟨_, ho, fun v q => by cases q⟩
 | dK kvs h =>
  obtain ⟨_, _, vs, _, ob, es, ep, e, c⟩ := (show aL X.prog X.w H s.heap a (.dK kvs) from I.ah a _ h)
  exact ⟨_, e, fun v q => by rw [c.2.1] at q; cases q⟩
 | ins C dx fs h hd =>
  obtain ⟨_, _, _, e, _⟩ := (show aL X.prog X.w H s.heap a (.ins C dx fs) from I.ah a _ h)
  exact ⟨_, e, fun v q => by cases q⟩
 | own C b fs h hb hi =>
  obtain ⟨_, _, _, _, mA, ⟨od, es, ep, e2, c⟩, r⟩ := (show aL X.prog X.w H s.heap b (.ins C a fs) from I.ah b _ hi)
  exact ⟨_, e2, fun v q => by rw [c.1] at q; cases q⟩
theorem frameM {G : Prop} (I : Inv X pins σ H s) (hL : ∀ a ∈ L, HidOk H L a)
  (h : ∀ pl : List (Addr × Obj), Inv X (pins ++ pl) σ (hidL H L) s -> (∀ b ∈ L, ∃ o, (b, o) ∈ pl) -> (∀ (σ' : St) (H' : Hp) (s' : Shared), Inv X (pins ++ pl) σ' H' s' -> (∀ b ∈ L, H' b = none) /\ Inv X pins σ' (showL H' H L) s') -> G) : G := by
 have memL : ∀ {b : Addr} {o : Obj}, (b, o) ∈ gP L s.heap ↔ b ∈ L /\ s.heap.get? b = some o := fun {b o} => ⟨fun q => jr q, fun q => b6 q.1 q.2⟩
 refine h (gP L s.heap) ?_ (fun b hb => let ⟨o, e, _⟩ := (hL b hb).obj I; ⟨o, memL.mpr ⟨hb, e⟩⟩) fun σ' H' s' J => ?_
 ·refine ⟨I.ok, I.os, I.bare, ⟨I.base.keep, I.base.slot, fun b o q n hx => hidL_none (I.base.free b o q n hx), I.base.there, fun b xs q => ?_, fun b o u q => ?_, fun b ps q => ?_⟩, I.loc, I.cell, hidL_none I.free, fun x c q => hidL_none (I.bK x c q), fun p hp => ?_, fun b o q => ?_, I.len⟩
  ·have z := I.base.dG b xs q
   rw [hidL_out (fun w => (hL b w).notup.1 _ z)]; exact z
  ·have z := I.base.cE b o u q
   rw [hidL_out (fun w => (hL b w).notup.2.1 _ _ z)]; exact z
  ·obtain ⟨more, z⟩ := I.base.ee b ps q
   exact ⟨more, by rw [hidL_out (fun w => (hL b w).notup.2.2.1 _ z)]; exact z⟩
  ·rw [<- List.append_assoc] at hp
   rcases List.mem_append.mp hp with z | z
   ·obtain ⟨p1, p2, p3, p4, p5⟩ := I.pin p z
    exact ⟨p1, hidL_none p2, p3, p4, p5⟩
   ·obtain ⟨z1, z2⟩ := jr z
    obtain ⟨o, e⟩ := (hL p.1 z1).there
    refine ⟨z2, hidL_in z1, fun w => ?_, (I.qT e).1, fun v q => ?_⟩
    ·have f := I.free
     rw [<- w, e] at f
     cases f
    ·obtain ⟨ob, e2, nc⟩ := (hL p.1 z1).obj I
     rw [z2] at e2
     cases e2
     exact nc v q
  ·obtain ⟨hb, q⟩ := hidL_some q
   refine (I.ah b o q).iW (fun _ _ _ z => z) (fun c hc => ?_) (fun c xs hc => ?_)
   ·rw [hidL_out (fun w => hb ((hL c w).notup.2.2.2 _ hc))]; exact hc
   ·rw [hidL_out (fun w => (hL c w).notup.1 _ hc)]; exact hc
 ·have pin : ∀ b ∈ L, H' b = none /\ ∀ o, s.heap.get? b = some o -> s'.heap.get? b = some o := fun b hb => by
   obtain ⟨o, e, _⟩ := (hL b hb).obj I
   obtain ⟨g1, g2, _⟩ := J.pin (b, o) (List.mem_append_right _ (List.mem_append_right _ (memL.mpr ⟨hb, e⟩)))
   exact ⟨g2, fun o' e' => by rw [e] at e'; cases e'; exact g1⟩
  refine ⟨fun b hb => (pin b hb).1, ⟨J.ok, J.os, J.bare, ⟨J.base.keep, J.base.slot, fun b o q n hx => ?_, J.base.there, fun b xs q => ?_, fun b o u q => ?_, fun b ps q => ?_⟩, J.loc, J.cell, ?_, fun x c q => ?_, fun p hp => ?_, fun b o q => ?_, J.len⟩⟩
  ·rw [showL_out (fun w => let ⟨o', e⟩ := (hL b w).there; (I.qT e).2.1 b o q n hx rfl)]
   exact J.base.free b o q n hx
  ·have z := J.base.dG b xs q
   rw [showL_out (fun w => by rw [(pin b w).1] at z; cases z)]; exact z
  ·have z := J.base.cE b o u q
   rw [showL_out (fun w => by rw [(pin b w).1] at z; cases z)]; exact z
  ·obtain ⟨more, z⟩ := J.base.ee b ps q
   exact ⟨more, by rw [showL_out (fun w => by rw [(pin b w).1] at z; cases z)]; exact z⟩
  ·rw [showL_out (fun w => let ⟨o', e⟩ := (hL _ w).there; by rw [I.free] at e; cases e)]
   exact J.free
  ·rw [showL_out (fun w => let ⟨o', e⟩ := (hL _ w).there; by rw [I.bK x c q] at e; cases e)]
   exact J.bK x c q
  ·obtain ⟨p1, p2, p3, p4, p5⟩ := J.pin p (by rw [<- List.append_assoc]; exact List.mem_append_left _ hp)
   refine ⟨p1, ?_, p3, p4, p5⟩
   rw [showL_out (fun w => let ⟨o', e⟩ := (hL _ w).there; (I.qT e).2.2.1 p hp rfl)]
   exact p2
  ·by_cases hb : b ∈ L
   ·rw [showL_in hb] at q
    have k := (pin b hb).2
    have w := hL b hb
    cases w with
    | lst xs h =>
     rw [h] at q; cases q
     obtain ⟨hz, its, n, hv, ho⟩ := (show aL X.prog X.w H s.heap b (.lst xs) from I.ah b _ h)
     exact ⟨hz, its, n, hv, k _ ho⟩
    | dK kvs h =>
     rw [h] at q; cases q
     obtain ⟨z1, z2, vs, hv, ob, es, ep, e, c⟩ := (show aL X.prog X.w H s.heap b (.dK kvs) from I.ah b _ h)
     exact ⟨z1, z2, vs, hv, ob, es, ep, k _ e, c⟩
    | ins C dx fs h hd =>
     rw [h] at q; cases q
     obtain ⟨d, z, ne, ea, mA, ⟨od, es, ep, e2, c⟩, r⟩ := (show aL X.prog X.w H s.heap b (.ins C dx fs) from I.ah b _ h)
     exact ⟨by rw [showL_in hd]; exact d, z, ne, k _ ea, mA, ⟨od, es, ep, (pin dx hd).2 _ e2, c⟩, r⟩
    | own C a fs h ha hi =>
     rw [h] at q; cases q
     obtain ⟨o, e⟩ := (show aL X.prog X.w H s.heap b (.own a) from I.ah b _ h)
     exact ⟨o, k _ e⟩
   ·rw [showL_out hb] at q
    refine (J.ah b o q).iW (fun _ _ _ z => z) (fun c hc => ?_) (fun c xs hc => ?_)
    ·rw [showL_out (fun w => by rw [(pin c w).1] at hc; cases hc)]; exact hc
    ·rw [showL_out (fun w => by rw [(pin c w).1] at hc; cases hc)]; exact hc
end
section
variable {X : Cx} {e : Expr} {te : TE} {tt : TT} {st : Stmt} {ts : TS} {tg iter : Expr} {wi : TI}
def frE (te : TE) : TE := fun σ H Q => ∃ L, (∀ a ∈ L, HidOk H L a) /\ te σ (hidL H L) fun y H4 => (∀ b ∈ L, H4 b = none) -> Q y (showL H4 H L)
theorem pe_frM (he : PE X e te) : PE X e (frE te) := by
 intro pins s σ H Q I ⟨L, hL, q⟩
 refine frameM I hL fun pl I' _ back => ?_
 refine au (he (pins ++ pl) s σ _ _ I' q) fun v s1 ⟨y, H4, I4, r, k⟩ => ?_
 obtain ⟨z, J⟩ := back _ _ _ I4
 exact ⟨y, _, J, r, k z⟩
def frEnds (D : Ends) (H : Hp) (L : List Addr) : Ends := ⟨fun σ' H4 => (∀ b ∈ L, H4 b = none) -> D.nx σ' (showL H4 H L), fun v H4 => (∀ b ∈ L, H4 b = none) -> D.rt v (showL H4 H L),
 fun σ' H4 => (∀ b ∈ L, H4 b = none) -> D.bk σ' (showL H4 H L), fun σ' H4 => (∀ b ∈ L, H4 b = none) -> D.ct σ' (showL H4 H L)⟩
def frS (ts : TS) : TS := fun D σ H => ∃ L, (∀ a ∈ L, HidOk H L a) /\ ts (frEnds D H L) σ (hidL H L)
theorem sp_back {pins pl : List (Addr × Obj)} {D : Ends} {H : Hp} {L : List Addr} {f : Flow} {s1 : Shared} (back : ∀ (σ' : St) (H' : Hp) (s' : Shared), Inv X (pins ++ pl) σ' H' s' -> (∀ b ∈ L, H' b = none) /\ Inv X pins σ' (showL H' H L) s')
  (hq : SP X (pins ++ pl) (frEnds D H L) f s1) : SP X pins D f s1 := by
 cases f with
 | next => obtain ⟨σ', H', J, k⟩ := hq; obtain ⟨z, J'⟩ := back _ _ _ J; exact ⟨σ', _, J', k z⟩
 | brk => obtain ⟨σ', H', J, k⟩ := hq; obtain ⟨z, J'⟩ := back _ _ _ J; exact ⟨σ', _, J', k z⟩
 | cont => obtain ⟨σ', H', J, k⟩ := hq; obtain ⟨z, J'⟩ := back _ _ _ J; exact ⟨σ', _, J', k z⟩
 | ret u => obtain ⟨v, σ', H', J, r, k⟩ := hq; obtain ⟨z, J'⟩ := back _ _ _ J; exact ⟨v, σ', _, J', r, k z⟩
theorem ps_frM (he : PS X st ts) : PS X st (frS ts) := by
 intro pins s σ H D I ⟨L, hL, q⟩
 refine frameM I hL fun pl I' _ back => ?_
 exact au (he (pins ++ pl) s σ _ _ I' q) fun f s1 hq => sp_back back hq
theorem pss_frM {rest : List Stmt} (he : gi X rest ts) : gi X rest (frS ts) := by
 intro pins s σ H D I ⟨L, hL, q⟩
 refine frameM I hL fun pl I' _ back => ?_
 exact au (he (pins ++ pl) s σ _ _ I' q) fun f s1 hq => sp_back back hq
def frI (wi : TI) : TI := fun σ H R => ∃ L, (∀ a ∈ L, HidOk H L a) /\ wi σ (hidL H L) fun J H4 => (∀ b ∈ L, H4 b = none) -> R J (showL H4 H L)
theorem pi_frM (he : PI X tg iter wi) : PI X tg iter (frI wi) := by
 intro pins s σ H R I ⟨L, hL, q⟩
 refine frameM I hL fun pl I' hpl back => ?_
 refine au (he (pins ++ pl) s σ _ _ I' q) fun v s1 h1 => au h1 fun itv s2 ⟨it, fp, tn, J, H', e1, I2, T, t0, hf, k⟩ => ?_
 obtain ⟨z, J2⟩ := back _ _ _ I2
 have hn : ∀ b ∈ fp, b ∉ L := fun b hb hl => let ⟨o, ho⟩ := hpl b hl; (hf b hb).2.2.2.2.2 (b, o) (List.mem_append_right _ (List.mem_append_right _ ho)) rfl
 refine ⟨it, fp, tn, J, _, e1, J2, T, t0, fun b hb => ?_, k z⟩
 obtain ⟨f1, f2, f3, f4, f5, f6⟩ := hf b hb
 exact ⟨by rw [showL_out (hn b hb)]; exact f1, f2, f3, f4, f5, fun p hp => f6 p (by rw [<- List.append_assoc]; exact List.mem_append_left _ hp)⟩
end
end L2
namespace DC
open PySem PySem.Spec PyProof.Rows L2
inductive D where
 | aV | bl (b : Bool) | int (i : Int) | str (x : Str)
 | lst (xs : List D) | tup (xs : List D)
 | obj (C : Addr) (fs : List (Str × D))
 | dK (kvs : List (Key × D)) | dT (kvs : List (List Key × D))
 | adr (a : Addr)
 | exc (a C : Addr) (fs : List (Str × D))
def je (a C : Addr) (dx : Option Addr) : HO := .ext fun h => ∃ oe vs, h.get? a = some oe /\ oe.cls = .ref C /\ oe.dict = dx /\ oe.data = .fields vs /\ vs[2]? = some .none
def mR (d : Addr) (fs : List (Str × V)) : HO := .ext fun h => ∃ mA, h.Ns1 d mA /\ (∀ f, cz (fs.lookup f) (mA f)) /\ PySem.Within mA (fs.map (·.1))
def dg (H : Hp) (dx : Option Addr) (fs : List (Str × V)) : Prop := match dx with
 | none => fs = []
 | some d => Rd H d (mR d fs)
theorem fe {H H' : Hp} {a : Addr} {u : HO} (s : aK H H') (r : Rd H a u) : Rd H' a u := by
 rcases r with r | ⟨o, r⟩
 ·exact .inl (s _ _ r)
 ·exact .inr ⟨o, s _ _ r⟩
theorem dg.same {H H' : Hp} {dx : Option Addr} {fs : List (Str × V)} (s : aK H H') (h : dg H dx fs) : dg H' dx fs := by
 cases dx with
 | none => exact h
 | some d => exact fe s h
mutual
inductive Dv (K : PySem.W.Frag) (H : Hp) : V -> D -> Prop
 | aV : Dv K H .aV .aV
 | bl (b : Bool) : Dv K H (.bl b) (.bl b)
 | int (i : Int) : Dv K H (.int i) (.int i)
 | str (x : Str) : Dv K H (.str x) (.str x)
 | lst {a : Addr} {xs : List V} {ds : List D} : c_ K H a xs -> ar K H xs ds -> Dv K H (.ref a) (.lst ds)
 | tup {a : Addr} {xs : List V} {ds : List D} : ej K H a xs -> ar K H xs ds -> Dv K H (.ref a) (.tup ds)
 | obj {a C dx : Addr} {fs : List (Str × V)} {gs : List (Str × D)} : Rd H a (.ins C dx fs) -> dH K H fs gs -> Dv K H (.ref a) (.obj C gs)
 | dK {a : Addr} {kvs : List (Key × V)} {gs : List (Key × D)} : Rd H a (.dK kvs) -> dZ K H kvs gs -> Dv K H (.ref a) (.dK gs)
 | dT {a : Addr} {kvs : List (List Key × V)} {gs : List (List Key × D)} : Rd H a (.dT kvs) -> sY K H kvs gs -> Dv K H (.ref a) (.dT gs)
 | adr (a : Addr) : Dv K H (.ref a) (.adr a)
 | exc {a C : Addr} {dx : Option Addr} {fs : List (Str × V)} {gs : List (Str × D)} : Rd H a (je a C dx) -> dg H dx fs -> dH K H fs gs -> Dv K H (.ref a) (.exc a C gs)
inductive ar (K : PySem.W.Frag) (H : Hp) : List V -> List D -> Prop
 | nil : ar K H [] []
 | cons {x : V} {d : D} {xs : List V} {ds : List D} : Dv K H x d -> ar K H xs ds -> ar K H (x :: xs) (d :: ds)
inductive dH (K : PySem.W.Frag) (H : Hp) : List (Str × V) -> List (Str × D) -> Prop
 | nil : dH K H [] []
 | cons {k : Str} {x : V} {d : D} {xs : List (Str × V)} {ds : List (Str × D)} : Dv K H x d -> dH K H xs ds -> dH K H ((k, x) :: xs) ((k, d) :: ds)
inductive dZ (K : PySem.W.Frag) (H : Hp) : List (Key × V) -> List (Key × D) -> Prop
 | nil : dZ K H [] []
 | cons {k : Key} {x : V} {d : D} {xs : List (Key × V)} {ds : List (Key × D)} : Dv K H x d -> dZ K H xs ds -> dZ K H ((k, x) :: xs) ((k, d) :: ds)
inductive sY (K : PySem.W.Frag) (H : Hp) : List (List Key × V) -> List (List Key × D) -> Prop
 | nil : sY K H [] []
 | cons {k : List Key} {x : V} {d : D} {xs : List (List Key × V)} {ds : List (List Key × D)} : Dv K H x d -> sY K H xs ds -> sY K H ((k, x) :: xs) ((k, d) :: ds)
end
theorem j9 {K : PySem.W.Frag} {H H' : Hp} {a : Addr} {xs : List V} (e : aK H H') (h : ej K H a xs) : ej K H' a xs := by
 rcases h with (h | ⟨o, h⟩) | h
 ·exact .inl (.inl (e _ _ h))
 ·exact .inl (.inr ⟨o, e _ _ h⟩)
 ·exact .inr h
section
variable {K : PySem.W.Frag} {H H' : Hp}
mutual
theorem Dv.same (s : aK H H') : ∀ {v : V} {d : D}, Dv K H v d -> Dv K H' v d
 | _, _, .aV => .aV
 | _, _, .bl b => .bl b
 | _, _, .int i => .int i
 | _, _, .str x => .str x
 | _, _, .lst h1 h2 => .lst (s.seq h1) (ar.same s h2)
 | _, _, .tup h1 h2 => .tup (j9 s h1) (ar.same s h2)
 | _, _, .obj h1 h2 => .obj (fe s h1) (dH.same s h2)
 | _, _, .dK h1 h2 => .dK (fe s h1) (dZ.same s h2)
 | _, _, .dT h1 h2 => .dT (fe s h1) (sY.same s h2)
 | _, _, .adr a => .adr a
 | _, _, .exc h1 h2 h3 => .exc (fe s h1) (h2.same s) (dH.same s h3)
theorem ar.same (s : aK H H') : ∀ {vs : List V} {ds : List D}, ar K H vs ds -> ar K H' vs ds
 | _, _, .nil => .nil
 | _, _, .cons h1 h2 => .cons (Dv.same s h1) (ar.same s h2)
theorem dH.same (s : aK H H') : ∀ {vs : List (Str × V)} {ds : List (Str × D)}, dH K H vs ds -> dH K H' vs ds
 | _, _, .nil => .nil
 | _, _, .cons h1 h2 => .cons (Dv.same s h1) (dH.same s h2)
theorem dZ.same (s : aK H H') : ∀ {vs : List (Key × V)} {ds : List (Key × D)}, dZ K H vs ds -> dZ K H' vs ds
 | _, _, .nil => .nil
 | _, _, .cons h1 h2 => .cons (Dv.same s h1) (dZ.same s h2)
theorem sY.same (s : aK H H') : ∀ {vs : List (List Key × V)} {ds : List (List Key × D)}, sY K H vs ds -> sY K H' vs ds
 | _, _, .nil => .nil
 | _, _, .cons h1 h2 => .cons (Dv.same s h1) (sY.same s h2)
end
theorem ar.length : ∀ {vs : List V} {ds : List D}, ar K H vs ds -> vs.length = ds.length
 | _, _, .nil => rfl
 | _, _, .cons _ h => congrArg (· + 1) (ar.length h)
theorem ar.get : ∀ {vs : List V} {ds : List D} {i : Nat} {d : D}, ar K H vs ds -> ds[i]? = some d -> ∃ v, vs[i]? = some v /\ Dv K H v d
 | _, _, _, _, .nil, e => by simp at e
 | _, _, 0, _, .cons h _, e => by simp at e; subst e; exact ⟨_, rfl, h⟩
 | _, _, i + 1, d, .cons _ h, e => by
  obtain ⟨v, h1, h2⟩ := ar.get (i := i) (d := d) h (by simpa using e)
  exact ⟨v, by simpa using h1, h2⟩
theorem ar.wb : ∀ {vs : List V} {ds : List D} {i : Nat} {v : V}, ar K H vs ds -> vs[i]? = some v -> ∃ d, ds[i]? = some d /\ Dv K H v d
 | _, _, _, _, .nil, e => by simp at e
 | _, _, 0, _, .cons h _, e => by simp at e; subst e; exact ⟨_, rfl, h⟩
 | _, _, i + 1, v, .cons _ h, e => by
  obtain ⟨d, h1, h2⟩ := ar.wb (i := i) (v := v) h (by simpa using e)
  exact ⟨d, by simpa using h1, h2⟩
theorem ar.append : ∀ {vs ws : List V} {ds es : List D}, ar K H vs ds -> ar K H ws es -> ar K H (vs ++ ws) (ds ++ es)
 | _, _, _, _, .nil, h => h
 | _, _, _, _, .cons a r, h => .cons a (ar.append r h)
theorem ar.take : ∀ {vs : List V} {ds : List D} (n : Nat), ar K H vs ds -> ar K H (vs.take n) (ds.take n)
 | _, _, 0, _ => .nil
 | _, _, _ + 1, .nil => .nil
 | _, _, n + 1, .cons r t => .cons r (ar.take n t)
theorem ar.drop : ∀ {vs : List V} {ds : List D} (n : Nat), ar K H vs ds -> ar K H (vs.drop n) (ds.drop n)
 | _, _, 0, r => r
 | _, _, _ + 1, .nil => .nil
 | _, _, n + 1, .cons _ t => ar.drop n t
theorem dH.look : ∀ {fs : List (Str × V)} {gs : List (Str × D)} {f : Str} {d : D}, dH K H fs gs -> gs.lookup f = some d -> ∃ v, fs.lookup f = some v /\ Dv K H v d
 | _, _, _, _, .nil, e => by simp at e
 | _, _, f, d, .cons (k := k) h r, e => by
  rw [List.lookup_cons] at e ⊢
  cases q : f == k with
  | true =>
   rw [q] at e
   cases e
   exact ⟨_, rfl, h⟩
  | false =>
   rw [q] at e
   exact dH.look r e
theorem dH.none : ∀ {fs : List (Str × V)} {gs : List (Str × D)} {f : Str}, dH K H fs gs -> gs.lookup f = Option.none -> fs.lookup f = Option.none
 | _, _, _, .nil, _ => rfl
 | _, _, f, .cons (k := k) h r, e => by
  rw [List.lookup_cons] at e ⊢
  cases q : f == k with
  | true => rw [q] at e; cases e
  | false =>
   rw [q] at e
   exact dH.none r e
end
section
variable {X : Cx} {pins : List (Addr × Obj)} {σ : L2.St} {H : Hp} {s : Shared} {a C dx : Addr} {fs : List (Str × V)} {f : Str} {v : V} {A : Around} {E : Value -> Shared -> Prop}
theorem lD {P : Program} {w : World} {h : Heap} (ah : cQ P w H h) (e : Rd H a (.ins C dx fs)) : ∃ mA, pJ h a dx C mA /\ (∀ f, cz (fs.lookup f) (mA f)) /\ PySem.Within mA (fs.map (·.1)) /\ fs.length <= 1000 /\ H dx = some (.own a) := by
 obtain ⟨d, z, ne, ob, mA, n, r, q⟩ := (show aL P w H h a (.ins C dx fs) from e.ok ah)
 exact ⟨mA, ⟨ob, n, ne⟩, r, q, z, d⟩
theorem pj {b : Bool} {Q : Value -> Shared -> Prop} (I : Inv X pins σ H s) (e : Rd H a (.ins C dx fs)) (c : pH X.K C) (n : cy X.K C f) (l : fs.lookup f = some v)
  (h : ∀ u s', Inv X pins σ H s' -> RelV v u -> Q u s') : wpAny (model X.prog X.w) A (getAttr (.ref a) f b) Q E s := by
 obtain ⟨mA, O, r, _, _, _⟩ := lD I.ah e
 obtain ⟨u, hu, ru⟩ := cz.some_of (v := v) (o := mA f) (by rw [<- l]; exact r f)
 exact get_map I.iQ O (c.get f) c.hd n hu (mr ru) (h u _ (I.tok _) ru)
theorem j4 {m : Str} {g : Addr} {pl : Sem Bool} {Q : Value × List Value -> Shared -> Prop} (I : Inv X pins σ H s) (e : Rd H a (.ins C dx fs)) (c : pH X.K C) (k : Meth X.K C m g) (l : fs.lookup m = none)
  (h : Q (.ref g, [.ref a]) s) : wpAny (model X.prog X.w) A (getMethod (.ref a) m pl) Q E s := by
 obtain ⟨mA, O, r, _, _, _⟩ := lD I.ah e
 have hn : mA m = none := cz.none_of (by rw [<- l]; exact r m)
 exact wc I.iQ O (c.get m) k.at_ k.fn hn h
def FH (K : PySem.W.Frag) (ta : TE) (f : Str) : TE := fun σ H Q => ta σ H fun x H1 => ∃ a C dx fs v, x = .ref a /\ Rd H1 a (.ins C dx fs) /\ pH K C /\ cy K C f /\ fs.lookup f = some v /\ Q v H1
theorem AL {e : Expr} {ta : TE} {pos : Pos} (he : PE X e ta) (hb : attributeBase e f X.env (eval e X.env) = eval e X.env) : PE X (.Attribute e f pos) (FH X.K ta f) := by
 intro pins s σ H Q I h
 refine sr hb (au (he pins s σ H _ I h) fun u s1 ⟨x, H1, I1, rx, a, C, dx, fs, v, ex, ea, c, n, l, q⟩ => ?_)
 subst ex
 obtain rfl : u = Value.ref a := rx
 exact pj I1 ea c n l fun u' s2 I2 ru => ⟨v, H1, I2, ru, q⟩
end
abbrev SD := List (Option D)
abbrev ED := SD -> (D -> Prop) -> Prop
abbrev TD := SD -> (Bool -> Prop) -> Prop
abbrev AD := SD -> (List D -> Prop) -> Prop
structure aw (K : PySem.W.Frag) (H : Hp) (σ : L2.St) (δ : SD) : Prop where
 len : σ.length = δ.length
 get : ∀ (i : Nat) (d : D), δ[i]? = some (some d) -> ∃ v, σ[i]? = some (some v) /\ Dv K H v d
theorem aw.same {K : PySem.W.Frag} {H H' : Hp} {σ : L2.St} {δ : SD} (r : aw K H σ δ) (s : aK H H') : aw K H' σ δ :=
 ⟨r.len, fun i d h => let ⟨v, h1, h2⟩ := r.get i d h; ⟨v, h1, h2.same s⟩⟩
theorem aw.set {K : PySem.W.Frag} {H : Hp} {σ : L2.St} {δ : SD} (r : aw K H σ δ) {v : V} {d : D} (i : Nat) (h : Dv K H v d) : aw K H (σ.set i (some v)) (δ.set i (some d)) := by
 refine ⟨by rw [List.length_set, List.length_set]; exact r.len, fun j e hj => ?_⟩
 rw [List.getElem?_set] at hj ⊢
 split at hj
 ·rename_i q
  subst q
  have hl := r.len
  split at hj
  ·rename_i q2
   cases hj
   exact ⟨v, by rw [if_pos rfl, if_pos (by omega)], h⟩
  ·cases hj
 ·rename_i q
  rw [if_neg q]
  exact r.get j e hj
def kD (K : PySem.W.Frag) (H : Hp) (Q : VK) : D -> Prop := fun d => ∀ v H', aK H H' -> Dv K H' v d -> Q v H'
def kB (H : Hp) (Q : Bool -> Hp -> Prop) : Bool -> Prop := fun b => ∀ H', aK H H' -> Q b H'
def kA (K : PySem.W.Frag) (H : Hp) (Q : List V -> Hp -> Prop) : List D -> Prop := fun ds => ∀ vs H', aK H H' -> ar K H' vs ds -> Q vs H'
theorem kD.on {K : PySem.W.Frag} {H H1 : Hp} {Q : VK} {d : D} (s : aK H H1) (h : kD K H Q d) : kD K H1 Q d := fun v H' s' dv => h v H' (s.trans s') dv
theorem kB.on {H H1 : Hp} {Q : Bool -> Hp -> Prop} {b : Bool} (s : aK H H1) (h : kB H Q b) : kB H1 Q b := fun H' s' => h H' (s.trans s')
def oE (K : PySem.W.Frag) (t : ED) : TE := fun σ H Q => ∃ δ, aw K H σ δ /\ t δ (kD K H Q)
def oT (K : PySem.W.Frag) (t : TD) : TT := fun σ H Q => ∃ δ, aw K H σ δ /\ t δ (kB H Q)
def oA (K : PySem.W.Frag) (t : AD) : TA := fun σ H Q => ∃ δ, aw K H σ δ /\ t δ (kA K H Q)
abbrev az (t : ED) : Prop := ∀ δ (P P' : D -> Prop), (∀ d, P d -> P' d) -> t δ P -> t δ P'
structure PD (X : Cx) (e : Expr) (t : ED) : Prop where
 pe : PE X e (oE X.K t)
 mono : az t
structure jc (X : Cx) (e : Expr) (t : TD) : Prop where
 pt : PT X e (oT X.K t)
 mono : ∀ δ (P P' : Bool -> Prop), (∀ d, P d -> P' d) -> t δ P -> t δ P'
structure l_ (X : Cx) (e : Expr) (t : TD) : Prop where
 pw : PW X e (oT X.K t)
 mono : ∀ δ (P P' : Bool -> Prop), (∀ d, P d -> P' d) -> t δ P -> t δ P'
structure kH (X : Cx) (es : List Expr) (t : AD) : Prop where
 pa : PA X es (oA X.K t)
 mono : ∀ δ (P P' : List D -> Prop), (∀ d, P d -> P' d) -> t δ P -> t δ P'
theorem PT.imp {X : Cx} {e : Expr} {t t' : TT} (h : PT X e t) (f : ∀ σ H Q, t' σ H Q -> t σ H Q) : PT X e t' := fun pins s σ H Q I q => h pins s σ H Q I (f σ H Q q)
theorem PW.imp {X : Cx} {e : Expr} {t t' : TT} (h : PW X e t) (f : ∀ σ H Q, t' σ H Q -> t σ H Q) : PW X e t' := fun wh pins s σ H Q I q => h wh pins s σ H Q I (f σ H Q q)
theorem PA.imp {X : Cx} {es : List Expr} {t t' : TA} (h : PA X es t) (f : ∀ σ H Q, t' σ H Q -> t σ H Q) : PA X es t' := fun p pins s σ H Q I q => h p pins s σ H Q I (f σ H Q q)
section
variable {X : Cx} {e a b c : Expr} {es rest : List Expr} {pos : Pos} {ta tb tc : ED}
def eD (i : Nat) : ED := fun δ Q => ∃ d, δ[i]? = some (some d) /\ Q d
def vC (d : D) : ED := fun _ Q => Q d
theorem Fx {i : Nat} (h : PE X e (DN i)) : PD X e (eD i) :=
 ⟨h.imp fun σ H Q ⟨δ, r, d, hd, k⟩ => let ⟨v, hv, dv⟩ := r.get i d hd; ⟨v, hv, k v H (aK.refl _) dv⟩, fun δ P P' f ⟨d, hd, k⟩ => ⟨d, hd, f d k⟩⟩
theorem dv (i : Nat) {x : Str} {pos : Pos} (hN : X.N[i]? = some x := by rfl) (hv : ye X.env.scope x := by first | exact Or.inl rfl | exact Or.inr (Or.inl rfl) | exact Or.inr (Or.inr rfl)) (hd : (x == ("__debug__" : Str)) = false := by decide)
  (hcd : (x == ("__classdict__" : Str)) = false := by decide) : PD X (.Name x pos) (eD i) := Fx (pv i hN hv hd hcd)
theorem D2 {v : V} {d : D} (h : PE X e (tC v)) (hv : ∀ H, Dv X.K H v d) : PD X e (vC d) :=
 ⟨h.imp fun σ H Q ⟨δ, r, k⟩ => k v H (aK.refl _) (hv H), fun δ P P' f k => f d k⟩
theorem aB {i j pos} : PD X (.Constant (.int i) j pos) (vC (.int i)) := D2 Cu fun _ => .int i
theorem Bs {i j pos} : PD X (.Constant (.bool i) j pos) (vC (.bl i)) := D2 Et fun _ => .bl i
theorem aj {i j pos} : PD X (.Constant (.str i) j pos) (vC (.str i)) := D2 Cy fun _ => .str i
theorem b8 {j pos} : PD X (.Constant .none j pos) (vC .aV) := D2 Cv fun _ => .aV
theorem di {x : Str} {v : V} {u : Value} {d : D} {pos : Pos} (hg : Gl X x) (hm : X.mg x = some u) (r : RelV v u) (hv : ∀ H, Dv X.K H v d) (hd : (x == ("__debug__" : Str)) = false := by decide) : PD X (.Name x pos) (vC d) := D2 (kl hg hm r hd) hv
abbrev F2 := D -> D -> (D -> Prop) -> Prop
abbrev cS (f : F2) : Prop := ∀ d e (P P' : D -> Prop), (∀ r, P r -> P' r) -> f d e P -> f d e P'
def lZ (f : F2) (ta tb : ED) : ED := fun δ Q => ta δ fun d => tb δ fun e => f d e Q
def eO (K : PySem.W.Frag) (r : R2) (f : F2) : Prop := ∀ H x y d e Q, Dv K H x d -> Dv K H y e -> f d e (kD K H Q) -> r x y H Q
theorem pS {t : TE} {r : R2} {f : F2} (hp : PE X e (DM r (oE X.K ta) (oE X.K tb))) (ma : az ta) (mb : az tb) (hd : eO X.K r f) (hf : cS f) : PD X e (lZ f ta tb) := by
 refine ⟨hp.imp fun σ H Q ⟨δ, r, h⟩ => ⟨δ, r, ma _ _ _ (fun d hd' v H1 s1 dv => ⟨δ, r.same s1, mb _ _ _ (fun e he w H2 s2 ew => hd H2 v w d e Q (dv.same s2) ew (hf d e _ _ (fun z hz => hz.on (s1.trans s2)) he)) hd'⟩) h⟩, ?_⟩
 exact fun δ P P' g h => ma _ _ _ (fun d h' => mb _ _ _ (fun e h'' => hf d e _ _ g h'') h') h
theorem v_ {op : Operator} {r : R2} {f : F2} (ho : eQ X (binaryOp op) r) (hd : eO X.K r f) (hf : cS f) (ha : PD X a ta) (hb : PD X b tb) : PD X (.BinOp a op b pos) (lZ f ta tb) :=
 pS (t := oE X.K ta) (Eu ho ha.pe hb.pe) ha.mono hb.mono hd hf
theorem mZ {op : CmpOp} {r : R2} {f : F2} (ho : eQ X (compareOp op) r) (hd : eO X.K r f) (hf : cS f) (ha : PD X a ta) (hb : PD X b tb) (hm : behindInMarks op b = false) : PD X (.Compare a [op] [b] pos) (lZ f ta tb) :=
 pS (t := oE X.K ta) (AI ho ha.pe hb.pe hm) ha.mono hb.mono hd hf
end
section
variable {X : Cx}
theorem AA : eQ X (binaryOp .Add) (fun x y H Q => ∃ a b xs ys, x = .ref a /\ y = .ref b /\ c_ X.K H a xs /\ c_ X.K H b ys /\ xs.length + ys.length <= sizeLine /\ ∀ p, H p = none -> Q (.ref p) (upd H p (.lst (xs ++ ys)))) := by
 intro pins s σ H x y v u Q I rx ry h
 obtain ⟨a, b, xs, ys, rfl, rfl, ha, hb, hz, q⟩ := h
 cases (show v = Value.ref a from rx)
 cases (show u = Value.ref b from ry)
 obtain ⟨its, r1, p1, _⟩ := I.list ha
 obtain ⟨its2, r2, p2, _⟩ := I.list hb
 have hl1 := r1.length
 have hl2 := r2.length
 obtain ⟨⟨cls, dd, data, sl⟩, ho, hc, n, hd⟩ := id p1.isList
 obtain ⟨⟨cls2, dd2, data2, sl2⟩, ho2, hc2, n2, hd2⟩ := id p2.isList
 simp only at hc hd hc2 hd2
 subst hc hd hc2 hd2
 have e : its.toArray ++ its2.toArray = (its ++ its2).toArray := by simp
 refine concat_meets ⟨_, ho, rfl⟩ ⟨_, ho2, rfl⟩ noFill_list_add seq_list_add PySem.F.slot_list_add PySem.F.entry_list_add (PySem.F.args_list_add_2 _ _)
  (list_addW a b its.toArray its2.toArray n n2 dd dd2 sl sl2 (by rw [List.size_toArray, List.size_toArray]; omega)) ⟨ho, ho2, ?_⟩
 rw [e]
 exact ⟨.ref _, _, I.F7 (t' := s.toks) (r1.append r2) (by rw [List.length_append]; omega), rfl, q _ I.fresh⟩
theorem AB : eQ X (binaryOp .Add) (fun x y H Q => ∃ a b ys, x = .ref a /\ y = .ref b /\ ej X.K H a [] /\ ej X.K H b ys /\ Q (.ref b) H) := by
 intro pins s σ H x y v u Q I rx ry h
 obtain ⟨a, b, ys, rfl, rfl, ha, hb, q⟩ := h
 cases (show v = Value.ref a from rx)
 cases (show u = Value.ref b from ry)
 obtain ⟨its, r1, p1, _⟩ := I.tuple ha
 obtain ⟨its2, r2, p2, _⟩ := I.tuple hb
 have e1 : its = [] := r1.zero
 subst e1
 obtain ⟨⟨cls, dd, data, sl⟩, ho, hc, n, hd⟩ := id p1
 obtain ⟨⟨cls2, dd2, data2, sl2⟩, ho2, hc2, n2, hd2⟩ := id p2
 simp only at hc hd hc2 hd2
 subst hc hd hc2 hd2
 exact concat_meets ⟨_, ho, rfl⟩ ⟨_, ho2, rfl⟩ noFill_tuple_add seq_tuple_add PySem.F.slot_tuple_add PySem.F.entry_tuple_add (PySem.F.args_tuple_add_2 _ _)
  (tuple_addW0 a b #[] its2.toArray n n2 dd dd2 sl sl2 rfl) ⟨ho, ho2, ⟨.ref b, H, I, rfl, q⟩⟩
end
section
variable {K : PySem.W.Frag}
def zN : F2 := fun d e Q => match d, e with
 | .int i, .int j => Q (.int (i + j))
 | .str x, .str y => x.length + y.length <= sizeLine /\ Q (.str (x ++ y))
 | .lst xs, .lst ys => xs.length + ys.length <= sizeLine /\ Q (.lst (xs ++ ys))
 | .tup xs, .tup ys => xs.length + ys.length <= sizeLine /\ Q (.tup (xs ++ ys))
 | _, _ => False
theorem Eb : cS zN := by
 intro d e P P' g h
 unfold zN at h ⊢
 split at h
 ·exact g _ h
 ·exact ⟨h.1, g _ h.2⟩
 ·exact ⟨h.1, g _ h.2⟩
 ·exact ⟨h.1, g _ h.2⟩
 ·exact h.elim
def BN (K : PySem.W.Frag) : R2 := fun x y H Q => (∃ i j, x = .int i /\ y = .int j /\ Q (.int (i + j)) H) \/ (∃ i j, x = .str i /\ y = .str j /\ i.length + j.length <= sizeLine /\ Q (.str (i ++ j)) H) \/
 (∃ a b xs ys, x = .ref a /\ y = .ref b /\ c_ K H a xs /\ c_ K H b ys /\ xs.length + ys.length <= sizeLine /\ ∀ p, H p = none -> Q (.ref p) (upd H p (.lst (xs ++ ys)))) \/
 BO K x y H Q \/ (∃ a b ys, x = .ref a /\ y = .ref b /\ ej K H a [] /\ ej K H b ys /\ Q (.ref b) H)
theorem z_ {X : Cx} : eQ X (binaryOp .Add) (BN X.K) := Ck.or (rk.or (AA.or (AE.or AB)))
theorem wG : eO K (BN K) zN := by
 intro H x y d e Q hx hy h
 cases hx with
 | int i => cases hy with
  | int j => exact .inl ⟨i, j, rfl, rfl, h _ H (aK.refl _) (.int _)⟩
  | _ => exact h.elim
 | str i => cases hy with
  | str j => exact .inr (.inl ⟨i, j, rfl, rfl, h.1, h.2 _ H (aK.refl _) (.str _)⟩)
  | _ => exact h.elim
 | lst h1 h2 => cases hy with
  | lst g1 g2 =>
   refine .inr (.inr (.inl ⟨_, _, _, _, rfl, rfl, h1, g1, ?_, fun p hp => ?_⟩))
   ·rw [h2.length, g2.length]; exact h.1
   ·exact h.2 _ _ (aS hp) (.lst (c_.of aI) ((h2.append g2).same (aS hp)))
  | _ => exact h.elim
 | tup h1 h2 => cases hy with
  | tup g1 g2 =>
   have z := h.1
   rw [<- h2.length, <- g2.length] at z
   cases h2 with
   | nil => exact .inr (.inr (.inr (.inr ⟨_, _, _, rfl, rfl, h1, g1, h.2 _ H (aK.refl _) (.tup g1 g2)⟩)))
   | cons a r =>
    refine .inr (.inr (.inr (.inl ⟨_, _, _, _, rfl, rfl, h1, g1, (fun q => nomatch q), z, fun e => ?_, fun e p hp => ?_⟩)))
    ·subst e
     cases g2
     have q := h.2
     rw [List.append_nil] at q
     exact q _ H (aK.refl _) (.tup h1 (.cons a r))
    ·exact h.2 _ _ (aS hp) (.tup (ej.of aI) (((ar.cons a r).append g2).same (aS hp)))
  | _ => exact h.elim
 | _ => exact h.elim
def fI (C : Int -> Int -> Prop) (g : Int -> Int -> D) : F2 := fun d e Q => match d, e with
 | .int i, .int j => C i j /\ Q (g i j)
 | _, _ => False
theorem GB {C : Int -> Int -> Prop} {g : Int -> Int -> D} : cS (fI C g) := by
 intro d e P P' f h
 unfold fI at h ⊢
 split at h
 ·exact ⟨h.1, f _ h.2⟩
 ·exact h.elim
theorem rA {C : Int -> Int -> Prop} {g : Int -> Int -> V} {g' : Int -> Int -> D} (hg : ∀ H i j, Dv K H (g i j) (g' i j)) : eO K (rI C g) (fI C g') := by
 intro H x y d e Q hx hy h
 cases hx with
 | int i => cases hy with
  | int j => exact ⟨i, j, rfl, rfl, h.1, h.2 _ H (aK.refl _) (hg H i j)⟩
  | _ => exact h.elim
 | _ => exact h.elim
def BA (g : Int -> Int -> D) : F2 := fun d e Q => match d, e with
 | .int i, .int j => Q (g i j)
 | _, _ => False
theorem rT {g : Int -> Int -> D} : cS (BA g) := by
 intro d e P P' f h
 unfold BA at h ⊢
 split at h
 ·exact f _ h
 ·exact h.elim
theorem fR {g : Int -> Int -> V} {g' : Int -> Int -> D} (hg : ∀ H i j, Dv K H (g i j) (g' i j)) : eO K (yh g) (BA g') := by
 intro H x y d e Q hx hy h
 cases hx with
 | int i => cases hy with
  | int j => exact ⟨i, j, rfl, rfl, h _ H (aK.refl _) (hg H i j)⟩
  | _ => exact h.elim
 | _ => exact h.elim
end
section
variable {X : Cx} {a b c : Expr} {es rest : List Expr} {pos : Pos} {ta tb tc : ED}
def yT : ED -> ED -> ED := lZ zN
def G1 : ED -> ED -> ED := lZ (BA fun i j => .int (i - j))
def Gz : ED -> ED -> ED := lZ (fI IntMulOk fun i j => .int (i * j))
def Gy : ED -> ED -> ED := lZ (fI (fun _ j => 0 < j) fun i j => .int (i % j))
def Gx : ED -> ED -> ED := lZ (fI Ba fun i j => .int (i / j))
theorem bo (ha : PD X a ta) (hb : PD X b tb) : PD X (.BinOp a .Add b pos) (yT ta tb) := v_ z_ wG Eb ha hb
theorem ck (ha : PD X a ta) (hb : PD X b tb) : PD X (.BinOp a .Sub b pos) (G1 ta tb) := v_ Cr (fR fun _ _ _ => .int _) rT ha hb
theorem ky (ha : PD X a ta) (hb : PD X b tb) : PD X (.BinOp a .Mult b pos) (Gz ta tb) := v_ AG (rA fun _ _ _ => .int _) GB ha hb
theorem a_ (ha : PD X a ta) (hb : PD X b tb) : PD X (.BinOp a .Mod b pos) (Gy ta tb) := v_ Co (rA fun _ _ _ => .int _) GB ha hb
theorem bM (ha : PD X a ta) (hb : PD X b tb) : PD X (.BinOp a .FloorDiv b pos) (Gx ta tb) := v_ AF (rA fun _ _ _ => .int _) GB ha hb
def G0 (ta : ED) : ED := fun δ Q => ta δ fun d => ∃ i, d = .int i /\ Q (.int (-i))
theorem D6 (ha : PD X a ta) : PD X (.UnaryOp .USub a pos) (G0 ta) :=
 ⟨(Ex DS ha.pe).imp fun σ H Q ⟨δ, r, h⟩ => ⟨δ, r, ha.mono _ _ _ (fun d ⟨i, e, k⟩ v H1 s1 dv => by subst e; cases dv; exact ⟨i, rfl, k _ H1 s1 (.int _)⟩) h⟩,
  fun δ P P' g h => ha.mono _ _ _ (fun d ⟨i, e, k⟩ => ⟨i, e, g _ k⟩) h⟩
def Hs : ED -> ED -> ED := lZ (BA fun i j => .bl (decide (i < j)))
def Hr : ED -> ED -> ED := lZ (BA fun i j => .bl (decide (i <= j)))
def HM : ED -> ED -> ED := lZ (BA fun i j => .bl (decide (j < i)))
theorem D5 (ha : PD X a ta) (hb : PD X b tb) : PD X (.Compare a [.LtE] [b] pos) (Hr ta tb) := mZ xU (fR fun _ _ _ => .bl _) rT ha hb (eW _)
theorem Fu (ha : PD X a ta) (hb : PD X b tb) : PD X (.Compare a [.Gt] [b] pos) (HM ta tb) := mZ BJ (fR fun _ _ _ => .bl _) rT ha hb (eW _)
end
mutual
def eg : D -> PyData
 | .aV => .none
 | .bl b => .bool b
 | .int i => .int i
 | .str x => .str x
 | .lst xs => .list (dF xs)
 | .tup xs => .tuple (dF xs)
 | .obj _ _ => .none
 | .dK _ => .none
 | .dT _ => .none
 | .adr _ => .none
 | .exc _ _ _ => .none
def dF : List D -> List PyData
 | [] => []
 | d :: ds => eg d :: dF ds
end
mutual
def plain : D -> Bool
 | .lst xs => fc xs
 | .tup xs => fc xs
 | .obj _ _ => false
 | .dK _ => false
 | .dT _ => false
 | .adr _ => false
 | .exc _ _ _ => false
 | _ => true
def fc : List D -> Bool
 | [] => true
 | d :: ds => plain d && fc ds
end
section
variable {K : PySem.W.Frag} {H : Hp}
mutual
theorem Dv.dat : ∀ {v : V} {d : D}, plain d = true -> Dv K H v d -> iH K H v (eg d)
 | _, _, _, .aV => by rw [eg]; exact .aV
 | _, _, _, .bl b => by rw [eg]; exact .bl b
 | _, _, _, .int i => by rw [eg]; exact .int i
 | _, _, _, .str x => by rw [eg]; exact .str x
 | _, _, p, .lst h1 h2 => by rw [eg]; rw [plain] at p; exact .lst h1 (ar.dat p h2)
 | _, _, p, .tup h1 h2 => by rw [eg]; rw [plain] at p; exact .tup h1 (ar.dat p h2)
 | _, _, p, .obj _ _ => by rw [plain] at p; cases p
 | _, _, p, .dK _ _ => by rw [plain] at p; cases p
 | _, _, p, .dT _ _ => by rw [plain] at p; cases p
 | _, _, p, .adr _ => by rw [plain] at p; cases p
 | _, _, p, .exc _ _ _ => by rw [plain] at p; cases p
theorem ar.dat : ∀ {vs : List V} {ds : List D}, fc ds = true -> ar K H vs ds -> gA K H vs (dF ds)
 | _, _, _, .nil => by rw [dF]; exact .nil
 | _, _, p, .cons h1 h2 => by
  rw [dF]
  rw [fc, Bool.and_eq_true] at p
  exact .cons (Dv.dat p.1 h1) (ar.dat p.2 h2)
end
end
def jj : D -> D -> Option Bool
 | .aV, .aV => some true
 | .bl a, .bl b => some (decide (a = b))
 | .int i, .int j => some (decide (i = j))
 | .str x, .str y => some (decide (x = y))
 | .aV, .bl _ => some false
 | .aV, .int _ => some false
 | .aV, .str _ => some false
 | .bl _, .aV => some false
 | .bl _, .str _ => some false
 | .int _, .aV => some false
 | .int _, .str _ => some false
 | .str _, .aV => some false
 | .str _, .bl _ => some false
 | .str _, .int _ => some false
 | _, _ => none
def rE (neg : Bool) : F2 := fun d e Q => match jj d e with
 | some b => Q (.bl (if neg then !b else b))
 | none => plain d = true /\ plain e = true /\ SeqAt.shaped (eg d) = true /\ SeqAt.shaped (eg e) = true /\ Q (.bl (if neg then !PyData.eqv (eg d) (eg e) else PyData.eqv (eg d) (eg e)))
theorem CW {neg : Bool} : cS (rE neg) := by
 intro d e P P' f h
 unfold rE at h ⊢
 split at h
 ·exact f _ h
 ·exact ⟨h.1, h.2.1, h.2.2.1, h.2.2.2.1, f _ h.2.2.2.2⟩
theorem tJ {K : PySem.W.Frag} : eO K (fun x y H Q => HH x y H Q \/ Ae K false x y H Q) (rE false) := by
 intro H x y d e Q hx hy h
 unfold rE at h
 split at h
 ·rename_i b hb
  left
  have q := h _ H (aK.refl _) (.bl _)
  cases hx <;> cases hy <;> simp only [jj, Option.some.injEq, reduceCtorEq] at hb <;> subst hb <;> refine ⟨rfl, ?_⟩ <;> simpa using q
 ·obtain ⟨p1, p2, s1, s2, q⟩ := h
  exact .inr ⟨_, _, hx.dat p1, hy.dat p2, s1, s2, q _ H (aK.refl _) (.bl _)⟩
theorem zH {K : PySem.W.Frag} : eO K (fun x y H Q => HJ x y H Q \/ Ae K true x y H Q) (rE true) := by
 intro H x y d e Q hx hy h
 unfold rE at h
 split at h
 ·rename_i b hb
  left
  have q := h _ H (aK.refl _) (.bl _)
  cases hx <;> cases hy <;> simp only [jj, Option.some.injEq, reduceCtorEq] at hb <;> subst hb <;> refine ⟨rfl, ?_⟩ <;> simpa using q
 ·obtain ⟨p1, p2, s1, s2, q⟩ := h
  exact .inr ⟨_, _, hx.dat p1, hy.dat p2, s1, s2, q _ H (aK.refl _) (.bl _)⟩
def Dn (neg : Bool) : F2 := fun d e Q => match e with
 | .aV => Q (.bl (match d with | .aV => !neg | _ => neg))
 | .bl b => ∃ a, d = .bl a /\ Q (.bl (if neg then a != b else a == b))
 | _ => False
theorem Ef {neg : Bool} : cS (Dn neg) := by
 intro d e P P' f h
 unfold Dn at h ⊢
 split at h
 ·exact f _ h
 ·obtain ⟨a, ha, q⟩ := h; exact ⟨a, ha, f _ q⟩
 ·exact h.elim
theorem zF {K : PySem.W.Frag} : eO K (fun x y H Q => (y = .aV /\ Q (.bl (decide (x = .aV))) H) \/ ∃ a b, x = .bl a /\ y = .bl b /\ Q (.bl (a == b)) H) (Dn false) := by
 intro H x y d e Q hx hy h
 cases hy with
 | aV =>
  refine .inl ⟨rfl, ?_⟩
  have q := h _ H (aK.refl _) (.bl _)
  cases hx <;> exact q
 | bl b =>
  obtain ⟨a, rfl, q⟩ := h
  cases hx
  exact .inr ⟨a, b, rfl, rfl, q _ H (aK.refl _) (.bl _)⟩
 | _ => exact h.elim
theorem rB {K : PySem.W.Frag} : eO K (fun x y H Q => (y = .aV /\ Q (.bl (!decide (x = .aV))) H) \/ ∃ a b, x = .bl a /\ y = .bl b /\ Q (.bl (a != b)) H) (Dn true) := by
 intro H x y d e Q hx hy h
 cases hy with
 | aV =>
  refine .inl ⟨rfl, ?_⟩
  have q := h _ H (aK.refl _) (.bl _)
  cases hx <;> exact q
 | bl b =>
  obtain ⟨a, rfl, q⟩ := h
  cases hx
  exact .inr ⟨a, b, rfl, rfl, q _ H (aK.refl _) (.bl _)⟩
 | _ => exact h.elim
def gH : D -> Bool
 | .aV => true
 | .bl _ => true
 | .int _ => true
 | .str _ => true
 | _ => false
def nj : D -> D -> Bool
 | .aV, .aV => true
 | .bl a, .bl b => a == b
 | .bl a, .int j => (if a then 1 else 0) == j
 | .int i, .bl b => i == (if b then 1 else 0)
 | .int i, .int j => i == j
 | .str x, .str y => x == y
 | _, _ => false
def inD (x : D) (xs : List D) : Bool := xs.any fun y => nj y x
def sG (x y : Str) : Bool := !(Builtin.Str.occurrences y x 0 y.length 1).isEmpty
def Dl (neg : Bool) : F2 := fun d e Q => match e with
 | .lst xs => gH d = true /\ xs.all gH = true /\ Q (.bl (if neg then !inD d xs else inD d xs))
 | .tup xs => gH d = true /\ xs.all gH = true /\ Q (.bl (if neg then !inD d xs else inD d xs))
 | .str y => ∃ x, d = .str x /\ Q (.bl (if neg then !sG x y else sG x y))
 | _ => False
theorem CY {neg : Bool} : cS (Dl neg) := by
 intro d e P P' f h
 unfold Dl at h ⊢
 split at h
 ·exact ⟨h.1, h.2.1, f _ h.2.2⟩
 ·exact ⟨h.1, h.2.1, f _ h.2.2⟩
 ·obtain ⟨a, ha, q⟩ := h; exact ⟨a, ha, f _ q⟩
 ·exact h.elim
section
variable {K : PySem.W.Frag} {H : Hp}
theorem Dv.flat {v : V} {d : D} (h : Dv K H v d) (f : gH d = true) : hJ v = true := by
 cases h <;> first | rfl | cases f
theorem Dv.nj {v w : V} {d e : D} (h : Dv K H v d) (g : Dv K H w e) (f : gH d = true) (f' : gH e = true) : zK v w = DC.nj d e := by
 cases h <;> cases g <;> first | rfl | cases f | cases f'
theorem ar.flat : ∀ {vs : List V} {ds : List D}, ar K H vs ds -> ds.all gH = true -> vs.all hJ = true
 | _, _, .nil, _ => rfl
 | _, _, .cons h r, f => by
  rw [List.all_cons, Bool.and_eq_true] at f ⊢
  exact ⟨h.flat f.1, ar.flat r f.2⟩
theorem ar.yg {w : V} {e : D} (g : Dv K H w e) (f' : gH e = true) : ∀ {vs : List V} {ds : List D}, ar K H vs ds -> ds.all gH = true -> L2.yg w vs = inD e ds
 | _, _, .nil, _ => rfl
 | _, _, .cons h r, f => by
  rw [List.all_cons, Bool.and_eq_true] at f
  have q := ar.yg g f' r f.2
  unfold L2.yg inD at q ⊢
  rw [List.any_cons, List.any_cons, q, h.nj g f.1 f']
end
theorem tK {K : PySem.W.Frag} : eO K (fun x y H Q => Fi K false x y H Q \/ ∃ i j, x = .str i /\ y = .str j /\ Q (.bl (!(Builtin.Str.occurrences j i 0 j.length 1).isEmpty)) H) (Dl false) := by
 intro H x y d e Q hx hy h
 cases hy with
 | lst g1 g2 => exact .inl ⟨_, _, rfl, .inl g1, hx.flat h.1, g2.flat h.2.1, by rw [ar.yg hx h.1 g2 h.2.1]; exact h.2.2 _ H (aK.refl _) (.bl _)⟩
 | tup g1 g2 => exact .inl ⟨_, _, rfl, .inr g1, hx.flat h.1, g2.flat h.2.1, by rw [ar.yg hx h.1 g2 h.2.1]; exact h.2.2 _ H (aK.refl _) (.bl _)⟩
 | str j =>
  obtain ⟨i, rfl, q⟩ := h
  cases hx
  exact .inr ⟨i, j, rfl, rfl, q _ H (aK.refl _) (.bl _)⟩
 | _ => exact h.elim
theorem rC {K : PySem.W.Frag} : eO K (fun x y H Q => Fi K true x y H Q \/ ∃ i j, x = .str i /\ y = .str j /\ Q (.bl (!(!(Builtin.Str.occurrences j i 0 j.length 1).isEmpty))) H) (Dl true) := by
 intro H x y d e Q hx hy h
 cases hy with
 | lst g1 g2 => exact .inl ⟨_, _, rfl, .inl g1, hx.flat h.1, g2.flat h.2.1, by rw [ar.yg hx h.1 g2 h.2.1]; exact h.2.2 _ H (aK.refl _) (.bl _)⟩
 | tup g1 g2 => exact .inl ⟨_, _, rfl, .inr g1, hx.flat h.1, g2.flat h.2.1, by rw [ar.yg hx h.1 g2 h.2.1]; exact h.2.2 _ H (aK.refl _) (.bl _)⟩
 | str j =>
  obtain ⟨i, rfl, q⟩ := h
  cases hx
  exact .inr ⟨i, j, rfl, rfl, q _ H (aK.refl _) (.bl _)⟩
 | _ => exact h.elim
section
variable {X : Cx} {a b c : Expr} {es rest : List Expr} {pos : Pos} {ta tb tc : ED}
def vEq : ED -> ED -> ED := lZ (rE false)
def Ht : ED -> ED -> ED := lZ (rE true)
def Hq : ED -> ED -> ED := lZ (Dn false)
def DU : ED -> ED -> ED := lZ (Dn true)
def HN : ED -> ED -> ED := lZ (Dl false)
def DZ : ED -> ED -> ED := lZ (Dl true)
theorem q9 (hu : X.A.units + 64 < cLine) (ha : PD X a ta) (hb : PD X b tb) : PD X (.Compare a [.Eq] [b] pos) (vEq ta tb) := mZ (BI.or (xS hu)) tJ CW ha hb (eW _)
theorem Fv (ha : PD X a ta) (hb : PD X b tb) (hm : behindInMarks .In b = false) : PD X (.Compare a [.In] [b] pos) (HN ta tb) := mZ (m8.or m9) tK CY ha hb hm
theorem zD (ha : PD X a ta) (hb : PD X b tb) (hm : behindInMarks .NotIn b = false) : PD X (.Compare a [.NotIn] [b] pos) (DZ ta tb) := mZ (oX.or oY) rC CY ha hb hm
end
abbrev dM (t : TD) : Prop := ∀ δ (P P' : Bool -> Prop), (∀ d, P d -> P' d) -> t δ P -> t δ P'
abbrev jy (t : AD) : Prop := ∀ δ (P P' : List D -> Prop), (∀ d, P d -> P' d) -> t δ P -> t δ P'
def fK (t : ED) : TD := fun δ Q => t δ fun d => ∃ b, d = .bl b /\ Q b
theorem xF {t : ED} (m : az t) : dM (fK t) := fun δ P P' g h => m _ _ _ (fun d ⟨b, e, q⟩ => ⟨b, e, g b q⟩) h
theorem Ay {K : PySem.W.Frag} {t : ED} (m : az t) {δ : SD} {H : Hp} {Q : Bool -> Hp -> Prop} (h : fK t δ (kB H Q)) : t δ (kD K H fun x H' => ∃ k, x = .bl k /\ Q k H') :=
 m _ _ _ (fun d ⟨b, e, q⟩ v H' s dv => by subst e; cases dv; exact ⟨b, rfl, q H' s⟩) h
section
variable {X : Cx} {a b c e : Expr} {es rest : List Expr} {pos : Pos} {ta tb tc : ED} {ua ub : TD}
theorem jc.of {t : TE} {v : ED} (h : PT X e (BV t)) (p : ∀ σ H Q, oE X.K v σ H Q -> t σ H Q) (m : az v) : jc X e (fK v) :=
 ⟨PT.imp h fun σ H Q ⟨δ, r, q⟩ => p σ H _ ⟨δ, r, Ay m q⟩, xF m⟩
theorem Bl {r : R2} {f : F2} (ma : az ta) (mb : az tb) (hd : eO X.K r f) (hf : cS f) : (∀ σ H Q, oE X.K (lZ f ta tb) σ H Q -> DM r (oE X.K ta) (oE X.K tb) σ H Q) /\ az (lZ f ta tb) := by
 refine ⟨fun σ H Q ⟨δ, r, h⟩ => ⟨δ, r, ma _ _ _ (fun d hd' v H1 s1 dv => ⟨δ, r.same s1, mb _ _ _ (fun e he w H2 s2 ew => hd H2 v w d e Q (dv.same s2) ew (hf d e _ _ (fun z hz => hz.on (s1.trans s2)) he)) hd'⟩) h⟩, ?_⟩
 exact fun δ P P' g h => ma _ _ _ (fun d h' => mb _ _ _ (fun e h'' => hf d e _ _ g h'') h') h
theorem ja {op : CmpOp} {r : R2} {f : F2} (ho : eQ X (compareOp op) r) (hd : eO X.K r f) (hf : cS f) (ha : PD X a ta) (hb : PD X b tb) (hm : behindInMarks op b = false) : jc X (.Compare a [op] [b] pos) (fK (lZ f ta tb)) :=
 let q := Bl ha.mono hb.mono hd hf
 jc.of (AX ho ha.pe hb.pe hm) q.1 q.2
theorem yN (ha : PD X a ta) (hb : PD X b tb) : jc X (.Compare a [.Lt] [b] pos) (fK (Hs ta tb)) := ja Er (fR fun _ _ _ => .bl _) rT ha hb (eW _)
theorem vL (ha : PD X a ta) (hb : PD X b tb) : jc X (.Compare a [.Gt] [b] pos) (fK (HM ta tb)) := ja BJ (fR fun _ _ _ => .bl _) rT ha hb (eW _)
theorem cu (hu : X.A.units + 64 < cLine) (ha : PD X a ta) (hb : PD X b tb) : jc X (.Compare a [.Eq] [b] pos) (fK (vEq ta tb)) := ja (BI.or (xS hu)) tJ CW ha hb (eW _)
theorem sI (hu : X.A.units + 64 < cLine) (ha : PD X a ta) (hb : PD X b tb) : jc X (.Compare a [.NotEq] [b] pos) (fK (Ht ta tb)) := ja (Es.or (Cp hu)) zH CW ha hb (eW _)
theorem Gs (ha : PD X a ta) (hb : PD X b tb) : jc X (.Compare a [.Is] [b] pos) (fK (Hq ta tb)) := ja (Cn.or xT) zF Ef ha hb (eW _)
theorem jb (ha : PD X a ta) (hb : PD X b tb) : jc X (.Compare a [.IsNot] [b] pos) (fK (DU ta tb)) := ja (AH.or qU) rB Ef ha hb (eW _)
theorem FL (ha : PD X a ta) (hb : PD X b tb) (hm : behindInMarks .In b = false) : jc X (.Compare a [.In] [b] pos) (fK (HN ta tb)) := ja (m8.or m9) tK CY ha hb hm
def Az : D -> Option Bool
 | .aV => some false
 | .bl b => some b
 | .int i => some (i != 0)
 | .str y => if y.length <= sizeLine then some ((y.length : Int) != 0) else none
 | .lst xs => some (!xs.isEmpty)
 | .tup xs => some (!xs.isEmpty)
 | _ => none
def G3 (t : ED) : TD := fun δ Q => t δ fun d => ∃ b, Az d = some b /\ Q b
theorem ar.isEmpty {K : PySem.W.Frag} {H : Hp} {vs : List V} {ds : List D} (h : ar K H vs ds) : vs.isEmpty = ds.isEmpty := by cases h <;> rfl
theorem Dv.Hl {K : PySem.W.Frag} {H : Hp} {v : V} {d : D} {b : Bool} (h : Dv K H v d) (e : Az d = some b) : Bf K v H b := by
 cases h with
 | aV => cases e; rfl
 | bl x => cases e; rfl
 | int i => cases e; rfl
 | str x =>
  have e' : (if x.length <= sizeLine then some ((x.length : Int) != 0) else none) = some b := e
  by_cases hz : x.length <= sizeLine
  ·rw [if_pos hz] at e'
   exact ⟨hz, (Option.some.inj e').symm⟩
  ·rw [if_neg hz] at e'
   cases e'
 | lst h1 h2 => cases e; exact .inl ⟨_, h1, by rw [h2.isEmpty]⟩
 | tup h1 h2 => cases e; exact .inr (.inl ⟨_, h1, by rw [h2.isEmpty]⟩)
 | dK _ _ => cases e
 | exc _ _ _ => cases e
 | obj _ _ => cases e
 | dT _ _ => cases e
 | adr _ => cases e
theorem gf (ha : PD X a ta) (he : ∀ whole, isTrue a X.env whole = (do let v <- whole; standAt a.pos; holding [v] (truthy v)) := by intro _; rfl) : jc X a (G3 ta) :=
 ⟨PT.imp (xp ha.pe he) fun σ H Q ⟨δ, r, h⟩ => ⟨δ, r, ha.mono _ _ _ (fun d ⟨b, e, q⟩ v H1 s1 dv => ⟨b, dv.Hl e, q H1 s1⟩) h⟩, fun δ P P' g h => ha.mono _ _ _ (fun d ⟨b, e, q⟩ => ⟨b, e, g b q⟩) h⟩
def Gu (t : TD) : TD := fun δ Q => t δ fun b => Q (!b)
def FP (t u : TD) : TD := fun δ Q => t δ fun b => if b = true then u δ Q else Q false
def HL (t u : TD) : TD := fun δ Q => t δ fun b => if b = true then Q true else u δ Q
theorem lY (ha : jc X a ua) : jc X (.UnaryOp .Not a pos) (Gu ua) :=
 ⟨PT.imp (C6 ha.pt) fun σ H Q ⟨δ, r, h⟩ => ⟨δ, r, ha.mono _ _ _ (fun b q H' s => q H' s) h⟩, fun δ P P' g h => ha.mono _ _ _ (fun b q => g _ q) h⟩
theorem Ed (ma : dM ua) (mb : dM ub) : dM (FP ua ub) := fun δ P P' g h => ma _ _ _ (fun b q => by
 cases b with
 | true => rw [if_pos rfl] at q ⊢; exact mb _ _ _ g q
 | false => rw [if_neg Bool.false_ne_true] at q ⊢; exact g _ q) h
theorem GK (ma : dM ua) (mb : dM ub) : dM (HL ua ub) := fun δ P P' g h => ma _ _ _ (fun b q => by
 cases b with
 | true => rw [if_pos rfl] at q ⊢; exact g _ q
 | false => rw [if_neg Bool.false_ne_true] at q ⊢; exact mb _ _ _ g q) h
theorem l_.td (h : l_ X e ua) : jc X e ua := ⟨h.pw.pt, h.mono⟩
theorem lq (ha : jc X a ua) : l_ X (.BoolOp .And [a] pos) ua := ⟨Aa ha.pt, ha.mono⟩
theorem kG (ha : jc X a ua) : l_ X (.BoolOp .Or [a] pos) ua := ⟨C8 ha.pt, ha.mono⟩
theorem w_and (ha : jc X a ua) (hb : l_ X (.BoolOp .And (b :: rest) pos) ub) : l_ X (.BoolOp .And (a :: b :: rest) pos) (FP ua ub) := by
 refine ⟨PW.imp (C7 ha.pt hb.pw) fun σ H Q ⟨δ, r, h⟩ => ⟨δ, r, ha.mono _ _ _ (fun b q H' s => ?_) h⟩, Ed ha.mono hb.mono⟩
 cases b with
 | true => rw [if_pos rfl] at q ⊢; exact ⟨δ, r.same s, hb.mono _ _ _ (fun b k => k.on s) q⟩
 | false => rw [if_neg Bool.false_ne_true] at q ⊢; exact q H' s
theorem w_or (ha : jc X a ua) (hb : l_ X (.BoolOp .Or (b :: rest) pos) ub) : l_ X (.BoolOp .Or (a :: b :: rest) pos) (HL ua ub) := by
 refine ⟨PW.imp (Ey ha.pt hb.pw) fun σ H Q ⟨δ, r, h⟩ => ⟨δ, r, ha.mono _ _ _ (fun b q H' s => ?_) h⟩, GK ha.mono hb.mono⟩
 cases b with
 | true => rw [if_pos rfl] at q ⊢; exact q H' s
 | false => rw [if_neg Bool.false_ne_true] at q ⊢; exact ⟨δ, r.same s, hb.mono _ _ _ (fun b k => k.on s) q⟩
def Gv (ta tb : ED) : ED := fun δ Q => ta δ fun d => ∃ b, d = .bl b /\ if b = true then tb δ Q else Q (.bl false)
def Hu (ta tb : ED) : ED := fun δ Q => ta δ fun d => ∃ b, d = .bl b /\ if b = true then Q (.bl true) else tb δ Q
theorem mf {op} (h : PD X a ta) : PD X (.BoolOp op [a] pos) ta := ⟨Cw h.pe, h.mono⟩
theorem pR (ha : PD X a ta) (hb : PD X (.BoolOp .And (b :: rest) pos) tb) : PD X (.BoolOp .And (a :: b :: rest) pos) (Gv ta tb) := by
 refine ⟨(Ct ha.pe hb.pe).imp fun σ H Q ⟨δ, r, h⟩ => ⟨δ, r, ha.mono _ _ _ (fun d ⟨b, e, q⟩ v H1 s1 dv => ?_) h⟩, fun δ P P' g h => ha.mono _ _ _ (fun d ⟨b, e, q⟩ => ⟨b, e, ?_⟩) h⟩
 ·subst e
  cases dv
  refine ⟨b, rfl, ?_⟩
  cases b with
  | true => rw [if_pos rfl] at q ⊢; exact ⟨δ, r.same s1, hb.mono _ _ _ (fun b k => k.on s1) q⟩
  | false => rw [if_neg Bool.false_ne_true] at q ⊢; exact q _ H1 s1 (.bl _)
 ·cases b with
  | true => rw [if_pos rfl] at q ⊢; exact hb.mono _ _ _ g q
  | false => rw [if_neg Bool.false_ne_true] at q ⊢; exact g _ q
theorem Fw (ha : PD X a ta) (hb : PD X (.BoolOp .Or (b :: rest) pos) tb) : PD X (.BoolOp .Or (a :: b :: rest) pos) (Hu ta tb) := by
 refine ⟨(Ew ha.pe hb.pe).imp fun σ H Q ⟨δ, r, h⟩ => ⟨δ, r, ha.mono _ _ _ (fun d ⟨b, e, q⟩ v H1 s1 dv => ?_) h⟩, fun δ P P' g h => ha.mono _ _ _ (fun d ⟨b, e, q⟩ => ⟨b, e, ?_⟩) h⟩
 ·subst e
  cases dv
  refine ⟨b, rfl, ?_⟩
  cases b with
  | true => rw [if_pos rfl] at q ⊢; exact q _ H1 s1 (.bl _)
  | false => rw [if_neg Bool.false_ne_true] at q ⊢; exact ⟨δ, r.same s1, hb.mono _ _ _ (fun b k => k.on s1) q⟩
 ·cases b with
  | true => rw [if_pos rfl] at q ⊢; exact g _ q
  | false => rw [if_neg Bool.false_ne_true] at q ⊢; exact hb.mono _ _ _ g q
def Ho (u : TD) (ta tb : ED) : ED := fun δ Q => u δ fun b => if b = true then ta δ Q else tb δ Q
theorem y9 (hc : jc X c ua) (ha : PD X a ta) (hb : PD X b tb) : PD X (.IfExp c a b pos) (Ho ua ta tb) := by
 refine ⟨(xb hc.pt ha.pe hb.pe).imp fun σ H Q ⟨δ, r, h⟩ => ⟨δ, r, hc.mono _ _ _ (fun k q H1 s1 => ?_) h⟩, fun δ P P' g h => hc.mono _ _ _ (fun k q => ?_) h⟩
 ·cases k with
  | true => rw [if_pos rfl] at q ⊢; exact ⟨δ, r.same s1, ha.mono _ _ _ (fun b k => k.on s1) q⟩
  | false => rw [if_neg Bool.false_ne_true] at q ⊢; exact ⟨δ, r.same s1, hb.mono _ _ _ (fun b k => k.on s1) q⟩
 ·cases k with
  | true => rw [if_pos rfl] at q ⊢; exact ha.mono _ _ _ g q
  | false => rw [if_neg Bool.false_ne_true] at q ⊢; exact hb.mono _ _ _ g q
def sR (f f' : F2) (ta tb tc : ED) : ED := fun δ Q => ta δ fun x => tb δ fun y => f x y fun z => ∃ k, z = .bl k /\ if k = true then tc δ fun w => f' y w Q else Q (.bl false)
theorem vq {r r' : R2} {f f' : F2} (ma : az ta) (mb : az tb) (mc : az tc) (hd : eO X.K r f) (hf : cS f) (hd' : eO X.K r' f') (hf' : cS f') :
  (∀ σ H Q, oE X.K (sR f f' ta tb tc) σ H Q -> yK r r' (oE X.K ta) (oE X.K tb) (oE X.K tc) σ H Q) /\ az (sR f f' ta tb tc) := by
 refine ⟨fun σ H Q ⟨δ, r, h⟩ => ⟨δ, r, ma _ _ _ (fun d h1 v H1 s1 dv => ⟨δ, r.same s1, mb _ _ _ (fun e h2 w H2 s2 ew => hd H2 v w d e _ (dv.same s2) ew (hf d e _ _ (fun z hz u H3 s3 du => ?_) h2)) h1⟩) h⟩, ?_⟩
 ·obtain ⟨k, rfl, q⟩ := hz
  cases du
  refine ⟨k, rfl, ?_⟩
  have s := s1.trans (s2.trans s3)
  cases k with
  | true =>
   rw [if_pos rfl] at q ⊢
   exact ⟨δ, r.same s, mc _ _ _ (fun d h3 u H4 s4 du => hd' H4 w u e d Q (ew.same (s3.trans s4)) du (hf' _ _ _ _ (fun z hz => hz.on (s.trans s4)) h3)) q⟩
  | false =>
   rw [if_neg Bool.false_ne_true] at q ⊢
   exact q _ H3 s (.bl _)
 ·intro δ P P' g h
  refine ma _ _ _ (fun d h1 => mb _ _ _ (fun e h2 => hf _ _ _ _ (fun z ⟨k, ez, q⟩ => ⟨k, ez, ?_⟩) h2) h1) h
  cases k with
  | true => rw [if_pos rfl] at q ⊢; exact mc _ _ _ (fun d h3 => hf' _ _ _ _ g h3) q
  | false => rw [if_neg Bool.false_ne_true] at q ⊢; exact g _ q
def Fd : F2 := BA fun i j => .bl (decide (i <= j))
theorem Bv (ha : PD X a ta) (hb : PD X b tb) (hc : PD X c tc) (hm : lastMarks [.LtE, .LtE] [b, c] = false := by with_unfolding_all rfl) : PD X (.Compare a [.LtE, .LtE] [b, c] pos) (sR Fd Fd ta tb tc) :=
 let q := vq (X := X) ha.mono hb.mono hc.mono (r := yh fun i j => .bl (decide (i <= j))) (r' := yh fun i j => .bl (decide (i <= j))) (f := Fd) (f' := Fd) (fR fun _ _ _ => .bl _) rT (fR fun _ _ _ => .bl _) rT
 ⟨(xZ xU xU ha.pe hb.pe hc.pe hm).imp q.1, q.2⟩
end
section
variable {X : Cx} {a b c e : Expr} {es rest : List Expr} {pos : Pos} {ta tb tc : ED} {ua ub : TD} {t : AD}
def f9 : AD := fun _ Q => Q []
def cB (ta : ED) (t : AD) : AD := fun δ Q => ta δ fun d => t δ fun ds => Q (d :: ds)
theorem aD : kH X [] f9 := ⟨PA.imp gO fun σ H Q ⟨δ, r, h⟩ => h [] H (aK.refl _) .nil, fun δ P P' g h => g _ h⟩
theorem aA (ha : PD X e ta) (hr : kH X es t) (hs : starEach (e :: es) X.env = (false, eval e X.env) :: starEach es X.env := by rfl) : kH X (e :: es) (cB ta t) :=
 ⟨PA.imp (bq ha.pe hr.pa hs) fun σ H Q ⟨δ, r, h⟩ => ⟨δ, r, ha.mono _ _ _ (fun d h1 v H1 s1 dv => ⟨δ, r.same s1, hr.mono _ _ _ (fun ds h2 vs H2 s2 dvs => h2 (v :: vs) H2 (s1.trans s2) (.cons (dv.same s2) dvs)) h1⟩) h⟩,
  fun δ P P' g h => ha.mono _ _ _ (fun d h1 => hr.mono _ _ _ (fun ds h2 => g _ h2) h1) h⟩
def sS (t : AD) : ED := fun δ Q => t δ fun ds => ds.length <= sizeLine /\ Q (.tup ds)
def DY (t : AD) : ED := fun δ Q => t δ fun ds => ds.length <= sizeLine /\ Q (.lst ds)
theorem aU {x1} (h : kH X es t) : PD X (.Tuple es x1 pos) (sS t) :=
 ⟨(xg h.pa).imp fun σ H Q ⟨δ, r, q⟩ => ⟨δ, r, h.mono _ _ _ (fun ds ⟨hl, k⟩ vs H1 s1 dvs => ⟨by rw [dvs.length]; exact hl, fun p hp => k _ _ (s1.trans (aS hp)) (.tup (ej.of aI) (dvs.same (aS hp)))⟩) q⟩,
  fun δ P P' g q => h.mono _ _ _ (fun ds ⟨hl, k⟩ => ⟨hl, g _ k⟩) q⟩
theorem bY (h : kH X es t) : PD X (.List es pos) (DY t) :=
 ⟨(xc h.pa).imp fun σ H Q ⟨δ, r, q⟩ => ⟨δ, r, h.mono _ _ _ (fun ds ⟨hl, k⟩ vs H1 s1 dvs => ⟨by rw [dvs.length]; exact hl, fun p hp => k _ _ (s1.trans (aS hp)) (.lst (c_.of aI) (dvs.same (aS hp)))⟩) q⟩,
  fun δ P P' g q => h.mono _ _ _ (fun ds ⟨hl, k⟩ => ⟨hl, g _ k⟩) q⟩
def nX : Expr -> Option D
 | .Constant (.str x) _ _ => some (.str x)
 | .Constant (.int i) _ _ => some (.int i)
 | .Constant (.bool b) _ _ => some (.bl b)
 | .Constant .none _ _ => some .aV
 | .UnaryOp .USub (.Constant (.int i) _ _) _ => some (.int (-i))
 | _ => none
def gq : List Expr -> List D
 | [] => []
 | e :: es => (nX e).getD .aV :: gq es
def A7 (ds : List D) : AD := fun _ Q => Q ds
theorem eT : ∀ {es : List Expr} (_ : es.all (fun e => (nX e).isSome) = true), kH X es (A7 (gq es))
 | [], _ => ⟨aD.pa, fun δ P P' g h => g _ h⟩
 | e :: es, h => by
  rw [List.all_cons, Bool.and_eq_true] at h
  have ih := eT h.2
  obtain ⟨v, hv⟩ := Option.isSome_iff_exists.mp h.1
  have e1 : gq (e :: es) = v :: gq es := by
   show (nX e).getD .aV :: gq es = _
   rw [hv]
   rfl
  rw [e1]
  refine ⟨?_, fun δ P P' g h => g _ h⟩
  have one : kH X (e :: es) (cB (vC v) (A7 (gq es))) := by
   unfold nX at hv
   split at hv
   ·cases hv; exact aA aj ih rfl
   ·cases hv; exact aA aB ih rfl
   ·cases hv; exact aA Bs ih rfl
   ·cases hv; exact aA b8 ih rfl
   ·cases hv
    refine aA ⟨(D6 aB).pe.imp ?_, fun δ P P' g h => g _ h⟩ ih rfl
    exact fun σ H Q ⟨δ, r, q⟩ => ⟨δ, r, _, rfl, q⟩
   ·cases hv
  exact one.pa
def Fc : F2 := fun d e Q => match d, e with
 | .lst xs, .int i => ∃ r, eo xs i = some r /\ Q r
 | .tup xs, .int i => ∃ r, eo xs i = some r /\ Q r
 | .str z, .int i => z.length <= sizeLine /\ ∃ c, eo z.cps.toList i = some c /\ Q (.str ⟨#[c]⟩)
 | _, _ => False
theorem GJ : cS Fc := by
 intro d e P P' f h
 unfold Fc at h ⊢
 split at h
 ·obtain ⟨r, hr, q⟩ := h; exact ⟨r, hr, f _ q⟩
 ·obtain ⟨r, hr, q⟩ := h; exact ⟨r, hr, f _ q⟩
 ·obtain ⟨hz, r, hr, q⟩ := h; exact ⟨hz, r, hr, f _ q⟩
 ·exact h.elim
theorem ar.eo {K : PySem.W.Frag} {H : Hp} {vs : List V} {ds : List D} {i : Int} {d : D} (h : ar K H vs ds) (e : L2.eo ds i = some d) : ∃ v, L2.eo vs i = some v /\ Dv K H v d := by
 unfold L2.eo at e ⊢
 rw [h.length]
 cases q : CD ds.length i with
 | none => rw [q] at e; cases e
 | some j =>
  rw [q] at e
  exact h.get e
theorem zG {K : PySem.W.Frag} : eO K (HI K) Fc := by
 intro H x y d e Q hx hy h
 cases hy with
 | int i => cases hx with
  | lst h1 h2 =>
   obtain ⟨r, hr, q⟩ := h
   obtain ⟨v, hv, dv⟩ := h2.eo hr
   exact .inl ⟨_, _, i, v, rfl, rfl, h1, hv, q _ H (aK.refl _) dv⟩
  | tup h1 h2 =>
   obtain ⟨r, hr, q⟩ := h
   obtain ⟨v, hv, dv⟩ := h2.eo hr
   exact .inr (.inl ⟨_, _, i, v, rfl, rfl, h1, hv, q _ H (aK.refl _) dv⟩)
  | str z =>
   obtain ⟨hz, c, hc, q⟩ := h
   exact .inr (.inr ⟨z, i, c, rfl, rfl, hz, hc, q _ H (aK.refl _) (.str _)⟩)
  | _ => exact h.elim
 | _ => cases hx <;> exact h.elim
def DX : ED -> ED -> ED := lZ Fc
theorem aR (ha : PD X a ta) (hb : PD X b tb) (hs : nR b) : PD X (.Subscript a b pos) (DX ta tb) := pS (t := oE X.K ta) (BL CF ha.pe hb.pe hs) ha.mono hb.mono zG GJ
def cutD (xs : List D) (lo hi : Option Int) : List D := (xs.drop (HT.cA xs.length 0 lo)).take (HT.cA xs.length xs.length hi - HT.cA xs.length 0 lo)
theorem ar.cut {K : PySem.W.Frag} {H : Hp} {vs : List V} {ds : List D} (h : ar K H vs ds) (lo hi : Option Int) : ar K H (pQ vs lo hi) (cutD ds lo hi) := by
 unfold pQ cutD
 rw [h.length]
 exact (h.drop _).take _
def Fe (d : D) (lo hi : Option Int) (Q : D -> Prop) : Prop := match d with
 | .lst xs => Q (.lst (cutD xs lo hi))
 | .tup xs => ¬ (HT.cA xs.length 0 lo = 0 /\ HT.cA xs.length xs.length hi = xs.length) /\ Q (.tup (cutD xs lo hi))
 | .str z => z.length <= sizeLine /\ Q (.str (Txt.slice z lo hi))
 | _ => False
theorem GL {d : D} {lo hi : Option Int} {P P' : D -> Prop} (f : ∀ r, P r -> P' r) (h : Fe d lo hi P) : Fe d lo hi P' := by
 unfold Fe at h ⊢
 split at h
 ·exact f _ h
 ·exact ⟨h.1, f _ h.2⟩
 ·exact ⟨h.1, f _ h.2⟩
 ·exact h.elim
theorem Gd : ym X (fun x lo hi H Q => E6 X.K x lo hi H Q \/ E7 X.K x lo hi H Q \/ ∃ z, x = .str z /\ z.length <= sizeLine /\ Q (.str (Txt.slice z lo hi)) H) := Ap.or (DH.or DG)
abbrev OD := SD -> (Option Int -> Prop) -> Prop
structure Fb (X : Cx) (e : Option Expr) (t : OD) : Prop where
 po : PO X e (fun σ H Q => ∃ δ, aw X.K H σ δ /\ t δ fun o => ∀ H', aK H H' -> Q o H')
 mono : ∀ δ (P P' : Option Int -> Prop), (∀ d, P d -> P' d) -> t δ P -> t δ P'
def Em : OD := fun _ Q => Q none
def En (t : ED) : OD := fun δ Q => t δ fun d => ∃ i, d = .int i /\ Q (some i)
theorem PO.imp {e : Option Expr} {t t' : TO} (h : PO X e t) (f : ∀ σ H Q, t' σ H Q -> t σ H Q) : PO X e t' := fun pins s σ H Q I q => h pins s σ H Q I (f σ H Q q)
theorem rj : Fb X none Em := ⟨PO.imp AR fun σ H Q ⟨δ, r, h⟩ => h H (aK.refl _), fun δ P P' g h => g _ h⟩
theorem lL (h : PD X e ta) : Fb X (some e) (En ta) :=
 ⟨PO.imp (AS h.pe) fun σ H Q ⟨δ, r, q⟩ => ⟨δ, r, h.mono _ _ _ (fun d ⟨i, ed, k⟩ v H1 s1 dv => by subst ed; cases dv; exact ⟨i, rfl, k H1 s1⟩) q⟩, fun δ P P' g q => h.mono _ _ _ (fun d ⟨i, ed, k⟩ => ⟨i, ed, g _ k⟩) q⟩
def Hv (ta : ED) (tl th : OD) : ED := fun δ Q => ta δ fun d => tl δ fun lo => th δ fun hi => Fe d lo hi Q
theorem kW {lo hi : Option Expr} {tl th : OD} {p2 : Pos} (he : PD X e ta) (hl : Fb X lo tl) (hh : Fb X hi th) : PD X (.Subscript e (.Slice lo hi none p2) pos) (Hv ta tl th) := by
 refine ⟨(xf Gd he.pe hl.po hh.po).imp fun σ H Q ⟨δ, r, h⟩ => ⟨δ, r, he.mono _ _ _ (fun d h1 v H1 s1 dv => ⟨δ, r.same s1, hl.mono _ _ _ (fun lo h2 H2 s2 => ⟨δ, r.same (s1.trans s2), hh.mono _ _ _ (fun hi h3 H3 s3 => ?_) h2⟩) h1⟩) h⟩,
  fun δ P P' g h => he.mono _ _ _ (fun d h1 => hl.mono _ _ _ (fun lo h2 => hh.mono _ _ _ (fun hi h3 => GL g h3) h2) h1) h⟩
 have s := s1.trans (s2.trans s3)
 have dv3 := dv.same (s2.trans s3)
 clear h1 h2 dv
 cases dv3 with
 | lst h1 h2 => exact .inl ⟨_, _, rfl, h1, fun p hp => h3 _ _ (s.trans (aS hp)) (.lst (c_.of aI) ((h2.cut lo hi).same (aS hp)))⟩
 | tup h1 h2 => exact .inr (.inl ⟨_, _, rfl, h1, by rw [h2.length]; exact h3.1, fun p hp => h3.2 _ _ (s.trans (aS hp)) (.tup (ej.of aI) ((h2.cut lo hi).same (aS hp)))⟩)
 | str z => exact .inr (.inr ⟨z, rfl, h3.1, h3.2 _ H3 s (.str _)⟩)
 | _ => exact h3.elim
def A1 (K : PySem.W.Frag) (ta : ED) (f : Str) : ED := fun δ Q => ta δ fun d => ∃ C gs r, d = .obj C gs /\ pH K C /\ cy K C f /\ gs.lookup f = some r /\ Q r
theorem D3 {f : Str} (he : PD X e ta) (hb : attributeBase e f X.env (eval e X.env) = eval e X.env) : PD X (.Attribute e f pos) (A1 X.K ta f) :=
 ⟨(AL he.pe hb).imp fun σ H Q ⟨δ, r, h⟩ => ⟨δ, r, he.mono _ _ _ (fun d ⟨C, gs, r, ed, hc, hn, hl, k⟩ v H1 s1 dv => by
   subst ed
   cases dv with
   | obj h1 h2 =>
    obtain ⟨w, hw, dw⟩ := h2.look hl
    exact ⟨_, _, _, _, w, rfl, h1, hc, hn, hw, k _ H1 s1 dw⟩) h⟩,
  fun δ P P' g h => he.mono _ _ _ (fun d ⟨C, gs, r, ed, hc, hn, hl, k⟩ => ⟨C, gs, r, ed, hc, hn, hl, g _ k⟩) h⟩
abbrev cg := List D -> (D -> Prop) -> Prop
abbrev bU (sd : cg) : Prop := ∀ ds (P P' : D -> Prop), (∀ d, P d -> P' d) -> sd ds P -> sd ds P'
def qg (K : PySem.W.Frag) (sd : cg) : Sp := fun vs H Q _ => ∃ ds, ar K H vs ds /\ sd ds (kD K H Q)
def yU (sd : cg) (t : AD) : ED := fun δ Q => t δ fun ds => sd ds Q
theorem Bt {k : Nat} {f : Addr} {fd : FuncData} {ps : List Str} {x : Str} {p : Pos} {sd : cg} (F : bR X.prog X.w X.K X.mg X.base km k f fd ps (qg X.K sd)) (ms : bU sd) (hr : ao k X.A) (hg : Gl X x) (hm : X.mg x = some (.ref f))
  (hk : PySem.W.keepIn X.K (.ref f) = true) (hb : Binds X.K fd ps []) (ha : kH X (e :: es) t) (hdb : (x == ("__debug__" : Str)) = false := by decide)
  (hp : PE X (.Call (.Name x p) (e :: es) [] pos) (BU (qg X.K sd) [] E0 (oA X.K t)) := by exact t5 F hr hg hm hk hb .nil tw ha.pa) : PD X (.Call (.Name x p) (e :: es) [] pos) (yU sd t) :=
 ⟨hp.imp fun σ H Q ⟨δ, r, h⟩ => ⟨δ, r, ha.mono _ _ _ (fun ds h1 vs H1 s1 dvs => ⟨ds, by rw [List.append_nil]; exact dvs, ms _ _ _ (fun d k => k.on s1) h1⟩) h⟩, fun δ P P' g h => ha.mono _ _ _ (fun ds h1 => ms _ _ _ g h1) h⟩
def vB (sd : cg) (t : AD) : ED := fun δ Q => t δ fun ds => sd ds Q
def mK (K : PySem.W.Frag) (r : List V -> Hp -> VK -> Prop) (sd : cg) : Prop := ∀ H vs ds Q, ar K H vs ds -> sd ds (kD K H Q) -> r vs H Q
theorem vz {r : List V -> Hp -> VK -> Prop} {sd : cg} (hp : PE X e (FE r (oA X.K t))) (ha : jy t) (hd : mK X.K r sd) (ms : bU sd) : PD X e (vB sd t) :=
 ⟨hp.imp fun σ H Q ⟨δ, r, h⟩ => ⟨δ, r, ha _ _ _ (fun ds h1 vs H1 s1 dvs => hd H1 vs ds Q dvs (ms _ _ _ (fun d k => k.on s1) h1)) h⟩, fun δ P P' g h => ha _ _ _ (fun ds h1 => ms _ _ _ g h1) h⟩
end
structure ia where
 nx : SD -> Prop
 rt : D -> Prop
 bk : SD -> Prop := fun _ => False
 ct : SD -> Prop := fun _ => False
abbrev eB := ia -> SD -> Prop
structure ia.Le (E E' : ia) : Prop where
 nx : ∀ δ, E.nx δ -> E'.nx δ
 rt : ∀ d, E.rt d -> E'.rt d
 bk : ∀ δ, E.bk δ -> E'.bk δ
 ct : ∀ δ, E.ct δ -> E'.ct δ
abbrev mQ (t : eB) : Prop := ∀ E E' δ, ia.Le E E' -> t E δ -> t E' δ
def kS (K : PySem.W.Frag) (H : Hp) (Q : L2.St -> Hp -> Prop) : SD -> Prop := fun δ => ∀ σ H', aK H H' -> aw K H' σ δ -> Q σ H'
def gF (K : PySem.W.Frag) (H : Hp) (D : Ends) : ia := ⟨kS K H D.nx, kD K H D.rt, kS K H D.bk, kS K H D.ct⟩
theorem kS.on {K : PySem.W.Frag} {H H1 : Hp} {Q : L2.St -> Hp -> Prop} {δ : SD} (s : aK H H1) (h : kS K H Q δ) : kS K H1 Q δ := fun σ H' s' r => h σ H' (s.trans s') r
theorem ni {K : PySem.W.Frag} {H H1 : Hp} {D : Ends} (s : aK H H1) : ia.Le (gF K H D) (gF K H1 D) := ⟨fun _ h => h.on s, fun _ h => h.on s, fun _ h => h.on s, fun _ h => h.on s⟩
def oS (K : PySem.W.Frag) (t : eB) : TS := fun D σ H => ∃ δ, aw K H σ δ /\ t (gF K H D) δ
structure sk (X : Cx) (st : Stmt) (t : eB) : Prop where
 ps : PS X st (oS X.K t)
 mono : mQ t
structure f7 (X : Cx) (st : List Stmt) (t : eB) : Prop where
 ps : gi X st (oS X.K t)
 mono : mQ t
section
variable {X : Cx} {st : Stmt} {rest body els : List Stmt} {t u : eB} {e c : Expr} {te : ED} {uc : TD} {pos : Pos}
theorem PS.imp {t t' : TS} (h : PS X st t) (f : ∀ D σ H, t' D σ H -> t D σ H) : PS X st t' := fun pins s σ H D I q => h pins s σ H D I (f D σ H q)
theorem gi.imp {t t' : TS} (h : gi X rest t) (f : ∀ D σ H, t' D σ H -> t D σ H) : gi X rest t' := fun pins s σ H D I q => h pins s σ H D I (f D σ H q)
def E1 : eB := fun E δ => E.nx δ
def C_ (t u : eB) : eB := fun E δ => t { E with nx := u E } δ
theorem aX : f7 X [] E1 := ⟨gi.imp oj fun D σ H ⟨δ, r, h⟩ => h σ H (aK.refl _) r, fun E E' δ l h => l.nx _ h⟩
theorem aH (h1 : sk X st t) (h2 : f7 X rest u) : f7 X (st :: rest) (C_ t u) :=
 ⟨gi.imp (dz h1.ps h2.ps) fun D σ H ⟨δ, r, h⟩ => ⟨δ, r, h1.mono { gF X.K H D with nx := u (gF X.K H D) } _ _ ⟨fun δ' q σ' H' s' r' => ⟨δ', r', h2.mono _ _ _ (ni s') q⟩, fun _ q => q, fun _ q => q, fun _ q => q⟩ h⟩,
  fun E E' δ l h => h1.mono { E with nx := u E } _ _ ⟨fun δ' q => h2.mono _ _ _ l q, l.rt, l.bk, l.ct⟩ h⟩
theorem aF (h1 : sk X st t) : f7 X [st] t := ⟨om h1.ps, h1.mono⟩
def GZ (te : ED) : eB := fun E δ => te δ E.rt
theorem aN (he : PD X e te) : sk X (.Return (some e) pos) (GZ te) := ⟨PS.imp (C5 he.pe) fun D σ H ⟨δ, r, h⟩ => ⟨δ, r, h⟩, fun E E' δ l h => he.mono _ _ _ l.rt h⟩
def Ez (te : ED) : eB := fun E δ => te δ fun _ => E.nx δ
theorem cO (he : PD X e te) (hs : swapsWith e none pos.line X.env = pure false := by rfl) : sk X (.Expr e pos) (Ez te) :=
 ⟨PS.imp (t7 he.pe hs) fun D σ H ⟨δ, r, h⟩ => ⟨δ, r, he.mono _ _ _ (fun d q v H1 s1 dv => q σ H1 s1 (r.same s1)) h⟩, fun E E' δ l h => he.mono _ _ _ (fun d q => l.nx _ q) h⟩
def Ac (i : Nat) (te : ED) : eB := fun E δ => te δ fun d => E.nx (δ.set i (some d))
theorem ak {i : Nat} {x : Str} {pos' : Pos} (hN : X.N.Nodup) (hi : X.N[i]? = some x) (hx : Loc X.env.scope x) (he : PD X e te) (hs : swapsWith e (some (.Name x pos')) pos.line X.env = pure false := by rfl)
  (hf : X.fn x = true \/ X.env.scope.names.lookup x = some .local := by first | exact .inl rfl | exact .inr rfl | assumption) : sk X (.Assign [.Name x pos'] e pos) (Ac i te) :=
 ⟨PS.imp (ro hN hi hx he.pe hs hf) fun D σ H ⟨δ, r, h⟩ => ⟨δ, r, he.mono _ _ _ (fun d q v H1 s1 dv => q _ H1 s1 ((r.same s1).set i dv)) h⟩, fun E E' δ l h => he.mono _ _ _ (fun d q => l.nx _ q) h⟩
def Hd (uc : TD) (t u : eB) : eB := fun E δ => uc δ fun b => if b = true then t E δ else u E δ
theorem bO (hc : jc X c uc) (ha : f7 X body t) (hb : f7 X els u) : sk X (.If c body els pos) (Hd uc t u) := by
 refine ⟨PS.imp (BM hc.pt ha.ps hb.ps) fun D σ H ⟨δ, r, h⟩ => ⟨δ, r, hc.mono _ _ _ (fun k q H1 s1 => ?_) h⟩, fun E E' δ l h => hc.mono _ _ _ (fun k q => ?_) h⟩
 ·cases k with
  | true => rw [if_pos rfl] at q ⊢; exact ⟨δ, r.same s1, ha.mono _ _ _ (ni s1) q⟩
  | false => rw [if_neg Bool.false_ne_true] at q ⊢; exact ⟨δ, r.same s1, hb.mono _ _ _ (ni s1) q⟩
 ·cases k with
  | true => rw [if_pos rfl] at q ⊢; exact ha.mono _ _ _ l q
  | false => rw [if_neg Bool.false_ne_true] at q ⊢; exact hb.mono _ _ _ l q
def C9 : eB := fun _ _ => False
theorem jK : sk X st C9 := ⟨PS.imp xo fun D σ H ⟨δ, r, h⟩ => h, fun E E' δ l h => h⟩
end
def bB (N : List Str) (ds : List D) : SD := ds.map some ++ List.replicate (N.length - ds.length) none
theorem dY {K : PySem.W.Frag} {H : Hp} {N : List Str} {vs : List V} {ds : List D} (h : ar K H vs ds) : aw K H (L2.start N vs) (bB N ds) := by
 unfold L2.start bB
 have hl := h.length
 refine ⟨by rw [List.length_append, List.length_append, List.length_map, List.length_map, List.length_replicate, List.length_replicate, hl], fun i d e => ?_⟩
 by_cases hi : i < ds.length
 ·rw [List.getElem?_append_left (by rw [List.length_map]; exact hi), List.getElem?_map] at e
  cases q : ds[i]? with
  | none => rw [q] at e; cases e
  | some d' =>
   rw [q] at e
   cases e
   obtain ⟨v, hv, dv⟩ := h.get q
   exact ⟨v, by rw [List.getElem?_append_left (by rw [List.length_map]; omega), List.getElem?_map, hv]; rfl, dv⟩
 ·rw [List.getElem?_append_right (by rw [List.length_map]; omega), List.getElem?_replicate] at e
  split at e <;> cases e
section
variable {P : Program} {w : World} {K : PySem.W.Frag} {mg : Str -> Option Value} {base : Heap}
abbrev Bx (P : Program) (w : World) (K : PySem.W.Frag) (mg : Str -> Option Value) (base : Heap) (N : List Str) (qual : Str) (st : Stmt) (f : Addr) (cdv : Value) (A : Around) (outer : List Env) (s : Shared) (H : Hp) (E : XK) : Cx := (kN km P w K mg base N qual (aC st) f cdv A outer s H E).Cf
theorem HF {x qual : Str} {st : Stmt} {f : Addr} {fd : FuncData} {N ps : List Str} {k : Nat} {sd : cg} {t : eB} (F : qq K x qual st f fd) (S : aG N ps (aC st)) (len : ∀ ds Q, sd ds Q -> ds.length = ps.length)
  (hb : ∀ (cdv : Value) (A : Around) (outer : List Env) (s : Shared) (H : Hp) (E : XK), ao k (A.deeper (envOfC qual (aC st) s.heap.objs.size f cdv)) -> f7 (Bx P w K mg base N qual st f cdv A outer s H E) (aY st) t)
  (hr : ∀ ds Q, sd ds Q -> t { nx := fun _ => Q .aV, rt := Q } (bB N ds)) : bR P w K mg base km (k + 1) f fd ps (qg K sd) := by
 refine F.ok S (fun vs H Q E ⟨ds, dvs, h⟩ => by rw [dvs.length]; exact len ds _ h) (fun cdv A outer s H vs Q E hroom ⟨ds, dvs, h⟩ => ?_)
 have B := hb cdv A outer s H E hroom
 refine ⟨_, B.ps, bB N ds, dY dvs, ?_⟩
 refine B.mono { nx := fun _ => kD K H Q .aV, rt := kD K H Q } _ _ ⟨fun δ q σ H' s' r => q _ H' s' .aV, fun d q => q, fun _ q => q.elim, fun _ q => q.elim⟩ (hr ds _ h)
end
structure De (K : PySem.W.Frag) (J : It) (H1 : Hp) (ds : List D) : Prop where
 go : ∀ i H', aK H1 H' -> i < ds.length -> J.go i H'
 stop : ∀ H', aK H1 H' -> J.stop ds.length H'
 yZ : ∀ i H' x H'', aK H1 H' -> i < ds.length -> J.yZ i H' x H'' -> aK H' H'' /\ ∃ d, ds[i]? = some d /\ ∃ Hx, aK H1 Hx /\ Dv K Hx x d /\ (∀ a o, Hx a = some o -> H1 a = some o \/ H' a = none) /\ aK Hx H''
structure PId (X : Cx) (tg iter : Expr) (ti : AD) : Prop where
 pi : PI X tg iter (fun σ H R => ∃ δ, aw X.K H σ δ /\ ti δ fun ds => ∀ J H1, aK H H1 -> De X.K J H1 ds -> R J H1)
 mono : jy ti
def CC : D -> Option (List D)
 | .lst xs => some xs
 | .tup xs => some xs
 | .str y => some (y.cps.toList.map fun c => .str ⟨#[c]⟩)
 | _ => none
def Bh (te : ED) : AD := fun δ Q => te δ fun d => ∃ ds, CC d = some ds /\ Q ds
section
variable {X : Cx} {tg : Expr} {l : Expr} {te : ED}
theorem PI.imp {wi wi' : TI} (h : PI X tg l wi) (f : ∀ σ H R, wi' σ H R -> wi σ H R) : PI X tg l wi' := fun pins s σ H R I q => h pins s σ H R I (f σ H R q)
theorem C0 {tl : TE} (hl : PE X l tl) : PI X tg l (fun σ H R => tl σ H fun x H1 => (∃ a, x = .ref a /\ (∃ xs, c_ X.K H1 a xs) /\ R (G7 X.K a) H1) \/ (∃ a, x = .ref a /\ (∃ xs, ej X.K H1 a xs) /\ R (G8 X.K a) H1) \/ ∃ y, x = .str y /\ R (Fn y) H1) := by
 intro pins s σ H R I h
 refine au (hl pins s σ H _ I h) fun v s1 ⟨x, H1, I1, r1, q1⟩ => ?_
 have hf : ∀ b ∈ [s1.heap.objs.size], ei X pins H1 b := fun b hb => by
  have e : b = s1.heap.objs.size := by simpa using hb
  subst e
  exact I1.wY (Nat.le_refl _) (I1.ah.fresh (Nat.le_refl _))
 rcases q1 with ⟨a, e, ⟨xs, hq⟩, q⟩ | ⟨a, e, ⟨xs, hq⟩, q⟩ | ⟨y, e, q⟩
 ·subst e
  cases (show v = Value.ref a from r1)
  obtain ⟨its, rv, p, hz⟩ := I1.list hq
  exact wpAny_pyIter_list p.isList ⟨s1.heap.objs.size, [s1.heap.objs.size], _, _, H1, rfl, I1.kept (t' := s1.toks) fun b o e => Heap.get?_push_of_some _ e, vO a _, ⟨_, Heap.get?_push_size _ rfl, rfl, rfl⟩, hf, q⟩
 ·subst e
  cases (show v = Value.ref a from r1)
  obtain ⟨its, rv, p, hz⟩ := I1.tuple hq
  exact wpAny_pyIter_tuple (show s1.heap.IsTuple a its.toArray from p) ⟨s1.heap.objs.size, [s1.heap.objs.size], _, _, H1, rfl, I1.kept (t' := s1.toks) fun b o e => Heap.get?_push_of_some _ e, sO a _, ⟨_, Heap.get?_push_size _ rfl, rfl, rfl⟩, hf, q⟩
 ·subst e
  obtain ⟨t, rfl⟩ := r1
  cases ha : y.cps.all (· < 128)
  ·exact wpAny_pyIter_wide ha ⟨s1.heap.objs.size, [s1.heap.objs.size], _, _, H1, rfl, I1.kept (t' := s1.toks) fun b o e => Heap.get?_push_of_some _ e, vQ y t _, ⟨_, Heap.get?_push_size _ rfl, rfl, rfl⟩, hf, q⟩
  ·exact wpAny_pyIter_ascii ha ⟨s1.heap.objs.size, [s1.heap.objs.size], _, _, H1, rfl, I1.kept (t' := s1.toks) fun b o e => Heap.get?_push_of_some _ e, vP y t _, ⟨_, Heap.get?_push_size _ rfl, rfl, rfl⟩, hf, q⟩
theorem gJ (he : PD X l te) : PId X tg l (Bh te) := by
 refine ⟨PI.imp (C0 he.pe) fun σ H R ⟨δ, r, h⟩ => ⟨δ, r, he.mono _ _ _ (fun d ⟨ds, e, q⟩ v H1 s1 dv => ?_) h⟩, fun δ P P' g h => he.mono _ _ _ (fun d ⟨ds, e, q⟩ => ⟨ds, e, g _ q⟩) h⟩
 cases dv with
 | lst h1 h2 =>
  cases e
  refine .inl ⟨_, rfl, ⟨_, h1⟩, q _ H1 s1 ⟨fun i H' s' hi => ?_, fun H' s' => ⟨_, s'.seq h1, by rw [h2.length]; exact Nat.le_refl _⟩, fun i H' x H'' s' hi y => ?_⟩⟩
  ·obtain ⟨v, hv, _⟩ := h2.get (List.getElem?_eq_getElem hi)
   exact ⟨_, v, s'.seq h1, hv⟩
  ·obtain ⟨rfl, y2⟩ := y
   obtain ⟨d, hd, dv⟩ := h2.wb (y2 _ (s'.seq h1))
   exact ⟨aK.refl _, d, hd, H1, aK.refl _, dv, fun _ _ z => .inl z, s'⟩
 | tup h1 h2 =>
  cases e
  refine .inr (.inl ⟨_, rfl, ⟨_, h1⟩, q _ H1 s1 ⟨fun i H' s' hi => ?_, fun H' s' => ⟨_, j9 s' h1, by rw [h2.length]; exact Nat.le_refl _⟩, fun i H' x H'' s' hi y => ?_⟩⟩)
  ·obtain ⟨v, hv, _⟩ := h2.get (List.getElem?_eq_getElem hi)
   exact ⟨_, v, j9 s' h1, hv⟩
  ·obtain ⟨rfl, y2⟩ := y
   obtain ⟨d, hd, dv⟩ := h2.wb (y2 _ (j9 s' h1))
   exact ⟨aK.refl _, d, hd, H1, aK.refl _, dv, fun _ _ z => .inl z, s'⟩
 | str y =>
  cases e
  refine .inr (.inr ⟨_, rfl, q _ H1 s1 ⟨fun i H' s' hi => ?_, fun H' s' => ?_, fun i H' x H'' s' hi y => ?_⟩⟩)
  ·have hi' : i < y.cps.size := by simpa using hi
   exact hi'
  ·show y.cps.size <= _
   simp
  ·obtain ⟨rfl, c, hc, rfl⟩ := y
   refine ⟨aK.refl _, .str ⟨#[c]⟩, ?_, H1, aK.refl _, .str _, fun _ _ z => .inl z, s'⟩
   rw [List.getElem?_map, Array.getElem?_toList, hc]
   rfl
 | _ => cases e
def yn (t : AD) : AD := fun δ Q => t δ fun ds => ∃ n : Int, ds = [.int n] /\ -(2 ^ 62) <= n /\ n < 2 ^ 62 /\ Q ((List.range n.toNat).map fun i : Nat => .int (0 + (i : Int)))
theorem wt {K : PySem.W.Frag} {H : Hp} (lo : Int) (n : Nat) : De K (FY lo n) H ((List.range n).map fun i : Nat => .int (lo + (i : Int))) := by
 refine ⟨fun i H' s' hi => ?_, fun H' s' => ?_, fun i H' x H'' s' hi y => ?_⟩
 ·have hi' : i < n := by simpa using hi
  exact hi'
 ·show n <= _
  simp
 ·obtain ⟨rfl, rfl⟩ := y
  have hi' : i < n := by simpa using hi
  exact ⟨aK.refl _, .int (lo + i), by rw [List.getElem?_map, List.getElem?_range hi']; rfl, H, aK.refl _, .int _, fun _ _ z => .inl z, s'⟩
theorem jG {a : Expr} {ta : AD} {p pos : Pos} (hg : Gl X "range") (hm : X.mg "range" = none) (ha : kH X [a] ta) (hs : starEach [a] X.env = [(false, eval a X.env)] := by rfl) : PId X tg (.Call (.Name "range" p) [a] [] pos) (yn ta) := by
 refine ⟨PI.imp (u7 hg hm ha.pa hs) fun σ H R ⟨δ, r, h⟩ => ⟨δ, r, ha.mono _ _ _ (fun ds ⟨n, e, h1, h2, q⟩ vs H1 s1 dvs => ?_) h⟩, fun δ P P' g h => ha.mono _ _ _ (fun ds ⟨n, e, h1, h2, q⟩ => ⟨n, e, h1, h2, g _ q⟩) h⟩
 subst e
 cases dvs with
 | cons a b =>
  cases a
  cases b
  exact ⟨n, rfl, h1, h2, q _ H1 s1 (wt 0 n.toNat)⟩
end
abbrev yd := D -> SD -> (SD -> Prop) -> Prop
structure Du (X : Cx) (tg : Expr) (g : yd) : Prop where
 pg : PG X tg (fun v σ H Q => ∃ d δ, Dv X.K H v d /\ aw X.K H σ δ /\ g d δ (kS X.K H Q))
 mono : ∀ d δ (P P' : SD -> Prop), (∀ δ, P δ -> P' δ) -> g d δ P -> g d δ P'
def hName (i : Nat) : yd := fun d δ Q => Q (δ.set i (some d))
section
variable {X : Cx} {tg iter : Expr} {body : List Stmt} {ti : AD} {g : yd} {tb : eB} {pos : Pos}
theorem PG.imp {t t' : TG} (h : PG X tg t) (f : ∀ v σ H Q, t' v σ H Q -> t v σ H Q) : PG X tg t' := fun pins s σ H v u Q I r q => h pins s σ H v u Q I r (f v σ H Q q)
theorem iN {i : Nat} {x : Str} (hN : X.N.Nodup) (hi : X.N[i]? = some x) (hx : Loc X.env.scope x) (hf : X.fn x = true \/ X.env.scope.names.lookup x = some .local := by first | exact .inl rfl | exact .inr rfl | assumption) : Du X (.Name x pos) (hName i) :=
 ⟨PG.imp (bS hN hi hx hf) fun v σ H Q ⟨d, δ, dv, r, q⟩ => q _ H (aK.refl _) (r.set i dv), fun d δ P P' f q => f _ q⟩
def GY (ti : AD) (g : yd) (tb : eB) : eB := fun E δ => ti δ fun ds => ∃ inv : Nat -> SD -> Prop, inv 0 δ /\
 (∀ i d δ', ds[i]? = some d -> inv i δ' -> g d δ' fun δ2 => tb { E with nx := inv (i + 1), ct := inv (i + 1), bk := E.nx } δ2) /\ ∀ δ', inv ds.length δ' -> E.nx δ'
theorem t9 (hp : PassesOwn (model X.prog X.w) X.A X.env X.xe) (hc : X.calm = true) (hi : PId X tg iter ti) (hg : Du X tg g) (hb : f7 X body tb) (hs : ∀ x, foldedSetIterable iter X.env x = pure x := by intro _; rfl) :
  sk X (.For tg iter body [] pos) (GY ti g tb) := by
 refine ⟨PS.imp (xm hp hc hi.pi hg.pg hb.ps hs) fun D σ H ⟨δ, r, h⟩ => ⟨δ, r, hi.mono _ _ _ (fun ds ⟨inv, i0, step, fin⟩ J H1 s1 it => ?_) h⟩, fun E E' δ l h => hi.mono _ _ _ (fun ds ⟨inv, i0, step, fin⟩ => ⟨inv, i0, fun i d δ' hd hin => hg.mono _ _ _ _ (fun δ2 q => hb.mono { E with nx := inv (i + 1), ct := inv (i + 1), bk := E.nx } _ _ ⟨fun _ q => q, l.rt, l.nx, fun _ q => q⟩ q) (step i d δ' hd hin), fun δ' q => l.nx _ (fin δ' q)⟩) h⟩
 refine ⟨fun i m σ' H' => m = ds.length - i /\ i <= ds.length /\ aK H1 H' /\ ∃ δ', aw X.K H' σ' δ' /\ inv i δ', ⟨ds.length, rfl, Nat.zero_le _, aK.refl _, δ, r.same s1, i0⟩, ?_⟩
 rintro i m σ' H' ⟨rfl, hle, s', δ', r', hin⟩
 by_cases hlt : i < ds.length
 ·refine .inr ⟨it.go i H' s' hlt, fun σ2 H2 => aK H1 H2 /\ ∃ δ2, aw X.K H2 σ2 δ2 /\ inv (i + 1) δ2, fun σ2 H2 ⟨s2, δ2, r2, h2⟩ => ⟨ds.length - (i + 1), by omega, rfl, hlt, s2, δ2, r2, h2⟩, fun x H'' y => ?_⟩
  obtain ⟨s2, d, hd, Hx, _, dvx, _, sx⟩ := it.yZ i H' x H'' s' hlt y
  have dv := dvx.same sx
  have sA := s'.trans s2
  refine ⟨d, δ', dv, r'.same s2, hg.mono _ _ _ _ (fun δ2 q σ3 H3 s3 r3 => ⟨δ2, r3, hb.mono { gF X.K H D with nx := inv (i + 1), ct := inv (i + 1), bk := (gF X.K H D).nx } _ _ ?_ q⟩) (step i d δ' hd hin)⟩
  have sB := s1.trans (sA.trans s3)
  exact ⟨fun δ3 q3 σ4 H4 s4 r4 => ⟨sA.trans (s3.trans s4), δ3, r4, q3⟩, fun _ q3 => q3.on sB, fun _ q3 => q3.on sB, fun δ3 q3 σ4 H4 s4 r4 => ⟨sA.trans (s3.trans s4), δ3, r4, q3⟩⟩
 ·have e : i = ds.length := by omega
  subst e
  exact .inl ⟨it.stop H' s', fin δ' hin σ' H' (s1.trans s') r'⟩
end
structure qt (X : Cx) (ifs : List Expr) (t : TD) : Prop where
 GX : sq X ifs (oT X.K t)
 mono : dM t
def DR : TD := fun _ Q => Q true
section
variable {X : Cx} {c : Expr} {ut : TD}
theorem sq.imp {ifs : List Expr} {t t' : TT} (h : sq X ifs t) (f : ∀ σ H Q, t' σ H Q -> t σ H Q) : sq X ifs t' := fun pins s σ H Q I q => h pins s σ H Q I (f σ H Q q)
theorem gh : qt X [] DR := ⟨sq.imp AY fun σ H Q ⟨δ, r, h⟩ => h H (aK.refl _), fun δ P P' g h => g _ h⟩
theorem sJ (h : jc X c ut) : qt X [c] ut := ⟨AZ h.pt, h.mono⟩
end
def kL (caps : List Nat) (δ : SD) : SD := caps.map fun j => (δ[j]?).getD none
def nJ (caps : List Nat) (ti : AD) (tt : TD) (te : ED) : ED := fun δ Q => ti δ fun ds => ∃ outs : List (Option D), outs.length = ds.length /\
 (∀ (i : Nat) (d : D) (o : Option D), ds[i]? = some d -> outs[i]? = some o -> tt (some d :: kL caps δ) fun b => b = o.isSome /\ (b = true -> te (some d :: kL caps δ) fun y => o = some y)) /\ ds.length < sizeLine /\ Q (.lst (outs.filterMap id))
theorem oa (p : D -> Bool) (gg : D -> D) : ∀ ds : List D, (ds.map fun d => if p d = true then some (gg d) else none).filterMap id = (ds.filter p).map gg
 | [] => rfl
 | d :: ds => by
  rw [List.map_cons, List.filter_cons]
  cases hp : p d with
  | true =>
   rw [if_pos rfl, if_pos rfl, List.map_cons, <- oa p gg ds]
   rfl
  | false =>
   rw [if_neg Bool.false_ne_true, if_neg Bool.false_ne_true, <- oa p gg ds]
   rfl
theorem su {K : PySem.W.Frag} {H : Hp} {σ : L2.St} {δ : SD} (r : aw K H σ δ) {x : V} {d : D} (dv : Dv K H x d) (caps : List Nat) : aw K H (some x :: caps.map fun j => (σ[j]?).getD none) (some d :: kL caps δ) := by
 refine ⟨by unfold kL; simp, fun i e h => ?_⟩
 cases i with
 | zero => simp at h; subst h; exact ⟨x, rfl, dv⟩
 | succ i =>
  unfold kL at h
  simp only [List.getElem?_cons_succ, List.getElem?_map] at h ⊢
  cases q : caps[i]? with
  | none => rw [q] at h; cases h
  | some j =>
   rw [q] at h
   have h' : (δ[j]?).getD none = some e := by simpa using h
   have h2 : δ[j]? = some (some e) := by
    cases z : δ[j]? with
    | none => rw [z] at h'; cases h'
    | some o => rw [z] at h'; exact congrArg some h'
   obtain ⟨v, hv, dv⟩ := r.get j e h2
   exact ⟨v, by simp [hv], dv⟩
theorem pP {K : PySem.W.Frag} {caps : List Nat} {ti : AD} {tt : TD} {te : ED} (mi : jy ti) (mt : dM tt) (me : az te) {σ : L2.St} {H : Hp} {Q : VK} (h : oE K (nJ caps ti tt te) σ H Q) :
  qZ 1 caps (fun σ H R => ∃ δ, aw K H σ δ /\ ti δ fun ds => ∀ J H1, aK H H1 -> De K J H1 ds -> R J H1) (gI 0) (sQ (oT K tt)) (sH (oE K te)) σ H Q := by
 obtain ⟨δ, r, h⟩ := h
 refine ⟨δ, r, mi _ _ _ (fun ds ⟨outs, hol, each, hlen, q⟩ J H1 s1 it D hD => ?_) h⟩
 refine ⟨fun i m ys H' => m = ds.length - i /\ i <= ds.length /\ ∃ H0, H0 D = none /\ aK H1 H0 /\ ar K H0 ys ((outs.take i).filterMap id) /\ H' = upd H0 D (.lst ys), ⟨ds.length, rfl, Nat.zero_le _, H1, hD, aK.refl _, .nil, rfl⟩, ?_⟩
 rintro i m ys H' ⟨rfl, hle, H0, h0, s0, dys, rfl⟩
 refine ⟨aI, ?_⟩
 have sU : aK H1 (upd H0 D (.lst ys)) := s0.trans (aS h0)
 by_cases hlt : i < ds.length
 ·refine .inr ⟨it.go i _ sU hlt, fun x H'' y => ?_⟩
  obtain ⟨s2, d, hd, Hx, sx1, dvx, only, sx⟩ := it.yZ i _ x H'' sU hlt y
  have hD2 : H'' D = some (.lst ys) := s2 _ _ aI
  have ne1 : ∀ a o, H1 a = some o -> a ≠ D := fun a o z => aJ z hD
  have nex : ∀ a o, Hx a = some o -> a ≠ D := fun a o z w => by
   rcases only a o z with z1 | z1
   ·exact ne1 a o z1 w
   ·rw [w, aI] at z1; cases z1
  have sd1 : aK H0 (del H'' D) := fun a o z => by
   rw [bW (aJ z h0)]
   exact s2 a o (aS h0 a o z)
  have sdx : aK Hx (del H'' D) := fun a o z => by
   rw [bW (nex a o z)]
   exact sx a o z
  obtain ⟨o, ho⟩ : ∃ o, outs[i]? = some o := ⟨_, List.getElem?_eq_getElem (show i < outs.length by omega)⟩
  have rel : aw K (del H'' D) (some x :: caps.map fun j => (σ[j]?).getD none) (some d :: kL caps δ) := su (r.same (s1.trans (s0.trans sd1))) (dvx.same sdx) caps
  refine ⟨Le.one, D, ys, hD2, _, rel, mt _ _ _ (fun b ⟨eb, hb⟩ H3 s3 h3 => ?_) (each i d o hd ho)⟩
  have ht : outs.take (i + 1) = outs.take i ++ [o] := by rw [List.take_succ, ho]; rfl
  have s03 : aK H0 H3 := sd1.trans s3
  cases b with
  | false =>
   refine aT ?_
   refine ⟨ds.length - (i + 1), by omega, rfl, hlt, H3, h3, s0.trans s03, ?_, rfl⟩
   have on : o = none := by cases o with | none => rfl | some z => cases eb
   rw [ht, on, List.filterMap_append]
   simpa using dys.same s03
  | true =>
   refine aZ ?_
   refine ⟨D, ys, aI, ?_⟩
   rw [tI h3]
   refine ⟨_, rel.same s3, me _ _ _ (fun y ey v H4 s4 dv h4 => ⟨aI, ?_, ds.length - (i + 1), by omega, rfl, hlt, H4, h4, s0.trans (s03.trans s4), ?_, g8⟩) (hb rfl)⟩
   ·rw [dys.length]
    exact Nat.lt_of_le_of_lt (Nat.le_trans (List.length_filterMap_le _ _) (List.length_take_le' _ _)) (by rw [hol]; exact hlen)
   ·rw [ht, ey, List.filterMap_append]
    exact (dys.same (s03.trans s4)).append (.cons dv .nil)
 ·have e : i = ds.length := by omega
  subst e
  refine .inl ⟨it.stop _ sU, ?_⟩
  rw [<- hol, List.take_length] at dys
  exact q _ _ (s1.trans sU) (.lst (c_.of aI) (dys.same (aS h0)))
section
variable {X : Cx} {scope : Scope} {cl : List (Str × Addr)} {x : Str} {cn : List Str} {caps : List Nat} {elt tg iter : Expr} {ifs : List Expr} {ti : AD} {tt : TD} {te : ED} {pos : Pos}
theorem rV (mi : jy ti) : az (nJ caps ti tt te) := fun δ P P' g h => mi _ _ _ (fun ds ⟨outs, hol, each, hlen, q⟩ => ⟨outs, hol, each, hlen, g _ q⟩) h
theorem Bu (S : bA X scope cl [x] caps cn) (hc : X.calm = true) (hi : PId X tg iter ti) (hg : ∀ C fp s₂ H₂, PG (ag X scope cl C ([x] ++ cn) fp s₂ H₂) tg (gI 0)) (ht : ∀ C fp s₂ H₂, qt (ag X scope cl C ([x] ++ cn) fp s₂ H₂) ifs tt)
  (he : ∀ C fp s₂ H₂, PD (ag X scope cl C ([x] ++ cn) fp s₂ H₂) elt te) (mt : dM tt) (me : az te) (hs : ∀ x, foldedSetIterable iter X.env x = pure x := by intro _; rfl) : PD X (.ListComp elt [⟨tg, iter, ifs, 0⟩] scope pos) (nJ caps ti tt te) :=
 ⟨(AJ S hc hi.pi hg (fun C fp s₂ H₂ => jt (ht C fp s₂ H₂).GX) (fun C fp s₂ H₂ => lN (he C fp s₂ H₂).pe) hs).imp fun σ H Q h => pP hi.mono mt me h, rV hi.mono⟩
theorem DD {i : Nat} {y : Str} {py spos : Pos} (hN : X.N.Nodup) (hi' : X.N[i]? = some y) (hy : Loc X.env.scope y) (S : bA X scope cl [x] caps cn) (hc : X.calm = true) (hi : PId X tg iter ti)
  (hg : ∀ C fp s₂ H₂, PG (ag X scope cl C ([x] ++ cn) fp s₂ H₂) tg (gI 0)) (ht : ∀ C fp s₂ H₂, qt (ag X scope cl C ([x] ++ cn) fp s₂ H₂) ifs tt) (he : ∀ C fp s₂ H₂, PD (ag X scope cl C ([x] ++ cn) fp s₂ H₂) elt te) (mt : dM tt) (me : az te)
  (hsw : swapsWith (.ListComp elt [⟨tg, iter, ifs, 0⟩] scope pos) (some (.Name y py)) spos.line X.env = pure true := by rfl) (hf : X.fn y = true \/ X.env.scope.names.lookup y = some .local := by first | exact .inl rfl | exact .inr rfl | assumption)
  (hs : ∀ x, foldedSetIterable iter X.env x = pure x := by intro _; rfl) : sk X (.Assign [.Name y py] (.ListComp elt [⟨tg, iter, ifs, 0⟩] scope pos) spos) (Ac i (nJ caps ti tt te)) :=
 ⟨PS.imp (AU hN hi' hy S hc hi.pi hg (fun C fp s₂ H₂ => jt (ht C fp s₂ H₂).GX) (fun C fp s₂ H₂ => lN (he C fp s₂ H₂).pe) hsw hf hs) fun D σ H ⟨δ, r, h⟩ =>
   pP hi.mono mt me ⟨δ, r, rV hi.mono _ _ _ (fun d q v H1 s1 dv => q _ H1 s1 ((r.same s1).set i dv)) h⟩,
  fun E E' δ l h => rV hi.mono _ _ _ (fun d q => l.nx _ q) h⟩
end
def jH : D -> Option String
 | .aV => some "NoneType"
 | .bl _ => some "bool"
 | .int _ => some "int"
 | .str _ => some "str"
 | .lst _ => some "list"
 | .tup _ => some "tuple"
 | .dK _ => some "dict"
 | .dT _ => some "dict"
 | .obj _ _ => none
 | .adr _ => none
 | .exc _ _ _ => none
structure gC (K : PySem.W.Frag) (C : Addr) : Prop where
 cl : pH K C
 ha : PySem.W.findIn K (.ref C) "__class__" = some (some (.builtin "object.__class__"))
 hn : PySem.W.specialIn K (.builtin "object.__class__") "__get__" = some (some (.builtin "getset_descriptor.__get__"))
 F1 : PySem.W.takesIn K (.builtin "object.__class__") = some true
 hm : PySem.W.mroIn K C (.type "object") = some true
inductive Dk (K : PySem.W.Frag) : D -> Value -> Prop
 | k {d : D} {T : String} (h : jH d = some T) : Dk K d (.type T)
 | o {C : Addr} {gs : List (Str × D)} (h : gC K C) : Dk K (.obj C gs) (.ref C)
section
variable {X : Cx} {pins : List (Addr × Obj)} {σ : L2.St} {H : Hp} {s : Shared}
theorem zY {x : V} {u t : Value} {d : D} (I : Inv X pins σ H s) (rx : RelV x u) (dv : Dv X.K H x d) (ty : Dk X.K d t) : ∃ Hh, PySem.W.KitX X.K u t Hh /\ Hh s.heap /\ u ≠ .builtin "__main__.__loader__#opaque" := by
 cases ty with
 | k h =>
  cases dv with
  | aV => cases h; cases (show u = Value.none from rx); exact ⟨_, PySem.W.kitx_none, True.intro, fun z => nomatch z⟩
  | bl y => cases h; cases (show u = Value.bool y from rx); exact ⟨_, PySem.W.kitx_bool, True.intro, fun z => nomatch z⟩
  | int i => cases h; obtain ⟨t, q⟩ := (show ∃ t, u = Value.int i t from rx); cases q; exact ⟨_, PySem.W.kitx_int, True.intro, fun z => nomatch z⟩
  | str y => cases h; obtain ⟨t, q⟩ := (show ∃ t, u = Value.str y t from rx); cases q; exact ⟨_, PySem.W.kitx_str, True.intro, fun z => nomatch z⟩
  | @lst a xs ds h1 h2 =>
   cases h
   cases (show u = Value.ref a from rx)
   obtain ⟨its, _, pl, _⟩ := I.list h1
   obtain ⟨o, n, e1, e2, _⟩ := pl
   exact ⟨_, PySem.W.kitx_list, ⟨o, e1, e2⟩, fun z => nomatch z⟩
  | @tup a xs ds h1 h2 =>
   cases h
   cases (show u = Value.ref a from rx)
   obtain ⟨its, _, pl, _⟩ := I.tuple h1
   obtain ⟨o, n, e1, e2, _⟩ := IsTup.of_get pl
   exact ⟨_, PySem.W.kitx_tuple, ⟨o, e1, e2⟩, fun z => nomatch z⟩
  | @dK a kvs gs h1 h2 =>
   cases h
   cases (show u = Value.ref a from rx)
   obtain ⟨_, _, vs, _, p⟩ := (show aL X.prog X.w H s.heap a (.dK kvs) from h1.ok I.ah)
   obtain ⟨o, es, ep, g1, g2, _⟩ := p
   exact ⟨_, PySem.W.kitx_dict, ⟨o, g1, g2.1⟩, fun z => nomatch z⟩
  | @dT a kvs gs h1 h2 =>
   cases h
   cases (show u = Value.ref a from rx)
   obtain ⟨_, _, xs, _, o, es, ep, g1, g2, _⟩ := (show aL X.prog X.w H s.heap a (.dT kvs) from h1.ok I.ah)
   exact ⟨_, PySem.W.kitx_dict, ⟨o, g1, g2.1⟩, fun z => nomatch z⟩
  | obj h1 h2 => cases h
  | adr _ => cases h
  | exc _ _ _ => cases h
 | o h =>
  cases dv with
  | @obj a C dx fs gs h1 h2 =>
   cases (show u = Value.ref a from rx)
   obtain ⟨mA, O, _⟩ := lD I.ah h1
   obtain ⟨od, J, _⟩ := O.look
   exact ⟨_, PySem.W.kitx_own (h.cl.get _) h.cl.hd h.ha h.hn h.F1 h.hm, J, fun z => nomatch z⟩
end
section
variable {X : Cx} {e : Expr} {te : ED} {pos p p2 : Pos}
theorem uM {c : Value} {vc : V} (rc : ∀ u, RelV vc u -> u = c) : g_ X (.builtin "isinstance") (fun xs H Q => ∃ x d t b, xs = [x, vc] /\ Dv X.K H x d /\ Dk X.K d t /\ PySem.W.kitOne X.K t c = some b /\ Q (.bl b) H) := by
 intro pins s σ H xs us Q I r h
 obtain ⟨x, d, t, b, rfl, dv, ty, e, q⟩ := h
 obtain ⟨u, w', rfl, r1, r2⟩ := vals2 r
 obtain rfl := rc w' r2
 obtain ⟨Hh, Z, hh, hx⟩ := zY I r1 dv ty
 exact PySem.W.kia_one Z I.iQ hh e hx fun tk => ⟨.bl b, H, I.tok _, rfl, q⟩
def DV (K : PySem.W.Frag) (c : Value) (te : ED) : ED := fun δ Q => te δ fun d => ∃ t b, Dk K d t /\ PySem.W.kitOne K t c = some b /\ Q (.bl b)
theorem v8 {c : Value} {vc : V} (he : PD X e te) {ec : Expr} (hp : PE X (.Call (.Name "isinstance" p) [e, ec] [] pos) (FE (fun xs H Q => ∃ x d t b, xs = [x, vc] /\ Dv X.K H x d /\ Dk X.K d t /\ PySem.W.kitOne X.K t c = some b /\ Q (.bl b) H) (nF (oE X.K te) (nF (tC vc) yM)))) :
  PD X (.Call (.Name "isinstance" p) [e, ec] [] pos) (DV X.K c te) :=
 ⟨hp.imp fun σ H Q ⟨δ, r, h⟩ => ⟨δ, r, he.mono _ _ _ (fun d ⟨t, b, ty, ek, k⟩ v H1 s1 dv => ⟨v, d, t, b, rfl, dv, ty, ek, k _ H1 s1 (.bl _)⟩) h⟩, fun δ P P' g h => he.mono _ _ _ (fun d ⟨t, b, ty, ek, k⟩ => ⟨t, b, ty, ek, g _ k⟩) h⟩
theorem q_ {T : String} {x : Str} (he : PD X e te) (hg : Gl X "isinstance") (hm : X.mg "isinstance" = none) (hg2 : Gl X x) (hm2 : X.mg x = none) (hv2 : bootBuiltins x = some (.type T)) (hn : x ≠ "__name__" := by decide) (hd : (x == ("__debug__" : Str)) = false := by decide)
  (hs : starEach [e, .Name x p2] X.env = (false, eval e X.env) :: starEach [.Name x p2] X.env := by rfl) : PD X (.Call (.Name "isinstance" p) [e, .Name x p2] [] pos) (DV X.K (.type T) te) :=
 v8 (vc := .ty T) he (dq (uM fun u z => z) hg hm boot_isinstance (bq he.pe (bq (t4 (v := .ty T) hg2 hm2 hv2 rfl hn hd) gO) hs) (he := hs))
end
def rQ (T : String) (d : D) : Option Bool := (jH d).map fun k => k == T || (k == "bool" && T == "int")
theorem zh {K : PySem.W.Frag} {d : D} {k T : String} (hk : jH d = some k) (hT : T ∈ ["bool", "int", "str", "list", "tuple", "dict"]) : PySem.W.kitOne K (.type k) (.type T) = some (k == T || (k == "bool" && T == "int")) := by
 have hk' : k ∈ ["NoneType", "bool", "int", "str", "list", "tuple", "dict"] := by cases d <;> cases hk <;> simp
 simp only [List.mem_cons, List.not_mem_nil, or_false] at hk' hT
 rcases hk' with rfl | rfl | rfl | rfl | rfl | rfl | rfl <;> rcases hT with rfl | rfl | rfl | rfl | rfl | rfl <;> kernel_rfl
def uD (T : String) (te : ED) : ED := fun δ Q => te δ fun d => ∃ b, rQ T d = some b /\ Q (.bl b)
theorem PD.rQ {X : Cx} {e : Expr} {te : ED} {T : String} (h : PD X e (DV X.K (.type T) te)) (m : az te) (hT : T ∈ ["bool", "int", "str", "list", "tuple", "dict"]) : PD X e (uD T te) :=
 ⟨h.pe.imp fun σ H Q ⟨δ, r, q⟩ => ⟨δ, r, m _ _ _ (fun d ⟨b, eb, k⟩ => by
   unfold DC.rQ at eb
   cases hk : jH d with
   | none => rw [hk] at eb; cases eb
   | some kk =>
    rw [hk] at eb
    have e1 : (kk == T || (kk == "bool" && T == "int")) = b := by simpa using eb
    exact ⟨_, b, .k hk, by rw [zh hk hT, e1], k⟩) q⟩, fun δ P P' g q => m _ _ _ (fun d ⟨b, eb, k⟩ => ⟨b, eb, g _ k⟩) q⟩
def F6 : D -> Option Int
 | .str x => if x.length <= sizeLine then some x.length else none
 | .lst xs => some xs.length
 | .tup xs => some xs.length
 | _ => none
def yD : cg := fun ds Q => ∃ d n, ds = [d] /\ F6 d = some n /\ Q (.int n)
theorem Eg : bU yD := fun ds P P' g ⟨d, n, e, h, q⟩ => ⟨d, n, e, h, g _ q⟩
theorem wK {K : PySem.W.Frag} : mK K (fun xs H Q => ∃ x n, xs = [x] /\ Dr K x H n /\ Q (.int n) H) yD := by
 intro H vs ds Q dvs ⟨d, n, e, h, q⟩
 subst e
 cases dvs with
 | cons dv r =>
  cases r
  cases dv with
  | str x =>
   have h' : (if x.length <= sizeLine then some (x.length : Int) else none) = some n := h
   by_cases hz : x.length <= sizeLine
   ·rw [if_pos hz] at h'
    cases h'
    exact ⟨_, x.length, rfl, ⟨hz, rfl⟩, q _ H (aK.refl _) (.int _)⟩
   ·rw [if_neg hz] at h'
    cases h'
  | lst h1 h2 => cases h; exact ⟨_, _, rfl, .inl ⟨_, h1, rfl⟩, by rw [h2.length]; exact q _ H (aK.refl _) (.int _)⟩
  | tup h1 h2 => cases h; exact ⟨_, _, rfl, .inr ⟨_, h1, rfl⟩, by rw [h2.length]; exact q _ H (aK.refl _) (.int _)⟩
  | _ => cases h
section
variable {X : Cx} {e : Expr} {es : List Expr} {t : AD} {pos p : Pos}
theorem il (hg : Gl X "len") (hm : X.mg "len" = none) (ha : kH X (e :: es) t) (h1 : starEach (e :: es) X.env = (false, eval e X.env) :: starEach es X.env := by rfl) (h2 : (backTo pos (starEach es X.env)).any (·.1) = false := by rfl) :
  PD X (.Call (.Name "len" p) (e :: es) [] pos) (vB yD t) := vz (dq vn hg hm PySem.boot_len ha.pa (he := h1) (hpl := h2)) ha.mono wK Eg
theorem mW : bootBuiltins "int" = some (.type "int") := by decide +kernel
theorem qw : bootBuiltins "bool" = some (.type "bool") := by decide +kernel
theorem boot_tuple : bootBuiltins "tuple" = some (.type "tuple") := by decide +kernel
theorem uJ : bootBuiltins "all" = some (.builtin "all") := by decide +kernel
def qd : cg := fun ds Q => (∃ i, ds = [.int i] /\ Q (.int i)) \/ ∃ k : Bool, ds = [.bl k] /\ Q (.int (if k then 1 else 0))
theorem Ee : bU qd := fun ds P P' g h => h.elim (fun ⟨i, e, q⟩ => .inl ⟨i, e, g _ q⟩) fun ⟨k, e, q⟩ => .inr ⟨k, e, g _ q⟩
theorem wJ {K : PySem.W.Frag} : mK K (fun xs H Q => (∃ i, xs = [.int i] /\ Q (.int i) H) \/ ∃ k, xs = [.bl k] /\ Q (.int (if k then 1 else 0)) H) qd := by
 intro H vs ds Q dvs h
 rcases h with ⟨i, e, q⟩ | ⟨k, e, q⟩
 ·subst e
  cases dvs with
  | cons dv r => cases r; cases dv; exact .inl ⟨i, rfl, q _ H (aK.refl _) (.int _)⟩
 ·subst e
  cases dvs with
  | cons dv r => cases r; cases dv; exact .inr ⟨k, rfl, q _ H (aK.refl _) (.int _)⟩
theorem ik (hg : Gl X "int") (hm : X.mg "int" = none) (ha : kH X (e :: es) t) (h1 : starEach (e :: es) X.env = (false, eval e X.env) :: starEach es X.env := by rfl) (h2 : (backTo pos (starEach es X.env)).any (·.1) = false := by rfl) : PD X (.Call (.Name "int" p) (e :: es) [] pos) (vB qd t) := vz (nA uL hg hm mW ha.pa (he := h1) (hpl := h2)) ha.mono wJ Ee
def yA : cg := fun ds Q => ∃ (bs : List Bool), ds = [.lst (bs.map D.bl)] /\ Q (.bl (bs.all id))
theorem Ec : bU yA := fun ds P P' g ⟨bs, e, q⟩ => ⟨bs, e, g _ q⟩
theorem uE {K : PySem.W.Frag} {H : Hp} : ∀ {vs : List V} {bs : List Bool}, ar K H vs (bs.map D.bl) -> vs = bs.map V.bl
 | [], [], _ => rfl
 | _, _ :: _, .cons (.bl _) r => by rw [uE r]; rfl
theorem wH {K : PySem.W.Frag} {A : Around} (hh : A.handled = none) : mK K (fun xs H Q => ∃ (p : Addr) (bs : List Bool), xs = [.ref p] /\ A.handled = none /\ c_ K H p (bs.map V.bl) /\ Q (.bl (bs.all id)) H) yA := by
 intro H vs ds Q dvs ⟨bs, e, q⟩
 subst e
 cases dvs with
 | cons dv r =>
  cases r
  cases dv with
  | lst h1 h2 =>
   rw [uE h2] at h1
   exact ⟨_, bs, rfl, hh, h1, q _ H (aK.refl _) (.bl _)⟩
theorem A9 (hh : X.A.handled = none) (hg : Gl X "all") (hm : X.mg "all" = none) (ha : kH X (e :: es) t) (h1 : starEach (e :: es) X.env = (false, eval e X.env) :: starEach es X.env := by rfl) (h2 : (backTo pos (starEach es X.env)).any (·.1) = false := by rfl) : PD X (.Call (.Name "all" p) (e :: es) [] pos) (vB yA t) := vz (dq vm hg hm uJ ha.pa (he := h1) (hpl := h2)) ha.mono (wH hh) Ec
end
structure HQ (X : Cx) (C : Addr) (m : Str) (sd : cg) (dd : List D) (k : Nat) (f : Addr) (fd : FuncData) (ps : List Str) (dvs : List V) (ds : List Value) : Prop where
 cls : pH X.K C
 Ej : Meth X.K C m f
 fn : bR X.prog X.w X.K X.mg X.base km k f fd ps (qg X.K sd)
 mono : bU sd
 room : ao k X.A
 binds : Binds X.K fd ps ds
 vals : Vals dvs ds
 dflt : ∀ H, ar X.K H dvs dd
structure MH (X : Cx) (C : Addr) (m : Str) (sd : cg) (dd : List D) : Prop where
 ex : ∃ k f fd ps dvs ds, HQ X C m sd dd k f fd ps dvs ds
def nK (ok : Addr -> Prop) (m : Str) (sd : Addr -> cg) (dd : List D) (ta : ED) (t : AD) : ED := fun δ Q => ta δ fun d => ∃ C gs, d = .obj C gs /\ gs.lookup m = none /\ ok C /\ t δ fun ds => sd C (d :: (ds ++ dd)) Q
section
variable {X : Cx} {ok : Addr -> Prop} {o e : Expr} {es : List Expr} {m : Str} {sd : Addr -> cg} {dd : List D} {ta : ED} {t : AD} {pos apos : Pos}
def yL (X : Cx) (m : Str) (sd : Addr -> cg) (dd : List D) (ta : TE) (t : TA) : TE := fun σ H Q => ta σ H fun x H1 => ∃ a C dx fs, x = .ref a /\ Rd H1 a (.ins C dx fs) /\ fs.lookup m = none /\ MH X C m (sd C) dd /\
 ∀ dvs, (∀ H, ar X.K H dvs dd) -> t σ H1 fun vs H2 => qg X.K (sd C) (x :: (vs ++ dvs)) H2 Q E0
theorem u6 {ta : TE} {pl : Sem Bool} (he : PE X o ta)
  (ht : eval (.Call (.Attribute o m apos) [] [] pos) X.env = (do
   let ov <- eval o X.env
   standAt apos.atName
   let (f, first) <- holding [ov] (getMethod ov m pl)
   callWith pos f first (backTo pos (starEach [] X.env)) (backToKw pos (keywordEach [] X.env))) := by rfl) :
  PE X (.Call (.Attribute o m apos) [] [] pos) (yL X m sd dd ta yM) := by
 intro pins s σ H Q I h
 refine PySem.W.methodCall_KW (pl := pl) (au (he pins s σ H _ I h) fun u s1 ⟨x, H1, I1, rx, a, C, dx, fs, ex, ea, l, ⟨k, f, fd, ps, dvs, ds, M⟩, q⟩ => ?_) ht
 subst ex
 obtain rfl : u = Value.ref a := rx
 refine j4 I1 ea M.cls M.Ej l ?_
 exact PySem.W.callWith_K0 (first := [.ref a]) I1.iQ M.Ej.kp (xx (us := [.ref a]) (vs := [.ref a]) M.fn M.room M.binds M.vals tw I1 (.cons rfl .nil) (q dvs M.dflt))
theorem Ca (hM : ∀ C, ok C -> MH X C m (sd C) dd) (ma : az ta) (mt : jy t) : az (nK ok m sd dd ta t) := fun δ P P' g h => ma _ _ _ (fun d ⟨C, gs, e, l, M, q⟩ => ⟨C, gs, e, l, M, mt _ _ _ (fun ds k => by
 obtain ⟨_, _, _, _, _, _, M'⟩ := hM C M
 exact M'.mono _ _ _ g k) q⟩) h
theorem zy (hM : ∀ C, ok C -> MH X C m (sd C) dd) (ma : az ta) (mt : jy t) {σ : L2.St} {H : Hp} {Q : VK} (h : oE X.K (nK ok m sd dd ta t) σ H Q) : yL X m sd dd (oE X.K ta) (oA X.K t) σ H Q := by
 obtain ⟨δ, r, h⟩ := h
 refine ⟨δ, r, ma _ _ _ (fun d ⟨C, gs, ed, l, M, q⟩ v H1 s1 dv => ?_) h⟩
 subst ed
 cases dv with
 | @obj a C dx fs gs h1 h2 =>
  refine ⟨_, C, dx, fs, rfl, h1, h2.none l, hM C M, fun dvs hd => ⟨δ, r.same s1, mt _ _ _ (fun ds k vs H2 s2 dvs' => ?_) q⟩⟩
  obtain ⟨_, _, _, _, _, _, M'⟩ := hM C M
  exact ⟨_, .cons (Dv.same s2 (.obj h1 h2)) (dvs'.append (hd H2)), M'.mono _ _ _ (fun d k => k.on (s1.trans s2)) k⟩
theorem zC {pl : Sem Bool} (hM : ∀ C, ok C -> MH X C m (sd C) dd) (he : PD X o ta)
  (ht : eval (.Call (.Attribute o m apos) [] [] pos) X.env = (do
   let ov <- eval o X.env
   standAt apos.atName
   let (f, first) <- holding [ov] (getMethod ov m pl)
   callWith pos f first (backTo pos (starEach [] X.env)) (backToKw pos (keywordEach [] X.env))) := by rfl) :
  PD X (.Call (.Attribute o m apos) [] [] pos) (nK ok m sd dd ta f9) :=
 ⟨(u6 he.pe ht).imp fun σ H Q h => by
   have q := zy (t := f9) hM he.mono (fun δ P P' g h => g _ h) h
   obtain ⟨δ, r, h'⟩ := q
   refine ⟨δ, r, he.mono _ _ _ (fun d k v H1 s1 dv => ?_) h'⟩
   obtain ⟨a, C, dx, fs, e1, e2, l, M, z⟩ := k v H1 s1 dv
   refine ⟨a, C, dx, fs, e1, e2, l, M, fun dvs hd => ?_⟩
   obtain ⟨δ', r', z'⟩ := z dvs hd
   exact z' [] H1 (aK.refl _) .nil, Ca hM he.mono fun δ P P' g h => g _ h⟩
end
abbrev FD := List (Str × D)
structure mL where
 nx : SD -> FD -> Prop
 rt : FD -> Prop
 fin : FD -> Prop
abbrev uG := mL -> SD -> FD -> Prop
structure mL.Le (E E' : mL) : Prop where
 nx : ∀ δ gs, E.nx δ gs -> E'.nx δ gs
 rt : ∀ gs, E.rt gs -> E'.rt gs
 fin : ∀ gs, E.fin gs -> E'.fin gs
abbrev A4 (t : uG) : Prop := ∀ E E' δ gs, mL.Le E E' -> t E δ gs -> t E' δ gs
def putD (f : Str) (d : D) : FD -> FD
 | [] => [(f, d)]
 | (g, e) :: r => if g = f then (g, d) :: r else (g, e) :: putD f d r
structure vT (K : PySem.W.Frag) (C a dx : Addr) (H : Hp) (gs : FD) : Prop where
 ex : ∃ fs, H a = some (.ins C dx fs) /\ dH K (cG H a dx) fs gs
 ne : dx ≠ a
def nh (K : PySem.W.Frag) (C a dx : Addr) (H : Hp) (D : Ends) : mL :=
 ⟨fun δ gs => ∀ σ H', aK (cG H a dx) (cG H' a dx) -> aw K (cG H' a dx) σ δ -> vT K C a dx H' gs -> D.nx σ H', fun gs => ∀ H', aK (cG H a dx) (cG H' a dx) -> vT K C a dx H' gs -> D.rt .aV H', fun gs => ∀ σ H', aK (cG H a dx) (cG H' a dx) -> vT K C a dx H' gs -> D.nx σ H'⟩
def oI (K : PySem.W.Frag) (C : Addr) (t : Addr -> uG) : TS := fun D σ H => ∃ a dx δ gs, aw K (cG H a dx) σ δ /\ vT K C a dx H gs /\ t a (nh K C a dx H D) δ gs
structure Dh (X : Cx) (C : Addr) (st : List Stmt) (t : Addr -> uG) : Prop where
 ps : gi X st (oI X.K C t)
 mono : ∀ a, A4 (t a)
structure FZ (X : Cx) (C : Addr) (st : Stmt) (t : Addr -> uG) : Prop where
 ps : PS X st (oI X.K C t)
 mono : ∀ a, A4 (t a)
section
variable {X : Cx} {C : Addr} {st : Stmt} {rest : List Stmt} {t u : Addr -> uG} {e : Expr} {te : ED} {pos pos' p : Pos} {f : Str}
theorem zI {K : PySem.W.Frag} {a dx : Addr} {H H1 : Hp} {D : Ends} (s : aK (cG H a dx) (cG H1 a dx)) : mL.Le (nh K C a dx H D) (nh K C a dx H1 D) :=
 ⟨fun _ _ h σ H' s' r g => h σ H' (s.trans s') r g, fun _ h H' s' g => h H' (s.trans s') g, fun _ h σ H' s' g => h σ H' (s.trans s') g⟩
def F4 (t u : Addr -> uG) : Addr -> uG := fun a E δ gs => t a { nx := u a E, rt := E.rt, fin := fun _ => False } δ gs
theorem aq (h1 : FZ X C st t) (h2 : Dh X C rest u) : Dh X C (st :: rest) (F4 t u) :=
 ⟨gi.imp (dz h1.ps h2.ps) fun D σ H ⟨a, dx, δ, gs, r, g, h⟩ => ⟨a, dx, δ, gs, r, g, h1.mono a { nx := u a (nh X.K C a dx H D), rt := (nh X.K C a dx H D).rt, fin := fun _ => False } _ _ _
   ⟨fun δ' gs' q σ' H' s' r' g' => ⟨a, dx, δ', gs', r', g', h2.mono a _ _ _ _ (zI s') q⟩, fun gs' q => q, fun gs' q => q.elim⟩ h⟩,
  fun a E E' δ gs l h => h1.mono a { nx := u a E, rt := E.rt, fin := fun _ => False } _ _ _ ⟨fun δ' gs' q => h2.mono a _ _ _ _ l q, l.rt, fun _ q => q.elim⟩ h⟩
def EM (C : Addr) (t : eB) : Addr -> uG := fun a E δ gs => t { nx := fun _ => E.fin gs, rt := fun d => d = .aV /\ E.rt gs } (δ.set 0 (some (.obj C gs)))
def F3 : Addr -> uG := fun a E δ gs => E.fin gs
theorem BE : Dh X C [] F3 := ⟨gi.imp oj fun D σ H ⟨a, dx, δ, gs, r, g, h⟩ => h σ H (aK.refl _) g, fun a E E' δ gs l h => l.fin _ h⟩
def EL (t : eB) : Addr -> uG := fun a E δ gs => t { nx := fun δ' => E.nx δ' gs, rt := fun d => d = .aV /\ E.rt gs } δ
theorem iO {t : eB} (h : sk X st t) : FZ X C st (EL t) := by
 refine ⟨PS.imp (u_ h.ps) fun D σ H ⟨a, dx, δ, gs, r, ⟨⟨fs, ha, hf⟩, ne⟩, q⟩ => ⟨a, dx, C, fs, ha, δ, r, ?_⟩, fun a E E' δ gs l q => h.mono { nx := fun δ' => E.nx δ' gs, rt := fun d => d = .aV /\ E.rt gs } _ _ ⟨fun δ' k => l.nx _ _ k, fun d k => ⟨k.1, l.rt _ k.2⟩, fun _ k => k, fun _ k => k⟩ q⟩
 refine h.mono { nx := fun δ' => (nh X.K C a dx H D).nx δ' gs, rt := fun d => d = .aV /\ (nh X.K C a dx H D).rt gs } _ _ ⟨fun δ' k σ' H' s' r' z1 z2 _ => ?_, fun d k v H' s' dv z1 z2 _ => ?_, fun _ k => k.elim, fun _ k => k.elim⟩ q
 ·have hs : cG (shown H' a dx C fs) a dx = H' := gv z1 z2
  exact k σ' _ (by rw [hs]; exact s') (by rw [hs]; exact r') ⟨⟨fs, jY, by rw [hs]; exact dH.same s' hf⟩, ne⟩
 ·have hs : cG (shown H' a dx C fs) a dx = H' := gv z1 z2
  obtain ⟨e, k⟩ := k
  subst e
  cases dv
  exact k _ (by rw [hs]; exact s') ⟨⟨fs, jY, by rw [hs]; exact dH.same s' hf⟩, ne⟩
theorem dH.put {K : PySem.W.Frag} {H : Hp} {v : V} {d : D} (dv : Dv K H v d) : ∀ {fs : List (Str × V)} {gs : FD}, dH K H fs gs -> dH K H (eC f v fs) (putD f d gs)
 | _, _, .nil => .cons dv .nil
 | _, _, .cons (k := k) h r => by
  unfold eC putD
  by_cases q : k = f
  ·rw [if_pos q, if_pos q]; exact .cons dv r
  ·rw [if_neg q, if_neg q]; exact .cons h (dH.put dv r)
theorem dH.length {K : PySem.W.Frag} {H : Hp} : ∀ {fs : List (Str × V)} {gs : FD}, dH K H fs gs -> fs.length = gs.length
 | _, _, .nil => rfl
 | _, _, .cons _ r => congrArg (· + 1) (dH.length r)
def EO (K : PySem.W.Frag) (C : Addr) (f : Str) (te : ED) : Addr -> uG := fun a E δ gs => te δ fun d => δ[0]? = some (some (.adr a)) /\ pH K C /\ cy K C f /\ gs.length < 1000 /\ E.nx δ (putD f d gs)
theorem ER {x : Str} (hN : X.N[0]? = some x) (hv : ye X.env.scope x) (he : PD X e te) (hs : swapsWith e (some (.Attribute (.Name x p) f pos')) pos.line X.env = pure false := by rfl) (hd : (x == ("__debug__" : Str)) = false := by decide)
  (hcd : (x == ("__classdict__" : Str)) = false := by decide) : FZ X C (.Assign [.Attribute (.Name x p) f pos'] e pos) (EO X.K C f te) := by
 refine ⟨PS.imp (C4 (js hN hv hd hcd) (u5 he.pe) hs) fun D σ H ⟨a, dx, δ, gs, r, ⟨⟨fs, ha, hf⟩, ne⟩, q⟩ => ⟨a, dx, C, fs, ha, δ, r, ?_⟩, fun a E E' δ gs l q => he.mono _ _ _ (fun d ⟨k0, k1, k2, k3, k⟩ => ⟨k0, k1, k2, k3, l.nx _ _ k⟩) q⟩
 refine he.mono _ _ _ (fun d ⟨k0, k1, k2, k3, k⟩ v H' s' dv z1 z2 _ => ?_) q
 obtain ⟨w, hw, dw⟩ := r.get 0 _ k0
 cases dw
 refine ⟨_, hw, a, C, dx, fs, rfl, jY, k1, k2, by rw [hf.length]; exact k3, ?_⟩
 rw [vR]
 have hs : cG (shown H' a dx C (eC f v fs)) a dx = H' := gv z1 z2
 exact k σ _ (by rw [hs]; exact s') (by rw [hs]; exact r.same s') ⟨⟨_, jY, by rw [hs]; exact (dH.same s' hf).put dv⟩, ne⟩
theorem lC {H : Hp} {a dx : Addr} : aK (cG H a dx) H := fun b o h => by
 unfold cG at h
 split at h
 ·cases h
 ·exact h
theorem vT.dv {K : PySem.W.Frag} {a dx : Addr} {H : Hp} {gs : FD} (g : vT K C a dx H gs) : Dv K H (.ref a) (.obj C gs) := by
 obtain ⟨⟨fs, h, hf⟩, _⟩ := g
 exact .obj (.of h) (dH.same lC hf)
theorem vT.on {K : PySem.W.Frag} {a dx : Addr} {H H' : Hp} {gs : FD} (g : vT K C a dx H gs) (s : aK H H') : vT K C a dx H' gs := by
 obtain ⟨⟨fs, h, hf⟩, ne⟩ := g
 refine ⟨⟨fs, s _ _ h, dH.same (fun b o q => ?_) hf⟩, ne⟩
 unfold cG at q ⊢
 split at q
 ·cases q
 ·rename_i z; rw [if_neg z]; exact s _ _ q
theorem qc {H H' : Hp} {a dx : Addr} (s : aK H H') : aK (cG H a dx) (cG H' a dx) := fun b o q => by
 unfold cG at q ⊢
 split at q
 ·cases q
 ·rename_i z; rw [if_neg z]; exact s _ _ q
theorem iP {t : eB} (h : f7 X rest t) : Dh X C rest (fun a E δ gs => δ[0]? = some (some (.adr a)) /\ EM C t a E δ gs) := by
 refine ⟨gi.imp h.ps fun D σ H ⟨a, dx, δ, gs, r, g, k0, q⟩ => ⟨δ.set 0 (some (.obj C gs)), ?_, ?_⟩, fun a E E' δ gs l ⟨k0, q⟩ => ⟨k0, h.mono { nx := fun _ => E.fin gs, rt := fun d => d = .aV /\ E.rt gs } _ _ ⟨fun δ' k => l.fin _ k, fun d k => ⟨k.1, l.rt _ k.2⟩, fun _ k => k, fun _ k => k⟩ q⟩⟩
 ·obtain ⟨w, hw, dw⟩ := r.get 0 _ k0
  cases dw
  have z := (r.same lC).set 0 g.dv
  rw [show σ.set 0 (some (.ref a)) = σ from by
   refine List.ext_getElem? fun i => ?_
   rw [List.getElem?_set]
   split
   ·rename_i q2
    subst q2
    split
    ·exact hw.symm
    ·rename_i q3
     rw [List.getElem?_eq_none (by omega)] at hw
     cases hw
   ·rfl] at z
  exact z
 ·refine h.mono { nx := fun _ => (nh X.K C a dx H D).fin gs, rt := fun d => d = .aV /\ (nh X.K C a dx H D).rt gs } _ _ ⟨fun δ' k σ' H' s' r' => k σ' H' (qc s') (g.on s'), fun d k v H' s' dv => ?_, fun _ k => k.elim, fun _ k => k.elim⟩ q
  obtain ⟨e, k⟩ := k
  subst e
  cases dv
  exact k H' (qc s') (g.on s')
end
abbrev A5 := List D -> (FD -> Prop) -> Prop
abbrev qr (sd : A5) : Prop := ∀ ds (P P' : FD -> Prop), (∀ d, P d -> P' d) -> sd ds P -> sd ds P'
def Gf (K : PySem.W.Frag) (C : Addr) (sd : A5) : Sp := fun vs H Q _ => ∃ a dx vs' ds, vs = .ref a :: vs' /\ vT K C a dx H [] /\ ar K (cG H a dx) vs' ds /\ sd ds fun gs => ∀ H', aK (cG H a dx) (cG H' a dx) -> vT K C a dx H' gs -> Q .aV H'
section
variable {P : Program} {w : World} {K : PySem.W.Frag} {mg : Str -> Option Value} {base : Heap}
structure lz (K : PySem.W.Frag) (x qual : Str) (st : Stmt) (f : Addr) (fd : FuncData) : Prop where
 ex : ∃ (oc : Value) (od : Option Addr) (dV kV doc pm : Value) (an : Option Addr) (cdv ct : Value) (osl : Array (Option Value)),
  fd = PySem.W.fnOf x qual (bZ st) (aY st) (aC st) dV kV doc pm an cdv ct /\ K.lookup f = some ⟨oc, od, .func fd, osl⟩ /\ PySem.W.codeIn K cdv qual = true
 kp : PySem.W.keepIn K (.ref f) = true
theorem lz.ok {P : Program} {w : World} {K : PySem.W.Frag} {mg : Str -> Option Value} {base : Heap} {x qual : Str} {st : Stmt} {f : Addr} {fd : FuncData} {N ps : List Str} {k : Nat} {sp : Sp} (F : lz K x qual st f fd) (S : aG N ps (aC st)) (len : ∀ vs H Q E, sp vs H Q E -> vs.length = ps.length)
  (hbody : ∀ (cdv : Value) (A : Around) (outer : List Env) (s : Shared) (H : Hp) (vs : List V) (Q : VK) (E : XK), ao k (A.deeper (envOfC qual (aC st) s.heap.objs.size f cdv)) -> sp vs H Q E ->
   ∃ t, gi (kN km P w K mg base N qual (aC st) f cdv A outer s H E).Cf (aY st) t /\ t { nx := fun _ H' => Q .aV H', rt := Q } (L2.start N vs) H) : bR P w K mg base km (k + 1) f fd ps sp := by
 obtain ⟨oc, od, dV, kV, doc, pm, an, cdv, ct, osl, rfl, lk, hcd⟩ := F.ex
 refine pd lk hcd S len fun A outer s H vs Q E hr hsp => ?_
 obtain ⟨t, h, q⟩ := hbody cdv A outer s H vs Q E hr hsp
 exact ⟨t, h.Cf, q⟩
theorem Hb {x qual : Str} {st : Stmt} {f C : Addr} {fd : FuncData} {N ps : List Str} {k : Nat} {sd : A5} {t : Addr -> uG} (F : lz K x qual st f fd) (S : aG N ps (aC st)) (len : ∀ ds Q, sd ds Q -> ds.length + 1 = ps.length)
  (hb : ∀ (cdv : Value) (A : Around) (outer : List Env) (s : Shared) (H : Hp) (E : XK), ao k (A.deeper (envOfC qual (aC st) s.heap.objs.size f cdv)) -> Dh (Bx P w K mg base N qual st f cdv A outer s H E) C (aY st) t)
  (hr : ∀ a ds Q, sd ds Q -> t a { nx := fun _ => Q, rt := Q, fin := Q } (bB N (.adr a :: ds)) []) : bR P w K mg base km (k + 1) f fd ps (Gf K C sd) := by
 refine F.ok S (fun vs H Q E ⟨a, dx, vs', ds, e, g, dvs, h⟩ => by rw [e, List.length_cons, dvs.length]; exact len ds _ h) (fun cdv A outer s H vs Q E hroom ⟨a, dx, vs', ds, e, g, dvs, h⟩ => ?_)
 have B := hb cdv A outer s H E hroom
 subst e
 refine ⟨_, B.ps, a, dx, bB N (.adr a :: ds), [], dY (.cons (.adr a) dvs), g, ?_⟩
 let Q' : FD -> Prop := fun gs => ∀ H', aK (cG H a dx) (cG H' a dx) -> vT K C a dx H' gs -> Q .aV H'
 exact B.mono a { nx := fun _ => Q', rt := Q', fin := Q' } _ _ _ ⟨fun δ gs q σ H' s' r' g' => q H' s' g', fun gs q H' s' g' => q H' s' g', fun gs q σ H' s' g' => q H' s' g'⟩ (hr a ds _ h)
end
section
variable {X : Cx} {C f : Addr} {fd : FuncData} {ps : List Str} {sd : A5} {dd : List D} {dvs : List V} {dls : List Value} {k : Nat} {x : Str} {e : Expr} {es : List Expr} {t : AD} {p pos : Pos}
def BX (C : Addr) (sd : A5) (dd : List D) (t : AD) : ED := fun δ Q => t δ fun ds => sd (ds ++ dd) fun gs => Q (.obj C gs)
theorem By (M : Mk X.K C f) (F : bR X.prog X.w X.K X.mg X.base km k f fd ps (Gf X.K C sd)) (ms : qr sd) (hr : ao (k + 1) X.A) (hg : Gl X x) (hm : X.mg x = some (.ref C)) (hb : Binds X.K fd ps dls) (hv : Vals dvs dls) (hd : ∀ H, ar X.K H dvs dd)
  (ha : kH X (e :: es) t) (hdb : (x == ("__debug__" : Str)) = false := by decide) (he : starEach (e :: es) X.env = (false, eval e X.env) :: starEach es X.env := by rfl) (hpl : (backTo pos (starEach es X.env)).any (·.1) = false := by rfl) :
  PD X (.Call (.Name x p) (e :: es) [] pos) (BX C sd dd t) := by
 refine ⟨(AM M F hr hg hm hb hv tw ha.pa hdb he hpl).imp fun σ H Q ⟨δ, r, h⟩ => ⟨δ, r, ha.mono _ _ _ (fun ds q vs H1 s1 dvs' y dx hy hdx ne => ?_) h⟩, fun δ P P' g h => ha.mono _ _ _ (fun ds q => ms _ _ _ (fun gs z => g _ z) q) h⟩
 have hs : cG (shown H1 y dx C []) y dx = H1 := gv hy hdx
 refine ⟨y, dx, _, _, rfl, ⟨⟨[], jY, .nil⟩, ne⟩, ?_, ms _ _ _ (fun gs z H' s' g' => ⟨rfl, z _ H' ?_ g'.dv⟩) q⟩
 ·show ar X.K (cG (shown H1 y dx C []) y dx) _ _
  rw [hs]
  exact dvs'.append (hd H1)
 ·have s2 : aK (cG (shown H1 y dx C []) y dx) (cG H' y dx) := s'
  rw [hs] at s2
  exact s1.trans (s2.trans lC)
end
end DC
namespace L2
open PySem PySem.Spec PyProof.Rows
section
variable {X : Cx}
theorem qB {ns : List Int} : ∀ {us : List Value}, Vals (ns.map V.int) us -> IntsAre us ns := by
 induction ns with
 | nil => intro us r; cases r; exact .nil
 | cons n ns ih =>
  intro us r
  cases r with
  | cons a r =>
   obtain ⟨t, e⟩ := a
   subst e
   exact .cons _ _ (ih r)
theorem vo : g_ X (.builtin "sum") (fun xs H Q => ∃ (p : Addr) (ns : List Int), xs = [.ref p] /\ X.A.handled = none /\ c_ X.K H p (ns.map V.int) /\ Q (.int ns.sum) H) := by
 intro pins s σ H xs us Q I r h
 obtain ⟨p, ns, rfl, hh, hS, q⟩ := h
 obtain ⟨u, rfl, ru⟩ := vals1 r
 cases (show u = Value.ref p from ru)
 obtain ⟨its, rv, pl, _⟩ := I.list hS
 have hl := pl.isList
 have hi := qB rv
 obtain ⟨xs, hx⟩ := hi.allInts.items
 have hl' : s.heap.IsList p (intItems xs) := hx ▸ hl
 refine sum_intListG hh hl' fun h' tk t' hk => ?_
 have e1 : ns = xs.toList.map (·.1) := by
  rw [<- nums_intItems, <- hx]
  exact (show numsOf its.toArray.toList = ns from hi.numsOf).symm
 have e2 : preSum (numAt xs) xs.size = ns.sum := by
  rw [preSum_eq, List.take_of_length_le (by simp), e1]
 rw [e2]
 exact ⟨.int ns.sum, H, I.kept hk, ⟨_, rfl⟩, q⟩
end
section
variable {prog : Program} {w : World} {A : Around} {R : Result -> Shared -> Prop} {I : Addr} {fp wr : List Addr} {n : Nat} {P : Nat -> Value -> Prop} {St : Nat -> Heap -> Prop} {E : Value -> Shared -> Prop} {s : Shared} {Q : Value -> Shared -> Prop}
abbrev bestAt (S : Addr) (items : Array Value) (h : Heap) : Prop := ∃ c, h.get? S = some { cls := .type "list", dict := none, data := .seq items c, slots := #[] }
theorem xJ {kw : List (Str × Value)} (W : Walks prog w A.in1 I fp wr n P St) (bt : Nat -> Nat -> Bool) (hcmp : CmpOf prog w A.in1 .Gt P bt) (S : Addr) (hSf : S ∉ fp) :
  ∀ (k j : Nat) (s : Shared) (vb : Value), j + 1 + k = n -> St (j + 1) s.heap -> P (argBest bt j) vb -> bestAt S #[vb, vb] s.heap ->
  (∀ v h' tk, P (argBest bt (n - 1)) v -> (∀ b o, b ∉ wr -> b ≠ S -> s.heap.get? b = some o -> h'.get? b = some o) -> R (.ok (.ret v)) { s with heap := h', toks := tk }) ->
  codeAny (model prog w) A (.builtin "max.loop" ⟨[.ref I, .none, .ref S], kw⟩) R s := by
 have hSw : S ∉ wr := fun h => hSf (W.sub _ h)
 have hname : (toString "max" ++ toString ".loop" : String) = "max.loop" := by decide
 intro k
 induction k with
 | zero =>
  intro j s vb hj hst hP ⟨c, hS⟩ hR
  refine codeAny_builtin F.entry_max_loop ?_
  rw [Around.under_plainId F.plain_max_loop _]
  show wpAny _ A.in1 (seqItems? (.ref S) >>= _) _ _ s
  refine wpAny_bind (wpAny_seqItems hS rfl ?_)
  show wpAny _ A.in1 (tryCatch (pyNext (.ref I)) _ >>= _) _ _ s
  refine wpAny_bind (wpAny_tryCatch (W.done s _ _ ((show j + 1 = n by omega) ▸ hst) fun h' tk hk => ?_))
  show wpAny _ A.in1 (updateSeq S (fun _ => #[]) >>= _) _ _ _
  refine wpAny_bind (wpAny_updateSeq (hk S _ hSw hS) rfl (wpAny_bind (wpAny_letGo (wpAny_pure ?_))))
  exact hR vb _ tk (by rw [show n - 1 = j by omega]; exact hP) fun b o h1 h2 e => (Heap.get?_update_other _ _ (Ne.symm h2)).trans (hk b o h1 e)
 | succ k ih =>
  intro j s vb hj hst hP ⟨c, hS⟩ hR
  refine codeAny_builtin F.entry_max_loop ?_
  rw [Around.under_plainId F.plain_max_loop _]
  show wpAny _ A.in1 (seqItems? (.ref S) >>= _) _ _ s
  refine wpAny_bind (wpAny_seqItems hS rfl ?_)
  show wpAny _ A.in1 (tryCatch (pyNext (.ref I)) _ >>= _) _ _ s
  refine wpAny_bind (wpAny_tryCatch (W.item (j + 1) s _ _ (by omega) hst fun v h' tk hv hst' hk => ?_))
  have hS' := hk S _ hSw hS
  show wpAny _ A.in1 (tryCatch (holding [v, v] (richCompare .Gt v vb >>= _)) _ >>= _) _ _ _
  refine wpAny_bind (wpAny_tryCatch (wpAny_holding (wpAny_bind (hcmp (j + 1) (argBest bt j) v vb _ _ _ hv hP ?_))))
  refine wpAny_bind (wpAny_holding (wpAny_truthy_bool (wpAny_bind (wpAny_letGo (wpAny_pure ?_)))))
  cases hb : bt (j + 1) (argBest bt j) with
  | true =>
   simp only [if_true]
   refine wpAny_bind (wpAny_updateSeq hS' rfl (wpAny_bind (wpAny_letGo ?_)))
   rw [hname]
   refine wpAny_pure ⟨plainId_quiet F.plain_max_loop _, ih (j + 1) _ v (by omega) (W.frame _ _ _ hst' fun b hbf o e => ?_) (by simp only [argBest, hb, if_true]; exact hv) ⟨_, Heap.get?_update_self _ hS' rfl⟩ fun v' h2 tk2 hp2 hk2 => ?_⟩
   ·exact (Heap.get?_update_other _ _ (fun h : S = b => hSf (by rw [h]; exact hbf))).trans e
   ·exact hR v' h2 tk2 hp2 fun b o h1 h3 e => hk2 b o h1 h3 ((Heap.get?_update_other _ _ (Ne.symm h3)).trans (hk b o h1 e))
  | false =>
   simp only [Bool.false_eq_true, if_false]
   refine wpAny_bind (wpAny_letGo ?_)
   rw [hname]
   refine wpAny_pure ⟨plainId_quiet F.plain_max_loop _, ih (j + 1) _ vb (by omega) hst' (by simp only [argBest, hb, Bool.false_eq_true, if_false]; exact hP) ⟨c, hS'⟩ fun v' h2 tk2 hp2 hk2 => ?_⟩
   exact hR v' h2 tk2 hp2 fun b o h1 h3 e => hk2 b o h1 h3 (hk b o h1 e)
theorem xI {d : Value} (W : Walks prog w A.in1 I fp wr n P St) (bt : Nat -> Nat -> Bool) (hcmp : CmpOf prog w A.in1 .Gt P bt) (S : Addr) (hSf : S ∉ fp) {s : Shared} (hst : St 0 s.heap) (hS : bestAt S #[] s.heap)
  (hR : ∀ v h' tk, (if n = 0 then v = d else P (argBest bt (n - 1)) v) -> (∀ b o, b ∉ wr -> b ≠ S -> s.heap.get? b = some o -> h'.get? b = some o) -> R (.ok (.ret v)) { s with heap := h', toks := tk }) :
  codeAny (model prog w) A (.builtin "max.loop" ⟨[.ref I, .none, .ref S], [("default", d)]⟩) R s := by
 have hSw : S ∉ wr := fun h => hSf (W.sub _ h)
 have hname : (toString "max" ++ toString ".loop" : String) = "max.loop" := by decide
 obtain ⟨c, hS⟩ := hS
 refine codeAny_builtin F.entry_max_loop ?_
 rw [Around.under_plainId F.plain_max_loop _]
 show wpAny _ A.in1 (seqItems? (.ref S) >>= _) _ _ s
 refine wpAny_bind (wpAny_seqItems hS rfl ?_)
 show wpAny _ A.in1 (tryCatch (pyNext (.ref I)) _ >>= _) _ _ s
 by_cases hn : n = 0
 ·refine wpAny_bind (wpAny_tryCatch (W.done s _ _ (hn ▸ hst) fun h' tk hk => ?_))
  refine wpAny_bind (wpAny_rule (wpAny_pure ?_))
  exact hR d h' tk (by rw [if_pos hn]) fun b o h1 _ e => hk b o h1 e
 ·refine wpAny_bind (wpAny_tryCatch (W.item 0 s _ _ (by omega) hst fun v h' tk hv hst' hk => ?_))
  have hS' := hk S _ hSw hS
  show wpAny _ A.in1 (updateSeq S (fun _ => #[v, v]) >>= _) _ _ _
  refine wpAny_bind (wpAny_updateSeq hS' rfl ?_)
  rw [hname]
  refine wpAny_pure ⟨plainId_quiet F.plain_max_loop _, xJ W bt hcmp S hSf (n - 1) 0 _ v (by omega) (W.frame _ _ _ hst' fun b hbf o e => ?_) hv ⟨_, Heap.get?_update_self _ hS' rfl⟩ fun v' h2 tk2 hp2 hk2 => ?_⟩
  ·exact (Heap.get?_update_other _ _ (fun h : S = b => hSf (by rw [h]; exact hbf))).trans e
  ·exact hR v' h2 tk2 (by rw [if_neg hn]; exact hp2) fun b o h1 h3 e => hk2 b o h1 h3 ((Heap.get?_update_other _ _ (Ne.symm h3)).trans (hk b o h1 e))
end
def mG (d : Int) : List Int -> Int
 | [] => d
 | x :: xs => xs.foldl max x
theorem iz : ∀ (xs : List Int) (a : Int), a <= xs.foldl max a /\ ∀ x ∈ xs, x <= xs.foldl max a
 | [], a => ⟨Int.le_refl _, fun x h => nomatch h⟩
 | y :: ys, a => by
  obtain ⟨h1, h2⟩ := iz ys (max a y)
  refine ⟨Int.le_trans (Int.le_max_left _ _) h1, fun x h => ?_⟩
  rcases List.mem_cons.mp h with rfl | h
  ·exact Int.le_trans (Int.le_max_right _ _) h1
  ·exact h2 x h
theorem hW : ∀ (xs : List Int) (a : Int), xs.foldl max a = a \/ xs.foldl max a ∈ xs
 | [], a => .inl rfl
 | y :: ys, a => by
  rcases hW ys (max a y) with h | h
  ·rw [List.foldl_cons, h]
   rcases Int.le_total a y with q | q
   ·rw [Int.max_eq_right q]; exact .inr (List.mem_cons_self)
   ·rw [Int.max_eq_left q]; exact .inl rfl
  ·exact .inr (List.mem_cons_of_mem _ h)
theorem zw {d m : Int} {ns : List Int} (h : m ∈ ns) (g : ∀ x ∈ ns, x <= m) : mG d ns = m := by
 cases ns with
 | nil => cases h
 | cons x xs =>
  obtain ⟨h1, h2⟩ := iz xs x
  have a1 : m <= mG d (x :: xs) := by
   rcases List.mem_cons.mp h with rfl | h
   ·exact h1
   ·exact h2 m h
  have a2 : mG d (x :: xs) <= m := by
   rcases hW xs x with q | q
   ·show xs.foldl max x <= m
    rw [q]; exact g x List.mem_cons_self
   ·exact g _ (List.mem_cons_of_mem _ q)
  exact Int.le_antisymm a2 a1
theorem jz (val : Nat -> Int) : ∀ k, argBest (fun i j => decide (val i > val j)) k <= k /\ ∀ i, i <= k -> val i <= val (argBest (fun i j => decide (val i > val j)) k)
 | 0 => ⟨Nat.le_refl _, fun i h => by cases Nat.le_zero.mp h; exact Int.le_refl _⟩
 | k + 1 => by
  obtain ⟨h1, h2⟩ := jz val k
  rw [argBest]
  by_cases q : val (k + 1) > val (argBest (fun i j => decide (val i > val j)) k)
  ·rw [if_pos (decide_eq_true q)]
   refine ⟨Nat.le_refl _, fun i h => ?_⟩
   rcases Nat.lt_or_ge i (k + 1) with z | z
   ·exact Int.le_trans (h2 i (by omega)) (Int.le_of_lt q)
   ·rw [show i = k + 1 by omega]; exact Int.le_refl _
  ·rw [if_neg (by simpa using q)]
   refine ⟨Nat.le_succ_of_le h1, fun i h => ?_⟩
   rcases Nat.lt_or_ge i (k + 1) with z | z
   ·exact h2 i (by omega)
   ·rw [show i = k + 1 by omega]; exact Int.not_lt.mp q
section
variable {X : Cx}
theorem uH (a d : Value) : argsOk "max" ⟨[a], [("default", d)]⟩ := by unfold argsOk; kernel_rfl
theorem Cb {pins : List (Addr × Obj)} {s : Shared} {σ : St} {H : Hp} {Q : VK} {p : Addr} {ns : List Int} {d : Int} {t : Tok} (I : Inv X pins σ H s) (hh : X.A.handled = none) (hS : c_ X.K H p (ns.map V.int)) (q : Q (.int (mG d ns)) H) :
  wpAny (model X.prog X.w) X.A (call (.builtin "max") [.ref p] [("default", .int d t)]) (EP X pins σ Q) X.xe s := by
 obtain ⟨its, rv, pl, _⟩ := I.list hS
 have hl := pl.isList
 have hi := qB rv
 have hlt : p < s.heap.objs.size := pl.lt
 have hlen : its.length = ns.length := by have := rv.length; rw [List.length_map] at this; exact this.symm
 have hname : (toString "max" ++ toString ".loop" : String) = "max.loop" := by decide
 have hval : ∀ (i : Nat) (v : Value), its.toArray[i]? = some v -> ∃ t, v = .int (ns.getD i 0) t := fun i v e => by
  have e' : its[i]? = some v := by simpa using e
  have hb : i < ns.length := by have := (List.getElem?_eq_some_iff.mp e').1; omega
  obtain ⟨u, h1, h2⟩ := rv.get (i := i) (x := V.int ns[i]) (by rw [List.getElem?_map, List.getElem?_eq_getElem hb]; rfl)
  rw [e'] at h1
  cases h1
  obtain ⟨t, ht⟩ := (show ∃ t, v = Value.int ns[i] t from h2)
  exact ⟨t, by rw [ht, List.getD_eq_getElem?_getD, List.getElem?_eq_getElem hb]; rfl⟩
 refine wpAny_call (codeAny_call_builtin F.plain_max F.entry_max ?_)
 simp only [checkBuiltinCall, F.kind_max]
 have ha : argsOk "max" ⟨[.ref p], [("default", .int d t)]⟩ := uH _ _
 have body : wpAny (model X.prog X.w) X.A.in1 (Builtin.«max» ⟨[.ref p], [("default", .int d t)]⟩) (fun fin s' => match fin with
   | .done f => (match (Except.ok f : Result) with | .ok (.ret v) => EP X pins σ Q v s' | .ok _ => False | .error e => X.xe e s')
   | .again c' => c'.quiet = true /\ codeAny (model X.prog X.w) X.A c' (fun r s' => match r with | .ok (.ret v) => EP X pins σ Q v s' | .ok _ => False | .error e => X.xe e s') s') X.xe s := by
  show wpAny _ X.A.in1 (Builtin.Builtins.bindParams "max" ["key", "default"] 0 ⟨[], [("default", .int d t)]⟩ >>= _) _ _ s
  refine wpAny_bind (wpAny_of_eq (show Builtin.Builtins.bindParams "max" ["key", "default"] 0 ⟨[], [("default", .int d t)]⟩ = pure [none, some (.int d t)] from rfl) ?_)
  refine wpAny_bind (wpAny_pure ?_)
  refine wpAny_bind (wpAny_pyIter_list hl ?_)
  refine wpAny_bind (wpAny_newObj_type ?_)
  rw [hname]
  have W := Walks.list (prog := X.prog) (w := X.w) (A := X.A.in1) hh s.heap.objs.size p (Nat.ne_of_lt hlt) its.toArray
  refine wpAny_pure ⟨plainId_quiet F.plain_max_loop _, xI W _ (CmpOf.ints_gt (fun i => ns.getD i 0) hval) ((s.heap.push _).objs.size) (fun hm => ?_) (W.frame _ _ _ ⟨⟨_, Heap.get?_push_size _ rfl, rfl, rfl⟩, hl.push _⟩ fun b _ o e => Heap.get?_push_of_some _ e) ⟨_, Heap.get?_push_size _ rfl⟩ fun v h' tk hv hk => ?_⟩
  ·have hsz : (s.heap.push { cls := .type "list_iterator", data := .fields #[.ref p, .int 0 0] }).objs.size = s.heap.objs.size + 1 := Heap.size_push ..
   rcases List.mem_cons.mp hm with z | z
   ·exact absurd (hsz.symm.trans z) (Nat.succ_ne_self _)
   ·exact absurd (hsz.symm.trans (List.mem_singleton.mp z)) (Nat.ne_of_gt (Nat.lt_succ_of_lt hlt))
  ·have hkept : ∀ b o, s.heap.get? b = some o -> h'.get? b = some o := fun b o e => hk b o (fun hm => by
    exact absurd (List.mem_singleton.mp hm) (Nat.ne_of_lt (Heap.lt_size e))) (fun hm => by
    rw [Heap.size_push] at hm
    exact absurd hm (Nat.ne_of_lt (Nat.lt_succ_of_lt (Heap.lt_size e)))) (Heap.get?_push_of_some _ (Heap.get?_push_of_some _ e))
   have ev : ∃ t, v = .int (mG d ns) t := by
    by_cases hn : its.toArray.size = 0
    ·rw [if_pos hn] at hv
     have hz : ns = [] := List.length_eq_zero_iff.mp (by rw [<- hlen]; simpa using hn)
     rw [hz]
     exact ⟨_, hv⟩
    ·rw [if_neg hn] at hv
     obtain ⟨b1, b2⟩ := jz (fun i => ns.getD i 0) (its.toArray.size - 1)
     have hsz : its.toArray.size = ns.length := by rw [List.size_toArray, hlen]
     obtain ⟨t', e⟩ := hval _ v hv
     refine ⟨t', ?_⟩
     rw [e, zw (m := ns.getD (argBest (fun i j => decide (ns.getD i 0 > ns.getD j 0)) (its.toArray.size - 1)) 0) ?_ fun x hx => ?_]
     ·rw [List.getD_eq_getElem?_getD, List.getElem?_eq_getElem (by omega)]
      exact List.getElem_mem _
     ·obtain ⟨i, hi', rfl⟩ := List.getElem_of_mem hx
      have z := b2 i (by omega)
      simp only [List.getD_eq_getElem?_getD, List.getElem?_eq_getElem hi', Option.getD_some] at z
      simpa only [List.getD_eq_getElem?_getD] using z
   obtain ⟨t', rfl⟩ := ev
   exact ⟨.int (mG d ns), H, I.kept hkept, ⟨_, rfl⟩, q⟩
 cases hsig : Manifest.signature? "max" with
 | none => exact wpAny_pure body
 | some sig =>
  simp only [argsOk, hsig] at ha
  have h2 : Bind.checkArgs "max" sig ⟨[.ref p], [("default", .int d t)]⟩ = pure () := ha
  show wpAny _ X.A.in1 (Bind.checkArgs "max" sig ⟨[.ref p], [("default", .int d t)]⟩) _ _ s
  rw [h2]; exact wpAny_pure body
end
section
variable {X : Cx} {e c : Expr} {te tc : TE} {p pos kp : Pos}
def xq (X : Cx) (x y : V) (H : Hp) (Q : VK) : Prop := ∃ (l : Addr) (ns : List Int) (d : Int), x = .ref l /\ y = .int d /\ X.A.handled = none /\ c_ X.K H l (ns.map V.int) /\ Q (.int (mG d ns)) H
def one (F : V -> Hp -> Prop) (vs : List V) (H : Hp) : Prop := match vs with
 | [x] => F x H
 | _ => False
theorem AN (hg : Gl X "max") (hm : X.mg "max" = none) (he : PE X e te) (hc : PE X c tc) (h1 : starEach [e] X.env = (false, eval e X.env) :: starEach [] X.env := by rfl) (hv : bootBuiltins "max" = some (.builtin "max") := by decide +kernel) :
  PE X (.Call (.Name "max" p) [e] [⟨some "default", c, kp⟩] pos) (DM (xq X) te tc) := by
 intro pins s σ H Q I h
 refine wpAny_Call_Name_kw (iR I hg hm hv ?_)
 refine callWith_kw (env := X.env) ?_ (by rw [h1]; rfl) (by rw [h1]; rfl) rfl rfl
 refine au ((bq he gO h1) pos pins s σ H (one fun x H1 => tc σ H1 fun y H2 => xq X x y H2 Q) I h) fun us s1 ⟨vs, H1, I1, r1, q⟩ => ?_
 match vs, r1, q with
 | [x], r1, q =>
  obtain ⟨u, rfl, ru⟩ := vals1 r1
  refine au ((AQ (nm := some "default") (kpos := kp) hc C3) pos pins s1 σ H1 (one fun y H2 => xq X x y H2 Q) I1 q) fun ws s2 ⟨zs, H2, I2, r2, k⟩ => ?_
  match zs, r2, k with
  | [y], r2, k =>
   obtain ⟨l, ns, d, e1, e2, hh, hS, kk⟩ := k
   subst e1 e2
   obtain ⟨w, rfl, rw'⟩ := vals1 r2
   obtain ⟨t, rfl⟩ := (show ∃ t, w = Value.int d t from rw')
   cases (show u = Value.ref l from ru)
   exact Cb I2 hh hS kk
end
end L2
namespace DC
open PySem PySem.Spec PyProof.Rows L2
section
variable {X : Cx} {e c : Expr} {te tc : ED} {p pos kp : Pos} {es : List Expr} {t : AD}
theorem boot_sum : bootBuiltins "sum" = some (.builtin "sum") := by decide +kernel
def yF : cg := fun ds Q => ∃ (ns : List Int), ds = [.lst (ns.map D.int)] /\ Q (.int ns.sum)
theorem Ei : bU yF := fun ds P P' g ⟨bs, e, q⟩ => ⟨bs, e, g _ q⟩
theorem lp {K : PySem.W.Frag} {H : Hp} : ∀ {vs : List V} {bs : List Int}, ar K H vs (bs.map D.int) -> vs = bs.map V.int
 | [], [], _ => rfl
 | _, _ :: _, .cons (.int _) r => by rw [lp r]; rfl
theorem wM {K : PySem.W.Frag} {A : Around} (hh : A.handled = none) : mK K (fun xs H Q => ∃ (p : Addr) (ns : List Int), xs = [.ref p] /\ A.handled = none /\ c_ K H p (ns.map V.int) /\ Q (.int ns.sum) H) yF := by
 intro H vs ds Q dvs ⟨bs, e, q⟩
 subst e
 cases dvs with
 | cons dv r =>
  cases r
  cases dv with
  | lst h1 h2 =>
   rw [lp h2] at h1
   exact ⟨_, bs, rfl, hh, h1, q _ H (aK.refl _) (.int _)⟩
theorem D7 (hh : X.A.handled = none) (hg : Gl X "sum") (hm : X.mg "sum" = none) (ha : kH X (e :: es) t) (h1 : starEach (e :: es) X.env = (false, eval e X.env) :: starEach es X.env := by rfl) (h2 : (backTo pos (starEach es X.env)).any (·.1) = false := by rfl) : PD X (.Call (.Name "sum" p) (e :: es) [] pos) (vB yF t) := vz (dq vo hg hm boot_sum ha.pa (he := h1) (hpl := h2)) ha.mono (wM hh) Ei
def BB : F2 := fun d e Q => ∃ (ns : List Int) (i : Int), d = .lst (ns.map D.int) /\ e = .int i /\ Q (.int (mG i ns))
theorem CZ : cS BB := fun d e P P' g ⟨ns, i, e1, e2, q⟩ => ⟨ns, i, e1, e2, g _ q⟩
def FU : ED -> ED -> ED := lZ BB
theorem Bz (hh : X.A.handled = none) (hg : Gl X "max") (hm : X.mg "max" = none) (he : PD X e te) (hc : PD X c tc) (h1 : starEach [e] X.env = (false, eval e X.env) :: starEach [] X.env := by rfl) : PD X (.Call (.Name "max" p) [e] [⟨some "default", c, kp⟩] pos) (FU te tc) := by
 refine pS (t := oE X.K te) (AN hg hm he.pe hc.pe h1) he.mono hc.mono ?_ CZ
 intro H x y d e Q hx hy ⟨ns, i, e1, e2, q⟩
 subst e1 e2
 cases hy
 cases hx with
 | lst g1 g2 =>
  rw [lp g2] at g1
  exact ⟨_, ns, i, rfl, rfl, hh, g1, q _ H (aK.refl _) (.int _)⟩
end
inductive MD where
 | lst (ds : List D) | ins (C : Addr) (gs : FD) | dK (kvs : List (Key × D))
abbrev Mu := List (Addr × MD)
def FX (K : PySem.W.Frag) (H : Hp) (L : List Addr) (a : Addr) : MD -> Prop
 | .lst ds => ∃ vs, H a = some (.lst vs) /\ ar K (hidL H L) vs ds
 | .ins C gs => ∃ dx fs, H a = some (.ins C dx fs) /\ H dx = some (.own a) /\ dx ∈ L /\ dH K (hidL H L) fs gs
 | .dK kvs => ∃ ws, H a = some (.dK ws) /\ dZ K (hidL H L) ws kvs
structure eR (K : PySem.W.Frag) (H : Hp) (μ : Mu) (L : List Addr) : Prop where
 at_ : ∀ p ∈ μ, p.1 ∈ L /\ FX K H L p.1 p.2
 BH : (μ.map (·.1)).Nodup
 cG : ∀ b ∈ L, HidOk H L b
 Br : ∀ b ∈ L, (∃ m, (b, m) ∈ μ) \/ ∃ a, H b = some (.own a)
section
variable {K : PySem.W.Frag} {H H1 H4 : Hp} {μ : Mu} {L : List Addr}
theorem jD (s : aK H H1) : aK (hidL H L) (hidL H1 L) := fun b o h => by
 obtain ⟨h1, h2⟩ := hidL_some h
 rw [hidL_out h1]
 exact s _ _ h2
theorem FX.on {a : Addr} (s : aK H H1) : ∀ {m : MD}, FX K H L a m -> FX K H1 L a m
 | .lst _, ⟨vs, h, d⟩ => ⟨vs, s _ _ h, ar.same (jD s) d⟩
 | .ins _ _, ⟨dx, fs, h, h2, h3, d⟩ => ⟨dx, fs, s _ _ h, s _ _ h2, h3, dH.same (jD s) d⟩
 | .dK _, ⟨ws, h, d⟩ => ⟨ws, s _ _ h, dZ.same (jD s) d⟩
theorem B_ {a : Addr} (s : aK H H1) (h : HidOk H L a) : HidOk H1 L a := by
 cases h with
 | lst xs h => exact .lst xs (s _ _ h)
 | dK xs h => exact .dK xs (s _ _ h)
 | ins C dx fs h hd => exact .ins C dx fs (s _ _ h) hd
 | own C b fs h hb hi => exact .own C b fs (s _ _ h) hb (s _ _ hi)
theorem eR.on (g : eR K H μ L) (s : aK H H1) : eR K H1 μ L :=
 ⟨fun p hp => ⟨(g.at_ p hp).1, (g.at_ p hp).2.on s⟩, g.BH, fun b hb => B_ s (g.cG b hb), fun b hb => (g.Br b hb).imp id fun ⟨a, q⟩ => ⟨a, s _ _ q⟩⟩
theorem eR.show (g : eR K H μ L) (z : ∀ b ∈ L, H4 b = none) (s : aK (hidL H L) H4) : eR K (showL H4 H L) μ L := by
 have e : hidL (showL H4 H L) L = H4 := hidL_showL z
 refine ⟨fun p hp => ⟨(g.at_ p hp).1, ?_⟩, g.BH, fun b hb => ?_, fun b hb => (g.Br b hb).imp id fun ⟨a, q⟩ => ⟨a, by rw [showL_in hb]; exact q⟩⟩
 ·obtain ⟨hp1, ha⟩ := g.at_ p hp
  obtain ⟨a, m⟩ := p
  cases m with
  | lst ds => obtain ⟨vs, h, d⟩ := ha; exact ⟨vs, by rw [showL_in hp1]; exact h, by rw [e]; exact ar.same s d⟩
  | ins C gs => obtain ⟨dx, fs, h, h2, h3, d⟩ := ha; exact ⟨dx, fs, by rw [showL_in hp1]; exact h, by rw [showL_in h3]; exact h2, h3, by rw [e]; exact dH.same s d⟩
  | dK kvs => obtain ⟨ws, h, d⟩ := ha; exact ⟨ws, by rw [showL_in hp1]; exact h, by rw [e]; exact dZ.same s d⟩
 ·have w := g.cG b hb
  cases w with
  | lst xs h => exact .lst xs (by rw [showL_in hb]; exact h)
  | dK xs h => exact .dK xs (by rw [showL_in hb]; exact h)
  | ins C dx fs h hd => exact .ins C dx fs (by rw [showL_in hb]; exact h) hd
  | own C c fs h hc hi => exact .own C c fs (by rw [showL_in hb]; exact h) hc (by rw [showL_in hc]; exact hi)
theorem eR.nil : eR K H [] [] := ⟨fun p hp => (nomatch hp), List.nodup_nil, fun b hb => (nomatch hb), fun b hb => (nomatch hb)⟩
def MD.d : MD -> D
 | .lst ds => .lst ds
 | .ins C gs => .obj C gs
 | .dK kvs => .dK kvs
def b_ (μ : Mu) : D -> D
 | .adr a => ((μ.lookup a).map MD.d).getD (.adr a)
 | d => d
def fL (μ : Mu) (δ : SD) : SD := δ.map (Option.map (b_ μ))
theorem mem_of_lookup {a : Addr} {m : MD} : ∀ {μ : Mu}, μ.lookup a = some m -> (a, m) ∈ μ
 | [], h => by cases h
 | (b, n) :: r, h => by
  rw [List.lookup_cons] at h
  cases q : a == b with
  | true => rw [q] at h; cases h; rw [beq_iff_eq.mp q]; exact List.mem_cons_self
  | false => rw [q] at h; exact List.mem_cons_of_mem _ (mem_of_lookup h)
theorem eR.view (g : eR K H μ L) {v : V} {d : D} (h : Dv K (hidL H L) v d) : Dv K H v (b_ μ d) := by
 cases h with
 | adr a =>
  show Dv K H (.ref a) (((μ.lookup a).map MD.d).getD (.adr a))
  cases q : μ.lookup a with
  | none => exact .adr a
  | some m =>
   show Dv K H (.ref a) m.d
   obtain ⟨_, ha⟩ := g.at_ _ (mem_of_lookup q)
   cases m with
   | lst ds => obtain ⟨vs, h, d⟩ := ha; exact .lst (c_.of h) (ar.same hidL_same d)
   | ins C gs => obtain ⟨dx, fs, h, h2, h3, d⟩ := ha; exact .obj (.of h) (dH.same hidL_same d)
   | dK kvs => obtain ⟨ws, h, d⟩ := ha; exact .dK (.of h) (dZ.same hidL_same d)
 | aV => exact .aV
 | bl b => exact .bl b
 | int i => exact .int i
 | str x => exact .str x
 | lst h1 h2 => exact Dv.same hidL_same (.lst h1 h2)
 | tup h1 h2 => exact Dv.same hidL_same (.tup h1 h2)
 | obj h1 h2 => exact Dv.same hidL_same (.obj h1 h2)
 | dK h1 h2 => exact Dv.same hidL_same (.dK h1 h2)
 | dT h1 h2 => exact Dv.same hidL_same (.dT h1 h2)
 | exc h1 h2 h3 => exact Dv.same hidL_same (.exc h1 h2 h3)
theorem eR.fL (g : eR K H μ L) {σ : L2.St} {δ : SD} (r : aw K (hidL H L) σ δ) : aw K H σ (fL μ δ) := by
 refine ⟨by unfold DC.fL; rw [List.length_map]; exact r.len, fun i d h => ?_⟩
 unfold DC.fL at h
 rw [List.getElem?_map] at h
 cases q : δ[i]? with
 | none => rw [q] at h; cases h
 | some o =>
  rw [q] at h
  cases o with
  | none => cases h
  | some d' =>
   cases h
   obtain ⟨v, hv, dv⟩ := r.get i d' q
   exact ⟨v, hv, g.view dv⟩
end
structure mM where
 nx : SD -> Mu -> Prop
 rt : D -> Mu -> Prop
 bk : SD -> Mu -> Prop := fun _ _ => False
 ct : SD -> Mu -> Prop := fun _ _ => False
abbrev kI := mM -> SD -> Mu -> Prop
structure mM.Le (E E' : mM) : Prop where
 nx : ∀ δ μ, E.nx δ μ -> E'.nx δ μ
 rt : ∀ d μ, E.rt d μ -> E'.rt d μ
 bk : ∀ δ μ, E.bk δ μ -> E'.bk δ μ
 ct : ∀ δ μ, E.ct δ μ -> E'.ct δ μ
abbrev sZ (t : kI) : Prop := ∀ E E' δ μ, mM.Le E E' -> t E δ μ -> t E' δ μ
def kM (K : PySem.W.Frag) (H : Hp) (L : List Addr) (Q : L2.St -> Hp -> Prop) : SD -> Mu -> Prop := fun δ μ => ∀ σ H' L', aK (hidL H L) (hidL H' L') -> aw K (hidL H' L') σ δ -> eR K H' μ L' -> Q σ H'
def kR (K : PySem.W.Frag) (H : Hp) (L : List Addr) (Q : VK) : D -> Mu -> Prop := fun d μ => ∀ v H' L', aK (hidL H L) (hidL H' L') -> eR K H' μ L' -> Dv K (hidL H' L') v d -> Q v H'
def lB (K : PySem.W.Frag) (H : Hp) (L : List Addr) (D : Ends) : mM := ⟨kM K H L D.nx, kR K H L D.rt, kM K H L D.bk, kM K H L D.ct⟩
theorem iw {K : PySem.W.Frag} {H H1 : Hp} {L L1 : List Addr} {D : Ends} (s : aK (hidL H L) (hidL H1 L1)) : mM.Le (lB K H L D) (lB K H1 L1 D) :=
 ⟨fun _ _ h σ H' L' s' r g => h σ H' L' (s.trans s') r g, fun _ _ h v H' L' s' g d => h v H' L' (s.trans s') g d, fun _ _ h σ H' L' s' r g => h σ H' L' (s.trans s') r g, fun _ _ h σ H' L' s' r g => h σ H' L' (s.trans s') r g⟩
def oM (K : PySem.W.Frag) (t : kI) : TS := fun D σ H => ∃ δ μ L, aw K (hidL H L) σ δ /\ eR K H μ L /\ t (lB K H L D) δ μ
structure yl (X : Cx) (st : Stmt) (t : kI) : Prop where
 ps : PS X st (oM X.K t)
 mono : sZ t
structure se (X : Cx) (st : List Stmt) (t : kI) : Prop where
 ps : gi X st (oM X.K t)
 mono : sZ t
section
variable {X : Cx} {st : Stmt} {rest body els : List Stmt} {t u : kI} {e c : Expr} {te : ED} {uc : TD} {pos : Pos}
def EV : kI := fun E δ μ => E.nx δ μ
def GA (t u : kI) : kI := fun E δ μ => t { E with nx := u E } δ μ
theorem oU : se X [] EV := ⟨gi.imp oj fun D σ H ⟨δ, μ, L, r, g, h⟩ => h σ H L (aK.refl _) r g, fun E E' δ μ l h => l.nx _ _ h⟩
theorem b4 (h1 : yl X st t) (h2 : se X rest u) : se X (st :: rest) (GA t u) :=
 ⟨gi.imp (dz h1.ps h2.ps) fun D σ H ⟨δ, μ, L, r, g, h⟩ => ⟨δ, μ, L, r, g, h1.mono { lB X.K H L D with nx := u (lB X.K H L D) } _ _ _ ⟨fun δ' μ' q σ' H' L' s' r' g' => ⟨δ', μ', L', r', g', h2.mono _ _ _ _ (iw s') q⟩, fun _ _ q => q, fun _ _ q => q, fun _ _ q => q⟩ h⟩,
  fun E E' δ μ l h => h1.mono { E with nx := u E } _ _ _ ⟨fun δ' μ' q => h2.mono _ _ _ _ l q, l.rt, l.bk, l.ct⟩ h⟩
theorem rg (h1 : yl X st t) : se X [st] t := ⟨om h1.ps, h1.mono⟩
def tZ (t : eB) : kI := fun E δ μ => t { nx := fun δ' => E.nx δ' μ, rt := fun d => E.rt d μ, bk := fun δ' => E.bk δ' μ, ct := fun δ' => E.ct δ' μ } δ
theorem tV {t : eB} (m : mQ t) {D : Ends} {σ : L2.St} {H : Hp} (h : oM X.K (tZ t) D σ H) : frS (oS X.K t) D σ H := by
 obtain ⟨δ, μ, L, r, g, h⟩ := h
 refine ⟨L, g.cG, δ, r, ?_⟩
 refine m { nx := fun δ' => (lB X.K H L D).nx δ' μ, rt := fun d => (lB X.K H L D).rt d μ, bk := fun δ' => (lB X.K H L D).bk δ' μ, ct := fun δ' => (lB X.K H L D).ct δ' μ } _ _ ⟨fun δ' q σ' H' s' r' z => ?_, fun d q v H' s' dv z => ?_, fun δ' q σ' H' s' r' z => ?_, fun δ' q σ' H' s' r' z => ?_⟩ h
 ·have e : hidL (showL H' H L) L = H' := hidL_showL z
  exact q σ' _ L (by rw [e]; exact s') (by rw [e]; exact r') (g.show z s')
 ·have e : hidL (showL H' H L) L = H' := hidL_showL z
  exact q v _ L (by rw [e]; exact s') (g.show z s') (by rw [e]; exact dv)
 ·have e : hidL (showL H' H L) L = H' := hidL_showL z
  exact q σ' _ L (by rw [e]; exact s') (by rw [e]; exact r') (g.show z s')
 ·have e : hidL (showL H' H L) L = H' := hidL_showL z
  exact q σ' _ L (by rw [e]; exact s') (by rw [e]; exact r') (g.show z s')
theorem xD {t : eB} (m : mQ t) : sZ (tZ t) := fun E E' δ μ l h => m { nx := fun δ' => E.nx δ' μ, rt := fun d => E.rt d μ, bk := fun δ' => E.bk δ' μ, ct := fun δ' => E.ct δ' μ } _ _ ⟨fun _ q => l.nx _ _ q, fun _ q => l.rt _ _ q, fun _ q => l.bk _ _ q, fun _ q => l.ct _ _ q⟩ h
theorem ki {t : eB} (h : sk X st t) : yl X st (tZ t) := ⟨PS.imp (ps_frM h.ps) fun D σ H q => tV h.mono q, xD h.mono⟩
theorem gN {t : eB} (h : f7 X rest t) : se X rest (tZ t) := ⟨gi.imp (pss_frM h.ps) fun D σ H q => tV h.mono q, xD h.mono⟩
def HY (uc : TD) (t u : kI) : kI := fun E δ μ => uc (fL μ δ) fun b => if b = true then t E δ μ else u E δ μ
theorem tm (hc : jc X c uc) (ha : se X body t) (hb : se X els u) : yl X (.If c body els pos) (HY uc t u) := by
 refine ⟨PS.imp (BM hc.pt ha.ps hb.ps) fun D σ H ⟨δ, μ, L, r, g, h⟩ => ⟨_, g.fL r, hc.mono _ _ _ (fun k q H1 s1 => ?_) h⟩, fun E E' δ μ l h => hc.mono _ _ _ (fun k q => ?_) h⟩
 ·have s2 : aK (hidL H L) (hidL H1 L) := jD s1
  cases k with
  | true =>
   show if true = true then _ else _
   rw [if_pos rfl] at q ⊢; exact ⟨δ, μ, L, r.same s2, g.on s1, ha.mono _ _ _ _ (iw s2) q⟩
  | false =>
   show if false = true then _ else _
   rw [if_neg Bool.false_ne_true] at q ⊢; exact ⟨δ, μ, L, r.same s2, g.on s1, hb.mono _ _ _ _ (iw s2) q⟩
 ·cases k with
  | true => rw [if_pos rfl] at q ⊢; exact ha.mono _ _ _ _ l q
  | false => rw [if_neg Bool.false_ne_true] at q ⊢; exact hb.mono _ _ _ _ l q
end
def oo (a : Addr) (m : MD) (μ : Mu) : Mu := μ.map fun p => if p.1 = a then (a, m) else p
theorem nB (a : Addr) (m : MD) (μ : Mu) : (oo a m μ).map (·.1) = μ.map (·.1) := by
 unfold oo
 rw [List.map_map]
 refine List.map_congr_left fun p _ => ?_
 show (if p.1 = a then (a, m) else p).1 = p.1
 split
 ·rename_i h; exact h.symm
 ·rfl
section
variable {K : PySem.W.Frag} {H : Hp} {μ : Mu} {L : List Addr} {a : Addr} {vs ys : List V} {ds : List D}
theorem jE {o : HO} (h : a ∈ L) : hidL (upd H a o) L = hidL H L := by
 funext b
 by_cases hb : b ∈ L
 ·rw [hidL_in hb, hidL_in hb]
 ·rw [hidL_out hb, hidL_out hb, aE (fun z => hb (by rw [z]; exact h))]
theorem eR.putL (g : eR K H μ L) (ha : a ∈ L) (hv : H a = some (.lst vs)) (d : ar K (hidL H L) ys ds) : eR K (upd H a (.lst ys)) (oo a (.lst ds) μ) L := by
 have e : hidL (upd H a (.lst ys)) L = hidL H L := jE ha
 refine ⟨fun p hp => ?_, by rw [nB]; exact g.BH, fun b hb => ?_, fun b hb => ?_⟩
 ·obtain ⟨q, hq, rfl⟩ := List.mem_map.mp hp
  by_cases hqa : q.1 = a
  ·rw [if_pos hqa]
   exact ⟨ha, ys, aI, by rw [e]; exact d⟩
  ·rw [if_neg hqa]
   obtain ⟨h1, h2⟩ := g.at_ q hq
   refine ⟨h1, ?_⟩
   obtain ⟨b, m⟩ := q
   cases m with
   | lst ds => obtain ⟨ws, h, d⟩ := h2; exact ⟨ws, by rw [aE hqa]; exact h, by rw [e]; exact d⟩
   | ins C gs => obtain ⟨dx, fs, h, h2, h3, d⟩ := h2; exact ⟨dx, fs, by rw [aE hqa]; exact h, by rw [aE (fun z => by rw [z, hv] at h2; cases h2)]; exact h2, h3, by rw [e]; exact d⟩
   | dK kvs => obtain ⟨ws, h, d⟩ := h2; exact ⟨ws, by rw [aE hqa]; exact h, by rw [e]; exact d⟩
 ·by_cases hba : b = a
  ·rw [hba]; exact .lst ys aI
  ·have w := g.cG b hb
   cases w with
   | lst xs h => exact .lst xs (by rw [aE hba]; exact h)
   | dK xs h => exact .dK xs (by rw [aE hba]; exact h)
   | ins C dx fs h hd => exact .ins C dx fs (by rw [aE hba]; exact h) hd
   | own C c fs h hc hi => exact .own C c fs (by rw [aE hba]; exact h) hc (by rw [aE (fun z => by rw [z, hv] at hi; cases hi)]; exact hi)
 ·rcases g.Br b hb with ⟨m, h⟩ | ⟨c, h⟩
  ·by_cases hba : b = a
   ·exact .inl ⟨.lst ds, List.mem_map.mpr ⟨_, h, by rw [if_pos hba, hba]⟩⟩
   ·exact .inl ⟨m, List.mem_map.mpr ⟨_, h, if_neg hba⟩⟩
  ·exact .inr ⟨c, by rw [aE (fun z => by rw [z, hv] at h; cases h)]; exact h⟩
theorem eR.GO (g : eR K H μ L) (hn : H a = none) (d : ar K (hidL H L) ys ds) : eR K (upd H a (.lst ys)) ((a, .lst ds) :: μ) (a :: L) /\ hidL (upd H a (.lst ys)) (a :: L) = hidL H L := by
 have haL : a ∉ L := fun h => by obtain ⟨o, q⟩ := (g.cG a h).there; rw [hn] at q; cases q
 have e : hidL (upd H a (.lst ys)) (a :: L) = hidL H L := by
  funext b
  by_cases hb : b = a
  ·rw [hb, hidL_in List.mem_cons_self, hidL_none hn]
  ·by_cases hb2 : b ∈ L
   ·rw [hidL_in (List.mem_cons_of_mem _ hb2), hidL_in hb2]
   ·rw [hidL_out (fun z => (List.mem_cons.mp z).elim hb hb2), hidL_out hb2, aE hb]
 have ne : ∀ {b : Addr} {o : HO}, H b = some o -> b ≠ a := fun h => aJ h hn
 refine ⟨⟨fun p hp => ?_, ?_, fun b hb => ?_, fun b hb => ?_⟩, e⟩
 ·rcases List.mem_cons.mp hp with rfl | hp
  ·exact ⟨List.mem_cons_self, ys, aI, by rw [e]; exact d⟩
  ·obtain ⟨h1, h2⟩ := g.at_ p hp
   refine ⟨List.mem_cons_of_mem _ h1, ?_⟩
   obtain ⟨b, m⟩ := p
   cases m with
   | lst ds => obtain ⟨ws, h, d⟩ := h2; exact ⟨ws, by rw [aE (ne h)]; exact h, by rw [e]; exact d⟩
   | ins C gs => obtain ⟨dx, fs, h, h2, h3, d⟩ := h2; exact ⟨dx, fs, by rw [aE (ne h)]; exact h, by rw [aE (ne h2)]; exact h2, List.mem_cons_of_mem _ h3, by rw [e]; exact d⟩
   | dK kvs => obtain ⟨ws, h, d⟩ := h2; exact ⟨ws, by rw [aE (ne h)]; exact h, by rw [e]; exact d⟩
 ·rw [List.map_cons, List.nodup_cons]
  refine ⟨fun h => ?_, g.BH⟩
  obtain ⟨p, hp, hpa⟩ := List.mem_map.mp h
  have : p.1 = a := hpa
  exact haL (this ▸ (g.at_ p hp).1)
 ·rcases List.mem_cons.mp hb with rfl | hb
  ·exact .lst ys aI
  ·have w := g.cG b hb
   cases w with
   | lst xs h => exact .lst xs (by rw [aE (ne h)]; exact h)
   | dK xs h => exact .dK xs (by rw [aE (ne h)]; exact h)
   | ins C dx fs h hd => exact .ins C dx fs (by rw [aE (ne h)]; exact h) (List.mem_cons_of_mem _ hd)
   | own C c fs h hc hi => exact .own C c fs (by rw [aE (ne h)]; exact h) (List.mem_cons_of_mem _ hc) (by rw [aE (ne hi)]; exact hi)
 ·rcases List.mem_cons.mp hb with rfl | hb
  ·exact .inl ⟨_, List.mem_cons_self⟩
  ·rcases g.Br b hb with ⟨m, h⟩ | ⟨c, h⟩
   ·exact .inl ⟨m, List.mem_cons_of_mem _ h⟩
   ·exact .inr ⟨c, by rw [aE (ne h)]; exact h⟩
end
section
variable {X : Cx} {e : Expr} {te : ED} {es : List Expr} {t : AD} {i : Nat} {x : Str} {p pos pos' apos cpos : Pos}
def EU (i : Nat) (t : AD) : kI := fun E δ μ => t δ fun ds => ds.length <= sizeLine /\ ∀ a, (∀ m, (a, m) ∉ μ) -> E.nx (δ.set i (some (.adr a))) ((a, .lst ds) :: μ)
theorem z4 (hN : X.N.Nodup) (hi : X.N[i]? = some x) (hx : Loc X.env.scope x) (h : kH X es t) (hs : swapsWith (.List es p) (some (.Name x pos')) pos.line X.env = pure false := by rfl)
  (hf : X.fn x = true \/ X.env.scope.names.lookup x = some .local := by first | exact .inl rfl | exact .inr rfl | assumption) : yl X (.Assign [.Name x pos'] (.List es p) pos) (EU i t) := by
 refine ⟨PS.imp (ro hN hi hx (pe_frM (xc h.pa)) hs hf) fun D σ H ⟨δ, μ, L, r, g, q⟩ => ⟨L, g.cG, δ, r, h.mono _ _ _ (fun ds ⟨hz, k⟩ vs H1 s1 dvs => ⟨by rw [dvs.length]; exact hz, fun a ha z => ?_⟩) q⟩,
  fun E E' δ μ l q => h.mono _ _ _ (fun ds ⟨hz, k⟩ => ⟨hz, fun a ha => l.nx _ _ (k a ha)⟩) q⟩
 have haL : a ∉ L := fun hl => by have := z a hl; rw [aI] at this; cases this
 have nb : ∀ {b : Addr}, b ∈ L -> b ≠ a := fun hb w => haL (by rw [<- w]; exact hb)
 have z1 : ∀ b ∈ L, H1 b = none := fun b hb => by have := z b hb; rwa [aE (nb hb)] at this
 have eS : showL (upd H1 a (.lst vs)) H L = upd (showL H1 H L) a (.lst vs) := by
  funext b
  by_cases hb : b ∈ L
  ·rw [showL_in hb, aE (nb hb), showL_in hb]
  ·rw [showL_out hb]
   by_cases hba : b = a
   ·rw [hba, aI, aI]
   ·rw [aE hba, aE hba, showL_out hb]
 have e1 : hidL (showL H1 H L) L = H1 := hidL_showL z1
 have g1 : eR X.K (showL H1 H L) μ L := g.show z1 s1
 have hn : showL H1 H L a = none := by rw [showL_out haL]; exact ha
 obtain ⟨g2, e2⟩ := g1.GO hn (ys := vs) (ds := ds) (by rw [e1]; exact dvs)
 rw [eS]
 refine k a (fun m hm => haL (g.at_ _ hm).1) _ _ (a :: L) (by rw [e2, e1]; exact s1) ?_ g2
 rw [e2, e1]
 exact (r.same s1).set i (.adr a)
def zr (i : Nat) (te : ED) : kI := fun E δ μ => ∃ a ds, δ[i]? = some (some (.adr a)) /\ μ.lookup a = some (.lst ds) /\ ds.length < sizeLine /\ te δ fun d => E.nx δ (oo a (.lst (ds ++ [d])) μ)
theorem uu (hi : X.N[i]? = some x) (hv : ye X.env.scope x) (he : PD X e te) (hd : (x == ("__debug__" : Str)) = false := by decide) (hcd : (x == ("__classdict__" : Str)) = false := by decide)
  (hst : starEach [e] X.env = (false, eval e X.env) :: starEach [] X.env := by rfl) (hline : (apos.endLine == cpos.line) = true := by rfl)
  (hfew : ((backTo cpos (starEach [e] X.env)).all (fun x => !x.1) && (backToKw cpos (keywordEach [] X.env)).all (fun x => x.1.isSome) && decide ([e].length + ([] : List Keyword).length + (if ([] : List Keyword).isEmpty then 0 else 1) < 30)) = true := by rfl)
  (hs : swapsWith (.Call (.Attribute (.Name x p) "append" apos) [e] [] cpos) none pos.line X.env = pure false := by rfl)
  (hb : attributeBase (.Name x p) "append" X.env (eval (.Name x p) X.env) = eval (.Name x p) X.env := by rfl) :
  yl X (.Expr (.Call (.Attribute (.Name x p) "append" apos) [e] [] cpos) pos) (zr i te) := by
 refine ⟨PS.imp (t7 (BK PySem.F.plainAttrs_list PySem.F.slot_list_append PySem.F.type_list_append jo (js hi hv hd hcd) (bq (pe_frM he.pe) gO hst) hb hfew hline hst) hs) fun D σ H ⟨δ, μ, L, r, g, q⟩ => ?_,
  fun E E' δ μ l ⟨a, ds, k1, k2, k3, q⟩ => ⟨a, ds, k1, k2, k3, he.mono _ _ _ (fun d k => l.nx _ _ k) q⟩⟩
 obtain ⟨a, ds, k1, k2, k3, q⟩ := q
 obtain ⟨v, hv1, dv⟩ := r.get i _ k1
 cases dv
 have hm := mem_of_lookup k2
 obtain ⟨haL, vs, hH, dvs⟩ := g.at_ _ hm
 refine ⟨_, hv1, .inl ⟨rfl, _, c_.of hH⟩, L, g.cG, δ, r, he.mono _ _ _ (fun d k w H1 s1 dw z => ?_) q⟩
 have e1 : hidL (showL H1 H L) L = H1 := hidL_showL z
 have g1 : eR X.K (showL H1 H L) μ L := g.show z s1
 have hH1 : showL H1 H L a = some (.lst vs) := by rw [showL_in haL]; exact hH
 refine ⟨a, vs, w, rfl, rfl, hH1, by rw [dvs.length]; exact k3, ?_⟩
 have g2 := g1.putL haL hH1 (ys := vs ++ [w]) (ds := ds ++ [d]) (by rw [e1]; exact (ar.same s1 dvs).append (.cons dw .nil))
 have e2 : hidL (upd (showL H1 H L) a (.lst (vs ++ [w]))) L = H1 := by rw [jE haL, e1]
 exact k σ _ L (by rw [e2]; exact s1) (by rw [e2]; exact r.same s1) g2
end
end DC
namespace L2
open PySem PySem.Spec PyProof.Rows
section
variable {X : Cx} {tg : Expr} {g : TG}
def HW (g : TG) : TG := fun v σ H Q => ∃ L, (∀ a ∈ L, HidOk H L a) /\ g v σ (hidL H L) fun σ' H4 => (∀ b ∈ L, H4 b = none) -> Q σ' (showL H4 H L)
theorem Cz (h : PG X tg g) : PG X tg (HW g) := by
 intro pins s σ H v u Q I r ⟨L, hL, q⟩
 refine frameM I hL fun pl I' _ back => ?_
 refine au (h (pins ++ pl) s σ _ v u _ I' r q) fun _ s1 ⟨σ', H4, I4, k⟩ => ?_
 obtain ⟨z, J⟩ := back _ _ _ I4
 exact ⟨σ', _, J, k z⟩
end
end L2
namespace DC
open PySem PySem.Spec PyProof.Rows L2
section
variable {X : Cx} {tg iter : Expr} {body : List Stmt} {ti : AD} {g : yd} {tb : kI} {pos : Pos}
abbrev qu := List D -> SD -> (SD -> Prop) -> Prop
structure yk (X : Cx) (ts : List Expr) (g : qu) : Prop where
 pg : yc X ts (fun vs σ H Q => ∃ ds δ, ar X.K H vs ds /\ aw X.K H σ δ /\ g ds δ (kS X.K H Q))
 mono : ∀ ds δ (P P' : SD -> Prop), (∀ δ, P δ -> P' δ) -> g ds δ P -> g ds δ P'
def Fz : qu := fun ds δ Q => ds = [] /\ Q δ
def EI (t : yd) (u : qu) : qu := fun ds δ Q => ∃ d r, ds = d :: r /\ t d δ fun δ' => u r δ' Q
theorem yc.imp {ts : List Expr} {t t' : A6} (h : yc X ts t) (f : ∀ v σ H Q, t' v σ H Q -> t v σ H Q) : yc X ts t' := fun pins s σ H v u Q I r q => h pins s σ H v u Q I r (f v σ H Q q)
theorem B9 : yk X [] Fz := ⟨yc.imp t6 fun vs σ H Q ⟨ds, δ, dv, r, e, q⟩ => by subst e; cases dv; exact ⟨rfl, q σ H (aK.refl _) r⟩, fun ds δ P P' f ⟨e, q⟩ => ⟨e, f _ q⟩⟩
theorem tR {e : Expr} {es : List Expr} {t : yd} {u : qu} (h1 : Du X e t) (h2 : yk X es u) (hs : (assignEach (e :: es) X.env).map (·.2) = assign e X.env :: (assignEach es X.env).map (·.2) := by rfl) : yk X (e :: es) (EI t u) := by
 refine ⟨yc.imp (lO h1.pg h2.pg hs) fun vs σ H Q ⟨ds, δ, dv, r, d, dr, e, q⟩ => ?_, fun ds δ P P' f ⟨d, r, e, q⟩ => ⟨d, r, e, h1.mono _ _ _ _ (fun δ' k => h2.mono _ _ _ _ f k) q⟩⟩
 subst e
 cases dv with
 | cons a b => exact ⟨_, _, rfl, d, δ, a, r, h1.mono _ _ _ _ (fun δ' k σ' H' s' r' => ⟨dr, δ', ar.same s' b, r', h2.mono _ _ _ _ (fun δ'' z => z.on s') k⟩) q⟩
def F0 (n : Nat) (u : qu) : yd := fun d δ Q => ∃ ds, d = .tup ds /\ ds.length = n /\ u ds δ Q
theorem EC {es : List Expr} {k : Nat} {u : qu} {n : Nat} (hc : X.calm = true) (h : yk X es u) (hn : (assignEach es X.env).length = n := by rfl) (hst : (assignEach es X.env).findIdx? (·.1) = none := by rfl) : Du X (.Tuple es k pos) (F0 n u) := by
 refine ⟨PG.imp (xh hc h.pg hn hst) fun v σ H Q ⟨d, δ, dv, r, ds, e, hl, q⟩ => ?_, fun d δ P P' f ⟨ds, e, hl, q⟩ => ⟨ds, e, hl, h.mono _ _ _ _ f q⟩⟩
 subst e
 cases dv with
 | tup h1 h2 => exact ⟨_, _, rfl, h1, by rw [h2.length]; exact hl, ds, δ, h2, r, q⟩
def F_ (ti : AD) (g : yd) (tb : kI) : kI := fun E δ μ => ti δ fun ds => ∃ inv : Nat -> SD -> Mu -> Prop, inv 0 δ μ /\
 (∀ i d δ' μ', ds[i]? = some d -> inv i δ' μ' -> g d δ' fun δ2 => tb { E with nx := inv (i + 1), ct := inv (i + 1), bk := E.nx } δ2 μ') /\ ∀ δ' μ', inv ds.length δ' μ' -> E.nx δ' μ'
theorem xK (hp : PassesOwn (model X.prog X.w) X.A X.env X.xe) (hc : X.calm = true) (hi : PId X tg iter ti) (hg : Du X tg g) (hb : se X body tb) (hs : ∀ x, foldedSetIterable iter X.env x = pure x := by intro _; rfl) :
  yl X (.For tg iter body [] pos) (F_ ti g tb) := by
 refine ⟨PS.imp (xm hp hc (pi_frM hi.pi) (Cz hg.pg) hb.ps hs) fun D σ H ⟨δ, μ, L, r, st, h⟩ => ⟨L, st.cG, δ, r, hi.mono _ _ _ (fun ds ⟨inv, i0, step, fin⟩ J H1 s1 it z => ?_) h⟩, fun E E' δ μ l h => hi.mono _ _ _ (fun ds ⟨inv, i0, step, fin⟩ => ⟨inv, i0, fun i d δ' μ' hd hin => hg.mono _ _ _ _ (fun δ2 q => hb.mono { E with nx := inv (i + 1), ct := inv (i + 1), bk := E.nx } _ _ _ ⟨fun _ _ q => q, l.rt, l.nx, fun _ _ q => q⟩ q) (step i d δ' μ' hd hin), fun δ' μ' q => l.nx _ _ (fin δ' μ' q)⟩) h⟩
 have e1 : hidL (showL H1 H L) L = H1 := hidL_showL z
 refine ⟨fun i m σ' H' => m = ds.length - i /\ i <= ds.length /\ ∃ δ' μ' L', aK H1 (hidL H' L') /\ aw X.K (hidL H' L') σ' δ' /\ eR X.K H' μ' L' /\ inv i δ' μ', ⟨ds.length, rfl, Nat.zero_le _, δ, μ, L, by rw [e1]; exact aK.refl _, by rw [e1]; exact r.same s1, st.show z s1, i0⟩, ?_⟩
 rintro i m σ' H' ⟨rfl, hle, δ', μ', L', s', r', st', hin⟩
 have sf : aK H1 H' := s'.trans hidL_same
 by_cases hlt : i < ds.length
 ·refine .inr ⟨it.go i H' sf hlt, fun σ2 H2 => ∃ δ2 μ2 L2, aK H1 (hidL H2 L2) /\ aw X.K (hidL H2 L2) σ2 δ2 /\ eR X.K H2 μ2 L2 /\ inv (i + 1) δ2 μ2, fun σ2 H2 ⟨δ2, μ2, L2, q⟩ => ⟨ds.length - (i + 1), by omega, rfl, hlt, δ2, μ2, L2, q⟩, fun x H'' y => ?_⟩
  obtain ⟨s2, d, hd, Hx, _, dvx, hx, sx⟩ := it.yZ i H' x H'' sf hlt y
  have sA : aK (hidL H' L') (hidL H'' L') := jD s2
  have sX : aK Hx (hidL H'' L') := fun b o hb => by
   have nb : b ∉ L' := by
    intro hbL
    rcases hx b o hb with q | q
    ·have := s' _ _ q
     rw [hidL_in hbL] at this
     cases this
    ·obtain ⟨o', q'⟩ := (st'.cG b hbL).there
     rw [q] at q'
     cases q'
   rw [hidL_out nb]
   exact sx _ _ hb
  have st2 : eR X.K H'' μ' L' := st'.on s2
  refine ⟨L', st2.cG, d, δ', dvx.same sX, r'.same sA, hg.mono _ _ _ _ (fun δ2 q σ3 H3 s3 r3 z3 => ?_) (step i d δ' μ' hd hin)⟩
  have e3 : hidL (showL H3 H'' L') L' = H3 := hidL_showL z3
  have st3 : eR X.K (showL H3 H'' L') μ' L' := st2.show z3 s3
  have sB : aK H1 H3 := s'.trans (sA.trans s3)
  refine ⟨δ2, μ', L', by rw [e3]; exact r3, st3, hb.mono { lB X.K H L D with nx := inv (i + 1), ct := inv (i + 1), bk := (lB X.K H L D).nx } _ _ _ ?_ q⟩
  have sC : aK (hidL H L) (hidL (showL H3 H'' L') L') := by rw [e3]; exact s1.trans sB
  have l := iw (K := X.K) (D := D) sC
  refine ⟨fun δ4 μ4 q4 σ4 H4 L4 s4 r4 st4 => ⟨δ4, μ4, L4, ?_, r4, st4, q4⟩, fun _ _ q4 => l.rt _ _ q4, fun _ _ q4 => l.nx _ _ q4, fun δ4 μ4 q4 σ4 H4 L4 s4 r4 st4 => ⟨δ4, μ4, L4, ?_, r4, st4, q4⟩⟩
  ·rw [e3] at s4; exact sB.trans s4
  ·rw [e3] at s4; exact sB.trans s4
 ·have e : i = ds.length := by omega
  subst e
  exact .inl ⟨it.stop H' sf, fin δ' μ' hin σ' H' L' (s1.trans s') r' st'⟩
end
section
variable {P : Program} {w : World} {K : PySem.W.Frag} {mg : Str -> Option Value} {base : Heap}
theorem Hc {x qual : Str} {st : Stmt} {f : Addr} {fd : FuncData} {N ps : List Str} {k : Nat} {sd : cg} {t : kI} (F : qq K x qual st f fd) (S : aG N ps (aC st)) (len : ∀ ds Q, sd ds Q -> ds.length = ps.length)
  (hb : ∀ (cdv : Value) (A : Around) (outer : List Env) (s : Shared) (H : Hp) (E : XK), ao k (A.deeper (envOfC qual (aC st) s.heap.objs.size f cdv)) -> se (Bx P w K mg base N qual st f cdv A outer s H E) (aY st) t)
  (hr : ∀ ds Q, sd ds Q -> t { nx := fun _ _ => Q .aV, rt := fun d μ => Q (b_ μ d) } (bB N ds) []) : bR P w K mg base km (k + 1) f fd ps (qg K sd) := by
 refine F.ok S (fun vs H Q E ⟨ds, dvs, h⟩ => by rw [dvs.length]; exact len ds _ h) (fun cdv A outer s H vs Q E hroom ⟨ds, dvs, h⟩ => ?_)
 have B := hb cdv A outer s H E hroom
 refine ⟨_, B.ps, bB N ds, [], [], by rw [hidL_nil]; exact dY dvs, eR.nil, ?_⟩
 refine B.mono { nx := fun _ _ => kD K H Q .aV, rt := fun d μ => kD K H Q (b_ μ d) } _ _ _ ⟨fun δ μ q σ H' L' s' r g => ?_, fun d μ q v H' L' s' g dv => ?_, fun _ _ q => q.elim, fun _ _ q => q.elim⟩ (hr ds _ h)
 ·rw [hidL_nil] at s'
  exact q _ H' (s'.trans hidL_same) .aV
 ·rw [hidL_nil] at s'
  exact q _ H' (s'.trans hidL_same) (g.view dv)
end
structure bN (P : Program) (w : World) (K : PySem.W.Frag) (mg : Str -> Option Value) (base : Heap) (k : Nat) (x : Str) (ps : List Str) (sd : cg) : Prop where
 ex : ∃ f fd, bR P w K mg base km k f fd ps (qg K sd) /\ mg x = some (.ref f) /\ PySem.W.keepIn K (.ref f) = true /\ Binds K fd ps []
 ms : bU sd
section
variable {P : Program} {w : World} {K : PySem.W.Frag} {mg : Str -> Option Value} {base : Heap}
theorem bN.up {j k : Nat} {x : Str} {ps : List Str} {sd : cg} (c : bN P w K mg base j x ps sd) (h : j <= k) : bN P w K mg base k x ps sd :=
 ⟨let ⟨f, fd, F, r⟩ := c.ex; ⟨f, fd, F.mono h, r⟩, c.ms⟩
structure Df (K : PySem.W.Frag) (mg : Str -> Option Value) (x : Str) (st : Stmt) (ps : List Str) : Prop where
 ex : ∃ f fd, qq K x x st f fd /\ mg x = some (.ref f) /\ Binds K fd ps []
theorem Df.gp {k : Nat} {x : Str} {st : Stmt} {ps N : List Str} {sd : cg} {t : eB} (d : Df K mg x st ps) (S : aG N ps (aC st)) (ms : bU sd) (len : ∀ ds Q, sd ds Q -> ds.length = ps.length)
  (hb : ∀ (f : Addr) (cdv : Value) (A : Around) (outer : List Env) (s : Shared) (H : Hp) (E : XK), ao k (A.deeper (envOfC x (aC st) s.heap.objs.size f cdv)) -> f7 (Bx P w K mg base N x st f cdv A outer s H E) (aY st) t)
  (hr : ∀ ds Q, sd ds Q -> t { nx := fun _ => Q .aV, rt := Q } (bB N ds)) : bN P w K mg base (k + 1) x ps sd := by
 obtain ⟨f, fd, F, m, b⟩ := d.ex
 exact ⟨⟨f, fd, HF F S len (hb f) hr, m, F.kp, b⟩, ms⟩
theorem Df.Fs {k : Nat} {x : Str} {st : Stmt} {ps N : List Str} {sd : cg} {t : kI} (d : Df K mg x st ps) (S : aG N ps (aC st)) (ms : bU sd) (len : ∀ ds Q, sd ds Q -> ds.length = ps.length)
  (hb : ∀ (f : Addr) (cdv : Value) (A : Around) (outer : List Env) (s : Shared) (H : Hp) (E : XK), ao k (A.deeper (envOfC x (aC st) s.heap.objs.size f cdv)) -> se (Bx P w K mg base N x st f cdv A outer s H E) (aY st) t)
  (hr : ∀ ds Q, sd ds Q -> t { nx := fun _ _ => Q .aV, rt := fun d μ => Q (b_ μ d) } (bB N ds) []) : bN P w K mg base (k + 1) x ps sd := by
 obtain ⟨f, fd, F, m, b⟩ := d.ex
 exact ⟨⟨f, fd, Hc F S len (hb f) hr, m, F.kp, b⟩, ms⟩
end
section
variable {X : Cx} {e : Expr} {es : List Expr} {t : AD} {j k : Nat} {x : Str} {ps : List Str} {sd : cg} {p pos : Pos}
theorem aM (c : bN X.prog X.w X.K X.mg X.base j x ps sd) (hr : ao k X.A) (hj : j <= k) (hg : Gl X x) (ha : kH X (e :: es) t) (hdb : (x == ("__debug__" : Str)) = false := by decide)
  (h1 : starEach (e :: es) X.env = (false, eval e X.env) :: starEach es X.env := by rfl) (h2 : (backTo pos (starEach es X.env)).any (·.1) = false := by rfl) : PD X (.Call (.Name x p) (e :: es) [] pos) (yU sd t) := by
 obtain ⟨f, fd, F, m, kp, b⟩ := c.ex
 exact Bt F c.ms (hr.mono hj) hg m kp b ha hdb (t5 F (hr.mono hj) hg m kp b .nil tw ha.pa hdb h1 h2)
end
section
variable {X : Cx} {scope : Scope} {cl : List (Str × Addr)} {x : Str} {caps : List Nat} {cn : List Str} {tg iter elt : Expr} {ifs : List Expr} {ti : AD} {tt : TD} {te : ED} {pos : Pos}
theorem uP (S : bA X scope cl [x] caps cn) (hc : X.calm = true) (hi : PId X tg iter ti) (hg : ∀ C fp s₂ H₂, PG (ag X scope cl C ([x] ++ cn) fp s₂ H₂) tg (gI 0)) (ht : ∀ C fp s₂ H₂, qt (ag X scope cl C ([x] ++ cn) fp s₂ H₂) ifs tt)
  (he : ∀ C fp s₂ H₂, PD (ag X scope cl C ([x] ++ cn) fp s₂ H₂) elt te) (hs : ∀ x, foldedSetIterable iter X.env x = pure x := by intro _; rfl) : PD X (.ListComp elt [⟨tg, iter, ifs, 0⟩] scope pos) (nJ caps ti tt te) :=
 Bu S hc hi hg ht he (ht 0 [] X.s₀ X.H₀).mono (he 0 [] X.s₀ X.H₀).mono hs
theorem Aj {i : Nat} {y : Str} {py spos : Pos} (hN : X.N.Nodup) (hi' : X.N[i]? = some y) (hy : Loc X.env.scope y) (S : bA X scope cl [x] caps cn) (hc : X.calm = true) (hi : PId X tg iter ti)
  (hg : ∀ C fp s₂ H₂, PG (ag X scope cl C ([x] ++ cn) fp s₂ H₂) tg (gI 0)) (ht : ∀ C fp s₂ H₂, qt (ag X scope cl C ([x] ++ cn) fp s₂ H₂) ifs tt) (he : ∀ C fp s₂ H₂, PD (ag X scope cl C ([x] ++ cn) fp s₂ H₂) elt te)
  (hsw : swapsWith (.ListComp elt [⟨tg, iter, ifs, 0⟩] scope pos) (some (.Name y py)) spos.line X.env = pure true := by rfl) (hf : X.fn y = true \/ X.env.scope.names.lookup y = some .local := by first | exact .inl rfl | exact .inr rfl | assumption)
  (hs : ∀ x, foldedSetIterable iter X.env x = pure x := by intro _; rfl) : sk X (.Assign [.Name y py] (.ListComp elt [⟨tg, iter, ifs, 0⟩] scope pos) spos) (Ac i (nJ caps ti tt te)) :=
 DD hN hi' hy S hc hi hg ht he (ht 0 [] X.s₀ X.H₀).mono (he 0 [] X.s₀ X.H₀).mono hsw hf hs
theorem isSome_of {cl : List (Str × Addr)} {y : Str} : y ∈ cl.map (·.1) -> (cl.lookup y).isSome = true := by
 induction cl with
 | nil => intro h; cases h
 | cons p r ih =>
  intro h
  rw [List.lookup_cons]
  cases q : y == p.1 with
  | true => rfl
  | false =>
   rw [List.map_cons, List.mem_cons] at h
   rcases h with h | h
   ·rw [h] at q; simp at q
   ·exact ih h
theorem ny {cl : List (Str × Addr)} (ks : List Str) (hk : cl.map (·.1) = ks) (h : ∀ y ∈ scope.names, y.2 = .free -> y.1 ∈ ks) : ∀ y ∈ scope.names, y.2 = .free -> (cl.lookup y.1).isSome = true := fun y hy e => isSome_of (by rw [hk]; exact h y hy e)
theorem jh {f : Str × Addr -> Prop} : ∀ p ∈ ([] : List (Str × Addr)), f p := fun p h => nomatch h
theorem cU {f : Str × Addr -> Prop} {a : Str × Addr} {r : List (Str × Addr)} (h : f a) (hr : ∀ p ∈ r, f p) : ∀ p ∈ a :: r, f p := List.forall_mem_cons.mpr ⟨h, hr⟩
end
section
variable {X : Cx} {e : Expr} {te : ED} {p p2 pos : Pos}
theorem qF (hg : Gl X "isinstance") (hm : X.mg "isinstance" = none) (hg2 : Gl X "bool") (hm2 : X.mg "bool" = none) (he : PD X e te) (hs : starEach [e, .Name "bool" p2] X.env = (false, eval e X.env) :: starEach [.Name "bool" p2] X.env := by rfl) : PD X (.Call (.Name "isinstance" p) [e, .Name "bool" p2] [] pos) (uD "bool" te) := (q_ he hg hm hg2 hm2 qw (by decide) (by decide) hs).rQ he.mono (by decide)
theorem zX (hg : Gl X "isinstance") (hm : X.mg "isinstance" = none) (hg2 : Gl X "int") (hm2 : X.mg "int" = none) (he : PD X e te) (hs : starEach [e, .Name "int" p2] X.env = (false, eval e X.env) :: starEach [.Name "int" p2] X.env := by rfl) : PD X (.Call (.Name "isinstance" p) [e, .Name "int" p2] [] pos) (uD "int" te) := (q_ he hg hm hg2 hm2 mW (by decide) (by decide) hs).rQ he.mono (by decide)
theorem um (hg : Gl X "isinstance") (hm : X.mg "isinstance" = none) (hg2 : Gl X "tuple") (hm2 : X.mg "tuple" = none) (he : PD X e te) (hs : starEach [e, .Name "tuple" p2] X.env = (false, eval e X.env) :: starEach [.Name "tuple" p2] X.env := by rfl) : PD X (.Call (.Name "isinstance" p) [e, .Name "tuple" p2] [] pos) (uD "tuple" te) := (q_ he hg hm hg2 hm2 boot_tuple (by decide) (by decide) hs).rQ he.mono (by decide)
end
structure fM (P : Program) (w : World) (K : PySem.W.Frag) (mg : Str -> Option Value) (base : Heap) (j : Nat) (C : Addr) (m : Str) (sd : cg) (dd : List D) : Prop where
 ex : ∃ f fd ps dvs ds, pH K C /\ Meth K C m f /\ bR P w K mg base km j f fd ps (qg K sd) /\ Binds K fd ps ds /\ Vals dvs ds /\ ∀ H, ar K H dvs dd
 ms : bU sd
theorem fM.mh {X : Cx} {j k : Nat} {C : Addr} {m : Str} {sd : cg} {dd : List D} (c : fM X.prog X.w X.K X.mg X.base j C m sd dd) (hr : ao k X.A) (hj : j <= k) : MH X C m sd dd :=
 let ⟨f, fd, ps, dvs, ds, h1, h2, h3, h4, h5, h6⟩ := c.ex
 ⟨j, f, fd, ps, dvs, ds, h1, h2, h3, c.ms, hr.mono hj, h4, h5, h6⟩
theorem fM.up {P : Program} {w : World} {K : PySem.W.Frag} {mg : Str -> Option Value} {base : Heap} {i j : Nat} {C : Addr} {m : Str} {sd : cg} {dd : List D} (c : fM P w K mg base i C m sd dd) (h : i <= j) : fM P w K mg base j C m sd dd :=
 ⟨let ⟨f, fd, ps, dvs, ds, h1, h2, h3, r⟩ := c.ex; ⟨f, fd, ps, dvs, ds, h1, h2, h3.mono h, r⟩, c.ms⟩
structure Dm (K : PySem.W.Frag) (C : Addr) (m qual : Str) (st : Stmt) (ps : List Str) : Prop where
 ex : ∃ f fd, qq K m qual st f fd /\ Meth K C m f /\ pH K C /\ Binds K fd ps []
section
variable {P : Program} {w : World} {K : PySem.W.Frag} {mg : Str -> Option Value} {base : Heap}
theorem Dm.gp {k : Nat} {C : Addr} {m qual : Str} {st : Stmt} {ps N : List Str} {sd : cg} {t : eB} (d : Dm K C m qual st ps) (S : aG N ps (aC st)) (ms : bU sd) (len : ∀ ds Q, sd ds Q -> ds.length = ps.length)
  (hb : ∀ (f : Addr) (cdv : Value) (A : Around) (outer : List Env) (s : Shared) (H : Hp) (E : XK), ao k (A.deeper (envOfC qual (aC st) s.heap.objs.size f cdv)) -> f7 (Bx P w K mg base N qual st f cdv A outer s H E) (aY st) t)
  (hr : ∀ ds Q, sd ds Q -> t { nx := fun _ => Q .aV, rt := Q } (bB N ds)) : fM P w K mg base (k + 1) C m sd [] := by
 obtain ⟨f, fd, F, M, c, b⟩ := d.ex
 exact ⟨⟨f, fd, ps, [], [], c, M, HF F S len (hb f) hr, b, .nil, fun _ => .nil⟩, ms⟩
structure l9 (P : Program) (w : World) (K : PySem.W.Frag) (mg : Str -> Option Value) (base : Heap) (j : Nat) (x : Str) (C : Addr) (sd : A5) (dd : List D) : Prop where
 ex : ∃ f fd ps dvs ds, Mk K C f /\ bR P w K mg base km j f fd ps (Gf K C sd) /\ mg x = some (.ref C) /\ Binds K fd ps ds /\ Vals dvs ds /\ ∀ H, ar K H dvs dd
 ms : qr sd
structure Di (K : PySem.W.Frag) (mg : Str -> Option Value) (x : Str) (C : Addr) (qual : Str) (st : Stmt) (ps : List Str) (dd : List D) : Prop where
 ex : ∃ f fd dvs ds, lz K "__init__" qual st f fd /\ Mk K C f /\ mg x = some (.ref C) /\ Binds K fd ps ds /\ Vals dvs ds /\ ∀ H, ar K H dvs dd
theorem Di.z0 {k : Nat} {x : Str} {C : Addr} {qual : Str} {st : Stmt} {ps N : List Str} {dd : List D} {sd : A5} {t : Addr -> uG} (d : Di K mg x C qual st ps dd) (S : aG N ps (aC st)) (ms : qr sd) (len : ∀ ds Q, sd ds Q -> ds.length + 1 = ps.length)
  (hb : ∀ (f : Addr) (cdv : Value) (A : Around) (outer : List Env) (s : Shared) (H : Hp) (E : XK), ao k (A.deeper (envOfC qual (aC st) s.heap.objs.size f cdv)) -> Dh (Bx P w K mg base N qual st f cdv A outer s H E) C (aY st) t)
  (hr : ∀ a ds Q, sd ds Q -> t a { nx := fun _ => Q, rt := Q, fin := Q } (bB N (.adr a :: ds)) []) : l9 P w K mg base (k + 1) x C sd dd := by
 obtain ⟨f, fd, dvs, ds, F, M, m, b, v, h⟩ := d.ex
 exact ⟨⟨f, fd, ps, dvs, ds, M, Hb F S len (hb f) hr, m, b, v, h⟩, ms⟩
end
section
variable {X : Cx} {ok : Addr -> Prop} {o e : Expr} {es : List Expr} {m x : Str} {sd : Addr -> cg} {dd : List D} {ta : ED} {t : AD} {pos apos p : Pos} {j k : Nat} {C : Addr} {si : A5}
theorem ip {pl : Sem Bool} (hM : ∀ C, ok C -> fM X.prog X.w X.K X.mg X.base j C m (sd C) dd) (hr : ao k X.A) (hj : j <= k) (he : PD X o ta)
  (ht : eval (.Call (.Attribute o m apos) [] [] pos) X.env = (do
   let ov <- eval o X.env
   standAt apos.atName
   let (f, first) <- holding [ov] (getMethod ov m pl)
   callWith pos f first (backTo pos (starEach [] X.env)) (backToKw pos (keywordEach [] X.env))) := by rfl) :
  PD X (.Call (.Attribute o m apos) [] [] pos) (nK ok m sd dd ta f9) := zC (fun C h => (hM C h).mh hr hj) he ht
theorem ng (c : l9 X.prog X.w X.K X.mg X.base j x C si dd) (hr : ao k X.A) (hj : j + 1 <= k) (hg : Gl X x) (ha : kH X (e :: es) t) (hdb : (x == ("__debug__" : Str)) = false := by decide)
  (h1 : starEach (e :: es) X.env = (false, eval e X.env) :: starEach es X.env := by rfl) (h2 : (backTo pos (starEach es X.env)).any (·.1) = false := by rfl) : PD X (.Call (.Name x p) (e :: es) [] pos) (BX C si dd t) := by
 obtain ⟨f, fd, ps, dvs, ds, M, F, m, b, v, h⟩ := c.ex
 exact By M F c.ms (hr.mono hj) hg m b v h ha hdb h1 h2
end
section
variable {X : Cx} {e : Expr} {te : ED} {p p2 pos pos' : Pos} {f x : Str} {C : Addr}
theorem bx (K : PySem.W.Frag) (hK : X.K = K) (he : PD X e te) (hb : attributeBase e f X.env (eval e X.env) = eval e X.env) : PD X (.Attribute e f pos) (A1 K te f) := by subst hK; exact D3 he hb
theorem bX (K : PySem.W.Frag) (hK : X.K = K) (hN : X.N[0]? = some x) (hv : ye X.env.scope x) (he : PD X e te) (hs : swapsWith e (some (.Attribute (.Name x p) f pos')) pos.line X.env = pure false := by rfl) (hd : (x == ("__debug__" : Str)) = false := by decide)
  (hcd : (x == ("__classdict__" : Str)) = false := by decide) : FZ X C (.Assign [.Attribute (.Name x p) f pos'] e pos) (EO K C f te) := by subst hK; exact ER hN hv he hs hd hcd
end
section
variable {X : Cx} {o e : Expr} {es : List Expr} {to te : ED} {t : AD} {p p1 p2 tp pos apos cpos : Pos}
def Al (z : D) : cg := fun ds Q => ∃ x y, z = .str x /\ ds = [.str y] /\ (y.length == 0) = false /\ x.length + 2 <= sizeLine /\ Q (.lst ((Txt.split x y).map D.str))
theorem lA {K : PySem.W.Frag} {H : Hp} : ∀ (ws : List Str), ar K H (ws.map V.str) (ws.map D.str)
 | [] => .nil
 | w :: ws => .cons (.str w) (lA ws)
def isStr : D -> Prop := fun d => ∃ x, d = .str x
def Gw (sd : D -> cg) (to : ED) (t : AD) : ED := fun δ Q => to δ fun z => isStr z /\ t δ fun ds => sd z ds Q
theorem zE (ho : PD X o to) (ha : kH X (e :: es) t) (hbase : attributeBase o "split" X.env (eval o X.env) = eval o X.env := by rfl)
  (hfew : ((backTo cpos (starEach (e :: es) X.env)).all (fun x => !x.1) && (backToKw cpos (keywordEach [] X.env)).all (fun x => x.1.isSome) && decide ((e :: es).length + ([] : List Keyword).length + (if ([] : List Keyword).isEmpty then 0 else 1) < 30)) = true := by rfl)
  (hline : (apos.endLine == cpos.line) = true := by rfl) (hs : starEach (e :: es) X.env = (false, eval e X.env) :: starEach es X.env := by rfl) (hplain : (backTo cpos (starEach es X.env)).any (·.1) = false := by rfl) :
  PD X (.Call (.Attribute o "split" apos) (e :: es) [] cpos) (Gw Al to t) := by
 refine ⟨(BK PySem.F.plainAttrs_str PySem.F.slot_str_split PySem.F.type_str_split xM ho.pe ha.pa hbase hfew hline hs hplain).imp fun σ H Q ⟨δ, r, h⟩ => ⟨δ, r, ho.mono _ _ _ (fun z ⟨⟨x, ez⟩, q⟩ v H1 s1 dv => ?_) h⟩,
  fun δ P P' g h => ho.mono _ _ _ (fun z ⟨i, q⟩ => ⟨i, ha.mono _ _ _ (fun ds ⟨x, y, e1, e2, c1, c2, k⟩ => ⟨x, y, e1, e2, c1, c2, g _ k⟩) q⟩) h⟩
 subst ez
 cases dv
 refine ⟨rfl, δ, r.same s1, ha.mono _ _ _ (fun ds ⟨x', y, e1, e2, c1, c2, k⟩ vs H2 s2 dvs => ?_) q⟩
 cases e1
 subst e2
 cases dvs with
 | cons a b =>
  cases a
  cases b
  exact ⟨_, y, rfl, rfl, c1, c2, fun p hp => k _ _ ((s1.trans s2).trans (aS hp)) (.lst (c_.of aI) (lA _))⟩
end
end DC
namespace L2
open PySem PySem.Spec PyProof.Rows
section
variable {X : Cx}
end
end L2
namespace DC
open PySem PySem.Spec PyProof.Rows L2
section
variable {X : Cx} {e : Expr} {es : List Expr} {t : AD} {p pos : Pos}
end
end DC
namespace L2
open PySem PySem.Spec PyProof.Rows
section
variable {prog : Program} {w : World} {A : Around} {E : Value -> Shared -> Prop} {s : Shared}
theorem oV {it t : Addr} {i : Nat} {items : Array Value} {x : Value} {Q : Value -> Shared -> Prop} (hit : s.heap.IsTupleIter it t i) (ht : s.heap.IsTuple t items) (hx : items[i]? = some x)
  (hQ : ∀ h', h'.IsTupleIter it t (i + 1) -> Heap.SameBut it s.heap h' -> Q x { s with heap := h' }) : wpAny (model prog w) A (Builtin.SmallTypes.nextOf (.ref it)) Q E s := by
 obtain ⟨o, ho, hc, hd⟩ := id hit
 obtain ⟨ol, hol, _, nl, hdl⟩ := ht
 unfold Builtin.SmallTypes.nextOf
 refine wpAny_bind (wpAny_callSpecial?_slot (name := Str.ofString "__next__") hit.typeIs F.slot_tuple_iterator_next (wpAny_call_entry F.slot_tuple_iterator_next hit.typeIs F.entry_tuple_iterator_next ?_ (F.args_tuple_iterator_next_1 _)))
 show wpAny _ _ (field (.ref it) 0 >>= _) _ _ s
 refine wpAny_bind (wpAny_field ho hd (x := .ref t) rfl ?_)
 show wpAny _ _ (if (Value.ref t == Value.none) = true then _ else _) _ _ s
 rw [if_neg (show ¬ ((Value.ref t == Value.none) = true) from Bool.false_ne_true)]
 show wpAny _ _ (field (.ref it) 1 >>= _) _ _ s
 refine wpAny_bind (wpAny_field ho hd (x := .int i 0) rfl ?_)
 show wpAny _ _ (seqItems? (.ref t) >>= _) _ _ s
 refine wpAny_bind (wpAny_seqItems hol hdl ?_)
 simp only [Int.toNat_natCast, hx]
 refine wpAny_bind (wpAny_setField ho hd (by simp) (wpAny_pure ⟨x, rfl, wpAny_pure (hQ _ ?_ (Heap.SameBut.update ..))⟩))
 exact ⟨_, Heap.get?_update_self _ ho (Obj.isFreed_of_fields (Obj.data_mapFields hd _)), (Obj.cls_mapFields ..).trans hc, by rw [Obj.data_mapFields hd]; simp [rawInt]⟩
theorem j8 {it t : Addr} {i : Nat} {items : Array Value} {Q : Value -> Shared -> Prop} (hh : A.handled = none) (hit : s.heap.IsTupleIter it t i) (ht : s.heap.IsTuple t items) (hx : items[i]? = none)
  (hE : ∀ h' e, Heap.ExtBut it s.heap h' -> (∃ o, h'.get? e = some o /\ o.cls = .type "StopIteration") -> E (.ref e) { s with heap := h' }) : wpAny (model prog w) A (Builtin.SmallTypes.nextOf (.ref it)) Q E s := by
 obtain ⟨o, ho, hc, hd⟩ := id hit
 obtain ⟨ol, hol, _, nl, hdl⟩ := ht
 unfold Builtin.SmallTypes.nextOf
 refine wpAny_bind (wpAny_callSpecial?_slot (name := Str.ofString "__next__") hit.typeIs F.slot_tuple_iterator_next (wpAny_call_entry F.slot_tuple_iterator_next hit.typeIs F.entry_tuple_iterator_next ?_ (F.args_tuple_iterator_next_1 _)))
 show wpAny _ _ (field (.ref it) 0 >>= _) _ _ s
 refine wpAny_bind (wpAny_field ho hd (x := .ref t) rfl ?_)
 show wpAny _ _ (if (Value.ref t == Value.none) = true then _ else _) _ _ s
 rw [if_neg (show ¬ ((Value.ref t == Value.none) = true) from Bool.false_ne_true)]
 show wpAny _ _ (field (.ref it) 1 >>= _) _ _ s
 refine wpAny_bind (wpAny_field ho hd (x := .int i 0) rfl ?_)
 show wpAny _ _ (seqItems? (.ref t) >>= _) _ _ s
 refine wpAny_bind (wpAny_seqItems hol hdl ?_)
 simp only [Int.toNat_natCast, hx]
 refine wpAny_bind (wpAny_rule (wpAny_bind (wpAny_setField ho hd (by simp) ?_)))
 show wpAny _ _ (newExc (.type "StopIteration") [] >>= _) _ _ _
 refine wpAny_bind ?_
 simp only [newExc, newTuple]
 refine wpAny_bind (wpAny_newObj_type ?_ (by size_fits))
 refine wpAny_bind (m := firstArgMember _ _) (wpAny_of_eq (a := Value.none) (by first | rfl | (simp only [firstArgMember]; rfl)) ?_)
 refine wpAny_newObj_type ?_ (by size_fits)
 simp only [raiseNew]
 refine wpAny_bind (wpAny_handled ?_)
 first | rw [show A.in1.handled = none from hh] | rw [hh]
 refine wpAny_bind (wpAny_pure (wpAny_throw ?_))
 exact hE _ _ (((Heap.SameBut.update ..).extBut.push _).push _) ⟨_, Heap.get?_push_size _ rfl, rfl⟩
end
section
variable {prog : Program} {w : World} {A : Around}
end
section
variable {prog : Program} {w : World} {A : Around} {E : Value -> Shared -> Prop} {s : Shared} {z TI TO i1 i2 l1 l2 : Addr} {k1 k2 : Nat} {xs ys : Array Value} {x y a b : Value} {S1 S2 : Nat -> Heap -> Prop}
end
section
variable {prog : Program} {w : World} {A : Around} {E : Value -> Shared -> Prop} {s : Shared} {z TI TO i1 i2 l1 l2 : Addr} {k1 k2 : Nat} {xs ys : Array Value} {x y a b : Value} {S1 S2 : Nat -> Heap -> Prop}
end
section
variable {X : Cx} {pins : List (Addr × Obj)} {σ : St} {H : Hp} {s : Shared} {a : Addr} {xs ys : List V}
theorem Inv.uC {h' : Heap} {t' : Nat} {ch : List Addr} {T : Addr} {u1 u2 : Value} {x y : V} (I : Inv X pins σ H s) (hk : ∀ b o, b ∉ ch -> s.heap.get? b = some o -> h'.get? b = some o) (hf : ∀ b ∈ ch, ei X pins H b)
  (hT : s.heap.objs.size <= T) (hp : IsPair h' T u1 u2) (r1 : RelV x u1) (r2 : RelV y u2) : Inv X pins σ (upd H T (.tup [x, y])) { s with heap := h', toks := t' } := by
 have hn : H T = none := I.ah.fresh hT
 have nT : ∀ {b : Addr} {o : Obj}, s.heap.get? b = some o -> b ≠ T := fun e => Nat.ne_of_lt (Nat.lt_of_lt_of_le (Heap.lt_size e) hT)
 have nch : ∀ {b : Addr} {o : HO}, H b = some o -> b ∉ ch := fun e hb => by rw [(hf _ hb).1] at e; cases e
 refine I.mX (ch := ch) rfl ⟨fun b o e n hb hc => hk b o hc e, fun b o e n hb hc => ⟨o.slots, hk b o hc e⟩, fun b o e n hc => by rw [aE (nT e)]; exact n, fun b o e hc => ⟨o, hk b o hc e⟩,
  fun b zs e => by rw [aE (aJ e hn)]; exact e, fun b o u e => by rw [aE (aJ e hn)]; exact e, fun b ps e => ⟨#[], by rw [aE (aJ e hn), e]; simp⟩⟩ (fun b o e => ?_) I.bare fun b hb => ?_
 ·by_cases hb : b = T
  ·rw [hb, aI] at e
   cases e
   rw [hb]
   exact ⟨(show 2 <= sizeLine by decide), [u1, u2], .cons r1 (.cons r2 .nil), _, hp, rfl, _, rfl⟩
  ·rw [aE hb] at e
   refine (I.ah b o e).iW (fun c u hc q => hk c u ?_ q) (fun c hc => by rw [aE (aJ hc hn)]; exact hc) (fun c zs hc => by rw [aE (aJ hc hn)]; exact hc)
   rcases hc with rfl | hc
   ·exact nch e
   ·exact nch hc
 ·obtain ⟨_, f2, f3, f4, f5, f6⟩ := hf b hb
  exact ⟨f4, f2, f5, f6⟩
theorem Inv.uB {h' : Heap} {t' : Nat} {ch : List Addr} (I : Inv X pins σ H s) (hk : ∀ b o, b ∉ ch -> s.heap.get? b = some o -> h'.get? b = some o) (hf : ∀ b ∈ ch, ei X pins H b) : Inv X pins σ H { s with heap := h', toks := t' } := by
 have nch : ∀ {b : Addr} {o : HO}, H b = some o -> b ∉ ch := fun e hb => by rw [(hf _ hb).1] at e; cases e
 refine I.mX (ch := ch) rfl ⟨fun b o e n hb hc => hk b o hc e, fun b o e n hb hc => ⟨o.slots, hk b o hc e⟩, fun b o e n hc => n, fun b o e hc => ⟨o, hk b o hc e⟩, fun b zs e => e, fun b o u e => e, fun b ps e => ⟨#[], by rw [e]; simp⟩⟩ (fun b o e => ?_) I.bare fun b hb => ?_
 ·refine (I.ah b o e).iW (fun c u hc q => hk c u ?_ q) (fun c hc => hc) (fun c zs hc => hc)
  rcases hc with rfl | hc
  ·exact nch e
  ·exact nch hc
 ·obtain ⟨_, f2, f3, f4, f5, f6⟩ := hf b hb
  exact ⟨f4, f2, f5, f6⟩
end
section
variable {X : Cx} {e1 e2 : Expr} {ta : TA} {p pos tp : Pos} {elts : List Expr} {c : Nat}
end
end L2
namespace DC
open PySem PySem.Spec PyProof.Rows L2
section
variable {X : Cx} {e1 e2 : Expr} {ta : AD} {p pos tp : Pos} {elts : List Expr} {c : Nat}
end
theorem CQ {r : L2.St} {x y : Option V} : Le (none :: none :: r) (x :: y :: r) := ⟨rfl, fun i v h => by
 cases i with
 | zero => cases h
 | succ i =>
  cases i with
  | zero => cases h
  | succ i => exact h⟩
theorem qa {K : PySem.W.Frag} {H : Hp} {σ : L2.St} {δ : SD} (r : aw K H σ δ) {x : V} {d : D} (dv : Dv K H x d) : aw K H (some x :: σ) (some d :: δ) := by
 refine ⟨by rw [List.length_cons, List.length_cons, r.len], fun i e h => ?_⟩
 cases i with
 | zero => simp at h; subst h; exact ⟨x, rfl, dv⟩
 | succ i => simpa using r.get i e (by simpa using h)
theorem vp {K : PySem.W.Frag} {H : Hp} {σ : L2.St} {δ : SD} (r : aw K H σ δ) (caps : List Nat) : aw K H (caps.map fun j => (σ[j]?).getD none) (kL caps δ) := by
 have q := su r (Dv.aV) caps
 refine ⟨by simpa using q.len, fun i d h => ?_⟩
 simpa using q.get (i + 1) d (by simpa using h)
section
variable {X : Cx} {scope : Scope} {cl : List (Str × Addr)} {x y : Str} {cn : List Str} {caps : List Nat} {elt tg iter : Expr} {ifs : List Expr} {ti : AD} {tt : TD} {te : ED} {pos px py tp : Pos} {c : Nat}
end
section
variable {K : PySem.W.Frag} {H H' : Hp} {μ μ' : Mu} {L L' : List Addr}
theorem eR.join (g : eR K H μ L) (g' : eR K H' μ' L') (z : ∀ b ∈ L, H' b = none) (s : aK (hidL H L) (hidL H' L')) : eR K (showL H' H L) (μ' ++ μ) (L' ++ L) /\ hidL (showL H' H L) (L' ++ L) = hidL H' L' := by
 have nL : ∀ {b : Addr} {o : HO}, H' b = some o -> b ∉ L := fun e hb => by rw [z _ hb] at e; cases e
 have e : hidL (showL H' H L) (L' ++ L) = hidL H' L' := by
  funext b
  by_cases h1 : b ∈ L'
  ·rw [hidL_in (List.mem_append_left _ h1), hidL_in h1]
  ·by_cases h2 : b ∈ L
   ·rw [hidL_in (List.mem_append_right _ h2), hidL_out h1, z b h2]
   ·rw [hidL_out (fun q => (List.mem_append.mp q).elim h1 h2), hidL_out h1, showL_out h2]
 refine ⟨⟨fun p hp => ?_, ?_, fun b hb => ?_, fun b hb => ?_⟩, e⟩
 ·rcases List.mem_append.mp hp with hp | hp
  ·obtain ⟨h1, h2⟩ := g'.at_ p hp
   refine ⟨List.mem_append_left _ h1, ?_⟩
   obtain ⟨b, m⟩ := p
   cases m with
   | lst ds => obtain ⟨ws, h, d⟩ := h2; exact ⟨ws, by rw [showL_out (nL h)]; exact h, by rw [e]; exact d⟩
   | ins C gs => obtain ⟨dx, fs, h, h2, h3, d⟩ := h2; exact ⟨dx, fs, by rw [showL_out (nL h)]; exact h, by rw [showL_out (nL h2)]; exact h2, List.mem_append_left _ h3, by rw [e]; exact d⟩
   | dK kvs => obtain ⟨ws, h, d⟩ := h2; exact ⟨ws, by rw [showL_out (nL h)]; exact h, by rw [e]; exact d⟩
  ·obtain ⟨h1, h2⟩ := g.at_ p hp
   refine ⟨List.mem_append_right _ h1, ?_⟩
   obtain ⟨b, m⟩ := p
   cases m with
   | lst ds => obtain ⟨ws, h, d⟩ := h2; exact ⟨ws, by rw [showL_in h1]; exact h, by rw [e]; exact ar.same s d⟩
   | ins C gs => obtain ⟨dx, fs, h, h2, h3, d⟩ := h2; exact ⟨dx, fs, by rw [showL_in h1]; exact h, by rw [showL_in h3]; exact h2, List.mem_append_right _ h3, by rw [e]; exact dH.same s d⟩
   | dK kvs => obtain ⟨ws, h, d⟩ := h2; exact ⟨ws, by rw [showL_in h1]; exact h, by rw [e]; exact dZ.same s d⟩
 ·rw [List.map_append, List.nodup_append]
  refine ⟨g'.BH, g.BH, fun a ha b hb hab => ?_⟩
  obtain ⟨p, hp, rfl⟩ := List.mem_map.mp ha
  obtain ⟨q, hq, rfl⟩ := List.mem_map.mp hb
  obtain ⟨o, ho⟩ := (g'.cG _ (g'.at_ p hp).1).there
  rw [show p.1 = q.1 from hab, z _ (g.at_ q hq).1] at ho
  cases ho
 ·rcases List.mem_append.mp hb with hb | hb
  ·have w := g'.cG b hb
   cases w with
   | lst xs h => exact .lst xs (by rw [showL_out (nL h)]; exact h)
   | dK xs h => exact .dK xs (by rw [showL_out (nL h)]; exact h)
   | ins C dx fs h hd => exact .ins C dx fs (by rw [showL_out (nL h)]; exact h) (List.mem_append_left _ hd)
   | own C c fs h hc hi => exact .own C c fs (by rw [showL_out (nL h)]; exact h) (List.mem_append_left _ hc) (by rw [showL_out (nL hi)]; exact hi)
  ·have w := g.cG b hb
   cases w with
   | lst xs h => exact .lst xs (by rw [showL_in hb]; exact h)
   | dK xs h => exact .dK xs (by rw [showL_in hb]; exact h)
   | ins C dx fs h hd => exact .ins C dx fs (by rw [showL_in hb]; exact h) (List.mem_append_right _ hd)
   | own C c fs h hc hi => exact .own C c fs (by rw [showL_in hb]; exact h) (List.mem_append_right _ hc) (by rw [showL_in hc]; exact hi)
 ·rcases List.mem_append.mp hb with hb | hb
  ·rcases g'.Br b hb with ⟨m, h⟩ | ⟨c, h⟩
   ·exact .inl ⟨m, List.mem_append_left _ h⟩
   ·exact .inr ⟨c, by rw [showL_out (nL h)]; exact h⟩
  ·rcases g.Br b hb with ⟨m, h⟩ | ⟨c, h⟩
   ·exact .inl ⟨m, List.mem_append_right _ h⟩
   ·exact .inr ⟨c, by rw [showL_in hb]; exact h⟩
end
abbrev EF := SD -> (D -> Mu -> Prop) -> Prop
def kF (K : PySem.W.Frag) (H : Hp) (Q : VK) : D -> Mu -> Prop := fun d μ => ∀ v H' L', aK H (hidL H' L') -> eR K H' μ L' -> Dv K (hidL H' L') v d -> Q v H'
structure PF (X : Cx) (e : Expr) (t : EF) : Prop where
 pe : PE X e (fun σ H Q => ∃ δ, aw X.K H σ δ /\ t δ (kF X.K H Q))
 mono : ∀ δ (P P' : D -> Mu -> Prop), (∀ d μ, P d μ -> P' d μ) -> t δ P -> t δ P'
section
variable {P : Program} {w : World} {K : PySem.W.Frag} {mg : Str -> Option Value} {base : Heap}
end
section
variable {X : Cx} {o e : Expr} {es : List Expr} {ta : ED} {t : AD} {tf : EF} {j k : Nat} {x m : Str} {ps : List Str} {sd : HS} {sm : Addr -> HS} {ok : Addr -> Prop} {p pos pos' apos : Pos} {i : Nat}
end
inductive jd : List (Str × V) -> List DictEntry -> Prop
 | nil : jd [] []
 | cons {x : Str} {t : Tok} {v : V} {e : DictEntry} {kvs : List (Str × V)} {es : List DictEntry} : e.key = .str x t -> RelV v e.val -> jd kvs es -> jd ((x, v) :: kvs) (e :: es)
structure KTab (w : World) (K : PySem.W.Frag) (a : Addr) (kvs : List (Str × V)) : Prop where
 ex : ∃ (es : Array DictEntry) (n : Nat), K.lookup a = some ⟨.type "dict", none, .dict es n, #[]⟩ /\ PySem.W.KeysLit w.params es.toList /\ jd kvs es.toList
 sys : (a == sysModules) = false
theorem jd.has {x : Str} : ∀ {kvs : List (Str × V)} {es : List DictEntry}, jd kvs es -> ((es.find? fun d => Value.isStrOf x d.key).map (·.val)).isSome = kvs.any fun p => p.1 == x
 | _, _, .nil => rfl
 | _, _, .cons (x := y) (e := e) hk hv r => by
  have ih := jd.has (x := x) r
  rw [List.find?_cons, hk, List.any_cons]
  show (Option.map (·.val) (match (y == x) with | true => some e | false => _)).isSome = (y == x || _)
  cases h : (y == x) with
  | true => rfl
  | false => exact ih
theorem jd.get {x : Str} {v : V} : ∀ {kvs : List (Str × V)} {es : List DictEntry}, jd kvs es -> kvs.lookup x = some v -> ∃ u, (es.find? fun d => Value.isStrOf x d.key).map (·.val) = some u /\ RelV v u
 | _, _, .nil, h => by cases h
 | _, _, .cons (x := y) (e := e) hk hv r, h => by
  rw [List.lookup_cons] at h
  rw [List.find?_cons, hk]
  show ∃ u, Option.map (·.val) (match (y == x) with | true => some e | false => _) = some u /\ RelV v u
  rw [show (y == x) = (x == y) from Bool.beq_comm]
  cases q : (x == y) with
  | true => rw [q] at h; cases h; exact ⟨_, rfl, hv⟩
  | false => rw [q] at h; exact jd.get r h
section
variable {X : Cx} {a : Addr} {kvs : List (Str × V)}
theorem Cm (T : KTab X.w X.K a kvs) : eQ X (compareOp .In) (fun x y H Q => ∃ z, x = .str z /\ y = .ref a /\ Q (.bl (kvs.any fun p => p.1 == z)) H) := by
 intro pins s σ H x y v u Q I rx ry h
 obtain ⟨z, rfl, rfl, q⟩ := h
 obtain ⟨t, rfl⟩ := (show ∃ t, v = Value.str z t from rx)
 cases (show u = Value.ref a from ry)
 obtain ⟨es, n, hl, hk, he⟩ := T.ex
 refine wpAny_in_of (strKind_is X.prog X.w z t) T.sys (PySem.W.mapOf_K (prog := X.prog) I.iQ hl hk) ?_
 have e : (findBy Value.isStrOf es z).isSome = kvs.any fun p => p.1 == z := by
  unfold findBy
  obtain ⟨l⟩ := es
  rw [List.find?_toArray]
  exact he.has
 rw [e]
 exact ⟨.bl _, H, I.tok _, rfl, q⟩
theorem uz (T : KTab X.w X.K a kvs) : eQ X (compareOp .NotIn) (fun x y H Q => ∃ z, x = .str z /\ y = .ref a /\ Q (.bl (!kvs.any fun p => p.1 == z)) H) := by
 intro pins s σ H x y v u Q I rx ry h
 obtain ⟨z, rfl, rfl, q⟩ := h
 obtain ⟨t, rfl⟩ := (show ∃ t, v = Value.str z t from rx)
 cases (show u = Value.ref a from ry)
 obtain ⟨es, n, hl, hk, he⟩ := T.ex
 refine wpAny_notIn_of (strKind_is X.prog X.w z t) T.sys (PySem.W.mapOf_K (prog := X.prog) I.iQ hl hk) ?_
 have e : (findBy Value.isStrOf es z).isSome = kvs.any fun p => p.1 == z := by
  unfold findBy
  obtain ⟨l⟩ := es
  rw [List.find?_toArray]
  exact he.has
 rw [e]
 exact ⟨.bl _, H, I.tok _, rfl, q⟩
theorem zc (T : KTab X.w X.K a kvs) : yb X (fun x y H Q => ∃ z r, x = .ref a /\ y = .str z /\ kvs.lookup z = some r /\ Q r H) := by
 intro value slice pins s σ H x y v u Q I rx ry h hs
 obtain ⟨z, r, rfl, rfl, hr, q⟩ := h
 obtain ⟨t, rfl⟩ := (show ∃ t, u = Value.str z t from ry)
 cases (show v = Value.ref a from rx)
 obtain ⟨es, n, hl, hk, he⟩ := T.ex
 have hm := PySem.W.mapOf_K (prog := X.prog) (w := X.w) I.iQ hl hk
 obtain ⟨b, hb, rb⟩ := he.get hr
 have e : findBy Value.isStrOf es z = some b := by
  unfold findBy
  obtain ⟨l⟩ := es
  rw [List.find?_toArray]
  exact hb
 exact tail_any hm.typeIs slot_dict_getitem.lookup (wpAny_getItem_of (strKind_is X.prog X.w z t) hm e ⟨r, H, I.tok _, rb, q⟩) hs
end
inductive Tb (K : PySem.W.Frag) : List (Str × V) -> List (Str × D) -> Prop
 | nil : Tb K [] []
 | cons {x : Str} {v : V} {d : D} {kvs : List (Str × V)} {tab : List (Str × D)} : (∀ H, Dv K H v d) -> Tb K kvs tab -> Tb K ((x, v) :: kvs) ((x, d) :: tab)
structure yj (w : World) (K : PySem.W.Frag) (mg : Str -> Option Value) (x : Str) (a : Addr) (tab : List (Str × D)) : Prop where
 at_ : mg x = some (.ref a)
 ex : ∃ kvs, KTab w K a kvs /\ Tb K kvs tab
theorem Tb.any {K : PySem.W.Frag} {z : Str} : ∀ {kvs : List (Str × V)} {tab : List (Str × D)}, Tb K kvs tab -> (kvs.any fun p => p.1 == z) = tab.any fun p => p.1 == z
 | _, _, .nil => rfl
 | _, _, .cons h r => by rw [List.any_cons, List.any_cons, Tb.any r]
theorem Tb.look {K : PySem.W.Frag} {z : Str} {d : D} : ∀ {kvs : List (Str × V)} {tab : List (Str × D)}, Tb K kvs tab -> tab.lookup z = some d -> ∃ v, kvs.lookup z = some v /\ ∀ H, Dv K H v d
 | _, _, .nil, h => by cases h
 | _, _, .cons (x := x) h r, e => by
  rw [List.lookup_cons] at e ⊢
  cases q : z == x with
  | true => rw [q] at e; cases e; exact ⟨_, rfl, h⟩
  | false => rw [q] at e; exact Tb.look r e
theorem PD.weak {X : Cx} {e : Expr} {t t' : ED} (h : PD X e t) (m : az t') (f : ∀ δ Q, t' δ Q -> t δ Q) : PD X e t' := ⟨h.pe.imp fun σ H Q ⟨δ, r, q⟩ => ⟨δ, r, f _ _ q⟩, m⟩
theorem jc.weak {X : Cx} {e : Expr} {t t' : TD} (h : jc X e t) (m : dM t') (f : ∀ δ Q, t' δ Q -> t δ Q) : jc X e t' := ⟨PT.imp h.pt fun σ H Q ⟨δ, r, q⟩ => ⟨δ, r, f _ _ q⟩, m⟩
def DT (neg : Bool) (tab : List (Str × D)) (te : ED) : ED := fun δ Q => te δ fun d => ∃ z, d = .str z /\ Q (.bl (if neg then !tab.any fun p => p.1 == z else tab.any fun p => p.1 == z))
theorem BG {neg : Bool} {tab : List (Str × D)} {te : ED} (m : az te) : az (DT neg tab te) := fun δ P P' g h => m _ _ _ (fun d ⟨z, e, q⟩ => ⟨z, e, g _ q⟩) h
def B3 (neg : Bool) (a : Addr) (tab : List (Str × D)) : F2 := fun d e Q => ∃ z, d = .str z /\ e = .adr a /\ Q (.bl (if neg then !tab.any fun p => p.1 == z else tab.any fun p => p.1 == z))
theorem xC {neg : Bool} {a : Addr} {tab : List (Str × D)} : cS (B3 neg a tab) := fun d e P P' g ⟨z, e1, e2, q⟩ => ⟨z, e1, e2, g _ q⟩
def FT (tab : List (Str × D)) (te : ED) : ED := fun δ Q => te δ fun d => ∃ z r, d = .str z /\ tab.lookup z = some r /\ Q r
def A_ (a : Addr) (tab : List (Str × D)) : F2 := fun e d Q => ∃ z r, e = .adr a /\ d = .str z /\ tab.lookup z = some r /\ Q r
theorem zv {a : Addr} {tab : List (Str × D)} : cS (A_ a tab) := fun d e P P' g ⟨z, r, e1, e2, l, q⟩ => ⟨z, r, e1, e2, l, g _ q⟩
section
variable {X : Cx} {a : Addr} {tab : List (Str × D)} {kvs : List (Str × V)} {x : Str} {p pos : Pos} {e : Expr} {te : ED}
theorem wI (t : Tb X.K kvs tab) : eO X.K (fun x y H Q => ∃ z, x = .str z /\ y = .ref a /\ Q (.bl (kvs.any fun p => p.1 == z)) H) (B3 false a tab) := by
 rintro H v u d e Q hv hu ⟨z, rfl, rfl, q⟩
 cases hv
 cases hu
 exact ⟨z, rfl, rfl, by rw [t.any]; exact q _ H (aK.refl _) (.bl _)⟩
theorem pV (t : Tb X.K kvs tab) : eO X.K (fun x y H Q => ∃ z, x = .str z /\ y = .ref a /\ Q (.bl (!kvs.any fun p => p.1 == z)) H) (B3 true a tab) := by
 rintro H v u d e Q hv hu ⟨z, rfl, rfl, q⟩
 cases hv
 cases hu
 exact ⟨z, rfl, rfl, by rw [t.any]; exact q _ H (aK.refl _) (.bl _)⟩
theorem uT (t : Tb X.K kvs tab) : eO X.K (fun x y H Q => ∃ z r, x = .ref a /\ y = .str z /\ kvs.lookup z = some r /\ Q r H) (A_ a tab) := by
 rintro H v u d e Q hv hu ⟨z, r, rfl, rfl, l, q⟩
 cases hv
 cases hu
 obtain ⟨b, hb, db⟩ := t.look l
 exact ⟨z, b, rfl, rfl, hb, q _ H (aK.refl _) (db H)⟩
theorem D4 (T : yj X.w X.K X.mg x a tab) (hg : Gl X x) (he : PD X e te) (hm : behindInMarks .In (.Name x p) = false := by rfl) (hd : (x == ("__debug__" : Str)) = false := by decide) : PD X (.Compare e [.In] [.Name x p] pos) (DT false tab te) := by
 obtain ⟨kvs, k, t⟩ := T.ex
 exact (mZ (Cm k) (wI t) xC he (di (v := .ref a) hg T.at_ rfl (fun _ => .adr a) hd) hm).weak (BG he.mono) fun δ Q h => he.mono _ _ _ (fun d ⟨z, e1, q⟩ => ⟨z, e1, rfl, q⟩) h
theorem yO (T : yj X.w X.K X.mg x a tab) (hg : Gl X x) (he : PD X e te) (hm : behindInMarks .NotIn (.Name x p) = false := by rfl) (hd : (x == ("__debug__" : Str)) = false := by decide) : jc X (.Compare e [.NotIn] [.Name x p] pos) (fK (DT true tab te)) := by
 obtain ⟨kvs, k, t⟩ := T.ex
 exact (ja (uz k) (pV t) xC he (di (v := .ref a) hg T.at_ rfl (fun _ => .adr a) hd) hm).weak (xF (BG he.mono)) fun δ Q h => he.mono _ _ _ (fun d ⟨z, e1, q⟩ => ⟨z, e1, rfl, q⟩) h
theorem v7 (T : yj X.w X.K X.mg x a tab) (hg : Gl X x) (he : PD X e te) (hs : nR e) (hd : (x == ("__debug__" : Str)) = false := by decide) : PD X (.Subscript (.Name x p) e pos) (FT tab te) := by
 obtain ⟨kvs, k, t⟩ := T.ex
 have q := di (X := X) (pos := p) (v := .ref a) hg T.at_ rfl (fun _ => .adr a) hd
 exact (pS (t := oE X.K (vC (.adr a))) (BL (zc k) q.pe he.pe hs) q.mono he.mono (uT t) zv).weak (fun δ P P' g h => he.mono _ _ _ (fun d ⟨z, r, e, l, q⟩ => ⟨z, r, e, l, g _ q⟩) h) fun δ Q h => he.mono _ _ _ (fun d ⟨z, r, e1, l, q⟩ => ⟨z, r, rfl, e1, l, q⟩) h
end
def mO (g : D -> D) (ds : List D) : List (Option D) := ds.map fun d => some (g d)
def fO (p : D -> Bool) (g : D -> D) (ds : List D) : List (Option D) := ds.map fun d => if p d = true then some (g d) else none
theorem rS {g : D -> D} {ds : List D} : (mO g ds).length = ds.length := by simp [mO]
theorem rF {p : D -> Bool} {g : D -> D} {ds : List D} : (fO p g ds).length = ds.length := by simp [fO]
theorem xB {g : D -> D} {ds : List D} {i : Nat} {d : D} {o : Option D} (h1 : ds[i]? = some d) (h2 : (mO g ds)[i]? = some o) : d ∈ ds /\ o = some (g d) := by
 unfold mO at h2
 rw [List.getElem?_map, h1] at h2
 exact ⟨List.mem_of_getElem? h1, by simpa using h2.symm⟩
theorem wW {p : D -> Bool} {g : D -> D} {ds : List D} {i : Nat} {d : D} {o : Option D} (h1 : ds[i]? = some d) (h2 : (fO p g ds)[i]? = some o) : d ∈ ds /\ o = if p d = true then some (g d) else none := by
 unfold fO at h2
 rw [List.getElem?_map, h1] at h2
 exact ⟨List.mem_of_getElem? h1, by simpa using h2.symm⟩
theorem oR {g : D -> D} : ∀ {ds : List D}, (mO g ds).filterMap id = ds.map g
 | [] => rfl
 | d :: ds => by
  have ih := oR (g := g) (ds := ds)
  unfold mO at ih ⊢
  rw [List.map_cons, List.map_cons, <- ih]
  rfl
theorem rH {p : D -> Bool} {g : D -> D} {ds : List D} : (fO p g ds).filterMap id = (ds.filter p).map g := oa p g ds
theorem rG {p : D -> Bool} {g : D -> D} {d : D} {o : Option D} {R : (D -> Prop) -> Prop} (h : o = if p d = true then some (g d) else none) (r : R fun y => some (g d) = some y) : p d = o.isSome /\ (p d = true -> R fun y => o = some y) := by
 cases hp : p d with
 | true => rw [hp, if_pos rfl] at h; subst h; exact ⟨rfl, fun _ => r⟩
 | false => rw [hp, if_neg Bool.false_ne_true] at h; subst h; exact ⟨rfl, fun z => by cases z⟩
section
variable {X : Cx} {e : Expr} {tf : EF} {x : Str} {pos pos' : Pos} {i : Nat}
def EW (i : Nat) (tf : EF) : kI := fun E δ μ => tf δ fun d μ' => ((μ' ++ μ).map (·.1)).Nodup -> E.nx (δ.set i (some d)) (μ' ++ μ)
theorem z5 (hN : X.N.Nodup) (hi : X.N[i]? = some x) (hx : Loc X.env.scope x) (he : PF X e tf) (hs : swapsWith e (some (.Name x pos')) pos.line X.env = pure false := by rfl)
  (hf : X.fn x = true \/ X.env.scope.names.lookup x = some .local := by first | exact .inl rfl | exact .inr rfl | assumption) : yl X (.Assign [.Name x pos'] e pos) (EW i tf) := by
 refine ⟨PS.imp (ro hN hi hx (pe_frM he.pe) hs hf) fun D σ H ⟨δ, μ, L, r, g, h⟩ => ⟨L, g.cG, δ, r, he.mono _ _ _ (fun d μ' k v H' L' s' g' dv z => ?_) h⟩, fun E E' δ μ l h => he.mono _ _ _ (fun d μ' q n => l.nx _ _ (q n)) h⟩
 obtain ⟨g2, e2⟩ := g.join g' z s'
 refine k g2.BH _ _ (L' ++ L) (by rw [e2]; exact s') ?_ g2
 rw [e2]
 exact (r.same s').set i dv
end
end DC
namespace L2
open PySem PySem.Spec PyProof.Rows
section
variable {X : Cx} {es : List Expr} {t : TA}
end
end L2
namespace DC
open PySem PySem.Spec PyProof.Rows L2
section
variable {P : Program} {w : World} {K : PySem.W.Frag} {mg : Str -> Option Value} {base : Heap}
end
section
variable {P : Program} {w : World} {K : PySem.W.Frag} {mg : Str -> Option Value} {base : Heap}
end
section
variable {X : Cx} {o e : Expr} {es : List Expr} {ta : ED} {t : AD} {j k : Nat} {x y m : Str} {ps : List Str} {sd : HV} {sm : Addr -> HV} {ok : Addr -> Prop} {p pos pos' pos2 apos : Pos} {i : Nat}
end
end DC
namespace L2
open PySem PySem.Spec PyProof.Rows
def lu (B : Heap) (e C : Addr) (dx : Option Addr) (fl : Option Value) (h : Heap) : Prop := ∃ oe vs, h.get? e = some oe /\ oe.cls = .ref C /\ oe.dict = dx /\ oe.data = .fields vs /\ 1 < vs.size /\ vs[2]? = some .none /\
 match fl with
 | none => vs[1]? = some .none
 | some v => ∃ T oT ts, vs[1]? = some (.ref T) /\ B.get? T = none /\ T ≠ e /\ h.get? T = some oT /\ oT.data = .fields ts /\ ts[3]? = some v
structure pI (B : Heap) (l : List Env) (e : Addr) (h : Heap) : Prop where
 st : B.StaysIn h
 ne : B.get? e = none
 fr : h.FunFrames B l
theorem k_ (o : Obj) (f : Array Value -> Array Value) : (o.mapFields f).dict = o.dict := by
 obtain ⟨c, d, dt, sl⟩ := o
 cases dt <;> rfl
section
variable {M : Model} {A : Around} {E : Value -> Shared -> Prop} {s : Shared} {B : Heap} {env : Env} {outer : List Env} {L e C : Addr} {dx : Option Addr} {Q : Unit -> Shared -> Prop}
theorem tM {oe : Obj} {vs : Array Value} {head : Value} {b : Bool} (hfr : A.frames = some (env :: outer)) (hf : env.frame = some L) (a : pI B (env :: outer) e s.heap) (he : s.heap.get? e = some oe) (hc : oe.cls = .ref C)
  (hdx : oe.dict = dx) (hd : oe.data = .fields vs) (hz : 1 < vs.size) (hy : vs[2]? = some .none) (h : ∀ h', pI B (env :: outer) e h' -> s.heap.UpToSlots h' -> lu B e C dx (some (rawInt L)) h' -> Q () { s with heap := h' }) :
  wpAny M A (do let a <- frameOf env; let pl <- entryPlaceOf L b; let z <- EntryCells.newEntry head a .none (rawInt L) .none pl; setField (.ref e) 1 z) Q E s := by
 have nfr : e ∉ (env :: outer).filterMap (·.frame) := fun hm => by
  obtain ⟨_, o, ho, hn⟩ := a.fr.mem hm
  rw [he] at ho
  cases ho
  exact hn vs hd
 refine wpAny_bind (wpAny_frameOf_fun hfr a.fr hf fun h1 s1 => wpAny_bind (wpAny_entryPlaceOf fun pl hpl => ?_))
 unfold EntryCells.newEntry newFields
 refine wpAny_bind (wpAny_newObj_type ?_ (hpl.sizeOk5 _ _ _ _ _))
 have e1 : h1.get? e = some oe := (s1.2.1 e nfr).trans he
 have b1 : B.StaysIn h1 := fun c o q => (s1.2.1 c fun hm => by rw [(a.fr.mem hm).1] at q; cases q).trans (a.st c o q)
 generalize hob : ({ cls := .type "traceback", dict := none, data := .fields ([head, .ref L, .none, rawInt L, .none] ++ (if pl.isEmpty then List.replicate 6 Value.none else pl)).toArray } : Obj) = ob
 have e2 := Heap.get?_push_of_some (h := h1) ob e1
 have hTe : h1.objs.size ≠ e := Nat.ne_of_gt (Heap.lt_size e1)
 have d3 := Obj.data_mapFields hd (·.setIfInBounds 1 (Value.ref h1.objs.size))
 have e3 := Heap.get?_update_self (Obj.mapFields (·.setIfInBounds 1 (Value.ref h1.objs.size))) e2 (Obj.isFreed_of_fields d3)
 have t3 := (Heap.get?_update_other (h1.push ob) (Obj.mapFields (·.setIfInBounds 1 (Value.ref h1.objs.size))) (Ne.symm hTe)).trans (Heap.get?_push_size h1 (by rw [<- hob]; rfl))
 have kp : ∀ c o, c ≠ e -> h1.get? c = some o -> ((h1.push ob).update e (Obj.mapFields (·.setIfInBounds 1 (Value.ref h1.objs.size)))).get? c = some o := fun c o n q => by
  rw [Heap.get?_update_other _ _ (Ne.symm n)]
  exact Heap.get?_push_of_some _ q
 have nr : ∀ c o, s.heap.get? c = some o -> (∀ ws, o.data ≠ .fields ws) -> c ≠ e := fun c o q n z => by
  rw [z, he] at q
  cases q
  exact n vs hd
 refine wpAny_setField e2 hd hz (h _ ⟨fun c o q => kp c o (fun z => by rw [z, a.ne] at q; cases q) (b1 c o q), a.ne, a.fr.of_keeps fun c o q n => ?_⟩ (fun c o q n => ?_) ⟨_, _, e3, ?_, ?_, d3, ?_, ?_, ?_⟩)
 ·obtain ⟨sl, z⟩ := s1.2.2 c o q
  exact ⟨_, kp c _ (nr c o q n) z, rfl⟩
 ·obtain ⟨sl, z⟩ := s1.2.2 c o q
  exact ⟨sl, kp c _ (nr c o q n) z⟩
 ·rw [Obj.cls_mapFields]; exact hc
 ·rw [k_]; exact hdx
 ·rw [Array.size_setIfInBounds]; exact hz
 ·rw [Array.getElem?_setIfInBounds_ne (by decide)]; exact hy
 ·refine ⟨h1.objs.size, ob, _, by simp [hz], b1.fresh, hTe, t3, by rw [<- hob], ?_⟩
  first | (simp; done) | (rcases hpl with rfl | ⟨_, _, _, _, _, _, _, rfl⟩ <;> simp)
theorem BW {T : Addr} {oT : Obj} {ts : Array Value} {k : Nat} {v : Value} {h : Heap} {l : List Env} (a : pI B l e h) (hT : h.get? T = some oT) (hd : oT.data = .fields ts) (hn : B.get? T = none) :
  pI B l e (h.update T (Obj.mapFields (·.setIfInBounds k v))) /\ h.UpToSlots (h.update T (Obj.mapFields (·.setIfInBounds k v))) := by
 have other : ∀ b, b ≠ T -> (h.update T (Obj.mapFields (·.setIfInBounds k v))).get? b = h.get? b := fun b n => Heap.get?_update_other _ _ (Ne.symm n)
 have nr : ∀ c o, h.get? c = some o -> (∀ ws, o.data ≠ .fields ws) -> c ≠ T := fun c o q n z => by
  rw [z, hT] at q
  cases q
  exact n ts hd
 exact ⟨⟨fun b o q => (other b fun z => by rw [z, hn] at q; cases q).trans (a.st b o q), a.ne, a.fr.of_keeps fun c o q n => ⟨o, (other c (nr c o q n)).trans q, rfl⟩⟩, fun c o q n => ⟨o.slots, (other c (nr c o q n)).trans q⟩⟩
theorem ri {fl : Option Value} (hfr : A.frames = some (env :: outer)) (hf : env.frame = some L) (a : pI B (env :: outer) e s.heap) (x : lu B e C dx fl s.heap)
  (h : ∀ h', pI B (env :: outer) e h' -> s.heap.UpToSlots h' -> lu B e C dx (some (rawInt L)) h' -> Q () { s with heap := h' }) : wpAny M A (noteFrame (.ref e) env) Q E s := by
 obtain ⟨oe, vs, he, hc, hdx, hd, hz, hy, x⟩ := x
 unfold noteFrame
 simp only [hf]
 cases fl with
 | none =>
  refine wpAny_bind (wpAny_field he hd x ?_)
  rw [if_neg (by decide)]
  exact tM hfr hf a he hc hdx hd hz hy h
 | some v =>
  obtain ⟨T, oT, ts, h1, hn, hTe, hT, hdT, h3⟩ := x
  refine wpAny_bind (wpAny_field he hd h1 ?_)
  rw [if_pos (show (Value.ref T != Value.none) = true from by simp)]
  refine wpAny_bind (wpAny_field hT hdT h3 ?_)
  by_cases q : (v == rawInt L) = true
  ·rw [if_pos q]
   have ev : v = rawInt L := eq_of_beq q
   subst ev
   exact wpAny_pure (h _ a (.refl _) ⟨oe, vs, he, hc, hdx, hd, hz, hy, T, oT, ts, h1, hn, hTe, hT, hdT, h3⟩)
  ·rw [if_neg q]
   refine wpAny_bind (wpAny_setField hT hdT (Array.getElem?_eq_some_iff.mp h3).1 ?_)
   obtain ⟨a2, u2⟩ := BW (k := 3) (v := Value.none) a hT hdT hn
   have e2 : (s.heap.update T (Obj.mapFields (·.setIfInBounds 3 Value.none))).get? e = some oe := (Heap.get?_update_other _ _ hTe).trans he
   exact tM (s := { s with heap := s.heap.update T (Obj.mapFields (·.setIfInBounds 3 Value.none)) }) hfr hf a2 e2 hc hdx hd hz hy fun h' a' u' x' => h h' a' (u2.trans u') x'
theorem iy {v : Value} {f : Option Addr} {l : List Env} (a : pI B l e s.heap) (x : lu B e C dx (some v) s.heap)
  (h : ∀ h', pI B l e h' -> s.heap.UpToSlots h' -> lu B e C dx (some (f.elim .none fun f => rawInt f)) h' -> Q () { s with heap := h' }) : wpAny M A (setFlight (.ref e) f) Q E s := by
 obtain ⟨oe, vs, he, hc, hdx, hd, hz, hy, T, oT, ts, h1, hn, hTe, hT, hdT, h3⟩ := x
 unfold setFlight
 refine wpAny_bind (wpAny_field he hd h1 ?_)
 rw [if_pos (show (Value.ref T != Value.none) = true from by simp)]
 have hz3 : 3 < ts.size := (Array.getElem?_eq_some_iff.mp h3).1
 obtain ⟨a2, u2⟩ := BW (k := 3) (v := f.elim Value.none fun f => rawInt f) a hT hdT hn
 refine wpAny_setField hT hdT hz3 (h _ a2 u2 ⟨oe, vs, (Heap.get?_update_other _ _ hTe).trans he, hc, hdx, hd, hz, hy, T, _, _, h1, hn, hTe, Heap.get?_update_self _ hT (Obj.isFreed_of_fields (Obj.data_mapFields hdT _)), Obj.data_mapFields hdT _, by simp [hz3]⟩)
theorem zm {fl : Option Value} (hfr : A.frames = some (env :: outer)) (hf : env.frame = some L) (a : pI B (env :: outer) e s.heap) (x : lu B e C dx fl s.heap)
  (h : ∀ h', pI B outer e h' -> s.heap.UpToSlots h' -> lu B e C dx (some .none) h' -> Q () { s with heap := h' }) : wpAny M A (leaving env (.ref e)) Q E s := by
 unfold leaving
 refine wpAny_bind (ri hfr hf a x fun h1 a1 u1 x1 => ?_)
 refine iy (s := { s with heap := h1 }) a1 x1 fun h2 a2 u2 x2 => h h2 ⟨a2.st, a2.ne, a2.fr.2.2⟩ (u1.trans u2) x2
end
theorem z7 {a b : Env} {e : Value} (h : a.frame = b.frame) : noteFrame e a = noteFrame e b := by
 unfold noteFrame PySem.frameOf
 rw [h]
def HO.dx? : HO -> Option Addr
 | .ins _ dx _ => some dx
 | .fT _ u => u.dx?
 | _ => none
section
variable {P : Program} {w : World} {H H' : Hp} {h h' : Heap} {a d : Addr} {u : HO}
theorem aL.there (x : aL P w H h a u) : ∃ o, h.get? a = some o := by
 cases u with
 | lst xs => obtain ⟨_, _, _, _, e⟩ := x; exact ⟨_, e⟩
 | tup xs => obtain ⟨_, _, _, o, e, _⟩ := x; exact ⟨_, e⟩
 | dK kvs => obtain ⟨_, _, _, _, o, _, _, e, _⟩ := x; exact ⟨_, e⟩
 | dT kvs => obtain ⟨_, _, _, _, o, _, _, e, _⟩ := x; exact ⟨_, e⟩
 | set S n => obtain ⟨o, _, _, _, e, _⟩ := x; exact ⟨_, e⟩
 | ins C dx fs => obtain ⟨_, _, _, e, _⟩ := x; exact ⟨_, e⟩
 | own y => exact x
 | xd fs => obtain ⟨_, ⟨o, _, _, e, _⟩, _⟩ := x; exact ⟨_, e⟩
 | Dq lo hi => obtain ⟨_, _, _, e⟩ := x; exact ⟨_, e⟩
 | fT ob u => obtain ⟨e, _⟩ := x; exact ⟨_, e⟩
 | yP ps => exact ⟨_, x⟩
 | met f y => exact ⟨_, x⟩
 | ext φ => obtain ⟨_, e, _⟩ := x; exact e
theorem aL.og (x : aL P w H h a u) (e : u.dx? = some d) : H d = some (.own a) := by
 induction u with
 | ins C dx fs => cases e; exact x.1
 | fT o u ih => exact ih x.2 e
 | _ => cases e
theorem aL.swap (ht : ∀ b xs, H b = some (.tup xs) -> H' b = some (.tup xs)) (ho : ∀ d, u.dx? = some d -> H' d = some (.own a)) (x : aL P w H h a u) : aL P w H' h a u := by
 induction u with
 | dT _ =>
  obtain ⟨z, y, xs, r, c⟩ := x
  exact ⟨z, y, xs, Paired.xH r fun p q z => ⟨z.1, ht _ _ z.2.1, z.2.2⟩, c⟩
 | ins _ dx _ => exact ⟨ho dx rfl, x.2⟩
 | fT _ u ih => exact ⟨x.1, ih ho x.2⟩
 | _ => exact x
end
open Classical in
noncomputable def dQ (h : Heap) (H : Hp) : Hp := fun b => match H b with
 | none => none
 | some (.tup xs) => some (.tup xs)
 | some (.fT o u) => some (.fT o u)
 | some (.own x) => if ∃ u, H x = some u /\ u.dx? = some b then some (.own x) else (h.get? b).map fun o => .fT o (.own x)
 | some u => (h.get? b).map fun o => .fT o u
def bz (H H' : Hp) : Hp := fun b => match H b with
 | some u => some u
 | none => H' b
theorem nG (H H' : Hp) : aK H (bz H H') := fun b o e => by unfold bz; rw [e]
theorem fJ {H H' : Hp} {b : Addr} (e : H b = none) : bz H H' b = H' b := by unfold bz; rw [e]
theorem cX {H H' : Hp} {b : Addr} {u : HO} (e : H b = some u) : bz H H' b = some u := by unfold bz; rw [e]
section
variable {P : Program} {w : World} {H H' : Hp} {h h' : Heap} {b : Addr} {u : HO} {fs : List Addr}
theorem dj (e : H b = none) : dQ h H b = none := by unfold dQ; rw [e]
theorem tP {xs : List V} (e : H b = some (.tup xs)) : dQ h H b = some (.tup xs) := by unfold dQ; rw [e]
theorem tN {o : Obj} {u : HO} (e : H b = some (.fT o u)) : dQ h H b = some (.fT o u) := by unfold dQ; rw [e]
theorem tO {x : Addr} {u : HO} (e : H b = some (.own x)) (hu : H x = some u) (hd : u.dx? = some b) : dQ h H b = some (.own x) := by
 unfold dQ
 rw [e]
 exact if_pos ⟨u, hu, hd⟩
theorem gu (ok : cQ P w H h) (e : H b = some u) : (dQ h H b = some u /\ ((∃ xs, u = .tup xs) \/ (∃ o v, u = .fT o v) \/ ∃ x v, u = .own x /\ H x = some v /\ v.dx? = some b)) \/ ∃ o, h.get? b = some o /\ dQ h H b = some (.fT o u) := by
 obtain ⟨o, ho⟩ := (ok b u e).there
 cases u with
 | tup xs => exact .inl ⟨tP e, .inl ⟨xs, rfl⟩⟩
 | fT o v => exact .inl ⟨tN e, .inr (.inl ⟨o, v, rfl⟩)⟩
 | own x =>
  by_cases q : ∃ u, H x = some u /\ u.dx? = some b
  ·obtain ⟨v, hv, hd⟩ := q
   exact .inl ⟨tO e hv hd, .inr (.inr ⟨x, v, rfl, hv, hd⟩)⟩
  ·refine .inr ⟨o, ho, ?_⟩
   unfold dQ
   rw [e]
   show (if _ then _ else _) = _
   rw [if_neg q, ho]
   rfl
 | _ => exact .inr ⟨o, ho, by unfold dQ; rw [e]; show (h.get? b).map _ = _; rw [ho]; rfl⟩
theorem mm (ok : cQ P w H h) {a d : Addr} (ea : H a = some u) (hd : u.dx? = some d) : dQ h H d = some (.own a) /\ H d = some (.own a) := by
 have z := aL.og (ok a u ea) hd
 exact ⟨tO z ea hd, z⟩
theorem cQ.fT (ok : cQ P w H h) : cQ P w (dQ h H) h := fun b v e => by
 have ht : ∀ b xs, H b = some (.tup xs) -> dQ h H b = some (.tup xs) := fun b xs q => tP q
 cases q : H b with
 | none => rw [dj q] at e; cases e
 | some y =>
  have own : ∀ d, y.dx? = some d -> dQ h H d = some (.own b) := fun d hd => (mm ok q hd).1
  rcases gu ok q with ⟨z, _⟩ | ⟨o, ho, z⟩
  ·rw [z] at e
   cases e
   exact aL.swap ht own (ok b _ q)
  ·rw [z] at e
   cases e
   exact ⟨ho, aL.swap ht own (ok b _ q)⟩
structure Dj (h : Heap) (H H' : Hp) : Prop where
 dG : ∀ b xs, dQ h H b = some (.tup xs) -> H' b = some (.tup xs)
 cE : ∀ b o u, dQ h H b = some (.fT o u) -> H' b = some (.fT o u)
theorem fj (ok : cQ P w H h) (un : Dj h H H') (ok' : cQ P w H' h') (e : H b = some u) : ((∃ xs, u = .tup xs) /\ H' b = some u) \/ ((∃ o v, u = .fT o v) /\ H' b = some u) \/ ((∃ x v, u = .own x /\ H x = some v /\ v.dx? = some b) /\ H' b = some u) \/ ∃ o, H' b = some (.fT o u) := by
 rcases gu ok e with ⟨z, q⟩ | ⟨o, ho, z⟩
 ·rcases q with ⟨xs, rfl⟩ | ⟨o, v, rfl⟩ | ⟨x, v, rfl, hx, hd⟩
  ·exact .inl ⟨⟨xs, rfl⟩, un.dG _ _ z⟩
  ·exact .inr (.inl ⟨⟨o, v, rfl⟩, un.cE _ _ _ z⟩)
  ·refine .inr (.inr (.inl ⟨⟨x, v, rfl, hx, hd⟩, ?_⟩))
   rcases gu ok hx with ⟨y, r⟩ | ⟨o', _, y⟩
   ·rcases r with ⟨xs, rfl⟩ | ⟨o, v', rfl⟩ | ⟨x', v', rfl, _⟩
    ·cases hd
    ·exact aL.og (ok' x _ (un.cE _ _ _ y)) hd
    ·cases hd
   ·exact aL.og (u := .fT o' v) (ok' x _ (un.cE _ _ _ y)) hd
 ·exact .inr (.inr (.inr ⟨o, un.cE _ _ _ z⟩))
theorem yQ (ok : cQ P w H h) (un : Dj h H H') (ok' : cQ P w H' h') {xs : List V} (e : H' b = some (.tup xs)) : bz H H' b = some (.tup xs) := by
 cases q : H b with
 | none => rw [fJ q]; exact e
 | some u =>
  rw [cX q]
  rcases fj ok un ok' q with ⟨_, z⟩ | ⟨⟨o, v, rfl⟩, z⟩ | ⟨⟨x, v, rfl, _⟩, z⟩ | ⟨o, z⟩
  ·rw [z] at e; exact e
  ·rw [z] at e; cases e
  ·rw [z] at e; cases e
  ·rw [z] at e; cases e
theorem cQ.bz (ok : cQ P w H h) (un : Dj h H H') (ok' : cQ P w H' h') : cQ P w (bz H H') h' := fun b v e => by
 have ht : ∀ b xs, H' b = some (.tup xs) -> L2.bz H H' b = some (.tup xs) := fun b xs q => yQ ok un ok' q
 cases q : H b with
 | some y =>
  rw [cX q] at e
  cases e
  have own : ∀ d, v.dx? = some d -> L2.bz H H' d = some (.own b) := fun d hd => cX (mm ok q hd).2
  rcases fj ok un ok' q with ⟨_, z⟩ | ⟨_, z⟩ | ⟨⟨x, v, rfl, _⟩, z⟩ | ⟨o, z⟩
  ·exact aL.swap ht own (ok' b _ z)
  ·exact aL.swap ht own (ok' b _ z)
  ·exact ok' b _ z
  ·exact aL.swap ht own (ok' b _ z).2
 | none =>
  rw [fJ q] at e
  refine aL.swap ht (fun d hd => ?_) (ok' b v e)
  have hd' := aL.og (ok' b v e) hd
  cases r : H d with
  | none => rw [fJ r]; exact hd'
  | some u =>
   exfalso
   rcases fj ok un ok' r with ⟨⟨xs, rfl⟩, z⟩ | ⟨⟨o, v, rfl⟩, z⟩ | ⟨⟨x, v, rfl, hx, _⟩, z⟩ | ⟨o, z⟩
   ·rw [z] at hd'; cases hd'
   ·rw [z] at hd'; cases hd'
   ·rw [z] at hd'
    cases hd'
    rw [q] at hx
    cases hx
   ·rw [z] at hd'; cases hd'
theorem Un.bz (ok : cQ P w H h) (un : Un fs [] (dQ h H) H' h h') : Un fs [] H (bz H H') h h' where
 keep := fun b o e n hb hx => un.keep b o e (dj n) hb hx
 slot := fun b o e n hb hx => un.slot b o e (dj n) hb hx
 free := fun b o e n hx => by rw [fJ n]; exact un.free b o e (dj n) hx
 there := un.there
 dG := fun b xs e => cX e
 cE := fun b o u e => cX e
 ee := fun b ps e => ⟨#[], by rw [cX e]; simp⟩
def HO.data : HO -> Prop
 | .own _ => False
 | .fT _ _ => False
 | _ => True
theorem Rd.fT (ok : cQ P w H h) (hu : u.data) (r : Rd H b u) : Rd (dQ h H) b u := by
 rcases r with r | ⟨o, r⟩
 ·rcases gu ok r with ⟨z, _⟩ | ⟨o, _, z⟩
  ·exact .inl z
  ·exact .inr ⟨o, z⟩
 ·exact .inr ⟨o, tN r⟩
theorem Rd.bz (ok : cQ P w H h) (un : Dj h H H') (ok' : cQ P w H' h') (hu : u.data) (r : Rd H' b u) : Rd (bz H H') b u := by
 cases q : H b with
 | none => unfold Rd; rw [fJ q]; exact r
 | some v =>
  unfold Rd
  rw [cX q]
  rcases fj ok un ok' q with ⟨_, z⟩ | ⟨⟨o, v', rfl⟩, z⟩ | ⟨⟨x, v', rfl, _⟩, z⟩ | ⟨o, z⟩
  ·rcases r with r | ⟨o, r⟩
   ·rw [z] at r; exact .inl r
   ·rw [z] at r; exact .inr ⟨o, r⟩
  ·rcases r with r | ⟨o, r⟩
   ·rw [z] at r; cases r; exact hu.elim
   ·rw [z] at r; exact .inr ⟨o, r⟩
  ·rcases r with r | ⟨o, r⟩
   ·rw [z] at r; cases r; exact hu.elim
   ·rw [z] at r; cases r
  ·rcases r with r | ⟨o, r⟩
   ·rw [z] at r; cases r; exact hu.elim
   ·rw [z] at r; cases r; exact .inl rfl
end
structure iZ (fs ex : List Addr) (H : Hp) (h B : Heap) : Prop where
 kp : ∀ b o, h.get? b = some o -> H b = none -> b ∉ fs -> b ∉ ex -> B.get? b = some o
 th : ∀ b o, h.get? b = some o -> b ∉ fs -> b ∉ ex -> ∃ o', B.get? b = some o'
def mJ (P : Program) (w : World) : uF := fun outer H s E e s' => ∃ ea C dx H' B, e = .ref ea /\ s'.os = s.os /\ AllBare s'.gens /\ Un (kZ outer) [] H H' s.heap s'.heap /\ pI B outer ea s'.heap /\ cQ P w H' B /\ iZ (kZ outer) [] H s.heap B /\
 lu B ea C dx (some .none) s'.heap /\ E (.ref C) dx H'
def mP (X : Cx) (H : Hp) (s : Shared) (ea C : Addr) (dx : Option Addr) : Prop := ∃ B fl, pI B X.stack ea s.heap /\ cQ X.prog X.w H B /\ iZ X.fs X.ex X.H₀ X.s₀.heap B /\ lu B ea C dx fl s.heap /\ ∀ p ∈ X.pn, B.get? p.1 = some p.2
section
variable {X : Cx} {pins : List (Addr × Obj)} {σ : St} {H : Hp} {s s' : Shared} {E : XK} {e : Value}
theorem Inv.ux (I : Inv X pins σ H s) {b : Addr} {o : Obj} (q : X.s₀.heap.get? b = some o) (hb : b ∉ X.fs) : b ∉ kZ X.stack := fun z => by
 rcases List.mem_cons.mp (I.iX b z) with y | y
 ·exact absurd (Heap.lt_size q) (by rw [y]; exact Nat.not_lt.mpr I.ok.above)
 ·exact hb y
theorem Inv.rm (I : Inv X pins σ H s) {p : Addr × Obj} (hp : p ∈ X.pn) : p.1 ∉ kZ X.stack := fun z => by
 obtain ⟨_, _, n1, n2, _⟩ := I.pin p (List.mem_append_left _ hp)
 rcases List.mem_cons.mp (I.iX _ z) with y | y
 ·exact n1 y
 ·exact n2 y
theorem Inv.beneath (I : Inv X pins σ H s) {B : Heap} (b : iZ (kZ X.stack) [] H s.heap B) : iZ X.fs X.ex X.H₀ X.s₀.heap B :=
 ⟨fun c o q n hb hx => b.kp c o (I.base.keep c o q n hb hx) (I.base.free c o q n hx) (I.ux q hb) (by simp), fun c o q hb hx => let ⟨o', z⟩ := I.base.there c o q hx; b.th c o' z (I.ux q hb) (by simp)⟩
theorem wX (I : Inv X pins σ H s) (h : mJ X.prog X.w X.stack H s E e s') : ∃ ea C dx H', e = .ref ea /\ Inv X pins σ H' s' /\ mP X H' s' ea C dx /\ E (.ref C) dx H' := by
 obtain ⟨ea, C, dx, H', B, rfl, os, bare, un, a, ok, bn, x, hE⟩ := h
 exact ⟨ea, C, dx, H', rfl, I.mX (ch := []) os un (ok.kept a.st) bare (fun b z => absurd z (by simp)), ⟨B, some .none, a, ok, I.beneath bn, x, fun p hp => bn.kp p.1 p.2 (I.pin p (List.mem_append_left _ hp)).1 (I.pin p (List.mem_append_left _ hp)).2.1 (I.rm hp) (by simp)⟩, hE⟩
theorem vA {ea C : Addr} {dx : Option Addr} {oe : Obj} {vs : Array Value} (I : Inv X pins σ H s) (he : s.heap.get? ea = some oe) (hc : oe.cls = .ref C) (hd : oe.dict = dx) (hv : oe.data = .fields vs) (hz : 1 < vs.size) (h2 : vs[2]? = some .none) (h1 : vs[1]? = some .none)
  (hn : H ea = none) (h0 : X.s₀.heap.get? ea = none) (hp0 : ∀ p ∈ X.pn, p.1 ≠ ea) : mP X H s ea C dx := by
 have nin : ∀ b u, H b = some u -> b ∉ ea :: kZ X.stack := fun b u q z => by
  rcases List.mem_cons.mp z with y | y
  ·rw [y, hn] at q; cases q
  ·rw [I.pD b y] at q; cases q
 refine ⟨PySem.W.hideAll s.heap (ea :: kZ X.stack), none, ⟨fun b o q => PySem.W.of_hideAll _ q, PySem.W.hideAll_none _ (List.mem_cons_self ..), ?_⟩, fun a o q => ?_, ⟨fun b o q n hb hx => ?_, fun b o q hb hx => ?_⟩, ⟨oe, vs, he, hc, hd, hv, hz, h2, h1⟩, fun p hp => PySem.W.hideAll_get _ (I.pin p (List.mem_append_left _ hp)).1 fun z => ?_⟩
 ·exact PySem.W.funFrames_hide I.stack fun env hm b q => List.mem_cons_of_mem _ (List.mem_filterMap.mpr ⟨env, hm, q⟩)
 ·refine (I.ah a o q).iW (fun b u hb z => PySem.W.hideAll_get _ z ?_) (fun _ z => z) fun _ _ z => z
  rcases hb with rfl | hb
  ·exact nin _ _ q
  ·exact nin _ _ hb
 ·refine PySem.W.hideAll_get _ (I.base.keep b o q n hb hx) fun z => ?_
  rcases List.mem_cons.mp z with y | y
  ·rw [y, h0] at q; cases q
  ·exact I.ux q hb y
 ·obtain ⟨o', z⟩ := I.base.there b o q hx
  refine ⟨o', PySem.W.hideAll_get _ z fun y => ?_⟩
  rcases List.mem_cons.mp y with y | y
  ·rw [y, h0] at q; cases q
  ·exact I.ux q hb y
 ·rcases List.mem_cons.mp z with y | y
  ·exact hp0 p hp y
  ·exact I.rm hp y
end
theorem yo {P : Program} {w : World} {K : PySem.W.Frag} {mg : Str -> Option Value} {base : Heap} {N : List Str} {qual : Str} {scope : Scope} {f : Addr} {cd : Value} {A : Around} {outer : List Env} {s s1 : Shared} {H H1 : Hp} {E : XK} {pins : List (Addr × Obj)} {σ : St} {ea C : Addr} {dx : Option Addr}
  (I : Inv (kN (mJ P w) P w K mg base N qual scope f cd A outer s H E) pins σ H1 s1) (a : mP (kN (mJ P w) P w K mg base N qual scope f cd A outer s H E) H1 s1 ea C dx) (h : E (.ref C) dx H1) :
  (kN (mJ P w) P w K mg base N qual scope f cd A outer s H E).xe (.ref ea) s1 := by
 obtain ⟨B, fl, a, ok, bn, x, _⟩ := a
 have fr := a.fr
 refine zm (env := envOfC qual scope s.heap.objs.size f cd) (outer := outer) (L := s.heap.objs.size) I.ok.frames rfl a x fun h' a' u' x' => ?_
 have noA : ∀ b : Addr, b ∉ ([] : List Addr) := fun b z => absurd z (by simp)
 have up : ∀ b o, b ∈ kZ outer -> s1.heap.get? b = some o -> ∃ sl, h'.get? b = some { o with slots := sl } := fun b o hb q => by
  have hm : b ∈ ((envOfC qual scope s.heap.objs.size f cd) :: outer).filterMap (·.frame) := by
   obtain ⟨env, hm, hf⟩ := List.mem_filterMap.mp hb
   exact List.mem_filterMap.mpr ⟨env, List.mem_cons_of_mem _ hm, hf⟩
  obtain ⟨_, o', ho', nf⟩ := fr.mem hm
  rw [q] at ho'
  cases ho'
  exact u' b o q nf
 refine ⟨ea, C, dx, H1, B, rfl, I.os, I.bare, ⟨fun b o q n hb hx => a'.st b o (bn.kp b o q n hb hx), fun b o q n hb hx => ?_, I.base.free, fun b o q hx => ?_, I.base.dG, I.base.cE, I.base.ee⟩, a', ok, bn, x', h⟩
 ·obtain ⟨sl, z⟩ := I.base.slot b o q n hb hx
  obtain ⟨sl', z'⟩ := up b _ hb z
  exact ⟨sl', z'⟩
 ·by_cases hb : b ∈ kZ outer
  ·obtain ⟨o', z⟩ := I.base.there b o q hx
   obtain ⟨sl', z'⟩ := up b _ hb z
   exact ⟨_, z'⟩
  ·obtain ⟨o', z⟩ := bn.th b o q hb hx
   exact ⟨o', a'.st b o' z⟩
theorem mJ.bz {P : Program} {w : World} {l : List Env} {H : Hp} {s s' : Shared} {E : XK} {e : Value} (ok : cQ P w H s.heap) (h : mJ P w l (dQ s.heap H) s E e s') :
  mJ P w l H s (fun cls dx H'' => ∃ H', H'' = L2.bz H H' /\ (∀ b u, HO.data u -> Rd H' b u -> Rd (L2.bz H H') b u) /\ E cls dx H') e s' := by
 obtain ⟨ea, C, dx, H', B, rfl, os, bare, un, a, ok', bn, x, hE⟩ := h
 have t : Dj s.heap H H' := ⟨un.dG, un.cE⟩
 exact ⟨ea, C, dx, L2.bz H H', B, rfl, os, bare, un.bz ok, a, ok.bz t ok', ⟨fun b o q n hb hx => bn.kp b o q (dj n) hb hx, bn.th⟩, x, H', rfl, fun b u hu r => r.bz ok t ok' hu, hE⟩
theorem lr.fT {P : Program} {w : World} {K : PySem.W.Frag} {mg : Str -> Option Value} {base : Heap} {A : Around} {outer : List Env} {s : Shared} {H : Hp} (e : lr P w K mg base A outer s H) : lr P w K mg base A outer s (dQ s.heap H) :=
 ⟨e.frames, e.mod, fun b o q => ⟨(e.bs b o q).1, dj (e.bs b o q).2⟩, e.vU, e.e_, fun b hb => dj (e.uY b hb), e.ah.fT, e.bare⟩
section
variable {X : Cx} {k : Nat} {f C : Addr} {fd : FuncData} {ps : List Str} {sp : Sp} {dvs : List V} {ds : List Value}
theorem Af {pins : List (Addr × Obj)} {σ : St} {H : Hp} {s : Shared} {Q Q' : VK} {E : XK} {us : List Value} {vs : List V} (F : bR X.prog X.w X.K X.mg X.base (mJ X.prog X.w) k f fd ps sp) (hr : ao k X.A) (hb : Binds X.K fd ps ds) (hd : Vals dvs ds)
  (I : Inv X pins σ H s) (r : Vals vs us) (h : sp (vs ++ dvs) (dQ s.heap H) Q' E) (hQ : ∀ v H', (∀ b u, HO.data u -> Rd H' b u -> Rd (bz H H') b u) -> Q' v H' -> Q v (bz H H'))
  (hE : ∀ ea C dx H' s', Inv X pins σ (bz H H') s' -> mP X (bz H H') s' ea C dx -> (∀ b u, HO.data u -> Rd H' b u -> Rd (bz H H') b u) -> E (.ref C) dx H' -> X.xe (.ref ea) s') : wpAny (model X.prog X.w) X.A (call (.ref f) us) (EP X pins σ Q) X.xe s := by
 have r2 : Vals (vs ++ dvs) (us ++ ds) := r.append hd
 have hl : (us ++ ds).length = ps.length := by rw [<- r2.length]; exact F.len _ _ _ _ h
 refine wpAny_call (codeAny_mono (F.run X.A X.stack s _ ⟨us, []⟩ (us ++ ds) (vs ++ dvs) Q' E hr I.zJ.fT (hb s us I.iQ hl) r2 h) fun r s' hq => ?_)
 cases r with
 | error e =>
  obtain ⟨ea, C, dx, H'', rfl, I', a', H', rfl, rd, he⟩ := wX I (mJ.bz I.ah hq)
  exact hE ea C dx H' s' I' a' rd he
 | ok fl =>
  cases fl with
  | ret u =>
   obtain ⟨v, H', os, bare, un, ah, rv, q⟩ := (show CE X.stack X.prog X.w (dQ s.heap H) s Q' u s' from hq)
   have t : Dj s.heap H H' := ⟨un.dG, un.cE⟩
   exact ⟨v, bz H H', I.mX (ch := []) os (un.bz I.ah) (I.ah.bz t ah) bare (fun b z => absurd z (by simp)), rv, hQ v H' (fun b u hu r => r.bz I.ah t ah hu) q⟩
  | next => exact False.elim hq
  | brk => exact False.elim hq
  | cont => exact False.elim hq
end
theorem c_.rd {K : PySem.W.Frag} {H H' : Hp} {a : Addr} {xs : List V} (f : ∀ b u, HO.data u -> Rd H b u -> Rd H' b u) (h : c_ K H a xs) : c_ K H' a xs := by
 rcases h with h | h
 ·exact .inl (f _ _ True.intro h)
 ·exact .inr h
theorem ej.rd {K : PySem.W.Frag} {H H' : Hp} {a : Addr} {xs : List V} (f : ∀ b u, HO.data u -> Rd H b u -> Rd H' b u) (h : ej K H a xs) : ej K H' a xs := by
 rcases h with h | h
 ·exact .inl (f _ _ True.intro h)
 ·exact .inr h
end L2
namespace DC
open PySem PySem.Spec PyProof.Rows L2
section
variable {K : PySem.W.Frag} {H H' : Hp}
theorem dg.rd (f : ∀ b u, HO.data u -> Rd H b u -> Rd H' b u) {dx : Option Addr} {fs : List (Str × V)} (h : dg H dx fs) : dg H' dx fs := by
 cases dx with
 | none => exact h
 | some d => exact f _ _ True.intro h
mutual
theorem Dv.rd (f : ∀ b u, HO.data u -> Rd H b u -> Rd H' b u) : ∀ {v : V} {d : D}, Dv K H v d -> Dv K H' v d
 | _, _, .aV => .aV
 | _, _, .bl b => .bl b
 | _, _, .int i => .int i
 | _, _, .str x => .str x
 | _, _, .lst h1 h2 => .lst (h1.rd f) (ar.rd f h2)
 | _, _, .tup h1 h2 => .tup (h1.rd f) (ar.rd f h2)
 | _, _, .obj h1 h2 => .obj (f _ _ True.intro h1) (dH.rd f h2)
 | _, _, .dK h1 h2 => .dK (f _ _ True.intro h1) (dZ.rd f h2)
 | _, _, .dT h1 h2 => .dT (f _ _ True.intro h1) (sY.rd f h2)
 | _, _, .adr a => .adr a
 | _, _, .exc h1 h2 h3 => .exc (f _ _ True.intro h1) (dg.rd f h2) (dH.rd f h3)
theorem ar.rd (f : ∀ b u, HO.data u -> Rd H b u -> Rd H' b u) : ∀ {vs : List V} {ds : List D}, ar K H vs ds -> ar K H' vs ds
 | _, _, .nil => .nil
 | _, _, .cons h1 h2 => .cons (Dv.rd f h1) (ar.rd f h2)
theorem dH.rd (f : ∀ b u, HO.data u -> Rd H b u -> Rd H' b u) : ∀ {vs : List (Str × V)} {ds : List (Str × D)}, dH K H vs ds -> dH K H' vs ds
 | _, _, .nil => .nil
 | _, _, .cons h1 h2 => .cons (Dv.rd f h1) (dH.rd f h2)
theorem dZ.rd (f : ∀ b u, HO.data u -> Rd H b u -> Rd H' b u) : ∀ {vs : List (Key × V)} {ds : List (Key × D)}, dZ K H vs ds -> dZ K H' vs ds
 | _, _, .nil => .nil
 | _, _, .cons h1 h2 => .cons (Dv.rd f h1) (dZ.rd f h2)
theorem sY.rd (f : ∀ b u, HO.data u -> Rd H b u -> Rd H' b u) : ∀ {vs : List (List Key × V)} {ds : List (List Key × D)}, sY K H vs ds -> sY K H' vs ds
 | _, _, .nil => .nil
 | _, _, .cons h1 h2 => .cons (Dv.rd f h1) (sY.rd f h2)
end
end
abbrev XR := Addr -> List (Str × D) -> Prop
abbrev kU := List D -> (D -> Prop) -> XR -> Prop
abbrev fk (sx : kU) : Prop := ∀ ds (P P' : D -> Prop) (R R' : XR), (∀ d, P d -> P' d) -> (∀ C g, R C g -> R' C g) -> sx ds P R -> sx ds P' R'
def kX (K : PySem.W.Frag) (E : XK) : XR := fun C gs => ∀ dx fs H', dg H' dx fs -> dH K H' fs gs -> E (.ref C) dx H'
def Aq (K : PySem.W.Frag) (sx : kU) : Sp := fun vs H Q E => ∃ ds, ar K H vs ds /\ sx ds (fun d => ∀ v H', Dv K H' v d -> Q v H') (kX K E)
def fN (X : Cx) (xk : SD -> XR) : Prop := ∀ pins σ δ H s ea C dx fs gs, Inv X pins σ H s -> aw X.K H σ δ -> mP X H s ea C dx -> dg H dx fs -> dH X.K H fs gs -> xk δ C gs -> X.xe (.ref ea) s
def BY (K : PySem.W.Frag) (R : XR) : XK := fun cls dx H' => ∃ C gs fs, cls = .ref C /\ dg H' dx fs /\ dH K H' fs gs /\ R C gs
theorem ze {K : PySem.W.Frag} {R : XR} {C : Addr} {gs : List (Str × D)} (h : R C gs) : kX K (BY K R) C gs := fun dx fs H' xd df => ⟨C, gs, fs, rfl, xd, df, h⟩
def Dy (K : PySem.W.Frag) (P : D -> Prop) : VK := fun v H' => ∃ d, Dv K H' v d /\ P d
section
variable {X : Cx} {e : Expr} {es : List Expr} {t : AD} {pos p : Pos} {x : Str} {k : Nat} {f : Addr} {fd : FuncData} {ps : List Str} {sx : kU} {xk : SD -> XR} {dvs : List V} {dls : List Value} {dd : List D}
theorem BQ {pins : List (Addr × Obj)} {σ : L2.St} {δ : SD} {H H1 : Hp} {s : Shared} {Q : VK} {us : List Value} {vs : List V} {ds : List D} (hx : fN X xk) (F : bR X.prog X.w X.K X.mg X.base (mJ X.prog X.w) k f fd ps (Aq X.K sx)) (ms : fk sx) (hr : ao k X.A) (hb : Binds X.K fd ps dls) (hd : Vals dvs dls) (hdd : ∀ H, ar X.K H dvs dd)
  (I : Inv X pins σ H1 s) (rs : aw X.K H σ δ) (s1 : aK H H1) (r : Vals vs us) (dv : ar X.K H1 vs ds) (h : sx (ds ++ dd) (kD X.K H Q) (xk δ)) : wpAny (model X.prog X.w) X.A (call (.ref f) us) (EP X pins σ Q) X.xe s := by
 refine Af (Q' := Dy X.K (kD X.K H Q)) (E := BY X.K (xk δ)) F hr hb hd I r ⟨ds ++ dd, ((dv.append (hdd H1)).rd fun b u hu z => z.fT I.ah hu), ms _ _ _ _ _ (fun d q v H' dv => ⟨d, dv, q⟩) (fun C g q => ze q) h⟩ ?_ ?_
 ·rintro v H' rd ⟨d, dv, q⟩
  exact q v _ (s1.trans (nG _ _)) (dv.rd rd)
 ·rintro ea C dx H' s' I' a rd ⟨C', gs, fs, e, xd, df, q⟩
  cases e
  exact hx pins σ δ _ s' ea C dx fs gs I' (rs.same (s1.trans (nG _ _))) a (dg.rd rd xd) (dH.rd rd df) q
def yV (xk : SD -> XR) (sx : kU) (dd : List D) (t : AD) : ED := fun δ Q => t δ fun ds => sx (ds ++ dd) Q (xk δ)
theorem yz (hx : fN X xk) (F : bR X.prog X.w X.K X.mg X.base (mJ X.prog X.w) k f fd ps (Aq X.K sx)) (ms : fk sx) (hr : ao k X.A) (hg : Gl X x) (hm : X.mg x = some (.ref f)) (hk : PySem.W.keepIn X.K (.ref f) = true) (hb : Binds X.K fd ps dls) (hv : Vals dvs dls) (hdd : ∀ H, ar X.K H dvs dd)
  (ha : kH X (e :: es) t) (hdb : (x == ("__debug__" : Str)) = false := by decide) (he : starEach (e :: es) X.env = (false, eval e X.env) :: starEach es X.env := by rfl) (hpl : (backTo pos (starEach es X.env)).any (·.1) = false := by rfl) :
  PD X (.Call (.Name x p) (e :: es) [] pos) (yV xk sx dd t) := by
 refine ⟨fun pins s σ H Q I ⟨δ, r, h⟩ => ?_, fun δ P P' g h => ha.mono _ _ _ (fun ds q => ms _ _ _ _ _ g (fun _ _ z => z) q) h⟩
 refine wpAny_Call_Name_kw (gw I hg hm ?_ hdb)
 refine PySem.W.callWith_K (h₀ := X.base) I.ok.mod.CO hk (au (ha.pa pos pins s σ H (fun vs H1 => aK H H1 /\ ∃ ds, ar X.K H1 vs ds /\ sx (ds ++ dd) (kD X.K H Q) (xk δ)) I ⟨δ, r, ha.mono _ _ _ (fun ds q vs H1 s1 dv => ⟨s1, ds, dv, q⟩) h⟩) fun us s1 ⟨vs, H1, I1, r1, sm, ds, dv, q⟩ => ⟨I1.iQ, ?_⟩) he hpl
 exact BQ hx F ms hr hb hv hdd I1 r sm r1 dv q
end
section
variable {P : Program} {w : World} {K : PySem.W.Frag} {mg : Str -> Option Value} {base : Heap}
abbrev qo (P : Program) (w : World) (K : PySem.W.Frag) (mg : Str -> Option Value) (base : Heap) (N : List Str) (qual : Str) (st : Stmt) (f : Addr) (cdv : Value) (A : Around) (outer : List Env) (s : Shared) (H : Hp) (E : XK) : Cx := kN (mJ P w) P w K mg base N qual (aC st) f cdv A outer s H E
theorem vd {N : List Str} {qual : Str} {st : Stmt} {f : Addr} {cdv : Value} {A : Around} {outer : List Env} {s : Shared} {H : Hp} {E : XK} : fN (qo P w K mg base N qual st f cdv A outer s H E) (fun _ => kX K E) :=
 fun pins σ δ H1 s1 ea C dx fs gs I r a xd df hk => yo I a (hk dx fs H1 xd df)
theorem HG {x qual : Str} {st : Stmt} {f : Addr} {fd : FuncData} {N ps : List Str} {k : Nat} {sx : kU} {t : XR -> eB} (F : lz K x qual st f fd) (S : aG N ps (aC st)) (len : ∀ ds Q R, sx ds Q R -> ds.length = ps.length)
  (hb : ∀ (cdv : Value) (A : Around) (outer : List Env) (s : Shared) (H : Hp) (E : XK) (R : XR), ao k (A.deeper (envOfC qual (aC st) s.heap.objs.size f cdv)) -> fN (qo P w K mg base N qual st f cdv A outer s H E) (fun _ => R) -> f7 (qo P w K mg base N qual st f cdv A outer s H E) (aY st) (t R))
  (hr : ∀ ds Q R, sx ds Q R -> t R { nx := fun _ => Q .aV, rt := Q } (bB N ds)) : bR P w K mg base (mJ P w) (k + 1) f fd ps (Aq K sx) := by
 obtain ⟨oc, od, dV, kV, doc, pm, an, cdv, ct, osl, rfl, lk, hcd⟩ := F.ex
 refine pd lk hcd S (fun vs H Q E ⟨ds, dvs, h⟩ => by rw [dvs.length]; exact len ds _ _ h) fun A outer s H vs Q E hroom ⟨ds, dvs, h⟩ => ?_
 have B := hb cdv A outer s H E (kX K E) hroom vd
 refine ⟨_, B.ps, bB N ds, dY dvs, ?_⟩
 let Q' : D -> Prop := fun d => ∀ v H', Dv K H' v d -> Q v H'
 exact B.mono { nx := fun _ => Q' .aV, rt := Q' } _ _ ⟨fun δ q σ H' s' r => q _ H' .aV, fun d q v H' s' dv => q v H' dv, fun _ q => q.elim, fun _ q => q.elim⟩ (hr ds _ _ h)
structure kn (P : Program) (w : World) (K : PySem.W.Frag) (mg : Str -> Option Value) (base : Heap) (k : Nat) (x : Str) (ps : List Str) (sx : kU) : Prop where
 ex : ∃ f fd, bR P w K mg base (mJ P w) k f fd ps (Aq K sx) /\ mg x = some (.ref f) /\ PySem.W.keepIn K (.ref f) = true /\ Binds K fd ps []
 ms : fk sx
end
end DC
namespace L2
open PySem PySem.Spec PyProof.Rows
section
variable {P : Program} {w : World} {H : Hp} {h : Heap} {C : Addr} {fs ex : List Addr}
end
section
variable {X : Cx} {k : Nat} {f C : Addr} {fd : FuncData} {ps : List Str} {sp : Sp} {dvs : List V} {ds : List Value}
end
end L2
namespace DC
open PySem PySem.Spec PyProof.Rows L2
section
variable {X : Cx} {o e : Expr} {es : List Expr} {ta : ED} {t : AD} {pos p apos : Pos} {x m : Str} {j k : Nat} {f C : Addr} {fd : FuncData} {ps : List Str} {sx : HU} {sm : Addr -> kU} {ok : Addr -> Prop} {xk : SD -> XR} {dvs : List V} {dls : List Value} {dd : List D}
structure dJ (P : Program) (w : World) (K : PySem.W.Frag) (mg : Str -> Option Value) (base : Heap) (j : Nat) (C : Addr) (m : Str) (sx : kU) : Prop where
 ex : ∃ f fd ps, pH K C /\ Meth K C m f /\ bR P w K mg base (mJ P w) j f fd ps (Aq K sx) /\ Binds K fd ps []
 ms : fk sx
def yX (xk : SD -> XR) (ok : Addr -> Prop) (m : Str) (sm : Addr -> kU) (ta : ED) (t : AD) : ED := fun δ Q => ta δ fun d => ∃ C gs, d = .obj C gs /\ gs.lookup m = none /\ ok C /\ t δ fun ds => sm C (d :: ds) Q (xk δ)
theorem Bw {pl : Sem Bool} (hx : fN X xk) (hM : ∀ C, ok C -> dJ X.prog X.w X.K X.mg X.base j C m (sm C)) (hr : ao k X.A) (hj : j <= k) (he : PD X o ta) (hp : kH X (e :: es) t)
  (hst : starEach (e :: es) X.env = (false, eval e X.env) :: starEach es X.env := by rfl) (hpl : (backTo pos (starEach es X.env)).any (·.1) = false := by rfl)
  (ht : eval (.Call (.Attribute o m apos) (e :: es) [] pos) X.env = (do
   let ov <- eval o X.env
   standAt apos.atName
   let (f, first) <- holding [ov] (getMethod ov m pl)
   callWith pos f first (backTo pos (starEach (e :: es) X.env)) (backToKw pos (keywordEach [] X.env))) := by rfl) :
  PD X (.Call (.Attribute o m apos) (e :: es) [] pos) (yX xk ok m sm ta t) := by
 refine ⟨fun pins s σ H Q I ⟨δ, r, h⟩ => ?_, fun δ P P' g h => he.mono _ _ _ (fun d ⟨C, gs, e, l, M, q⟩ => ⟨C, gs, e, l, M, hp.mono _ _ _ (fun ds q => (hM C M).ms _ _ _ _ _ g (fun _ _ z => z) q) q⟩) h⟩
 refine PySem.W.methodCall_KW (pl := pl) (au (he.pe pins s σ H (fun v H1 => aK H H1 /\ ∃ C gs dx fs a, v = .ref a /\ Rd H1 a (.ins C dx fs) /\ dH X.K H1 fs gs /\ gs.lookup m = none /\ ok C /\ t δ fun ds => sm C (.obj C gs :: ds) (kD X.K H Q) (xk δ)) I ⟨δ, r, he.mono _ _ _ (fun d k v H1 s1 dv => ?_) h⟩)
  fun u s1 ⟨v, H1, I1, rx, sa, C, gs, dx, fs, a, ev, ha, hf, l, M, q⟩ => ?_) ht
 ·obtain ⟨C, gs, ed, l, M, q⟩ := k
  subst ed
  cases dv with
  | obj h1 h2 => exact ⟨s1, _, _, _, _, _, rfl, h1, h2, l, M, q⟩
 ·subst ev
  obtain rfl : u = Value.ref a := rx
  obtain ⟨f, fd, ps, c, mt, F, b⟩ := (hM C M).ex
  refine j4 I1 ha c mt (hf.none l) ?_
  refine PySem.W.callWith_K (first := [.ref a]) (h₀ := X.base) I.ok.mod.CO mt.kp (au (hp.pa pos pins s1 σ H1 (fun vs H2 => aK H1 H2 /\ ∃ ds, ar X.K H2 vs ds /\ sm C (.obj C gs :: ds) (kD X.K H Q) (xk δ)) I1 ⟨δ, r.same sa, hp.mono _ _ _ (fun ds q vs H2 s2 dv => ⟨s2, ds, dv, q⟩) q⟩) fun us s2 ⟨vs, H2, I2, r2, sb, ds, dv, q2⟩ => ⟨I2.iQ, ?_⟩) hst hpl
  exact BQ (us := .ref a :: us) (vs := .ref a :: vs) (ds := .obj C gs :: ds) (dd := []) hx F (hM C M).ms (hr.mono hj) b .nil (fun _ => .nil) I2 r (sa.trans sb) (.cons rfl r2) (.cons (.obj (fe sb ha) (dH.same sb hf)) dv) (by rw [List.append_nil]; exact q2)
theorem nY (hx : fN X xk) {sx : kU} (c : kn X.prog X.w X.K X.mg X.base j x ps sx) (hr : ao k X.A) (hj : j <= k) (hg : Gl X x) (ha : kH X (e :: es) t) (hdb : (x == ("__debug__" : Str)) = false := by decide)
  (h1 : starEach (e :: es) X.env = (false, eval e X.env) :: starEach es X.env := by rfl) (h2 : (backTo pos (starEach es X.env)).any (·.1) = false := by rfl) : PD X (.Call (.Name x p) (e :: es) [] pos) (yV xk sx [] t) := by
 obtain ⟨f, fd, F, m, kp, b⟩ := c.ex
 exact yz (dvs := []) (dls := []) hx F c.ms (hr.mono hj) hg m kp b .nil (fun _ => .nil) ha hdb h1 h2
end
section
variable {P : Program} {w : World} {K : PySem.W.Frag} {mg : Str -> Option Value} {base : Heap}
theorem tQ {x qual : Str} {st : Stmt} {f : Addr} {fd : FuncData} (F : qq K x qual st f fd) : lz K x qual st f fd :=
 let ⟨oc, od, kV, doc, pm, an, cdv, ct, osl, h1, h2, h3⟩ := F.ex
 ⟨⟨oc, od, .none, kV, doc, pm, an, cdv, ct, osl, h1, h2, h3⟩, F.kp⟩
theorem Df.qx {k : Nat} {x : Str} {st : Stmt} {ps N : List Str} {sx : kU} {t : XR -> eB} (d : Df K mg x st ps) (S : aG N ps (aC st)) (ms : fk sx) (len : ∀ ds Q R, sx ds Q R -> ds.length = ps.length)
  (hb : ∀ (f : Addr) (cdv : Value) (A : Around) (outer : List Env) (s : Shared) (H : Hp) (E : XK) (R : XR), ao k (A.deeper (envOfC x (aC st) s.heap.objs.size f cdv)) -> fN (qo P w K mg base N x st f cdv A outer s H E) (fun _ => R) -> f7 (qo P w K mg base N x st f cdv A outer s H E) (aY st) (t R))
  (hr : ∀ ds Q R, sx ds Q R -> t R { nx := fun _ => Q .aV, rt := Q } (bB N ds)) : kn P w K mg base (k + 1) x ps sx := by
 obtain ⟨f, fd, F, m, b⟩ := d.ex
 exact ⟨⟨f, fd, HG (tQ F) S len (hb f) hr, m, F.kp, b⟩, ms⟩
theorem Dm.qx {k : Nat} {C : Addr} {m qual : Str} {st : Stmt} {ps N : List Str} {sx : kU} {t : XR -> eB} (d : Dm K C m qual st ps) (S : aG N ps (aC st)) (ms : fk sx) (len : ∀ ds Q R, sx ds Q R -> ds.length = ps.length)
  (hb : ∀ (f : Addr) (cdv : Value) (A : Around) (outer : List Env) (s : Shared) (H : Hp) (E : XK) (R : XR), ao k (A.deeper (envOfC qual (aC st) s.heap.objs.size f cdv)) -> fN (qo P w K mg base N qual st f cdv A outer s H E) (fun _ => R) -> f7 (qo P w K mg base N qual st f cdv A outer s H E) (aY st) (t R))
  (hr : ∀ ds Q R, sx ds Q R -> t R { nx := fun _ => Q .aV, rt := Q } (bB N ds)) : dJ P w K mg base (k + 1) C m sx := by
 obtain ⟨f, fd, F, M, c, b⟩ := d.ex
 exact ⟨⟨f, fd, ps, c, M, HG (tQ F) S len (hb f) hr, b⟩, ms⟩
end
end DC
namespace L2
open PySem PySem.Spec PyProof.Rows
theorem mC {prog : Program} {w : World} {A : Around} {R : Result -> Shared -> Prop} {s : Shared} {elt target iter : Expr} {ifs : List Expr} {scope : Scope} {pos : Pos} {it acc : Value} {env : Env} {E' : Value -> Shared -> Prop} (hE : ∀ x s, E' x s -> notedBy (model prog w) A env (fun e s' => R (.error e) s') x s) (I : Nat -> Shared -> Prop)
  (turn : ∀ n s, I n s -> wpAny (model prog w) A (pyNext it) (fun r s₁ => match r with
   | none => R (.ok .next) s₁
   | some v => wpAny (model prog w) A (letOwnedTupleGo target it v) (fun _ s₀ => wpAny (model prog w) A (assign target env v) (fun _ s₂ =>
     wpAny (model prog w) A (forIn ifs true fun c r => if r = true then do let ok <- isTrue c env (eval c env); pure (ForInStep.yield ok) else pure (ForInStep.yield r)) (fun ok s₃ =>
      if ok = true then wpAny (model prog w) A (eval elt env) (fun x s₄ =>
       wpAny (model prog w) A (call (.builtin "list.append") [acc, x]) (fun _ s₅ => ∃ m, m < n /\ I m s₅) E' s₄) E' s₃
      else ∃ m, m < n /\ I m s₃) E' s₂) E' s₀) (fun _ _ => False) s₁) (fun _ _ => False) s)
  (n : Nat) (h : I n s) :
  codeAny (model prog w) A (.compLoop (.ListComp elt [⟨target, iter, ifs, 0⟩] scope pos) 0 it acc env) R s := by
 refine codeAny_loop rfl I (fun n s hI => ?_) n h
 show wpAny _ A ((compTurn (.ListComp elt [⟨target, iter, ifs, 0⟩] scope pos) 0 it acc env).onRaise (fun x => do noteFrame x env; theTreesLotGoes x)) _ _ s
 refine wpAny_noted ?_
 rw [compTurn_list]
 refine wpAny_bind (wpAny_standAt (wpAny_bind (wpAny_mono (turn n s hI) (fun r s₁ h₁ => ?_) fun _ _ h' => h'.elim)))
 cases r with
 | none => exact wpAny_pure h₁
 | some v =>
  refine wpAny_bind (wpAny_mono h₁ (fun _ s₀ h₀ => ?_) fun _ _ h' => h'.elim)
  refine wpAny_bind (wpAny_mono h₀ (fun _ s₂ h₂ => wpAny_bind (wpAny_mono h₂ (fun ok s₃ h₃ => ?_) hE)) hE)
  cases ok with
  | false => exact wpAny_pure ⟨rfl, h₃⟩
  | true =>
   exact wpAny_bind (wpAny_bind (wpAny_mono h₃ (fun x s₄ h₄ => wpAny_bind (wpAny_mono h₄ (fun _ s₅ h₅ => wpAny_pure (wpAny_pure ⟨rfl, h₅⟩)) hE)) hE))
theorem i_ {h h' B B' : Heap} : ∀ {l : List Env}, h.FunFrames B l -> (∀ L ∈ kZ l, ∀ o, B.get? L = none -> h.get? L = some o -> (∀ vs, o.data ≠ .fields vs) -> B'.get? L = none /\ ∃ o', h'.get? L = some o' /\ o'.data = o.data) -> h'.FunFrames B' l
 | [], _, _ => trivial
 | env :: rest, ⟨hk, ⟨L, o, hf, hn, ho, hd⟩, hr⟩, k => by
  obtain ⟨n', o', ho', e⟩ := k L (List.mem_filterMap.mpr ⟨env, List.mem_cons_self, hf⟩) o hn ho hd
  exact ⟨hk, ⟨L, o', hf, n', ho', fun vs => by rw [e]; exact hd vs⟩, i_ hr fun L' hm => k L' (by
   obtain ⟨e, he, hfe⟩ := List.mem_filterMap.mp hm
   exact List.mem_filterMap.mpr ⟨e, List.mem_cons_of_mem _ he, hfe⟩)⟩
end L2
namespace DC
open PySem PySem.Spec PyProof.Rows L2
def tD (X : Cx) (scope : Scope) (cl : List (Str × Addr)) (N : List Str) (R : XR) (C : Addr) (fp : List Addr) (s₂ : Shared) (H₂ : Hp) : Value -> Shared -> Prop := fun e s =>
 ∃ ea C' dx fs gs pins σ' H', e = .ref ea /\ Inv (ag X scope cl C N fp s₂ H₂) pins σ' H' s /\ mP (ag X scope cl C N fp s₂ H₂) H' s ea C' dx /\ dg H' dx fs /\ dH X.K H' fs gs /\ R C' gs
abbrev bG (X : Cx) (scope : Scope) (cl : List (Str × Addr)) (C : Addr) (N : List Str) (fp : List Addr) (s₂ : Shared) (H₂ : Hp) (R : XR) : Cx := (ag X scope cl C N fp s₂ H₂).kT (tD X scope cl N R C fp s₂ H₂)
theorem vf {X : Cx} {scope : Scope} {cl : List (Str × Addr)} {C : Addr} {N : List Str} {fp : List Addr} {s₂ : Shared} {H₂ : Hp} {R : XR} : fN (bG X scope cl C N fp s₂ H₂ R) (fun _ => R) :=
 fun pins σ δ H s ea C' dx fs gs I r a xd df hR => ⟨ea, C', dx, fs, gs, pins, σ, H, rfl, I.eh, a, xd, df, hR⟩
theorem xu {K : PySem.W.Frag} {H : Hp} {σ : L2.St} : aw K H σ (List.replicate σ.length none) :=
 ⟨by simp, fun i d h => by rw [List.getElem?_replicate] at h; split at h <;> cases h⟩
section
variable {X : Cx} {scope : Scope} {cl : List (Str × Addr)} {N : List Str} {R : XR} {C : Addr} {fp : List Addr} {pins : List (Addr × Obj)} {σ : L2.St} {H2 : Hp} {s s2 : Shared}
theorem vx (hst : X.stack = X.env :: X.outer) (hfr : X.env.frame = some X.env.locals) (hx : fN X (fun _ => R)) (I2 : Inv X pins σ H2 s2) (f2 : ∀ b ∈ fp, ei X pins H2 b) (hC : s2.heap.objs.size <= C) {e : Value} (ce : tD X scope cl N R C fp s2 H2 e s)
  {use : Option (Value -> Sem Unit)} {Q : Value -> Shared -> Prop} {acc : Value} : notedBy (model X.prog X.w) X.A (compEnvC scope cl C X.env) (fun x s' => compPost (model X.prog X.w) X.A X.xe use Q acc C (.error x) s') e s := by
 obtain ⟨ea, C', dx, fs, gs, pins', σ', H', rfl, J, ⟨B, fl, a, ok, bn, x, _⟩, xd, df, hR⟩ := ce
 unfold notedBy
 rw [z7 (show (compEnvC scope cl C X.env).frame = X.env.frame from rfl)]
 have a0 : pI B (X.env :: X.outer) ea s.heap := hst ▸ a
 refine ri (env := X.env) (outer := X.outer) (L := X.env.locals) (by rw [<- hst]; exact I2.ok.frames) hfr a0 x fun h1 a1 u1 x1 => ?_
 obtain ⟨m, hn, _⟩ := J.loc
 obtain ⟨oC, es, ep, ho, hd, hrest⟩ := id hn
 have hoC : s.heap.get? C = some oC := ho
 obtain ⟨sl, ho1⟩ := u1 C oC hoC (fun ws q => by rw [hd] at q; cases q)
 refine (show ∃ m, h1.Ns C m /\ _ from ⟨m, ⟨{ oC with slots := sl }, es, ep, ho1, hd, hrest⟩, fun h2 hs2 cenv hcenv => ?_⟩)
 obtain ⟨oe, vs, he, hc, hdx, hdv, hz, hy, T, oT, ts, hv1, hnT, hTe, hT, hdT, h3⟩ := x1
 have neC : ∀ b o, h1.get? b = some o -> (∃ ws, o.data = .fields ws) -> b ≠ C := fun b o q ⟨ws, hw⟩ z => by
  rw [z, ho1] at q
  cases q
  have hd' : oC.data = .fields ws := hw
  rw [hd] at hd'
  cases hd'
 have eaC := neC ea oe he ⟨vs, hdv⟩
 have TC := neC T oT hT ⟨ts, hdT⟩
 have ltC : ∀ b o, s2.heap.get? b = some o -> b ≠ C := fun b o q => Nat.ne_of_lt (Nat.lt_of_lt_of_le (Heap.lt_size q) hC)
 have stC : ∀ b ∈ kZ X.stack, b ≠ C := fun b hb => by
  obtain ⟨_, o, q, _⟩ := I2.stack.mem hb
  exact ltC b o q
 have in_B : ∀ b o, B.get? b = some o -> b ≠ C -> (PySem.W.hideAll B [C]).get? b = some o := fun b o q n => PySem.W.hideAll_get _ q (by simpa using n)
 have out_B : ∀ b o, (PySem.W.hideAll B [C]).get? b = some o -> B.get? b = some o /\ b ≠ C := fun b o q => ⟨PySem.W.of_hideAll _ q, fun z => by rw [z, PySem.W.hideAll_none _ (List.mem_singleton.mpr rfl)] at q; cases q⟩
 have no_B : ∀ b, B.get? b = none -> (PySem.W.hideAll B [C]).get? b = none := fun b n => by
  cases q : (PySem.W.hideAll B [C]).get? b with
  | none => rfl
  | some o => rw [(out_B b o q).1] at n; cases n
 have a2 : pI (PySem.W.hideAll B [C]) (X.env :: X.outer) ea h2 := by
  refine ⟨fun b o q => (hs2.2 b (out_B b o q).2).trans (a1.st b o (out_B b o q).1), no_B _ a1.ne, i_ a1.fr fun L hL o hnL hoL hdL => ⟨no_B L hnL, o, ?_, rfl⟩⟩
  exact (hs2.2 L (stC L (by rw [hst]; exact hL))).trans hoL
 have x2 : lu (PySem.W.hideAll B [C]) ea C' dx (some (rawInt X.env.locals)) h2 :=
  ⟨oe, vs, (hs2.2 ea eaC).trans he, hc, hdx, hdv, hz, hy, T, oT, ts, hv1, no_B T hnT, hTe, (hs2.2 T TC).trans hT, hdT, h3⟩
 unfold PySem.passOn
 refine wpAny_bind (wpAny_field ((hs2.2 ea eaC).trans he) hdv hv1 ?_)
 rw [if_neg (by simp)]
 refine wpAny_bind (iy (s := { s with heap := h2 }) a2 x2 fun h4 a4 u4 x4 => wpAny_throw ?_)
 have fC : H' C = none := J.free
 have iY : cQ X.prog X.w H' (PySem.W.hideAll B [C]) := fun b u q => (ok b u q).iW (fun c v hcc z => in_B c v z (fun y => by
  rcases hcc with rfl | hcc
  ·rw [y, fC] at q; cases q
  ·rw [y, fC] at hcc; cases hcc)) (fun _ z => z) fun _ _ z => z
 have up : ∀ b o, b ∈ kZ X.stack -> s.heap.get? b = some o -> ∃ sl, h4.get? b = some { o with slots := sl } := fun b o hb q => by
  obtain ⟨_, o', q', nf⟩ := a.fr.mem hb
  rw [q] at q'
  cases q'
  obtain ⟨sl1, z1⟩ := u1 b o q nf
  obtain ⟨sl2, z2⟩ := u4 b _ ((hs2.2 b (stC b hb)).trans z1) nf
  exact ⟨sl2, z2⟩
 have nofp : ∀ b o, X.s₀.heap.get? b = some o -> b ∉ X.ex -> b ∉ fp := fun b o q hx' hb => by
  rcases (f2 b hb).2.2.2.1 with z | z
  ·exact hx' z
  ·exact absurd (Heap.lt_size q) (Nat.not_lt.mpr z)
 have I3 : Inv X pins σ H' { s with heap := h4 } := by
  refine I2.mX (ch := fp) J.os ⟨fun b o q n hb hxx => a4.st b o (in_B b o (bn.kp b o q n hb hxx) (ltC b o q)), fun b o q n hb hxx => ?_, J.base.free, fun b o q hxx => ?_, J.base.dG, J.base.cE, J.base.ee⟩ (iY.kept a4.st) J.bare
   fun b hb => ⟨(f2 b hb).2.2.2.1, (f2 b hb).2.1, (f2 b hb).2.2.2.2.1, (f2 b hb).2.2.2.2.2⟩
  ·obtain ⟨sl1, z⟩ := J.base.slot b o q n hb hxx
   obtain ⟨sl2, z2⟩ := up b _ hb z
   exact ⟨sl2, z2⟩
  ·by_cases hb : b ∈ kZ X.stack
   ·obtain ⟨o', z⟩ := J.base.there b o q hxx
    obtain ⟨sl2, z2⟩ := up b _ hb z
    exact ⟨_, z2⟩
   ·obtain ⟨o', z⟩ := bn.th b o q hb hxx
    exact ⟨o', a4.st b o' (in_B b o' z (ltC b o q))⟩
 refine hx pins σ (List.replicate σ.length none) H' { s with heap := h4 } ea C' dx fs gs I3 xu ⟨PySem.W.hideAll B [C], _, hst ▸ a4, iY, ⟨fun b o q n hb hxx => ?_, fun b o q hb hxx => ?_⟩, x4, fun p hp => ?_⟩ xd df hR
 ·have q2 := I2.base.keep b o q n hb hxx
  exact in_B b o (bn.kp b o q2 (I2.base.free b o q n hxx) (I2.ux q hb) (nofp b o q hxx)) (ltC b o q2)
 ·obtain ⟨o', q2⟩ := I2.base.there b o q hxx
  obtain ⟨o2, z⟩ := bn.th b o' q2 (I2.ux q hb) (nofp b o q hxx)
  exact ⟨o2, in_B b o2 z (ltC b o' q2)⟩
 ·obtain ⟨y1, y2, _⟩ := I2.pin p (List.mem_append_left _ hp)
  exact in_B _ _ (bn.kp p.1 p.2 y1 y2 (I2.rm hp) fun hb => (f2 _ hb).2.2.2.2.2 p (List.mem_append_left _ hp) rfl) (ltC _ _ y1)
end
section
variable {X : Cx} {scope : Scope} {cl : List (Str × Addr)} {T cn : List Str} {caps : List Nat} {elt tg iter : Expr} {ifs : List Expr} {wi : TI} {g : TG} {tt : TT} {te : TE} {pos : Pos} {R : XR}
theorem pN (S : bA X scope cl T caps cn) (hc : X.calm = true) (hg : ∀ C fp s₂ H₂, PG (bG X scope cl C (T ++ cn) fp s₂ H₂ R) tg g) (ht : ∀ C fp s₂ H₂, sq (bG X scope cl C (T ++ cn) fp s₂ H₂ R) ifs tt)
  (he : ∀ C fp s₂ H₂, PE (bG X scope cl C (T ++ cn) fp s₂ H₂ R) elt te) {pins : List (Addr × Obj)} {σ : L2.St} {H2 : Hp} {s2 : Shared} {it : Addr} {fp : List Addr} {tn : Nat -> Heap -> Prop} {J : It} {E : Value -> Shared -> Prop} {Q : VK}
  {RR : Value -> Addr -> Result -> Shared -> Prop} (I2 : Inv X pins σ H2 s2) (Tn : Turn X.prog X.w X.K tg J fp it tn) (st2 : tn 0 s2.heap) (f2 : ∀ b ∈ fp, ei X pins H2 b)
  (q : ∀ D, H2 D = none -> vX J D H2 (nD T.length caps σ) g tt te Q)
  (fin : ∀ D C oC m H' s', Inv X (pins ++ [(C, oC)]) σ H' s' -> s'.heap.get? C = some oC -> s'.heap.Ns C m -> ei X pins H' C -> Q (.ref D) H' -> RR (.ref D) C (.ok .next) s')
  (err : ∀ acc C e s, s2.heap.objs.size <= C -> tD X scope cl (T ++ cn) R C fp s2 H2 e s -> notedBy (model X.prog X.w) X.A (compEnvC scope cl C X.env) (fun x s' => RR acc C (.error x) s') e s) :
  wpAny (model X.prog X.w) X.A (newList []) (fun acc s₃ => wpAny (model X.prog X.w) X.A (newFunctionEnv scope X.env.globals cl [] X.env.qual none .none (some X.env)) (fun cenv s₄ =>
   codeAny (model X.prog X.w) X.A (.compStart (.ListComp elt [⟨tg, iter, ifs, 0⟩] scope pos) 0 (.ref it) acc { cenv with scope := relabel scope X.env }) (RR acc cenv.locals) s₄) E s₃) E s2 := by
 refine wpAny_newObj_type (wpAny_newFunctionEnv S.xN (by intro y hy; simp at hy) (fun h₁ hns₁ hsb₁ => ?_) S.kind)
 dsimp only at hns₁ hsb₁ ⊢
 generalize hH2 : s2.heap.push { cls := .type "list", dict := none, data := .seq ([] : List Value).toArray } = G2 at hns₁ hsb₁ ⊢
 have hC : G2.objs.size = s2.heap.objs.size + 1 := by rw [<- hH2, Heap.size_push]
 have hDC : s2.heap.objs.size ≠ G2.objs.size := by omega
 have old : ∀ b o, s2.heap.get? b = some o -> h₁.get? b = some o := fun b o e => hsb₁.extBut b o (by rw [hC]; exact Nat.ne_of_lt (Nat.lt_succ_of_lt (Heap.lt_size e))) (Heap.get?_push_of_some _ (hH2 ▸ Heap.get?_push_of_some _ e))
 have hacc : ∃ n, h₁.get? s2.heap.objs.size = some { cls := .type "list", data := .seq #[] n } := ⟨_, hsb₁.extBut _ _ hDC (Heap.get?_push_of_some _ (hH2 ▸ Heap.get?_push_size _ rfl))⟩
 have fo : ∀ b ∈ fp, b < s2.heap.objs.size := fun b hb => by
  obtain ⟨o, e, _⟩ := Tn.obj 0 _ st2 b hb
  exact Heap.lt_size e
 obtain ⟨W, ⟨m0, w0⟩, turn⟩ := q s2.heap.objs.size I2.fresh
 have st1 : tn 0 h₁ := Tn.keep 0 _ _ st2 fun b hb o e => old b o e
 have fr0 : ∀ b ∈ fp, upd H2 s2.heap.objs.size (.lst []) b = none := fun b hb => by rw [aE (Nat.ne_of_lt (fo b hb))]; exact (f2 b hb).1
 have loop : ∀ s₃ : Shared, s₃ = { s2 with heap := h₁, toks := s2.toks + ([] : List (Str × Value)).length } ->
   codeAny (model X.prog X.w) X.A (.compLoop (.ListComp elt [⟨tg, iter, ifs, 0⟩] scope pos) 0 (.ref it) (.ref s2.heap.objs.size) (compEnvC scope cl G2.objs.size X.env)) (RR (.ref s2.heap.objs.size) G2.objs.size) s₃ := by
  intro s₃ hs3
  have I0 : Inv (bG X scope cl G2.objs.size (T ++ cn) fp s2 H2 R) [] (nD T.length caps σ) (upd H2 s2.heap.objs.size (.lst [])) s₃ := by
   rw [hs3]
   exact (ku S I2 f2 fo hC old hacc (by simpa using hns₁)).kT _
  have st3 : tn 0 s₃.heap := by rw [hs3]; exact st1
  have stat : ∀ {H' : Hp}, (∀ b ∈ fp, H' b = none) -> ∀ b ∈ fp, ei (bG X scope cl G2.objs.size (T ++ cn) fp s2 H2 R) [] H' b := fun {H'} hn b hb => by
   refine ⟨hn b hb, ?_, fun hs => ?_, .inl hb, fun y c e => (f2 b hb).2.2.2.2.1 y c (S.sub y c e), fun p hp => absurd (show p ∈ ([] : List (Addr × Obj)) from hp) (by simp)⟩
   ·show b ≠ G2.objs.size
    rw [hC]
    exact Nat.ne_of_lt (Nat.lt_succ_of_lt (fo b hb))
   ·rcases List.mem_cons.mp (I2.iX b hs) with z | z
    ·exact (f2 b hb).2.1 z
    ·exact (f2 b hb).2.2.1 z
  refine mC (E' := tD X scope cl (T ++ cn) R G2.objs.size fp s2 H2) (fun x s' ce => err _ _ x s' (by omega) ce) (fun n s' => ∃ i ys H', Inv (bG X scope cl G2.objs.size (T ++ cn) fp s2 H2 R) [] (nD T.length caps σ) H' s' /\ tn i s'.heap /\ (∀ b ∈ fp, H' b = none) /\ W i n ys H') ?_ m0 ⟨0, [], _, I0, st3, fr0, w0⟩
  rintro n s4 ⟨i, ys, H4, I4, st4, fr4, w4⟩
  obtain ⟨hD, tr⟩ := turn i n ys H4 w4
  rcases tr with ⟨stop, qn⟩ | ⟨go, step⟩
  ·refine au (Tn.done (bG X scope cl G2.objs.size (T ++ cn) fp s2 H2 R) rfl rfl rfl hc i [] s4 (nD T.length caps σ) H4 (fun _ _ => False) I4 (stat fr4) st4 stop) fun r s5 ⟨hr, I5⟩ => ?_
   subst hr
   obtain ⟨oC, m, a1, a2, a3, a4⟩ := pO I2 f2 (by omega) I5.eh
   exact fin _ _ oC m H4 s5 a3 a1 a2 a4 qn
  ·refine au (Tn.item (bG X scope cl G2.objs.size (T ++ cn) fp s2 H2 R) rfl rfl rfl hc i [] s4 (nD T.length caps σ) H4 (fun _ _ => False) I4 (stat fr4) st4 go) fun r s5 ⟨u, hr, h5⟩ => ?_
   subst hr
   refine au h5 fun _ s6 ⟨x, H6, I6, r6, y6, st6, fr6⟩ => ?_
   have I6' := I6.pinned (stat fr6) (Tn.obj _ _ st6)
   refine au (hg _ fp s2 H2 _ s6 _ H6 x u _ I6' r6 (step x H6 y6)) fun _ s7 ⟨σ7, H7, I7, le7, q7⟩ => ?_
   have again : ∀ {σ8 : L2.St} {H8 : Hp} {s8 : Shared} {zs : List V} {m' : Nat}, Le (nD T.length caps σ) σ8 -> Inv (bG X scope cl G2.objs.size (T ++ cn) fp s2 H2 R) ([] ++ gP fp s6.heap) σ8 H8 s8 -> m' < n -> W (i + 1) m' zs H8 ->
     ∃ m, m < n /\ ∃ i ys H', Inv (bG X scope cl G2.objs.size (T ++ cn) fp s2 H2 R) [] (nD T.length caps σ) H' s8 /\ tn i s8.heap /\ (∀ b ∈ fp, H' b = none) /\ W i m ys H' := fun {σ8 H8 s8 zs m'} le I8 hm w8 => by
    refine ⟨m', hm, i + 1, zs, H8, I8.cv.weak le.1 le.2, Tn.keep _ _ _ st6 fun b hb o e => (I8.pin (b, o) (List.mem_append_right _ (List.mem_append_right _ (b6 hb e)))).1, fun b hb => ?_, w8⟩
    obtain ⟨o, e, d⟩ := Tn.obj _ _ st6 b hb
    exact (I8.pin (b, o) (List.mem_append_right _ (List.mem_append_right _ (b6 hb e)))).2.1
   refine au (ht _ fp s2 H2 _ s7 σ7 H7 _ I7 q7) fun ok s8 ⟨H8, I8, q8⟩ => ?_
   cases ok with
   | false =>
    rw [if_neg Bool.false_ne_true] at q8 ⊢
    obtain ⟨m', hm, w8⟩ := q8
    exact again le7 I8 hm w8
   | true =>
    rw [if_pos rfl] at q8 ⊢
    refine au (he _ fp s2 H2 _ s8 σ7 H8 _ I8 q8) fun v9 s9 ⟨y, H9, I9, r9, hD9, hz9, m', hm, w9⟩ => ?_
    refine au (jo _ s9 σ7 H9 (.ref s2.heap.objs.size) [y] (.ref s2.heap.objs.size) [v9] (fun _ H => H = upd H9 s2.heap.objs.size (.lst (ys ++ [y]))) I9 rfl (.cons r9 .nil) ⟨_, ys, y, rfl, rfl, hD9, hz9, rfl⟩) fun _ s10 ⟨_, H10, I10, _, e10⟩ => ?_
    subst e10
    exact again le7 I10 hm w9
 exact codeAny_compStart_list (loop _ rfl) (Tn.self X.A 0 _ _ _ st1 (loop _ rfl))
theorem xl {i : Nat} {y : Str} {py spos : Pos} (hst : X.stack = X.env :: X.outer) (hfr : X.env.frame = some X.env.locals) (hx : fN X (fun _ => R)) (hN : X.N.Nodup) (hi' : X.N[i]? = some y) (hy : Loc X.env.scope y) (S : bA X scope cl T caps cn) (hc : X.calm = true) (hi : PI X tg iter wi)
  (hg : ∀ C fp s₂ H₂, PG (bG X scope cl C (T ++ cn) fp s₂ H₂ R) tg g) (ht : ∀ C fp s₂ H₂, sq (bG X scope cl C (T ++ cn) fp s₂ H₂ R) ifs tt)
  (he : ∀ C fp s₂ H₂, PE (bG X scope cl C (T ++ cn) fp s₂ H₂ R) elt te) (hsw : swapsWith (.ListComp elt [⟨tg, iter, ifs, 0⟩] scope pos) (some (.Name y py)) spos.line X.env = pure true := by rfl)
  (hf : X.fn y = true \/ X.env.scope.names.lookup y = some .local := by first | exact .inl rfl | exact .inr rfl | assumption)
  (hs : ∀ x, foldedSetIterable iter X.env x = pure x := by intro _; rfl) :
  PS X (.Assign [.Name y py] (.ListComp elt [⟨tg, iter, ifs, 0⟩] scope pos) spos) (BR i (qZ T.length caps wi g tt te)) := by
 intro pins s σ H D I h
 rw [exec_Assign_Name_used _ _ _ _ hsw]
 refine wpAny_bind (wpAny_standAt (wpAny_bind ?_))
 show wpAny _ X.A (do let _ <- comprehension (.ListComp elt [⟨tg, iter, ifs, 0⟩] scope pos) scope X.env _ (newList []) false (eval iter X.env) (some (assign (.Name y py) X.env))) _ _ s
 refine wpAny_bind (wpAny_mono (wpAny_comprehension_free (use := some (assign (.Name y py) X.env)) (Q := fun _ s' => SP X pins D .next s') rfl hs S.Bp S.kind S.names
  (au (hi pins s σ H _ I h) fun v s1 h1 => au h1 fun itv s2 h2 => ?_)) (fun _ s' hq => wpAny_pure (wpAny_pure hq)) fun _ _ e => e)
 obtain ⟨it, fp, tn, J, H2, e, I2, Tn, st2, f2, q⟩ := h2
 subst e
 refine pN (Q := fun x H1 => D.nx (σ.set i (some x)) H1) (RR := fun acc C => compPost (model X.prog X.w) X.A X.xe (some (assign (.Name y py) X.env)) (fun _ s' => SP X pins D .next s') acc C) S hc hg ht he I2 Tn st2 f2 q (fun Dd C oC m H' s' I' ho hn fC qD => ?_) fun acc C e s hC ce => vx hst hfr hx I2 f2 hC ce
 show wpAny _ X.A (assign (.Name y py) X.env (.ref Dd)) _ _ s'
 refine au (bS (i := i) hN hi' hy hf (pins ++ [(C, oC)]) s' σ H' (.ref Dd) (.ref Dd) (fun σ' H1 => σ' = σ.set i (some (.ref Dd)) /\ H1 = H') I' rfl ⟨rfl, rfl⟩) fun _ s'' ⟨σ'', H'', I'', e1, e2⟩ => ?_
 subst e1 e2
 have hoC : s''.heap.get? C = some oC := (I''.pin (C, oC) (List.mem_append_right _ (List.mem_append_right _ (List.mem_singleton.mpr rfl)))).1
 obtain ⟨oC', es, ep, ho', r⟩ := hn
 rw [ho] at ho'
 cases ho'
 refine ⟨m, ⟨oC, es, ep, hoC, r⟩, fun h' hs' => ⟨σ.set i (some (.ref Dd)), H'', ?_, qD⟩⟩
 obtain ⟨hp, g, d, t, os⟩ := s''
 exact I''.cv.turned (fun b o hb e => (hs'.2 b hb).trans e) fC.1 fC.2.1 fC.2.2.2.1 fC.2.2.2.2.1 fC.2.2.2.2.2
end
section
variable {X : Cx} {scope : Scope} {cl : List (Str × Addr)} {x : Str} {cn : List Str} {caps : List Nat} {elt tg iter : Expr} {ifs : List Expr} {ti : AD} {tt : TD} {te : ED} {pos : Pos} {R : XR}
end
end DC
namespace L2
open PySem PySem.Spec PyProof.Rows
abbrev Cx.rK (X : Cx) (A : Around) : Cx := { X with A := A, calm := false, xe := fun _ _ => False }
abbrev Cx.lQ (X : Cx) (pins : List (Addr × Obj)) (E : Value -> Shared -> Prop) : Cx := { X with pn := X.pn ++ pins, xe := E }
section
variable {X : Cx} {pins : List (Addr × Obj)} {σ : St} {H : Hp} {s : Shared} {A : Around} {E : Value -> Shared -> Prop}
theorem Inv.rK (I : Inv X pins σ H s) (hf : A.frames = X.A.frames) : Inv (X.rK A) pins σ H s :=
 ⟨⟨I.ok.mod, I.ok.kind, I.ok.glob, I.ok.blt, I.ok.above, I.ok.inj, I.ok.has, I.ok.A8, (fun h => Bool.noConfusion h), hf.trans I.ok.frames, I.ok.DI, I.ok.EA, I.ok.bs, I.ok.vU, I.ok.qR, I.ok.nq, I.ok.e_, I.ok.uY⟩, I.os, I.bare, I.base, I.loc, I.cell, I.free, I.bK, I.pin, I.ah, I.len⟩
theorem Inv.yS (ok : X.Ok) (I : Inv (X.rK A) pins σ H s) : Inv X pins σ H s := ⟨ok, I.os, I.bare, I.base, I.loc, I.cell, I.free, I.bK, I.pin, I.ah, I.len⟩
theorem Inv.lQ (I : Inv X pins σ H s) : Inv (X.lQ pins E) [] σ H s :=
 ⟨⟨I.ok.mod, I.ok.kind, I.ok.glob, I.ok.blt, I.ok.above, I.ok.inj, I.ok.has, I.ok.A8, I.ok.hd, I.ok.frames, I.ok.DI, I.ok.EA, I.ok.bs, I.ok.vU, I.ok.qR, I.ok.nq, I.ok.e_, I.ok.uY⟩, I.os, I.bare, I.base, I.loc, I.cell, I.free, I.bK,
  fun p hp => I.pin p (by simpa using hp), I.ah, I.len⟩
theorem Inv.g0 {l : List (Addr × Obj)} (I : Inv (X.lQ pins E) l σ H s) : Inv X pins σ H s :=
 ⟨⟨I.ok.mod, I.ok.kind, I.ok.glob, I.ok.blt, I.ok.above, I.ok.inj, I.ok.has, I.ok.A8, I.ok.hd, I.ok.frames, I.ok.DI, I.ok.EA, I.ok.bs, I.ok.vU, I.ok.qR, I.ok.nq, I.ok.e_, I.ok.uY⟩, I.os, I.bare, I.base, I.loc, I.cell, I.free, I.bK,
  fun p hp => I.pin p (List.mem_append_left _ hp), I.ah, I.len⟩
theorem El {h h' : Heap} {a : Addr} {m : Str -> Option Value} (u : h.UpToSlots h') (hn : h.Ns a m) : h'.Ns a m := by
 obtain ⟨o, es, ep, ho, hd, r⟩ := hn
 obtain ⟨sl, z⟩ := u a o ho (fun vs q => by rw [hd] at q; cases q)
 exact ⟨_, es, ep, z, hd, r⟩
theorem s_ {h h' : Heap} {a : Addr} {v : Option Value} (u : h.UpToSlots h') (hn : h.IsCell a v) : h'.IsCell a v := by
 obtain ⟨o, ho, hd⟩ := hn
 obtain ⟨sl, z⟩ := u a o ho (fun vs q => by rw [hd] at q; cases q)
 exact ⟨_, z, hd⟩
theorem zo {env : Env} {h h' : Heap} {m : Str -> Option Value} {x : Str} {v : Value} (u : h.UpToSlots h') (l : Look env h m x v) : Look env h' m x v := by
 rcases l with l | ⟨k, c, e, i⟩
 ·exact .inl l
 ·exact .inr ⟨k, c, e, s_ u i⟩
theorem Inv.HB {l : List (Addr × Obj)} {B h1 : Heap} {ea : Addr} (I : Inv X l σ H s) (u : s.heap.UpToSlots h1) (a : pI B X.stack ea h1) (ok : cQ X.prog X.w H B) (bn : iZ X.fs X.ex X.H₀ X.s₀.heap B) (pn : ∀ p ∈ X.pn, B.get? p.1 = some p.2) : Inv X [] σ H { s with heap := h1 } := by
 obtain ⟨m, hn, lk⟩ := I.loc
 have up : ∀ b o, b ∈ X.fs -> s.heap.get? b = some o -> ∃ sl, h1.get? b = some { o with slots := sl } := fun b o hb q => by
  obtain ⟨_, o', q', nf⟩ := I.e_.mem hb
  rw [q] at q'
  cases q'
  exact u b o q nf
 refine ⟨I.ok, I.os, I.bare, ⟨fun b o q n hb hx => a.st b o (bn.kp b o q n hb hx), fun b o q n hb hx => ?_, I.base.free, fun b o q hx => ?_, I.base.dG, I.base.cE, I.base.ee⟩,
  ⟨m, El u hn, fun i x v e1 e2 e3 => let ⟨w, r, k⟩ := lk i x v e1 e2 e3; ⟨w, r, zo u k⟩⟩, fun x c e => let ⟨v, k⟩ := I.cell x c e; ⟨v, s_ u k⟩, I.free, I.bK, fun p hp => ?_, ok.kept a.st, I.len⟩
 ·obtain ⟨sl, z⟩ := I.base.slot b o q n hb hx
  obtain ⟨sl2, z2⟩ := up b _ hb z
  exact ⟨sl2, z2⟩
 ·by_cases hb : b ∈ X.fs
  ·obtain ⟨o', z⟩ := I.base.there b o q hx
   obtain ⟨sl2, z2⟩ := up b _ hb z
   exact ⟨_, z2⟩
  ·obtain ⟨o', z⟩ := bn.th b o q hb hx
   exact ⟨o', a.st b o' z⟩
 ·have hp' : p ∈ X.pn := by simpa using hp
  exact ⟨a.st _ _ (pn p hp'), (I.pin p (List.mem_append_left _ hp')).2⟩
theorem cQ.qi {P : Program} {w : World} {h : Heap} {a : Addr} {o : HO} (x : cQ P w H h) (hn : H a = none) (new : aL P w (upd H a o) h a o) : cQ P w (upd H a o) h := fun b u e => by
 by_cases hb : b = a
 ·subst hb; rw [aI] at e; cases e; exact new
 ·rw [aE hb] at e
  exact (x b u e).iW (fun c v _ q => q) (fun c q => by rw [aE (aJ q hn)]; exact q) fun c xs q => by rw [aE (aJ q hn)]; exact q
theorem Inv.qi {ea : Addr} {u : HO} (I : Inv X pins σ H s) (hn : H ea = none) (h0 : X.s₀.heap.get? ea = none) (hl : ea ≠ X.env.locals) (hc : ∀ x c, X.env.cells.lookup x = some c -> c ≠ ea) (hp : ∀ p ∈ X.pn ++ pins, p.1 ≠ ea) (new : aL X.prog X.w (upd H ea u) s.heap ea u) : Inv X pins σ (upd H ea u) s := by
 have ne : ∀ b v, H b = some v -> b ≠ ea := fun b v q => aJ q hn
 refine ⟨I.ok, I.os, I.bare, ⟨I.base.keep, I.base.slot, fun b o q n hx => ?_, I.base.there, fun b xs q => ?_, fun b o v q => ?_, fun b ps q => ?_⟩, I.loc, I.cell, by rw [aE (Ne.symm hl)]; exact I.free, fun x c e => by rw [aE (hc x c e)]; exact I.bK x c e, fun p hp' => ?_, I.ah.qi hn new, I.len⟩
 ·rw [aE (fun z => by rw [z, h0] at q; cases q)]
  exact I.base.free b o q n hx
 ·have z := I.base.dG b xs q
  rw [aE (ne _ _ z)]; exact z
 ·have z := I.base.cE b o v q
  rw [aE (ne _ _ z)]; exact z
 ·obtain ⟨more, z⟩ := I.base.ee b ps q
  exact ⟨more, by rw [aE (ne _ _ z)]; exact z⟩
 ·obtain ⟨y1, y2, y3⟩ := I.pin p hp'
  exact ⟨y1, by rw [aE (hp p hp')]; exact y2, y3⟩
theorem Inv.EE {i : Nat} {n : Str} {pos : Pos} {M : Model} {A : Around} {Q : Unit -> Shared -> Prop} (I : Inv X pins σ H s) (hN : X.N.Nodup) (hi : X.N[i]? = some n) (hl : X.env.kindOf n = some .local) (h : ∀ s', Inv X pins (σ.set i none) H s' -> Q () s') : wpAny M A (do bindName X.env n .none; unbindBehindTheSuite X.env n pos) Q E s := by
 obtain ⟨m, hn, lk⟩ := I.loc
 refine wpAny_nameGoes_keeps hl hn (by rw [I.ok.kind]; rfl) fun h' v hn' sb => h _ ?_
 have vv := I.vv
 have ho := hn
 obtain ⟨o, es, ep, go, gd, _⟩ := ho
 have keep : ∀ b ob, b ≠ X.env.locals -> s.heap.get? b = some ob -> h'.get? b = some ob := fun b ob nb q => (sb.2 b nb).trans q
 obtain ⟨o', es', ep', go', _⟩ := id hn'
 have above := I.ok.above
 refine ⟨I.ok, I.os, I.bare, ⟨fun b ob q nb hb hx => ?_, fun b ob q nb hb hx => ?_, I.base.free, fun b ob q hx => ?_, I.base.dG, I.base.cE, I.base.ee⟩, ⟨_, hn', fun j x w e1 e2 e3 => ?_⟩, fun x c e => ?_, I.free, I.bK, fun p hp => ?_, fun b u q => ?_, by rw [List.length_set]; exact I.len⟩
 ·exact keep b ob (fun z => by have y := Heap.lt_size q; rw [z] at y; exact absurd above (Nat.not_le.mpr y)) (I.base.keep b ob q nb hb hx)
 ·obtain ⟨sl, z⟩ := I.base.slot b ob q nb hb hx
  exact ⟨sl, keep b _ (fun y => by have y2 := Heap.lt_size q; rw [y] at y2; exact absurd above (Nat.not_le.mpr y2)) z⟩
 ·obtain ⟨o2, z⟩ := I.base.there b ob q hx
  exact ⟨o2, keep b _ (fun y => by have y2 := Heap.lt_size q; rw [y] at y2; exact absurd above (Nat.not_le.mpr y2)) z⟩
 ·rw [List.getElem?_set] at e2
  split at e2
  ·split at e2 <;> cases e2
  ·rename_i ji
   obtain ⟨w', r, k⟩ := lk j x w e1 e2 e3
   have xn : x ≠ n := fun z => ji (by
    subst z
    exact (List.getElem?_inj (List.getElem?_eq_some_iff.mp hi).1 hN).mp (hi.trans e1.symm))
   refine ⟨w', r, ?_⟩
   rcases k with ⟨k1, k2⟩ | ⟨k1, c, k2, k3⟩
   ·exact .inl ⟨k1, by show (if x = n then v else m x) = _; rw [if_neg xn]; exact k2⟩
   ·exact .inr ⟨k1, c, k2, k3.sameBut sb (vv x c k2)⟩
 ·obtain ⟨v, k⟩ := I.cell x c e
  exact ⟨v, k.sameBut sb (vv x c e)⟩
 ·obtain ⟨y1, y2, y3, y4⟩ := I.pin p hp
  exact ⟨keep _ _ y3 y1, y2, y3, y4⟩
 ·refine (I.ah b u q).iW (fun c w hc z => keep c w (fun y => ?_) z) (fun _ z => z) fun _ _ z => z
  rcases hc with rfl | hc
  ·rw [y, I.free] at q; cases q
  ·rw [y, I.free] at hc; cases hc
end
theorem zM {prog : Program} {w : World} {A : Around} {E : Value -> Shared -> Prop} {K : PySem.W.Frag} {e C Cx : Addr} {oe : Obj} {Q : Bool -> Shared -> Prop} {s : Shared} (X : K.In s.heap) (hk : PySem.W.kitCls K (.ref C) (.ref Cx) = some true) (hb : PySem.W.mroIn K Cx (.type "BaseException") = some true)
  (he : s.heap.get? e = some oe) (hc : oe.cls = .ref C) (hq : Q true s) : wpAny (model prog w) A (excMatches (.ref e) (.ref Cx)) Q E s := by
 obtain ⟨h, g, d, tk, os⟩ := s
 obtain ⟨LY, LT, LS⟩ := PySem.W.kit_cls (M := model prog w) X hk
 have LB := PySem.W.looks_mroIn (M := model prog w) X hb
 have LE : PySem.W.Looks (model prog w) h (typeOf (.ref e)) (.ref C) := hc ▸ (PySem.W.Looks.ld he).andThen .now
 have LI : PySem.W.Looks (model prog w) h (isInstance (.ref Cx) (.type "tuple")) false := LY.andThen (.of_pure tc_notTuple)
 unfold excMatches
 repeat (first | with_reducible refine LI.at ?_ | with_reducible refine LT.at ?_ | with_reducible refine LB.at ?_ | with_reducible refine LE.at ?_ | with_reducible refine LS.at ?_ | wp_step)
 exact hq
end L2
namespace DC
open PySem PySem.Spec PyProof.Rows L2
def endsF (K : PySem.W.Frag) (D : Ends) : ia := ⟨fun δ => ∀ σ H', aw K H' σ δ -> D.nx σ H', fun d => ∀ v H', Dv K H' v d -> D.rt v H', fun δ => ∀ σ H', aw K H' σ δ -> D.bk σ H', fun δ => ∀ σ H', aw K H' σ δ -> D.ct σ H'⟩
theorem pX {K : PySem.W.Frag} {H : Hp} {D : Ends} : ia.Le (endsF K D) (gF K H D) := ⟨fun δ q σ H' _ r => q σ H' r, fun d q v H' _ dv => q v H' dv, fun δ q σ H' _ r => q σ H' r, fun δ q σ H' _ r => q σ H' r⟩
def oF (K : PySem.W.Frag) (t : eB) : TS := fun D σ H => ∃ δ, aw K H σ δ /\ t (endsF K D) δ
structure G_ (X : Cx) (st : Stmt) (t : eB) : Prop where
 ps : PS X st (oF X.K t)
 mono : mQ t
structure Dt (X : Cx) (st : List Stmt) (t : eB) : Prop where
 ps : gi X st (oF X.K t)
 mono : mQ t
section
variable {X : Cx} {st : Stmt} {rest : List Stmt} {t u : eB}
theorem B5 (h : f7 X rest t) : Dt X rest t := ⟨gi.imp h.ps fun D σ H ⟨δ, r, q⟩ => ⟨δ, r, h.mono _ _ _ pX q⟩, h.mono⟩
theorem zP (h1 : G_ X st t) (h2 : Dt X rest u) : Dt X (st :: rest) (C_ t u) :=
 ⟨gi.imp (dz h1.ps h2.ps) fun D σ H ⟨δ, r, q⟩ => ⟨δ, r, h1.mono { endsF X.K D with nx := u (endsF X.K D) } _ _ ⟨fun δ' q σ' H' r' => ⟨δ', r', q⟩, fun _ q => q, fun _ q => q, fun _ q => q⟩ q⟩,
  fun E E' δ l q => h1.mono { E with nx := u E } _ _ ⟨fun δ' q => h2.mono _ _ _ l q, l.rt, l.bk, l.ct⟩ q⟩
theorem aw.unset {K : PySem.W.Frag} {H : Hp} {σ : L2.St} {δ : SD} {i : Nat} (r : aw K H σ δ) : aw K H (σ.set i none) (δ.set i none) := by
 refine ⟨by rw [List.length_set, List.length_set]; exact r.len, fun j d h => ?_⟩
 rw [List.getElem?_set] at h ⊢
 split at h
 ·split at h <;> cases h
 ·rename_i n
  rw [if_neg n]
  exact r.get j d h
def Ga (i : Nat) (hit : Addr -> Prop) (tb : (SD -> XR) -> eB) (th : Addr -> eB) : eB := fun E δ => ∃ xk : SD -> XR, (∀ δ' C gs, xk δ' C gs -> hit C /\ ∀ a, th a { nx := fun δ'' => E.nx (δ''.set i none), rt := E.rt } (δ'.set i (some (.exc a C gs)))) /\ tb xk E δ
theorem B6 {i : Nat} {n cx : Str} {cp hp pos : Pos} {b₀ : Stmt} {suite body : List Stmt} {Cx : Addr} {tb : (SD -> XR) -> eB} {th : Addr -> eB} {hit : Addr -> Prop} (hst : X.stack = X.env :: X.outer) (hfr : X.env.frame = some X.env.locals) (hex : X.ex = []) (hN : X.N.Nodup) (hi : X.N[i]? = some n) (hl : X.env.scope.names.lookup n = some .local)
  (hg : Gl X cx) (hm : X.mg cx = some (.ref Cx)) (hhit : ∀ C, hit C -> PySem.W.kitCls X.K (.ref C) (.ref Cx) = some true) (hbe : PySem.W.mroIn X.K Cx (.type "BaseException") = some true)
  (hb : ∀ pins E' xk, fN (X.lQ pins E') xk -> f7 (X.lQ pins E') body (tb xk)) (hs : ∀ ea, f7 (X.rK (X.A.mark (some (.ref ea)))) (b₀ :: suite) (th ea)) (hd : (cx == ("__debug__" : Str)) = false := by decide) :
  G_ X (.Try body [.ExceptHandler (some (.Name cx cp)) (some n) (b₀ :: suite) hp] [] [] pos) (Ga i hit tb th) := by
 refine ⟨fun pins s σ H D I ⟨δ, r, xk, himp, hq⟩ => ?_, fun E E' δ l ⟨xk, h1, h2⟩ => ⟨xk, fun δ' C gs q => ⟨(h1 δ' C gs q).1, fun a => (hs a).mono { nx := fun δ'' => E.nx (δ''.set i none), rt := E.rt } _ _ ⟨fun _ z => l.nx _ z, l.rt, fun _ z => z, fun _ z => z⟩ ((h1 δ' C gs q).2 a)⟩,
  (hb [] (fun _ _ => True) xk (fun _ _ _ _ _ _ _ _ _ _ _ _ _ _ _ _ => True.intro)).mono _ _ _ l h2⟩⟩
 refine wpAny_Try_except ?_
 have hx : fN (X.lQ pins (fun e s₁ => wpAny (model X.prog X.w) X.A (noteFrame e X.env) (fun _ s₂ => wpAny (model X.prog X.w) X.A (setFlight e none) (fun _ s₃ => wpAny (model X.prog X.w) X.A (handleBy e X.env [.ExceptHandler (some (.Name cx cp)) (some n) (b₀ :: suite) hp]) (SP X pins D) X.xe s₃) X.xe s₂) X.xe s₁)) xk := by
  intro l σ1 δ1 H1 s1 ea C dx fs gs I1 r1 ⟨B, fl, a, ok, bn, x, pn⟩ xd df k
  obtain ⟨hitC, hth⟩ := himp δ1 C gs k
  have a0 : pI B (X.env :: X.outer) ea s1.heap := hst ▸ (show pI B X.stack ea s1.heap from a)
  refine ri (env := X.env) (outer := X.outer) (L := X.env.locals) (by rw [<- hst]; exact I.ok.frames) hfr a0 x fun h2 a2 u2 x2 => ?_
  refine iy (s := { s1 with heap := h2 }) (f := none) a2 x2 fun h3 a3 u3 x3 => ?_
  have I3 : Inv X pins σ1 H1 { s1 with heap := h3 } := (I1.HB (u2.trans u3) (hst ▸ a3) ok bn pn).g0
  have he3 := x3
  obtain ⟨oe, vs, he, hc, _⟩ := he3
  have I3h := I3.rK (A := X.A.mark (some (.ref ea))) rfl
  refine wpAny_handleBy_cons (codeAny_handlers_test (gw I3h hg hm ?_ hd)) (by intro q; cases q)
  refine zM I3.iQ (hhit C hitC) hbe he hc ?_
  refine codeAny_handlers_suite_as (iy (s := { s1 with heap := h3 }) (f := none) a3 x3 fun h4 a4 u4 x4 => ?_)
  have I4 := I1.HB (h1 := h4) (u2.trans (u3.trans u4)) (hst ▸ a4) ok bn pn
  obtain ⟨oe, vs, he, hc, hdx, hdv, hz, hy, _⟩ := x4
  have hn : H1 ea = none := by
   cases q : H1 ea with
   | none => rfl
   | some u =>
    obtain ⟨o, z⟩ := (ok ea u q).there
    rw [a.ne] at z
    cases z
  have h0 : X.s₀.heap.get? ea = none := by
   cases q : X.s₀.heap.get? ea with
   | none => rfl
   | some o =>
    by_cases hb' : ea ∈ X.fs
    ·obtain ⟨_, o', q', nf⟩ := I4.e_.mem hb'
     have q2 : h4.get? ea = some o' := q'
     rw [he] at q2
     cases q2
     exact absurd hdv (nf vs)
    ·obtain ⟨o', z⟩ := bn.th ea o q hb' (by show ea ∉ X.ex; rw [hex]; simp)
     rw [a.ne] at z
     cases z
  have hlo : ea ≠ X.env.locals := fun z => by
   obtain ⟨m, ⟨o, es, ep, go, gd, _⟩, _⟩ := I4.loc
   have go2 : h4.get? X.env.locals = some o := go
   rw [<- z, he] at go2
   cases go2
   rw [hdv] at gd
   cases gd
  have hce : ∀ x c, X.env.cells.lookup x = some c -> c ≠ ea := fun x c e z => by
   obtain ⟨v, o, go, gd⟩ := I4.cell x c e
   have go2 : h4.get? c = some o := go
   rw [z, he] at go2
   cases go2
   rw [hdv] at gd
   cases gd
  have hpn : ∀ p ∈ X.pn ++ pins, p.1 ≠ ea := fun p hp z => by
   have y := pn p hp
   rw [z, a.ne] at y
   cases y
  have new : aL X.prog X.w (upd H1 ea (je ea C dx)) h4 ea (je ea C dx) := by
   unfold je
   exact ⟨⟨oe, vs, he, hc, hdx, hdv, hy⟩, ⟨oe, he⟩, fun g1 g2 ⟨oe', vs', e1, rr⟩ kk => ⟨oe', vs', kk _ e1, rr⟩⟩
  have I5 : Inv X pins σ1 (upd H1 ea (je ea C dx)) { s1 with heap := h4 } := (I4.qi hn h0 hlo hce (fun p hp => hpn p (by simpa using hp)) new).g0
  have sm : aK H1 (upd H1 ea (je ea C dx)) := aS hn
  have dv : Dv X.K (upd H1 ea (je ea C dx)) (.ref ea) (.exc ea C gs) := .exc (.of aI) (xd.same sm) (dH.same sm df)
  have I5h := I5.rK (A := X.A.mark (some (.ref ea))) rfl
  refine lX (X := X.rK (X.A.mark (some (.ref ea)))) (v := .ref ea) I5h hN hi (.inl hl) rfl (fun s6 I6 => ?_) (.inr hl)
  have r6 := (aw.same r1 sm).set i dv
  refine wpAny_mono ((hs ea).ps pins s6 _ _ { nx := fun σ'' H'' => D.nx (σ''.set i none) H'', rt := D.rt } I6 ⟨_, r6, (hs ea).mono { nx := fun δ'' => (endsF X.K D).nx (δ''.set i none), rt := (endsF X.K D).rt } _ _ ⟨fun δ'' q σ'' H'' _ r'' => q _ _ r''.unset, fun d q v H'' _ dv => q v H'' dv, fun _ q => q.elim, fun _ q => q.elim⟩ (hth ea)⟩) (fun f s7 h7 => ?_) fun _ _ z => z.elim
  cases f with
  | next =>
   obtain ⟨σ', H', I', q⟩ := h7
   exact (I'.yS I.ok).EE hN hi hl fun s8 I8 => ⟨_, H', I8, q⟩
  | ret w =>
   obtain ⟨v, σ', H', I', rv, q⟩ := h7
   exact (I'.yS I.ok).EE hN hi hl fun s8 I8 => ⟨v, _, H', I8, rv, q⟩
  | brk =>
   obtain ⟨σ', H', I', q⟩ := h7
   exact q.elim
  | cont =>
   obtain ⟨σ', H', I', q⟩ := h7
   exact q.elim
 have B := hb pins _ xk hx
 refine wpAny_mono (B.ps [] s σ H D I.lQ ⟨δ, r, B.mono _ _ _ pX hq⟩) (fun f s1 h1 => ?_) fun e s1 h => h
 cases f with
 | next =>
  obtain ⟨σ', H', I', q⟩ := h1
  exact wpAny_execs_nil ⟨σ', H', I'.g0, q⟩
 | ret w =>
  obtain ⟨v, σ', H', I', rv, q⟩ := h1
  exact ⟨v, σ', H', I'.g0, rv, q⟩
 | brk =>
  obtain ⟨σ', H', I', q⟩ := h1
  exact ⟨σ', H', I'.g0, q⟩
 | cont =>
  obtain ⟨σ', H', I', q⟩ := h1
  exact ⟨σ', H', I'.g0, q⟩
end
end DC
namespace L2
open PySem PySem.Spec PyProof.Rows
section
variable {X : Cx} {k : Nat} {f : Addr} {fd : FuncData} {ps : List Str} {sp : Sp}
end
end L2
namespace DC
open PySem PySem.Spec PyProof.Rows L2
section
variable {P : Program} {w : World} {K : PySem.W.Frag} {mg : Str -> Option Value} {base : Heap}
theorem GU {x qual : Str} {st : Stmt} {f : Addr} {fd : FuncData} {N ps : List Str} {k : Nat} {sx : kU} {t : XR -> eB} (F : lz K x qual st f fd) (S : aG N ps (aC st)) (len : ∀ ds Q R, sx ds Q R -> ds.length = ps.length)
  (hb : ∀ (cdv : Value) (A : Around) (outer : List Env) (s : Shared) (H : Hp) (E : XK) (R : XR), ao k (A.deeper (envOfC qual (aC st) s.heap.objs.size f cdv)) -> fN (qo P w K mg base N qual st f cdv A outer s H E) (fun _ => R) -> Dt (qo P w K mg base N qual st f cdv A outer s H E) (aY st) (t R))
  (hr : ∀ ds Q R, sx ds Q R -> t R { nx := fun _ => Q .aV, rt := Q } (bB N ds)) : bR P w K mg base (mJ P w) (k + 1) f fd ps (Aq K sx) := by
 obtain ⟨oc, od, dV, kV, doc, pm, an, cdv, ct, osl, rfl, lk, hcd⟩ := F.ex
 refine pd lk hcd S (fun vs H Q E ⟨ds, dvs, h⟩ => by rw [dvs.length]; exact len ds _ _ h) fun A outer s H vs Q E hroom ⟨ds, dvs, h⟩ => ?_
 have B := hb cdv A outer s H E (kX K E) hroom vd
 refine ⟨_, B.ps, bB N ds, dY dvs, ?_⟩
 let Q' : D -> Prop := fun d => ∀ v H', Dv K H' v d -> Q v H'
 exact B.mono { nx := fun _ => Q' .aV, rt := Q' } _ _ ⟨fun δ q σ H' r => q _ H' .aV, fun d q v H' dv => q v H' dv, fun _ q => q.elim, fun _ q => q.elim⟩ (hr ds _ _ h)
theorem Df.D0 {k : Nat} {x : Str} {st : Stmt} {ps N : List Str} {sx : kU} {t : XR -> eB} (d : Df K mg x st ps) (S : aG N ps (aC st)) (ms : fk sx) (len : ∀ ds Q R, sx ds Q R -> ds.length = ps.length)
  (hb : ∀ (f : Addr) (cdv : Value) (A : Around) (outer : List Env) (s : Shared) (H : Hp) (E : XK) (R : XR), ao k (A.deeper (envOfC x (aC st) s.heap.objs.size f cdv)) -> fN (qo P w K mg base N x st f cdv A outer s H E) (fun _ => R) -> Dt (qo P w K mg base N x st f cdv A outer s H E) (aY st) (t R))
  (hr : ∀ ds Q R, sx ds Q R -> t R { nx := fun _ => Q .aV, rt := Q } (bB N ds)) : kn P w K mg base (k + 1) x ps sx := by
 obtain ⟨f, fd, F, m, b⟩ := d.ex
 exact ⟨⟨f, fd, GU (tQ F) S len (hb f) hr, m, F.kp, b⟩, ms⟩
end
section
variable {X : Cx} {e : Expr} {es : List Expr} {t : AD} {pos p : Pos} {x : Str} {j k : Nat} {ps : List Str} {sd : cg} {ea : Addr}
end
end DC
namespace L2
open PySem PySem.Spec PyProof.Rows
section
variable {prog : Program} {w : World} {A : Around} {E : Value -> Shared -> Prop} {s : Shared}
end
structure eP (K : PySem.W.Frag) (C : Addr) : Prop where
 ga : PySem.W.findIn K (.ref C) "__getattribute__" = some (some (.builtin "BaseException.__getattribute__"))
 na : PySem.W.findIn K (.ref C) "__getattr__" = some none
 be : PySem.W.mroIn K C (.type "BaseException") = some true
section
variable {prog : Program} {w : World} {A : Around} {E : Value -> Shared -> Prop} {s : Shared} {K : PySem.W.Frag} {x C : Addr} {ox : Obj} {od : Option Obj} {name : Str} {tk : Tok}
theorem vt {Q : Unit -> Shared -> Prop} {nv : Value} (X : K.In s.heap) (I : PySem.W.InstAt s.heap x ox C od) (g : eP K C) (hq : Q () s) : wpAny (model prog w) A (checkBuiltinCall "BaseException.__getattribute__" ⟨[.ref x, nv], []⟩) Q E s := by
 have hk : builtinKind "BaseException.__getattribute__" = some .slot := by decide +kernel
 have hsplit : splitId "BaseException.__getattribute__" = some ("BaseException", "__getattribute__") := by decide +kernel
 have ha := PySem.F.args_bexc_ga (.ref x) nv
 have L0 := I.type (M := model prog w)
 have L1 := PySem.W.looks_mroIn (M := model prog w) X g.be
 simp only [checkBuiltinCall, hk, hsplit]
 unfold isInstance
 refine wpAny_bind (wpAny_bind (L0.at (L1.at ?_)))
 unfold argsOk at ha
 simp only [Bool.not_true, Bool.false_eq_true, if_false]
 generalize Manifest.signature? "BaseException.__getattribute__" = o at ha ⊢
 cases o with
 | none => exact wpAny_pure hq
 | some sig =>
  have ha' : Bind.checkArgs "BaseException.__getattribute__" sig { pos := [Value.ref x, nv] } = pure () := ha
  show wpAny _ _ (Bind.checkArgs "BaseException.__getattribute__" sig { pos := [Value.ref x, nv] }) _ _ _
  rw [ha']
  exact wpAny_pure hq
theorem xY {fin : Fin -> Shared -> Prop} {v : Value} (X : K.In s.heap) (I : PySem.W.InstAt s.heap x ox C od) (hf : PySem.W.findObj K C od name = some (.value v)) (h : fin (.done (.ret v)) s) : wpAny (model prog w) A (Builtin.«object.__getattribute__» ⟨[.ref x, .str name tk], []⟩) fin E s := by
 have L0 := I.type (M := model prog w)
 have L1 := PySem.W.looks_find (M := model prog w) X I hf
 refine wpAny_bind (wpAny_pure (wpAny_bind (wpAny_pure (wpAny_bind (L0.at (wpAny_bind (L1.at (wpAny_pure h))))))))
theorem xX {fin : Fin -> Shared -> Prop} {g a : Value} (X : K.In s.heap) (I : PySem.W.InstAt s.heap x ox C od) (hf : PySem.W.findObj K C od name = some (.bind g a)) (h : wpAny (model prog w) A (call g [a, .ref x, .ref C]) (fun v s' => fin (.done (.ret v)) s') E s) : wpAny (model prog w) A (Builtin.«object.__getattribute__» ⟨[.ref x, .str name tk], []⟩) fin E s := by
 have L0 := I.type (M := model prog w)
 have L1 := PySem.W.looks_find (M := model prog w) X I hf
 refine wpAny_bind (wpAny_pure (wpAny_bind (wpAny_pure (wpAny_bind (L0.at (wpAny_bind (L1.at ?_)))))))
 show wpAny _ _ (holding [a] (call g [a, .ref x, .ref C]) >>= ret) _ _ _
 exact wpAny_bind (wpAny_holding (wpAny_mono h (fun v s' z => wpAny_pure z) fun _ _ z => z))
theorem vj {fill expr : Bool} {Q : Value -> Shared -> Prop} (X : K.In s.heap) (I : PySem.W.InstAt s.heap x ox C od) (g : eP K C)
  (h : wpAny (model prog w) A.in1 (Builtin.«object.__getattribute__» ⟨[.ref x, .str name tk], []⟩) (fun fin s' => match fin with | .done (.ret v) => wpAny (model prog w) A (handedOut v) Q E s' | _ => False) (fun _ _ => False) s) :
  wpAny (model prog w) A (getAttrBy (.ref x) (.str name tk) fill expr) Q E s := by
 have L0 := I.type (M := model prog w)
 have L1 := PySem.W.looks_findIn (M := model prog w) X g.ga
 have L2 := PySem.W.looks_findIn (M := model prog w) X g.na
 have f3 := PySem.F.attr_ValueError.ga.bind (.ref x)
 have hx0 : (expr && onTheHeap (Value.builtin "BaseException.__getattribute__")) = false := by cases expr <;> rfl
 have hx2 : (Value.builtin "BaseException.__getattribute__" == Value.builtin "object.__getattribute__") = false := by decide +kernel
 have hx1 : (onTheHeap (Value.ref C) && Value.builtin "BaseException.__getattribute__" == Value.builtin "object.__getattribute__") = false := by rw [hx2]; rfl
 unfold getAttrBy
 refine wpAny_holding (wpAny_bind (L0.at (wpAny_bind (L1.at ?_))))
 simp only [hx1]
 show wpAny _ _ (getAttrByItsOwn (.ref x) (.str name tk) (.ref C) (.builtin "BaseException.__getattribute__") fill expr) _ _ _
 unfold getAttrByItsOwn hookBefore
 refine wpAny_bind (L2.at (wpAny_bind (wpAny_attempt (wpAny_holding ?_))))
 unfold callGetattribute
 rw [hx0]
 show wpAny _ _ (boundAndCalled _ _ _) _ _ _
 unfold boundAndCalled
 rw [f3]
 refine wpAny_bind (wpAny_pure (wpAny_call (codeAny_call_builtin PySem.F.attr_ValueError.ga.plain PySem.F.entry_bexc_ga (vt X I g (wpAny_mono h (fun fin s' z => ?_) fun _ _ z => z.elim)))))
 rcases fin with (_ | _ | _ | _) | _ <;> first | exact z | exact z.elim
theorem zQ {expr : Bool} {Q : Value -> Shared -> Prop} {v : Value} (X : K.In s.heap) (I : PySem.W.InstAt s.heap x ox C od) (g : eP K C) (hf : PySem.W.findObj K C od name = some (.value v)) (hh : PySem.W.handedIn v = true) (h : Q v { s with toks := s.toks + 1 }) : wpAny (model prog w) A (getAttr (.ref x) name expr) Q E s := by
 obtain ⟨hp, gg, d, t, os⟩ := s
 unfold getAttr
 exact wpAny_bind (wpAny_mkText (vj (s := ⟨hp, gg, d, t + 1, os⟩) X I g (xY (s := ⟨hp, gg, d, t + 1, os⟩) X I hf (PySem.W.handed_on hh h))))
theorem yy {Q : Option Value -> Shared -> Prop} (X : K.In s.heap) (I : PySem.W.InstAt s.heap x ox C od) (g : eP K C) (hf : PySem.W.findObj K C od "__class__" = some (.bind (.builtin "getset_descriptor.__get__") (.builtin "object.__class__"))) (hm : PySem.W.mroIn K C (.type "object") = some true) (h : Q (some (.ref C)) { s with toks := s.toks + 1 }) : wpAny (model prog w) A (getAttr? (.ref x) "__class__") Q E s := by
 obtain ⟨hp, gg, d, t, os⟩ := s
 unfold getAttr? getAttrBy?
 refine wpAny_bind (wpAny_mkText (wpAny_bind (wpAny_attempt (vj (s := ⟨hp, gg, d, t + 1, os⟩) X I g (xX (s := ⟨hp, gg, d, t + 1, os⟩) X I hf (wpAny_call (PySem.W.class_get (s := ⟨hp, gg, d, t + 1, os⟩) (ox := ox) (od := od) X I hm ?_)))))))
 exact PySem.W.handed_on rfl (wpAny_pure h)
end
structure gB (K : PySem.W.Frag) (C : Addr) : Prop where
 pg : eP K C
 cl : (PySem.W.clsIn K C).isSome = true
 ha : PySem.W.findIn K (.ref C) "__class__" = some (some (.builtin "object.__class__"))
 hn : PySem.W.specialIn K (.builtin "object.__class__") "__get__" = some (some (.builtin "getset_descriptor.__get__"))
 F1 : PySem.W.takesIn K (.builtin "object.__class__") = some true
 hm : PySem.W.mroIn K C (.type "object") = some true
theorem gB.look {K : PySem.W.Frag} {C : Addr} (t : gB K C) : ∃ c d cd sl, K.lookup C = some ⟨c, d, .cls cd, sl⟩ := by
 obtain ⟨cd, a⟩ := Option.isSome_iff_exists.mp t.cl
 unfold PySem.W.clsIn at a
 split at a
 ·exact ⟨_, _, _, _, by assumption⟩
 ·cases a
theorem qG {K : PySem.W.Frag} {x C : Addr} {ox : Obj} {od : Option Obj} (t : gB K C) : PySem.W.KitX K (.ref x) (.ref C) (fun h => PySem.W.InstAt h x ox C od) where
 ty := fun _ _ _ I => I.type
 it := fun _ _ X _ A' Q' E' s' k q => by
  obtain ⟨c, d, cd, sl, ho⟩ := t.look
  unfold isType loadHead; exact wpAny_bind (wpAny_loadPart (k _ _ (X _ _ ho)) (wpAny_pure q))
 ne := fun h tp dd its n sl X htp => by
  obtain ⟨c, d, cd, sl', ho⟩ := t.look
  refine Bool.eq_false_iff.mpr fun q => ?_
  rw [<- Value.ref.inj (beq_iff_eq.mp q), X _ _ ho] at htp
  cases htp
 ca := fun {prog w A E Q s} X I k => by
  obtain ⟨cd, hcd⟩ := Option.isSome_iff_exists.mp t.cl
  have hf : PySem.W.findObj K C od "__class__" = some (.bind (.builtin "getset_descriptor.__get__") (.builtin "object.__class__")) := by
   unfold PySem.W.findObj; rw [hcd, Option.bind_some, t.ha, Option.bind_some]; simp [t.hn, t.F1]
  exact yy X I t.pg hf t.hm k
theorem pb {P : Program} {w : World} {H : Hp} {h : Heap} {a C : Addr} {dx : Option Addr} {fs : List (Str × V)} (ok : cQ P w H h) (r : Rd H a (DC.je a C dx)) (xd : DC.dg H dx fs) : ∃ ox od, PySem.W.InstAt h a ox C od := by
 obtain ⟨⟨oe, vs, e1, hc, hdx, hd, _⟩, _⟩ := (show aL P w H h a (DC.je a C dx) from r.ok ok)
 cases dx with
 | none => exact ⟨oe, none, e1, hc, by unfold PySem.W.notCls; rw [hd], by rw [hdx]; exact True.intro⟩
 | some d =>
  obtain ⟨⟨mA, ⟨od, es, ep, e, c⟩, rr⟩, _⟩ := (show aL P w H h d (DC.mR d fs) from Rd.ok xd ok)
  exact ⟨oe, some od, e1, hc, by unfold PySem.W.notCls; rw [hd], by rw [hdx]; exact e⟩
section
variable {X : Cx}
end
end L2
namespace DC
open PySem PySem.Spec PyProof.Rows L2
section
variable {X : Cx} {o e : Expr} {es : List Expr} {te to : ED} {t : AD} {pos p p2 apos cpos : Pos}
theorem mY {c : Value} {vc : V} (rc : ∀ u, RelV vc u -> u = c) : g_ X (.builtin "isinstance") (fun xs H Q => ∃ x a C gs b, xs = [x, vc] /\ Dv X.K H x (.exc a C gs) /\ gB X.K C /\ PySem.W.kitOne X.K (.ref C) c = some b /\ Q (.bl b) H) := by
 intro pins s σ H xs us Q I r h
 obtain ⟨x, a, C, gs, b, rfl, dv, ty, e, q⟩ := h
 obtain ⟨u, w', rfl, r1, r2⟩ := vals2 r
 obtain rfl := rc w' r2
 cases dv with
 | exc h1 h2 h3 =>
  cases (show u = Value.ref a from r1)
  obtain ⟨ox, od, J⟩ := pb I.ah h1 h2
  exact PySem.W.kia_one (qG (ox := ox) (od := od) ty) I.iQ J e (fun z => nomatch z) fun tk => ⟨.bl b, H, I.tok _, rfl, q⟩
def yW (K : PySem.W.Frag) (c : Value) (te : ED) : ED := fun δ Q => te δ fun d => ∃ a C gs b, d = .exc a C gs /\ gB K C /\ PySem.W.kitOne K (.ref C) c = some b /\ Q (.bl b)
theorem md {c : Value} {vc : V} (he : PD X e te) {ec : Expr} (hp : PE X (.Call (.Name "isinstance" p) [e, ec] [] pos) (FE (fun xs H Q => ∃ x a C gs b, xs = [x, vc] /\ Dv X.K H x (.exc a C gs) /\ gB X.K C /\ PySem.W.kitOne X.K (.ref C) c = some b /\ Q (.bl b) H) (nF (oE X.K te) (nF (tC vc) yM)))) :
  PD X (.Call (.Name "isinstance" p) [e, ec] [] pos) (yW X.K c te) :=
 ⟨hp.imp fun σ H Q ⟨δ, r, h⟩ => ⟨δ, r, he.mono _ _ _ (fun d ⟨a, C, gs, b, ed, ty, ek, k⟩ v H1 s1 dv => ⟨v, a, C, gs, b, rfl, ed ▸ dv, ty, ek, k _ H1 s1 (.bl _)⟩) h⟩, fun δ P P' g h => he.mono _ _ _ (fun d ⟨a, C, gs, b, ed, ty, ek, k⟩ => ⟨a, C, gs, b, ed, ty, ek, g _ k⟩) h⟩
theorem zA (K : PySem.W.Frag) (hK : X.K = K) {C : Addr} {x : Str} (he : PD X e te) (hg : Gl X "isinstance") (hm : X.mg "isinstance" = none) (hg2 : Gl X x) (hm2 : X.mg x = some (.ref C)) (hd : (x == ("__debug__" : Str)) = false := by decide)
  (hs : starEach [e, .Name x p2] X.env = (false, eval e X.env) :: starEach [.Name x p2] X.env := by rfl) : PD X (.Call (.Name "isinstance" p) [e, .Name x p2] [] pos) (yW K (.ref C) te) := by
 subst hK
 exact md (vc := .ref C) he (dq (mY fun u z => z) hg hm boot_isinstance (bq he.pe (bq (kl (v := .ref C) hg2 hm2 rfl hd) gO) hs) (he := hs))
theorem zB (K : PySem.W.Frag) (hK : X.K = K) {T : String} {x : Str} (he : PD X e te) (hg : Gl X "isinstance") (hm : X.mg "isinstance" = none) (hg2 : Gl X x) (hm2 : X.mg x = none) (hv2 : bootBuiltins x = some (.type T)) (hn : x ≠ "__name__" := by decide) (hd : (x == ("__debug__" : Str)) = false := by decide)
  (hs : starEach [e, .Name x p2] X.env = (false, eval e X.env) :: starEach [.Name x p2] X.env := by rfl) : PD X (.Call (.Name "isinstance" p) [e, .Name x p2] [] pos) (yW K (.type T) te) := by
 subst hK
 exact md (vc := .ty T) he (dq (mY fun u z => z) hg hm boot_isinstance (bq he.pe (bq (t4 (v := .ty T) hg2 hm2 hv2 rfl hn hd) gO) hs) (he := hs))
end
end DC
namespace L2
open PySem PySem.Spec PyProof.Rows
open Builtin Builtin.ObjectAttr
def dP : List Value -> Bool
 | .ref _ :: r => dP r
 | [.type a, .type b, .type c, .type d] => a == "ValueError" && b == "Exception" && c == "BaseException" && d == "object"
 | _ => false
theorem kj : ∀ {l : List Value}, dP l = true -> ∃ rs : List Addr, l = rs.map Value.ref ++ [.type "ValueError", .type "Exception", .type "BaseException", .type "object"]
 | .ref a :: r, e => by
  obtain ⟨rs, h⟩ := kj (l := r) (by unfold dP at e; exact e)
  exact ⟨a :: rs, by rw [h]; rfl⟩
 | [.type a, .type b, .type c, .type d], e => by
  unfold dP at e
  simp only [Bool.and_eq_true, beq_iff_eq] at e
  obtain ⟨⟨⟨rfl, rfl⟩, rfl⟩, rfl⟩ := e
  exact ⟨[], rfl⟩
theorem r0 (self : Value) {l : List Value} (e : dP l = true) : refuseLoop self "__setattr__" l = pure () := by
 obtain ⟨rs, rfl⟩ := kj e
 induction rs with
 | nil => exact PySem.F.store_ValueError.passes self
 | cons a r ih => rw [List.map_cons, List.cons_append, refuseLoop_ref]; exact ih (by unfold dP at e; exact e)
theorem xV {l : List Value} (e : dP l = true) : l.contains (.type "object") = true := by
 obtain ⟨rs, rfl⟩ := kj e
 simp
structure iI (K : PySem.W.Frag) (C : Addr) : Prop where
 sa : PySem.W.findIn K (.ref C) "__setattr__" = some (some (.builtin "object.__setattr__"))
 ov : ((PySem.W.clsIn K C).any fun cd => dP cd.mro) = true
 hd : PySem.W.hasDictIn K C = true
section
variable {prog : Program} {w : World} {A : Around} {E : Value -> Shared -> Prop} {s : Shared} {K : PySem.W.Frag} {x C : Addr} {R : Result -> Shared -> Prop} {name : Str} {v : Value} {o : Obj}
theorem tu {ox : Obj} {od : Option Obj} {tk : Tok} (X : K.In s.heap) (I : PySem.W.InstAt s.heap x ox C od) (g : iI K C) (na : PySem.W.findIn K (.ref C) name = some none)
  (h : wpAny (model prog w) A.in1 (storeInOwnDict (.ref x) (.ref C) (.str name tk) name v false) (fun fin s' => match fin with | .done f => R (.ok f) s' | .again c' => c'.quiet = true /\ codeAny (model prog w) A c' R s') (fun e s' => R (.error e) s') s) :
  codeAny (model prog w) A (.call (.builtin "object.__setattr__") ⟨[.ref x, .str name tk, v], []⟩) R s := by
 have SF := PySem.F.store_object
 obtain ⟨cd, hc, ho⟩ := PySem.W.any_some g.ov
 have ne : cd.mro.isEmpty = false := by
  obtain ⟨rs, z⟩ := kj ho
  rw [z]; cases rs <;> rfl
 have sub : PySem.W.Looks (model prog w) s.heap (isInstance (.ref x) (.type "object")) true := I.type.andThen (PySem.W.looks_mroIn X (by unfold PySem.W.mroIn; rw [hc, Option.bind_some, if_neg (by rw [ne]; decide), xV ho]))
 refine codeAny_call_builtin SF.slot.plain SF.entry (@PySem.W.check_slot (model prog w) _ _ s "object.__setattr__" "object" "__setattr__" (.ref x) [.str name tk, v] [] _ SF.kind SF.split sub (SF.args (.ref x) (.str name tk) v) ?_)
 have hm : PySem.W.Looks (model prog w) s.heap (mroOf (.ref C)) cd.mro := (PySem.W.looks_clsIn X hc).andThen .now
 rw [PySem.W.osa_eq, refuse_eq]
 refine wpAny_bind (wpAny_bind (I.type.here (wpAny_bind (hm.here ?_))))
 rw [r0 _ ho]
 refine wpAny_pure (wpAny_bind (I.type.here (wpAny_bind ((PySem.W.looks_findIn X na).here (wpAny_bind (wpAny_pure ?_))))))
 exact h
theorem wU {vs : Array Value} {Q : Unit -> Shared -> Prop} (X : K.In s.heap) (g : iI K C) (na : PySem.W.findIn K (.ref C) name = some none) (he : s.heap.get? x = some o) (hc : o.cls = .ref C) (hn : o.dict = none) (hd : o.data = .fields vs)
  (h : ∀ h' tk, h'.get? x = some { o with dict := some s.heap.objs.size } -> h'.Ns1 s.heap.objs.size (fun y => if y = name then some v else none) -> (∀ b ob, b ≠ x -> s.heap.get? b = some ob -> h'.get? b = some ob) -> Q () { s with heap := h', toks := tk }) : wpAny (model prog w) A (setAttr (.ref x) name v) Q E s := by
 have J : PySem.W.InstAt s.heap x o C none := ⟨he, hc, by unfold PySem.W.notCls; rw [hd], by rw [hn]; exact True.intro⟩
 refine PySem.W.set_plain X J g.sa (tu (s := { s with toks := s.toks + 1 }) X J g na ?_)
 obtain ⟨cd, hcd, hd'⟩ := PySem.W.any_some g.hd
 obtain ⟨oc, odi, oda, osl⟩ := o
 cases hc; cases hn; cases hd
 refine wpAny_bind (wpAny_pure (wpAny_bind (wpAny_bind (wpAny_loadPart he (wpAny_bind (PySem.W.Looks.here (s := { s with toks := s.toks + 1 }) (PySem.W.looks_clsIn X hcd) ?_))))))
 rw [hd']
 show wpAny _ _ (do let d <- alloc { cls := .type "dict", data := .dict #[] }; update x (fun o => { o with dict := some d }); dictMade (.ref C) x d) _ _ _
 have xs : x ≠ s.heap.objs.size := Nat.ne_of_lt (Heap.lt_size he)
 have he1 := Heap.get?_push_of_some (h := s.heap) { cls := .type "dict", data := .dict #[] } he
 refine wpAny_bind (wpAny_alloc' (wpAny_bind (wpAny_update' he1 (wpAny_pure ?_))))
 generalize hG : (s.heap.push { cls := .type "dict", data := .dict #[] }).update x (fun o => { o with dict := some s.heap.objs.size }) = G
 have gx : G.get? x = some ⟨.ref C, some s.heap.objs.size, .fields vs, osl⟩ := by rw [<- hG]; exact Heap.get?_update_self _ he1 rfl
 have gd : G.get? s.heap.objs.size = some { cls := .type "dict", data := .dict #[] } := by rw [<- hG]; exact (Heap.get?_update_ne _ _ _ _ (Ne.symm xs)).trans (Heap.get?_push_at rfl rfl)
 have gk : ∀ b ob, b ≠ x -> s.heap.get? b = some ob -> G.get? b = some ob := fun b ob nb q => by rw [<- hG]; exact (Heap.get?_update_ne _ _ _ _ nb).trans (Heap.get?_push_of_some _ q)
 have gn : G.Ns s.heap.objs.size (fun _ => none) := ⟨_, #[], _, gd, rfl, fun e he => absurd he (by simp), fun _ => rfl⟩
 show wpAny _ _ (storeInDict s.heap.objs.size (.str name s.toks) name v) _ _ _
 unfold storeInDict newKeyGuard
 refine wpAny_bind (wpAny_pure (wpAny_bind (wpAny_nsSet1 (Heap.Ns1.of_empty gn) fun h' hn' hs => ?_)))
 obtain ⟨oD, esD, epD, hoD, hdD, hcD⟩ := hn'.count (Within.cons name v Within.nil)
 refine wpAny_bind (wpAny_lookBehind hoD (by rw [hdD]; exact pastItsLine_dict (Nat.le_trans hcD (by rw [List.length_cons, List.length_nil, sizeLine_eq]; omega))) ?_)
 refine wpAny_pure (h h' _ ((hs.2 x xs).trans gx) hn' fun b ob nb q => (hs.2 b (Nat.ne_of_lt (Heap.lt_size q))).trans (gk b ob nb q))
theorem wV {vs : Array Value} {dx : Addr} {ns : List Str} {mA : Str -> Option Value} {Q : Unit -> Shared -> Prop} (X : K.In s.heap) (g : iI K C) (na : PySem.W.findIn K (.ref C) name = some none) (he : s.heap.get? x = some o) (hc : o.cls = .ref C) (hdx : o.dict = some dx) (hd : o.data = .fields vs)
  (hns : s.heap.Ns1 dx mA) (hw : PySem.Within mA ns) (hsz : ns.length < 1000) (h : ∀ h' tk, h'.Ns1 dx (fun y => if y = name then some v else mA y) -> Heap.SameBut dx s.heap h' -> Q () { s with heap := h', toks := tk }) : wpAny (model prog w) A (setAttr (.ref x) name v) Q E s := by
 obtain ⟨od, ho, _⟩ := jn hns
 have J : PySem.W.InstAt s.heap x o C (some od) := ⟨he, hc, by unfold PySem.W.notCls; rw [hd], by rw [hdx]; exact ho⟩
 refine PySem.W.set_plain X J g.sa (tu (s := { s with toks := s.toks + 1 }) X J g na ?_)
 obtain ⟨cd, hcd, hd'⟩ := PySem.W.any_some g.hd
 obtain ⟨oc, odi, oda, osl⟩ := o
 cases hc; cases hdx; cases hd
 refine wpAny_bind (wpAny_pure (wpAny_bind (wpAny_bind (wpAny_loadPart he (wpAny_bind (PySem.W.Looks.here (s := { s with toks := s.toks + 1 }) (PySem.W.looks_clsIn X hcd) ?_))))))
 rw [hd']
 refine wpAny_pure (a := some dx) (wpAny_bind (wpAny_pure (wpAny_bind ?_)))
 refine wpAny_nsSet1 (s := { s with toks := s.toks + 1 }) hns fun h' hn' hs => ?_
 obtain ⟨oD, esD, epD, hoD, hdD, hcD⟩ := hn'.count (Within.cons name v hw)
 refine wpAny_bind (wpAny_lookBehind hoD (by rw [hdD]; exact pastItsLine_dict (Nat.le_trans hcD (by rw [List.length_cons, sizeLine_eq]; omega))) ?_)
 exact wpAny_pure (h h' _ hn' hs)
theorem zL {vs : Array Value} {dx : Addr} {mA : Str -> Option Value} {b : Bool} {Q : Value -> Shared -> Prop} (X : K.In s.heap) (hg : eP K C) (hh : PySem.W.hasDictIn K C = true) (na : PySem.W.findIn K (.ref C) name = some none) (he : s.heap.get? x = some o) (hc : o.cls = .ref C) (hdx : o.dict = some dx) (hd : o.data = .fields vs)
  (hns : s.heap.Ns1 dx mA) (hv : mA name = some v) (hv' : PySem.W.handedIn v = true) (h : Q v { s with toks := s.toks + 1 }) : wpAny (model prog w) A (getAttr (.ref x) name b) Q E s := by
 obtain ⟨od, ho, hl⟩ := jn hns
 have J : PySem.W.InstAt s.heap x o C (some od) := ⟨he, hc, by unfold PySem.W.notCls; rw [hd], by rw [hdx]; exact ho⟩
 exact zQ X J hg (PySem.W.findObj_own hh na rfl (by rw [hl, hv])) hv' h
end
open DC (je mR)
def dO (p : Array Value -> Prop) (a C : Addr) (dx : Option Addr) : HO := .ext fun h => ∃ oe vs, h.get? a = some oe /\ oe.cls = .ref C /\ oe.dict = dx /\ oe.data = .fields vs /\ p vs
def Cs : Array Value -> Prop := fun vs => vs[2]? = some .none /\ 1 < vs.size /\ vs[1]? = some .none
section
variable {X : Cx} {pins : List (Addr × Obj)} {σ : St} {H : Hp} {s : Shared} {a C d : Addr} {f : Str} {v : V} {u : Value} {Q : Unit -> Shared -> Prop} {E : Value -> Shared -> Prop} {A : Around} {fs : List (Str × V)} {p : Array Value -> Prop}
theorem aL.exc {P : Program} {w : World} {H' : Hp} {h : Heap} {dx : Option Addr} {oe : Obj} {vs : Array Value} (he : h.get? a = some oe) (hc : oe.cls = .ref C) (hdx : oe.dict = dx) (hd : oe.data = .fields vs) (hy : p vs) : aL P w H' h a (dO p a C dx) := by
 unfold dO
 exact ⟨⟨oe, vs, he, hc, hdx, hd, hy⟩, ⟨oe, he⟩, fun g1 g2 ⟨oe', vs', e1, rr⟩ kk => ⟨oe', vs', kk _ e1, rr⟩⟩
theorem aL.HP {P : Program} {w : World} {H' : Hp} {h : Heap} {mA : Str -> Option Value} (hn : h.Ns1 d mA) (hr : ∀ f, cz (fs.lookup f) (mA f)) (hw : PySem.Within mA (fs.map (·.1))) : aL P w H' h d (mR d fs) := by
 unfold mR
 refine ⟨⟨mA, hn, hr, hw⟩, let ⟨o, _, _, e, _⟩ := hn; ⟨o, e⟩, fun g1 g2 ⟨mB, hB, r1, r2⟩ kk => ⟨mB, ?_, r1, r2⟩⟩
 exact hB.at fun o q => kk o q
theorem FV (I : Inv X pins σ H s) (e : H a = some (dO p a C none)) (g : iI X.K C) (na : PySem.W.findIn X.K (.ref C) f = some none) (ru : RelV v u)
  (h : ∀ d s', H d = none -> d ≠ a -> Inv X pins σ (upd (upd H a (dO p a C (some d))) d (mR d [(f, v)])) s' -> Q () s') : wpAny (model X.prog X.w) A (setAttr (.ref a) f u) Q E s := by
 obtain ⟨⟨oe, vs, he, hc, hdx, hd, hy⟩, _⟩ := (show aL X.prog X.w H s.heap a (dO p a C none) from I.ah a _ e)
 refine wU I.iQ g na he hc hdx hd fun h' tk gx gn gk => ?_
 have hne : s.heap.objs.size ≠ a := Nat.ne_of_gt (Heap.lt_size he)
 have hn : H s.heap.objs.size = none := I.ah.fresh (Nat.le_refl _)
 have I1 : Inv X pins σ (upd H a (dO p a C (some s.heap.objs.size))) { s with heap := h', toks := tk } :=
  I.write (x := a) (e := a) (by rw [e]; exact True.intro) (.inl rfl) (fun b ob nb q => gk b ob nb q) ⟨_, gx⟩ (aL.exc gx hc rfl hd hy)
 refine h s.heap.objs.size _ hn hne (I1.qi (by rw [aE hne]; exact hn) ?_ ?_ ?_ ?_ (aL.HP gn (fun y => ?_) fun y hy' => ?_))
 ·cases q : X.s₀.heap.get? s.heap.objs.size with
  | none => rfl
  | some o => exact absurd (Heap.lt_size q) (Nat.not_lt.mpr I.sz)
 ·exact Nat.ne_of_gt I.lt
 ·intro x c q z
  obtain ⟨v', k⟩ := I.cell x c q
  exact absurd k.lt (by rw [z]; exact Nat.lt_irrefl _)
 ·intro p hp z
  exact absurd (Heap.lt_size (I.pin p hp).1) (by rw [z]; exact Nat.lt_irrefl _)
 ·show cz (List.lookup y [(f, v)]) (if y = f then some u else none)
  by_cases q : y = f
  ·subst q; rw [if_pos rfl]; simp [cz]; exact ru
  ·rw [if_neg q]
   rw [List.lookup_cons, beq_eq_false_iff_ne.mpr q]
   exact True.intro
 ·by_cases q : y = f
  ·subst q; simp
  ·exact absurd (show (if y = f then some u else none) = none by rw [if_neg q]) hy'
theorem FW (I : Inv X pins σ H s) (e : H a = some (dO p a C (some d))) (ed : H d = some (mR d fs)) (g : iI X.K C) (na : PySem.W.findIn X.K (.ref C) f = some none) (hl : fs.length < 1000) (ru : RelV v u)
  (h : ∀ s', Inv X pins σ (upd H d (mR d (eC f v fs))) s' -> Q () s') : wpAny (model X.prog X.w) A (setAttr (.ref a) f u) Q E s := by
 obtain ⟨⟨oe, vs, he, hc, hdx, hd, hy⟩, _⟩ := (show aL X.prog X.w H s.heap a (dO p a C (some d)) from I.ah a _ e)
 obtain ⟨⟨mA, hn, hr, hw⟩, _⟩ := (show aL X.prog X.w H s.heap d (mR d fs) from I.ah d _ ed)
 refine wV I.iQ g na he hc hdx hd hn hw (by rw [List.length_map]; exact hl) fun h' tk gn sb => h _ ?_
 refine I.write (x := d) (e := d) (by rw [ed]; exact True.intro) (.inl rfl) (fun b ob nb q => (sb.2 b nb).trans q) (let ⟨o, _, _, e', _⟩ := gn; ⟨o, e'⟩) (aL.HP gn (fun y => ?_) fun y hy' => ?_)
 ·show cz ((eC f v fs).lookup y) (if y = f then some u else mA y)
  rw [gK]
  by_cases q : y = f
  ·rw [if_pos q, if_pos q]; exact ru
  ·rw [if_neg q, if_neg q]; exact hr y
 ·by_cases q : y = f
  ·rw [q]; exact (fB f v fs).1
  ·refine (fB f v fs).2 y (hw y fun z => hy' ?_)
   show (if y = f then some u else mA y) = none
   rw [if_neg q]; exact z
end
open DC (je mR)
abbrev Dz : List Value := [.type "ValueError", .type "Exception", .type "BaseException", .type "object"]
def gG (K : PySem.W.Frag) (C f : Addr) : Bool := match K.lookup C with
 | some ⟨.type "type", _, .cls cd, sl⟩ => (match cd.mro, sl.toList with
  | .ref D :: bm, [_, _, _, _, some (.builtin n), _] => (D == C) && ((n == "ValueError.__new__") && ((!cd.hasDel) && (PySem.W.tailIn K Dz bm && (PySem.W.nsOkIn K cd.ns && (PySem.W.nsIn K cd.ns "__init__" == some (some (.ref f)))))))
  | _, _ => false)
 | _ => false
theorem xQ {K : PySem.W.Frag} {h : Heap} {N : Addr} {m : Str -> Option Value} {n : Str} {v : Value} (X : K.In h) (G : h.Ns N m) (e : PySem.W.nsIn K N n = some (some v)) : m n = some v := by
 obtain ⟨o, es, ep, ho, hd, _, hf⟩ := G
 unfold PySem.W.nsIn at e
 split at e
 ·rename_i q
  have z := X _ _ q
  rw [ho] at z
  cases z
  cases hd
  split at e
  ·rename_i en he
   cases e
   rw [<- hf]; unfold nsFind findBy
   rw [<- Array.find?_toList, he]; rfl
  ·split at e <;> cases e
 ·cases e
theorem uW {K : PySem.W.Frag} {h : Heap} {C f : Addr} (X : K.In h) (q : gG K C f = true) :
  ∃ bm N nm qn bs hdct sn sub ab col dd k0 k1 k2 k3 k5 mN, h.get? C = some (excClassObj nm qn C N bs bm hdct sn sub ab col dd k0 k1 k2 k3 k5 "ValueError.__new__") /\ h.Ns N mN /\ mN "__init__" = some (.ref f) /\ OwnTail h Dz bm := by
 unfold gG at q
 split at q
 ·rename_i dd cd sl ho
  split at q
  ·rename_i C2 bm k0 k1 k2 k3 n k5 hm hs
   simp only [Bool.and_eq_true, beq_iff_eq, Bool.not_eq_true'] at q
   obtain ⟨e1, e2, hdel, ht, ah, hni⟩ := q
   subst e1 e2
   obtain ⟨nm, bs, mro, ns, qn, hd, sn, sub, ab, col, del⟩ := cd
   have hm' : mro = .ref C2 :: bm := hm
   have hdel' : del = false := hdel
   subst hm' hdel'
   obtain ⟨l⟩ := sl
   have hl : l = [k0, k1, k2, k3, some (.builtin "ValueError.__new__"), k5] := hs
   subst hl
   have G : h.Ns ns (h.nsMap ns) := .of_isNs (PySem.W.isNs_of_in X ah)
   exact ⟨bm, ns, nm, qn, bs, hd, sn, sub, ab, col, dd, k0, k1, k2, k3, k5, _, X _ _ ho, G, xQ X G hni, PySem.W.tail_of_in X ht⟩
  ·cases q
 ·cases q
section
variable {prog : Program} {w : World} {A : Around} {E : Value -> Shared -> Prop} {h : Heap} {g : Array GenState} {d : Drawn} {t : Nat} {os : OsState}
variable {nm q : Str} {C N : Addr} {bs bm : List Value} {hdct : Bool} {sn : List Str} {sub : List Value} {ab : Bool} {col : Option Bool} {dd : Option Addr} {k0 k1 k2 k3 k5 : Option Value}
theorem mD {mN : Str -> Option Value} {rest : List Value} {fI : Addr} {oI : Obj} {Q : PySem.Fin -> Shared -> Prop} (T : OwnTail h Dz bm)
  (hC : h.get? C = some (excClassObj nm q C N bs bm hdct sn sub ab col dd k0 k1 k2 k3 k5 "ValueError.__new__")) (hn : h.Ns N mN) (hi : mN "__init__" = some (.ref fI)) (hfI : h.get? fI = some oI) (hfc : oI.cls = .type "function") (hrest : rest.length <= sizeLine)
  (hq : ∀ h' e, Heap.MadeExcOf h h' e (.ref C) rest -> wpAny (model prog w) A (call (.ref fI) (.ref e :: rest)) (fun r s' => r = .none /\ Q (.done (.ret (.ref e))) s') E ⟨h', g, d, t, os⟩) :
  wpAny (model prog w) A (Builtin.«type.__call__» ⟨.ref C :: rest, []⟩) Q E ⟨h, g, d, t, os⟩ := by
 have F := PySem.F.excBase_ValueError
 repeat (first | with_reducible refine wpAny_loadPart_at hC ?_ | with_reducible refine wpAny_madeBy_exc hC ?_ | wp_step)
 refine codeAny_call_builtin_code (Code.quiet_builtin _ F.quiet) (wpAny_check_new_subT F T hC (codeAny_exc_new_subT F T hC ?_ hrest))
 show wpAny _ _ _ _ _ _
 generalize hO : ({ cls := .ref C, data := .fields #[.ref h.objs.size, .none, .none, .none, .bool false, .none] } : Obj) = O
 generalize hT : ({ cls := .type "tuple", data := .seq rest.toArray } : Obj) = TT
 have kk : ∀ b o, h.get? b = some o -> ((h.push TT).push O).get? b = some o := fun b o e => Heap.get?_push_of_some _ (Heap.get?_push_of_some _ e)
 have C1 := kk _ _ hC
 have f1 := kk _ _ hfI
 have n1 : ((h.push TT).push O).Ns N mN := hn.keeps kk
 have T1 : OwnTail ((h.push TT).push O) Dz bm := T.keeps kk
 have g1 : ((h.push TT).push O).get? (h.objs.size + 1) = some O := by
  have z := Heap.get?_push_size (h.push TT) (o := O) (by rw [<- hO]; rfl)
  rwa [Heap.size_push] at z
 have oc : O.cls = .ref C := by rw [<- hO]
 have self : (Value.ref C :: bm).contains (.ref C) = true := by simp
 unfold isInstance
 repeat (first | (with_reducible refine wpAny_loadPart_at g1 ?_; rw [oc]) | (with_reducible refine wpAny_isSubtype_exc C1 ?_; rw [self]) | wp_step)
 show wpAny _ _ (typeLookup (.ref C) _) _ _ _
 refine wpAny_typeLookup_tail C1 n1 T1 F.mroIs F.init.lookup ?_
 rw [hi]
 refine wpAny_holding (wpAny_bind ?_)
 unfold bindSpecial
 refine wpAny_bind (wpAny_typeOf (T := "function") ⟨_, f1, hfc⟩ ?_)
 rw [if_pos (by decide)]
 refine wpAny_pure (wpAny_bind (wpAny_mono (hq _ (h.objs.size + 1) ⟨kk, Heap.get?_none_of_le (Nat.le_succ _), h.objs.size, by rw [g1, <- hO], Heap.get?_none_of_le (Nat.le_refl _), by rw [<- hT]; exact Heap.get?_push_of_some _ (Heap.get?_push_at rfl rfl)⟩) (fun r s' hr => ?_) fun _ _ x => x))
 obtain ⟨rfl, hQ⟩ := hr
 wp_walk
 exact hQ
theorem wR {mN : Str -> Option Value} {rest : List Value} {fI : Addr} {oI : Obj} {Q : Value -> Shared -> Prop} (T : OwnTail h Dz bm)
  (hC : h.get? C = some (excClassObj nm q C N bs bm hdct sn sub ab col dd k0 k1 k2 k3 k5 "ValueError.__new__")) (hn : h.Ns N mN) (hi : mN "__init__" = some (.ref fI)) (hfI : h.get? fI = some oI) (hfc : oI.cls = .type "function") (hrest : rest.length <= sizeLine)
  (hq : ∀ h' e, Heap.MadeExcOf h h' e (.ref C) rest -> wpAny (model prog w) (A.under (.builtin "type.__call__" ⟨.ref C :: rest, []⟩)) (call (.ref fI) (.ref e :: rest)) (fun r s' => r = .none /\ Q (.ref e) s') E ⟨h', g, d, t, os⟩) :
  wpAny (model prog w) A (call (.ref C) rest) Q E ⟨h, g, d, t, os⟩ := by
 have f1 := tc_lookup; have f2 := tc_bind (.ref C)
 have hT : (⟨h, g, d, t, os⟩ : Shared).TypeIs (.ref C) "type" := ⟨_, hC, rfl⟩
 refine wpAny_call (codeAny_of_tree ?_); show wpAny _ _ (callAny (.ref C) _) _ _ _
 repeat (any_goals (first | assumption | with_reducible refine wpAny_loadPart_at hC ?_ | wp_step))
 exact ⟨rfl, codeAny_call_builtin_at (Code.quiet_builtin _ (by decide +kernel)) entry_typeCall (wpAny_check_type_call_sub hC (mD T hC hn hi hfI hfc hrest fun h' e hm => hq h' e hm))⟩
end
end L2
namespace DC
open PySem PySem.Spec PyProof.Rows L2
def tX (K : PySem.W.Frag) (j : Nat) (f : Str) : TS := fun D σ H => ∃ (pr : Array Value -> Prop) (a C : Addr) (v : V), σ[0]? = some (some (.ref a)) /\ σ[j]? = some (some v) /\ iI K C /\ PySem.W.findIn K (.ref C) f = some none /\
 ((H a = some (dO pr a C none) /\ ∀ d, H d = none -> d ≠ a -> D.nx σ (upd (upd H a (dO pr a C (some d))) d (mR d [(f, v)]))) \/ ∃ d fs, H a = some (dO pr a C (some d)) /\ H d = some (mR d fs) /\ fs.length < 1000 /\ D.nx σ (upd H d (mR d (eC f v fs))))
section
variable {X : Cx} {x p f : Str} {j : Nat} {pa pv pos pos' : Pos}
theorem AW (h0 : X.N[0]? = some x) (hv0 : ye X.env.scope x) (hj : X.N[j]? = some p) (hvj : ye X.env.scope p) (hs : swapsWith (.Name p pv) (some (.Attribute (.Name x pa) f pos')) pos.line X.env = pure false := by rfl) (hd : (x == ("__debug__" : Str)) = false := by decide) (hd' : (p == ("__debug__" : Str)) = false := by decide)
  (hcd : (x == ("__classdict__" : Str)) = false := by decide) (hcd' : (p == ("__classdict__" : Str)) = false := by decide) : PS X (.Assign [.Attribute (.Name x pa) f pos'] (.Name p pv) pos) (tX X.K j f) := by
 intro pins s σ H D I ⟨pr, a, C, v, s0, sj, g, na, h⟩
 refine plainObj_wpAny_Assign_Attribute (au (js hj hvj hd' hcd' pins s σ H (fun y H1 => y = v /\ H1 = H) I ⟨v, sj, rfl, rfl⟩) fun u s1 ⟨y, H1, I1, ru, e1, e2⟩ => ?_) hs
 subst e1 e2
 refine au (js h0 hv0 hd hcd pins s1 σ H1 (fun y H2 => y = .ref a /\ H2 = H1) I1 ⟨.ref a, s0, rfl, rfl⟩) fun ov s2 ⟨z, H2, I2, rz, e1, e2⟩ => ?_
 subst e1 e2
 cases (show ov = Value.ref a from rz)
 rcases h with ⟨e, q⟩ | ⟨d, fs, e, ed, hl, q⟩
 ·exact FV I2 e g na ru fun d s3 hdn hda I3 => ⟨σ, _, I3, q d hdn hda⟩
 ·exact FW I2 e ed g na hl ru fun s3 I3 => ⟨σ, _, I3, q⟩
end
def Ge (C : Addr) (fl : List Str) : Sp := fun vs H Q _ => ∃ (pr : Array Value -> Prop) (a : Addr) (vs' : List V), vs = .ref a :: vs' /\ vs'.length = fl.length /\ H a = some (dO pr a C none) /\ ∀ d, H d = none -> d ≠ a -> Q .aV (upd (upd H a (dO pr a C (some d))) d (mR d (fl.zip vs')))
section
variable {P : Program} {w : World} {K : PySem.W.Frag} {mg : Str -> Option Value} {base : Heap}
theorem Ha {x qual : Str} {st : Stmt} {f C : Addr} {fd : FuncData} {N ps fl : List Str} {k : Nat} {t : TS} (F : lz K x qual st f fd) (S : aG N ps (aC st)) (len : fl.length + 1 = ps.length)
  (hb : ∀ (cdv : Value) (A : Around) (outer : List Env) (s : Shared) (H : Hp) (E : XK), gi (Bx P w K mg base N qual st f cdv A outer s H E) (aY st) t)
  (hr : ∀ pr a vs' H (Q : VK), vs'.length = fl.length -> H a = some (dO pr a C none) -> (∀ d, H d = none -> d ≠ a -> Q .aV (upd (upd H a (dO pr a C (some d))) d (mR d (fl.zip vs')))) -> t { nx := fun _ H' => Q .aV H', rt := Q } (L2.start N (.ref a :: vs')) H) : bR P w K mg base km (k + 1) f fd ps (Ge C fl) := by
 refine F.ok S (fun vs H Q E ⟨pr, a, vs', e, hl, _⟩ => by rw [e, List.length_cons, hl]; exact len) (fun cdv A outer s H vs Q E hroom ⟨pr, a, vs', e, hl, ha, h⟩ => ?_)
 subst e
 exact ⟨t, hb cdv A outer s H E, hr pr a vs' H Q hl ha h⟩
end
structure Dg (P : Program) (w : World) (K : PySem.W.Frag) (mg : Str -> Option Value) (base : Heap) (j : Nat) (x : Str) (C : Addr) (fl : List Str) : Prop where
 ex : ∃ f fd ps oI, gG K C f = true /\ K.lookup f = some oI /\ oI.cls = .type "function" /\ bR P w K mg base km j f fd ps (Ge C fl) /\ mg x = some (.ref C) /\ PySem.W.keepIn K (.ref C) = true /\ Binds K fd ps []
 HD : fl.length < 100
section
variable {X : Cx} {e : Expr} {es : List Expr} {t : AD} {pos p : Pos} {x : Str} {j k : Nat} {C : Addr} {fl : List Str}
theorem Ag {pr : Array Value -> Prop} {pins : List (Addr × Obj)} {σ : L2.St} {H : Hp} {s : Shared} {Q : VK} {us : List Value} {vs : List V} (c : Dg X.prog X.w X.K X.mg X.base j x C fl) (hex : X.ex = []) (hr : ao (j + 1) X.A) (I : Inv X pins σ H s) (r : Vals vs us) (hl : vs.length = fl.length) (h0p : ∀ t : Addr, pr #[.ref t, .none, .none, .none, .bool false, .none])
  (h : ∀ a d H', aK H H' -> H a = none -> X.s₀.heap.get? a = none -> (∀ p ∈ X.pn, p.1 ≠ a) -> d ≠ a -> H' a = some (dO pr a C (some d)) -> H' d = some (mR d (fl.zip vs)) -> Q (.ref a) H') : wpAny (model X.prog X.w) X.A (call (.ref C) us) (EP X pins σ Q) X.xe s := by
 obtain ⟨f, fd, ps, oI, q, lk, oc, F, _, _, hb⟩ := c.ex
 obtain ⟨bm, N, nm, qn, bs, hdct, sn, sub, ab, col, dd, k0, k1, k2, k3, k5, mN, hC, hN, hni, T⟩ := uW I.iQ q
 have HD := c.HD
 have hlu : us.length <= sizeLine := by rw [<- r.length, hl, sizeLine_eq]; omega
 obtain ⟨hh, gg, dr, tk, os⟩ := s
 refine wR T hC hN hni (I.iQ _ _ lk) oc hlu fun h' ea me => ?_
 obtain ⟨tt, ho, _, _⟩ := me.there
 have I1 := I.kept (t' := tk) (h' := h') me.keeps
 have hn : H ea = none := by
  cases q2 : H ea with
  | none => rfl
  | some u =>
   obtain ⟨o, z⟩ := (I.ah ea u q2).there
   rw [me.new] at z
   cases z
 have notin : ∀ b o, hh.get? b = some o -> b ≠ ea := fun b o z y => by rw [y, me.new] at z; cases z
 have h0 : X.s₀.heap.get? ea = none := by
  cases q2 : X.s₀.heap.get? ea with
  | none => rfl
  | some o =>
   obtain ⟨o', z⟩ := I.base.there ea o q2 (by rw [hex]; simp)
   exact absurd rfl (notin ea o' z)
 have hlo : ea ≠ X.env.locals := fun z => by
  obtain ⟨m, ⟨o, _, _, go, _⟩, _⟩ := I.loc
  exact notin _ o go z.symm
 have hce : ∀ x c, X.env.cells.lookup x = some c -> c ≠ ea := fun x c e => by
  obtain ⟨v, o, go, _⟩ := I.cell x c e
  exact notin c o go
 have I2 := I1.qi hn h0 hlo hce (fun p hp => notin _ _ (I.pin p hp).1) (aL.exc (p := pr) (C := C) (dx := none) ho rfl rfl rfl (h0p _))
 have r2 : Vals (V.ref ea :: vs) (Value.ref ea :: us) := .cons rfl r
 let Q' : VK := fun v H' => v = .aV /\ ∃ d, upd H ea (dO pr ea C none) d = none /\ d ≠ ea /\ H' = upd (upd (upd H ea (dO pr ea C none)) ea (dO pr ea C (some d))) d (mR d (fl.zip vs))
 have hq : Ge C fl (.ref ea :: vs) (upd H ea (dO pr ea C none)) Q' E0 := ⟨pr, ea, vs, rfl, hl, aI, fun d h1 h2 => ⟨rfl, d, h1, h2, rfl⟩⟩
 have hlen : (Value.ref ea :: us).length = ps.length := by rw [<- r2.length]; exact F.len _ _ _ _ hq
 have hb' := hb ⟨h', gg, dr, tk, os⟩ (.ref ea :: us) I2.iQ (by rw [List.append_nil]; exact hlen)
 rw [List.append_nil] at hb'
 refine wpAny_call (codeAny_mono (F.run _ X.stack _ _ ⟨.ref ea :: us, []⟩ (.ref ea :: us) _ Q' E0 (hr.make C us []) (I2.zJ.make C us []) hb' r2 hq) fun r s' z => ?_)
 cases r with
 | error e => exact False.elim z
 | ok fl' =>
  cases fl' with
  | ret u =>
   obtain ⟨v, H', I3, rv, ev, d, h1, h2, eH⟩ := I2.after z
   subst ev
   have hd : H d = none := by rw [aE h2] at h1; exact h1
   refine ⟨rv, ⟨.ref ea, H', I3, rfl, h ea d H' (fun b o q => ?_) hn h0 (fun p hp => notin _ _ (I.pin p (List.mem_append_left _ hp)).1) h2 ?_ ?_⟩⟩
   ·rw [eH, aE (aJ q hd), aE (aJ q hn), aE (aJ q hn)]
    exact q
   ·rw [eH, aE (Ne.symm h2), aI]
   ·rw [eH, aI]
  | next => exact False.elim z
  | brk => exact False.elim z
  | cont => exact False.elim z
theorem tL {K : PySem.W.Frag} {H : Hp} : ∀ {fl : List Str} {vs : List V} {ds : List D}, ar K H vs ds -> dH K H (fl.zip vs) (fl.zip ds)
 | [], _, _, _ => .nil
 | _ :: _, _, _, .nil => .nil
 | _ :: _, _, _, .cons h r => .cons h (tL r)
def FR (K : PySem.W.Frag) (ta : ED) (f : Str) : ED := fun δ Q => ta δ fun d => ∃ a C gs r, d = .exc a C gs /\ eP K C /\ PySem.W.hasDictIn K C = true /\ PySem.W.findIn K (.ref C) f = some none /\ gs.lookup f = some r /\ Q r
theorem nZ (K : PySem.W.Frag) (hK : X.K = K) {f : Str} {ta : ED} (he : PD X e ta) (hb : attributeBase e f X.env (eval e X.env) = eval e X.env) : PD X (.Attribute e f pos) (FR K ta f) := by
 subst hK
 refine ⟨fun pins s σ H Q I ⟨δ, r, h⟩ => ?_, fun δ P P' g h => he.mono _ _ _ (fun d ⟨a, C, gs, r, ed, k1, k2, k3, k4, k⟩ => ⟨a, C, gs, r, ed, k1, k2, k3, k4, g _ k⟩) h⟩
 refine sr hb (au (he.pe pins s σ H (fun v H1 => ∃ a C dx fs y, v = .ref a /\ Rd H1 a (je a C dx) /\ dg H1 dx fs /\ eP X.K C /\ PySem.W.hasDictIn X.K C = true /\ PySem.W.findIn X.K (.ref C) f = some none /\ fs.lookup f = some y /\ Q y H1) I ⟨δ, r, he.mono _ _ _ (fun d k v H1 s1 dv => ?_) h⟩) fun u s1 k => ?_)
 ·obtain ⟨a, C, gs, r, ed, k1, k2, k3, k4, k⟩ := k
  subst ed
  cases dv with
  | exc g1 g2 g3 =>
   obtain ⟨y, ly, dy⟩ := g3.look k4
   exact ⟨_, _, _, _, y, rfl, g1, g2, k1, k2, k3, ly, k _ H1 s1 dy⟩
 ·obtain ⟨v, H1, I1, rv, a, C, dx, fs, y, ev, g1, g2, k1, k2, k3, ly, q⟩ := k
  subst ev
  cases (show u = Value.ref a from rv)
  obtain ⟨⟨oe, vs, e1, hc, hdx, hd, _⟩, _⟩ := (show aL X.prog X.w H1 s1.heap a (je a C dx) from g1.ok I1.ah)
  cases dx with
  | none =>
   rw [show fs = [] from g2] at ly
   cases ly
  | some d =>
   obtain ⟨⟨mA, hn, hr, hw⟩, _⟩ := (show aL X.prog X.w H1 s1.heap d (mR d fs) from Rd.ok g2 I1.ah)
   obtain ⟨u2, hu, ru⟩ := cz.some_of (v := y) (o := mA f) (by rw [<- ly]; exact hr f)
   exact zL I1.iQ k1 k2 k3 e1 hc hdx hd hn hu (mr ru) ⟨y, H1, I1.tok _, ru, q⟩
end
section
variable {X : Cx} {c e : Expr} {es : List Expr} {body : List Stmt} {uc : TD} {te : ED} {tb : eB} {g : yd} {pos tp : Pos} {k : Nat}
end
section
variable {X : Cx} {a b : Expr} {rest : List Expr} {pos : Pos} {ta tb : TE}
end
section
variable {X : Cx} {a b : Expr} {rest : List Expr} {pos : Pos} {ta tb : ED}
end
end DC
namespace L2
open PySem PySem.Spec PyProof.Rows
section
variable {X : Cx} {pins : List (Addr × Obj)} {σ : St} {H : Hp} {s : Shared} {a C d : Addr} {t : Heap -> Prop}
theorem aL.drop {P : Program} {w : World} {h : Heap} {b : Addr} {u : HO} (e : H a = some u) (nt : ∀ ks, u ≠ .tup ks) (no : ∀ c, u ≠ .own c) : ∀ {o : HO}, aL P w H h b o -> aL P w (del H a) h b o := by
 intro o
 induction o with
 | dT kvs =>
  intro x
  obtain ⟨h1, h2, xs, hp, r⟩ := x
  refine ⟨h1, h2, xs, Paired.imp' (fun p q ⟨z1, z2, z3⟩ => ⟨z1, ?_, z3⟩) hp, r⟩
  rw [bW (fun z => by rw [z, e] at z2; exact nt _ (Option.some.inj z2))]
  exact z2
 | ins C dx fs =>
  intro x
  obtain ⟨h1, r⟩ := x
  refine ⟨?_, r⟩
  rw [bW (fun z => by rw [z, e] at h1; exact no _ (Option.some.inj h1))]
  exact h1
 | fT o u ih => intro x; exact ⟨x.1, ih x.2⟩
 | _ => intro x; exact x
theorem iq {b : Addr} (h : H b = none) : del H a b = none := by
 unfold del
 split
 ·rfl
 ·exact h
theorem Inv.drop (I : Inv X pins σ H s) {f : Heap -> Prop} (e : H a = some (.ext f)) : Inv X pins σ (del H a) s := by
 refine ⟨I.ok, I.os, I.bare, ⟨I.base.keep, I.base.slot, fun b o q n hx => iq (I.base.free b o q n hx), I.base.there, fun b xs q => ?_, fun b o u q => ?_, fun b ps q => ?_⟩, I.loc, I.cell, iq I.free, fun x c q => iq (I.bK x c q), fun p hp => ?_, fun b o q => ?_, I.len⟩
 ·have z := I.base.dG b xs q
  rw [bW (fun w => by rw [w, e] at z; cases z)]
  exact z
 ·have z := I.base.cE b o u q
  rw [bW (fun w => by rw [w, e] at z; cases z)]
  exact z
 ·obtain ⟨more, z⟩ := I.base.ee b ps q
  exact ⟨more, by rw [bW (fun w => by rw [w, e] at z; cases z)]; exact z⟩
 ·obtain ⟨p1, p2, p3, p4, p5⟩ := I.pin p hp
  exact ⟨p1, iq p2, p3, p4, p5⟩
 ·by_cases hb : b = a
  ·rw [hb, ir] at q
   cases q
  ·rw [bW hb] at q
   exact (I.ah b o q).drop e (fun _ z => by cases z) fun _ z => by cases z
end
section
variable {prog : Program} {w : World} {A : Around} {E : Value -> Shared -> Prop} {s : Shared} {K : PySem.W.Frag} {env : Env}
theorem rp {x : Sem Value} {Q : Flow -> Shared -> Prop} (hh : A.handled = none)
  (h : wpAny (model prog w) A x (fun v s1 => ∃ e C oe vs, v = .ref e /\ K.In s1.heap /\ s1.heap.get? e = some oe /\ oe.cls = .ref C /\ oe.data = .fields vs /\ vs[1]? = some .none /\ PySem.W.mroIn K C (.type "BaseException") = some true /\ PySem.W.typeIn K (.ref C) = some (.type "type") /\ E (.ref e) s1) E s) :
  wpAny (model prog w) A (raiseStmt env (some x) none) Q E s := by
 unfold raiseStmt
 refine wpAny_bind (wpAny_mono h (fun v s1 h1 => ?_) fun _ _ x => x)
 obtain ⟨e, C, oe, vs, rfl, X, he, hc, hd, h1, hm, ht, hE⟩ := h1
 obtain ⟨hp, g, d, tk, os⟩ := s1
 have L1 := PySem.W.looks_mroIn (M := model prog w) X hm
 obtain ⟨oc, od, oda, osl⟩ := oe
 cases hc
 cases hd
 obtain ⟨⟨cc, cdd, cda, csl⟩, kc, ec⟩ := Option.map_eq_some_iff.mp (show (K.lookup C).map (·.cls) = some (.type "type") from ht)
 cases (show cc = Value.type "type" from ec)
 have hC := X _ _ kc
 repeat (first | with_reducible refine wpAny_loadPart_at he ?_ | with_reducible refine wpAny_loadPart_at hC ?_ | with_reducible refine L1.at ?_ | with_reducible refine wpAny_field he rfl h1 ?_ | wp_step)
 exact wpAny_raiseNew_none hh hE
end
end L2
namespace DC
open PySem PySem.Spec PyProof.Rows L2
section
variable {X : Cx} {e : Expr} {es : List Expr} {t : AD} {pos cpos p : Pos} {x : Str} {j k : Nat} {C : Addr} {fl : List Str} {xk : SD -> XR}
def Ab (xk : SD -> XR) (C : Addr) (fl : List Str) (t : AD) : eB := fun _ δ => t δ fun ds => ds.length = fl.length /\ xk δ C (fl.zip ds)
theorem qb (hx : fN X xk) (hc : X.calm = true) (hex : X.ex = []) (c : Dg X.prog X.w X.K X.mg X.base j x C fl) (hm : PySem.W.mroIn X.K C (.type "BaseException") = some true) (ht : PySem.W.typeIn X.K (.ref C) = some (.type "type")) (hr : ao k X.A) (hj : j + 1 <= k) (hg : Gl X x) (ha : kH X (e :: es) t) (hdb : (x == ("__debug__" : Str)) = false := by decide)
  (h1 : starEach (e :: es) X.env = (false, eval e X.env) :: starEach es X.env := by rfl) (h2 : (backTo cpos (starEach es X.env)).any (·.1) = false := by rfl) : sk X (.Raise (some (.Call (.Name x p) (e :: es) [] cpos)) none pos) (Ab xk C fl t) := by
 obtain ⟨_, _, _, _, _, _, _, _, hmg, kp, _⟩ := c.ex
 refine ⟨fun pins s σ H D I ⟨δ, r, h⟩ => ?_, fun E E' δ l h => h⟩
 rw [arm_exec_Raise]
 simp only [evalOpt, Option.map]
 refine wpAny_bind (wpAny_standAt (rp (K := X.K) (I.ok.hd hc) (wpAny_bind (wpAny_mono ?_ (fun v s3 h3 => wpAny_bind (wpAny_standAt (wpAny_pure h3))) fun _ _ y => y))))
 refine wpAny_Call_Name_kw (gw I hg hmg ?_ hdb)
 refine PySem.W.callWith_K (h₀ := X.base) I.ok.mod.CO kp (au (ha.pa cpos pins s σ H (fun vs H1 => aK H H1 /\ ∃ ds, ar X.K H1 vs ds /\ ds.length = fl.length /\ xk δ C (fl.zip ds)) I ⟨δ, r, ha.mono _ _ _ (fun ds q vs H1 s1 dv => ⟨s1, ds, dv, q⟩) h⟩) fun us s1 ⟨vs, H1, I1, r1, sm, ds, dv, q0, q⟩ => ⟨I1.iQ, ?_⟩) h1 h2
 refine wpAny_mono (Ag (pr := Cs) (Q := fun y H' => ∃ a d, y = .ref a /\ aK H1 H' /\ H1 a = none /\ X.s₀.heap.get? a = none /\ (∀ p ∈ X.pn, p.1 ≠ a) /\ d ≠ a /\ H' a = some (dO Cs a C (some d)) /\ H' d = some (mR d (fl.zip vs))) c hex (hr.mono hj) I1 r1 (by rw [dv.length]; exact q0) (fun _ => ⟨rfl, Nat.le_of_ble_eq_true rfl, rfl⟩) fun a d H' s' n0 n1 n2 n3 ea ed => ⟨a, d, rfl, s', n0, n1, n2, n3, ea, ed⟩) (fun v s2 z => ?_) fun _ _ z => z
 obtain ⟨y, H2, I2, ry, a, d, rfl, sm2, n0, n1, n2, hda, ea, ed⟩ := z
 cases (show v = Value.ref a from ry)
 obtain ⟨⟨oe, ws, he, hcl, hdx, hd, p2, pz, p1⟩, _⟩ := (show aL X.prog X.w H2 s2.heap a (dO Cs a C (some d)) from I2.ah a _ ea)
 refine ⟨a, C, oe, ws, rfl, I2.iQ, he, hcl, hd, p1, hm, ht, ?_⟩
 have I3 := I2.drop (a := a) ea
 have s3 : aK H1 (del H2 a) := fun b o q => by
  rw [bW (aJ q n0)]
  exact sm2 b o q
 exact hx pins σ δ (del H2 a) s2 a C (some d) (fl.zip vs) (fl.zip ds) I3 (r.same (sm.trans s3)) (vA I3 he hcl hdx hd pz p2 p1 ir n1 n2) (.of (by rw [bW hda]; exact ed)) (tL (dv.same s3)) q
end
end DC
namespace L2
open PySem PySem.Spec PyProof.Rows
def Fm (K : PySem.W.Frag) (l : Addr) : It where
 go := fun i H => ∃ xs x, c_ K H l xs /\ xs[i]? = some x
 yZ := fun i H v H' => ∃ p x, H p = none /\ v = .ref p /\ H' = upd H p (.tup [.int (i : Int), x]) /\ ∀ xs, c_ K H l xs -> xs[i]? = some x
 stop := fun i H => ∃ xs, c_ K H l xs /\ xs[i]? = none
theorem vN {P : Program} {w : World} {K : PySem.W.Frag} {elts : List Expr} {c : Nat} {tp : Pos} {e it l : Addr} (hei : e ≠ it) (hle : l ≠ e) (hli : l ≠ it) :
  Turn P w K (.Tuple elts c tp) (Fm K l) [e, it] e (fun i h => (∃ old, IsEnum h e it i old) /\ h.IsListIter it l i) where
 mem := by simp
 obj := fun i h ⟨⟨old, he⟩, hit⟩ q hq => by
  simp only [List.mem_cons, List.not_mem_nil, or_false] at hq
  rcases hq with rfl | rfl
  ·exact ⟨_, he, fun v z => by cases z⟩
  ·obtain ⟨o, z, _, d⟩ := hit
   exact ⟨o, z, fun v y => by rw [d] at y; cases y⟩
 keep := fun i h h' ⟨⟨old, he⟩, hit⟩ k => ⟨⟨old, k _ (by simp) _ he⟩, hit.at fun o z => k it (by simp) o z⟩
 item := by
  intro X hP hw hK hc i pins s σ H E I hf st hg
  subst hP hw hK
  obtain ⟨⟨old, he⟩, hit⟩ := st
  obtain ⟨xs, x, hq, hx⟩ := hg
  obtain ⟨its, rv, p, hz⟩ := I.list hq
  obtain ⟨u, hu, ru⟩ := rv.get hx
  refine wpAny_pyNext_enum_item he hit p.isList (x := u) (by simpa using hu) hei fun h' ho hit' hT hsz hk => ?_
  refine ⟨_, rfl, wpAny_letOwnedTupleGo_enum ho fun h'' he' sb => ?_⟩
  have elt : e < s.heap.objs.size := Heap.lt_size he
  have ilt : it < s.heap.objs.size := by obtain ⟨o, z, _⟩ := hit; exact Heap.lt_size z
  have up : ∀ b o, b ≠ e -> h'.get? b = some o -> h''.get? b = some o := fun b o nb q => (sb.2 b nb).trans q
  have I' := I.uC (h' := h'') (t' := s.toks + 1) (ch := [e, it]) (T := s.heap.objs.size) (u1 := .int (i : Int) s.toks) (u2 := u) (x := .int (i : Int)) (y := x)
   (fun b o hb q => by
    simp only [List.mem_cons, List.not_mem_nil, or_false, not_or] at hb
    exact up b o hb.1 (hk b o hb.1 hb.2 q)) hf (Nat.le_refl _) (up _ _ (Nat.ne_of_gt elt) hT) ⟨_, rfl⟩ ru
  refine ⟨.ref s.heap.objs.size, _, I', rfl, ⟨_, x, I.fresh, rfl, rfl, fun zs hz' => by rw [I.qI hz' hq]; exact hx⟩, ⟨⟨_, he'⟩, hit'.at fun o z => up it o (Ne.symm hei) z⟩, fun b hb => ?_⟩
  have hfb := (hf b hb).1
  rw [aE]
  ·exact hfb
  ·intro z
   have lt : b < s.heap.objs.size := by
    simp only [List.mem_cons, List.not_mem_nil, or_false] at hb
    rcases hb with rfl | rfl
    ·exact elt
    ·exact ilt
   rw [z] at lt
   exact Nat.lt_irrefl _ lt
 done := by
  intro X hP hw hK hc i pins s σ H E I hf st hg
  subst hP hw hK
  obtain ⟨⟨old, he⟩, hit⟩ := st
  obtain ⟨xs, hq, hx⟩ := hg
  obtain ⟨its, rv, p, hz⟩ := I.list hq
  have hl := rv.length
  refine wpAny_pyNext_enum_end (I.ok.hd hc) he hit p.isList (by simp only [List.getElem?_toArray]; rw [List.getElem?_eq_none_iff] at hx ⊢; omega) fun h' eb => ⟨rfl, I.uB (t' := s.toks) (ch := [e, it]) (fun b o hb q => ?_) hf⟩
  simp only [List.mem_cons, List.not_mem_nil, or_false, not_or] at hb
  exact eb b o hb.2 q
 self := fun _ _ _ _ _ st h => let ⟨⟨_, he⟩, _⟩ := st; wpAny_pyIter_enum he h
section
variable {X : Cx} {e1 : Expr} {ta : TA} {p pos tp : Pos} {elts : List Expr} {c : Nat}
def EK (K : PySem.W.Frag) (ta : TA) : TI := fun σ H R => ta σ H fun vs H1 => ∃ l xs, vs = [.ref l] /\ c_ K H1 l xs /\ R (Fm K l) H1
theorem AO (hg : Gl X "enumerate") (hm : X.mg "enumerate" = none) (ha : PA X [e1] ta) (hs : starEach [e1] X.env = [(false, eval e1 X.env)] := by rfl) :
  PI X (.Tuple elts c tp) (.Call (.Name "enumerate" p) [e1] [] pos) (EK X.K ta) := by
 intro pins s σ H R I h
 refine Call_ (iR I hg hm boot_enumerate (PyProof.Rows.callWith_type1 (au (ha pos pins s σ H _ I h) fun us s1 ⟨vs, H1, I1, r1, q1⟩ => ?_) (by rw [hs]; rfl) rfl))
 obtain ⟨l, xs, e, hq, q⟩ := q1
 subst e
 obtain ⟨u, rfl, ru⟩ := r1.one
 cases (show u = Value.ref l from ru)
 obtain ⟨its, rv, pl, hz⟩ := I1.list hq
 have llt : l < s1.heap.objs.size := by obtain ⟨o, n, z, _⟩ := pl; exact Heap.lt_size z
 refine call_enumerate_list pl.isList fun h' a1 a2 a3 a4 => wpAny_pyIter_enum a1 ?_
 have I2 : Inv X pins σ H1 { s1 with heap := h' } := I1.kept (t' := s1.toks) a4
 refine ⟨_, [s1.heap.objs.size + 1, s1.heap.objs.size], _, _, H1, rfl, I2, vN (l := l) (Nat.succ_ne_self _) (Nat.ne_of_lt (Nat.lt_succ_of_lt llt)) (Nat.ne_of_lt llt), ⟨⟨_, a1⟩, a2⟩, fun b hb => ?_, q⟩
 have hb' : s1.heap.objs.size <= b := by
  simp only [List.mem_cons, List.not_mem_nil, or_false] at hb
  rcases hb with rfl | rfl
  ·exact Nat.le_add_right _ _
  ·exact Nat.le_refl _
 exact I1.wY hb' (I1.ah.fresh hb')
end
end L2
namespace DC
open PySem PySem.Spec PyProof.Rows L2
def yf : Nat -> List D -> List D
 | _, [] => []
 | k, x :: xs => .tup [.int (k : Int), x] :: yf (k + 1) xs
theorem iu : ∀ (k : Nat) (xs : List D), (yf k xs).length = xs.length
 | _, [] => rfl
 | k, _ :: xs => by rw [yf, List.length_cons, List.length_cons, iu (k + 1) xs]
theorem kY : ∀ (k i : Nat) (xs : List D), (yf k xs)[i]? = (xs[i]?).map fun x => .tup [.int ((k + i : Nat) : Int), x]
 | _, _, [] => rfl
 | k, 0, _ :: _ => rfl
 | k, i + 1, _ :: xs => by
  rw [yf, List.getElem?_cons_succ, List.getElem?_cons_succ, kY (k + 1) i xs, show k + 1 + i = k + (i + 1) by omega]
theorem za {K : PySem.W.Frag} {H : Hp} {l : Addr} {xs : List V} {ds : List D} (h1 : c_ K H l xs) (d1 : ar K H xs ds) : De K (Fm K l) H (yf 0 ds) := by
 have hl := iu 0 ds
 refine ⟨fun i H' s' hi => ?_, fun H' s' => ⟨xs, s'.seq h1, ?_⟩, fun i H' x H'' s' hi y => ?_⟩
 ·rw [hl] at hi
  obtain ⟨v1, g1, _⟩ := d1.get (List.getElem?_eq_getElem hi)
  exact ⟨xs, v1, s'.seq h1, g1⟩
 ·rw [hl, List.getElem?_eq_none_iff, d1.length]
  exact Nat.le_refl _
 ·obtain ⟨q, u, hn, rfl, rfl, y1⟩ := y
  obtain ⟨a1, g1, v1⟩ := d1.wb (y1 _ (s'.seq h1))
  have hnH : H q = none := s'.free hn
  refine ⟨aS hn, .tup [.int (i : Int), a1], by rw [kY, g1, Nat.zero_add]; rfl, upd H q (.tup [.int (i : Int), u]), aS hnH, .tup (ej.of aI) (.cons (.int _) (.cons (v1.same (aS hnH)) .nil)), fun a o z => ?_, fun a o z => ?_⟩
  ·by_cases ha : a = q
   ·rw [ha]; exact .inr hn
   ·rw [aE ha] at z; exact .inl z
  ·by_cases ha : a = q
   ·rw [ha] at z ⊢; rw [aI] at z ⊢; exact z
   ·rw [aE ha] at z ⊢; exact s' _ _ z
section
variable {X : Cx} {e1 : Expr} {ta : AD} {p pos tp : Pos} {elts : List Expr} {c : Nat}
def Dx (ta : AD) : AD := fun δ Q => ta δ fun ds => ∃ xs, ds = [.lst xs] /\ Q (yf 0 xs)
theorem CB (hg : Gl X "enumerate") (hm : X.mg "enumerate" = none) (ha : kH X [e1] ta) (hs : starEach [e1] X.env = [(false, eval e1 X.env)] := by rfl) :
  PId X (.Tuple elts c tp) (.Call (.Name "enumerate" p) [e1] [] pos) (Dx ta) := by
 refine ⟨PI.imp (AO hg hm ha.pa hs) fun σ H R ⟨δ, r, h⟩ => ⟨δ, r, ha.mono _ _ _ (fun ds ⟨xs, ed, q⟩ vs H1 sm dvs => ?_) h⟩, fun δ P P' g h => ha.mono _ _ _ (fun ds ⟨xs, ed, q⟩ => ⟨xs, ed, g _ q⟩) h⟩
 subst ed
 cases dvs with
 | cons a r =>
  cases r
  cases a with
  | lst g1 v1 => exact ⟨_, _, rfl, g1, q _ H1 sm (za g1 v1)⟩
end
def rJ (tt : TD) (te : ED) (δ0 : SD) : List D -> List D -> (D -> Prop) -> Prop
 | [], acc, Q => Q (.lst acc)
 | d :: ds, acc, Q => ∃ x y, d = .tup [x, y] /\ tt (some x :: some y :: δ0) fun b => (b = true -> te (some x :: some y :: δ0) fun r => rJ tt te δ0 ds (acc ++ [r]) Q) /\ (b = false -> rJ tt te δ0 ds acc Q)
def pG (caps : List Nat) (ti : AD) (tt : TD) (te : ED) : ED := fun δ Q => ti δ fun ds => ds.length < sizeLine /\ rJ tt te (kL caps δ) ds [] Q
theorem rW {tt : TD} {te : ED} (mt : dM tt) (me : az te) {δ0 : SD} : ∀ (ds acc : List D) (P P' : D -> Prop), (∀ d, P d -> P' d) -> rJ tt te δ0 ds acc P -> rJ tt te δ0 ds acc P'
 | [], acc, P, P', g, h => g _ h
 | d :: ds, acc, P, P', g, ⟨x, y, e, h⟩ => ⟨x, y, e, mt _ _ _ (fun b ⟨h1, h2⟩ => ⟨fun e => me _ _ _ (fun y q => rW mt me ds _ P P' g q) (h1 e), fun e => rW mt me ds acc P P' g (h2 e)⟩) h⟩
theorem qz {K : PySem.W.Frag} {caps : List Nat} {ti : AD} {tt : TD} {te : ED} (mi : jy ti) (mt : dM tt) (me : az te) {σ : L2.St} {H : Hp} {Q : VK} (h : oE K (pG caps ti tt te) σ H Q) :
  qZ 2 caps (fun σ H R => ∃ δ, aw K H σ δ /\ ti δ fun ds => ∀ J H1, aK H H1 -> De K J H1 ds -> R J H1) (B8 K 2 (ph (gI 0) (ph (gI 1) B7))) (sQ (oT K tt)) (sH (oE K te)) σ H Q := by
 obtain ⟨δ, r, h⟩ := h
 refine ⟨δ, r, mi _ _ _ (fun ds ⟨hlen, go⟩ J H1 s1 it D hD => ?_) h⟩
 refine ⟨fun i m ys H' => m = ds.length - i /\ i <= ds.length /\ ys.length <= i /\ ∃ H0 acc, H0 D = none /\ aK H1 H0 /\ ar K H0 ys acc /\ H' = upd H0 D (.lst ys) /\ rJ tt te (kL caps δ) (ds.drop i) acc (kD K H Q), ⟨ds.length, rfl, Nat.zero_le _, Nat.zero_le _, H1, [], hD, aK.refl _, .nil, rfl, go⟩, ?_⟩
 rintro i m ys H' ⟨rfl, hle, hys, H0, acc, h0, s0, dys, rfl, gx⟩
 refine ⟨aI, ?_⟩
 have sU : aK H1 (upd H0 D (.lst ys)) := s0.trans (aS h0)
 by_cases hlt : i < ds.length
 ·refine .inr ⟨it.go i _ sU hlt, fun x H'' y => ?_⟩
  obtain ⟨s2, d, hd, Hx, sx1, dvx, only, sx⟩ := it.yZ i _ x H'' sU hlt y
  have hD2 : H'' D = some (.lst ys) := s2 _ _ aI
  have ne1 : ∀ a o, H1 a = some o -> a ≠ D := fun a o z => aJ z hD
  have nex : ∀ a o, Hx a = some o -> a ≠ D := fun a o z w => by
   rcases only a o z with z1 | z1
   ·exact ne1 a o z1 w
   ·rw [w, aI] at z1; cases z1
  have sd1 : aK H0 (del H'' D) := fun a o z => by
   rw [bW (aJ z h0)]
   exact s2 a o (aS h0 a o z)
  have sdx : aK Hx (del H'' D) := fun a o z => by
   rw [bW (nex a o z)]
   exact sx a o z
  have ed : ds.drop i = d :: ds.drop (i + 1) := by
   have hi := (List.getElem?_eq_some_iff.mp hd)
   rw [List.drop_eq_getElem_cons hi.1, hi.2]
  rw [ed] at gx
  obtain ⟨d1, d2, e12, eachd⟩ := gx
  have dvx' := e12 ▸ dvx
  cases dvx' with
  | tup g1 g2 =>
   cases g2 with
   | @cons v1 _ _ _ w1 g2 =>
    cases g2 with
    | @cons v2 _ _ _ w2 g2 =>
     cases g2
     have rel : aw K (del H'' D) (some v1 :: some v2 :: caps.map fun j => (σ[j]?).getD none) (some d1 :: some d2 :: kL caps δ) := qa (qa (vp (r.same (s1.trans (s0.trans sd1))) caps) (w2.same sdx)) (w1.same sdx)
     refine ⟨_, [v1, v2], rfl, j9 sx g1, rfl, v1, [v2], rfl, v2, [], rfl, rfl, CQ, D, ys, hD2, _, rel, mt _ _ _ (fun b ⟨hb1, hb2⟩ H3 s3 h3 => ?_) eachd⟩
     have s03 : aK H0 H3 := sd1.trans s3
     cases b with
     | false =>
      refine aT ?_
      exact ⟨ds.length - (i + 1), by omega, rfl, hlt, by omega, H3, acc, h3, s0.trans s03, dys.same s03, rfl, hb2 rfl⟩
     | true =>
      refine aZ ?_
      refine ⟨D, ys, aI, ?_⟩
      rw [tI h3]
      refine ⟨_, rel.same s3, me _ _ _ (fun y gy v H4 s4 dv h4 => ⟨aI, ?_, ds.length - (i + 1), by omega, rfl, hlt, ?_, H4, acc ++ [y], h4, s0.trans (s03.trans s4), ?_, g8, gy⟩) (hb1 rfl)⟩
      ·omega
      ·rw [List.length_append, List.length_singleton]; omega
      ·exact (dys.same (s03.trans s4)).append (.cons dv .nil)
 ·have e : i = ds.length := by omega
  subst e
  refine .inl ⟨it.stop _ sU, ?_⟩
  rw [List.drop_length] at gx
  exact gx _ _ (s1.trans sU) (.lst (c_.of aI) (dys.same (aS h0)))
section
variable {X : Cx} {scope : Scope} {cl : List (Str × Addr)} {x y : Str} {cn : List Str} {caps : List Nat} {elt iter : Expr} {ifs : List Expr} {ti : AD} {tt : TD} {te : ED} {pos px py tp : Pos} {c : Nat} {R : XR}
theorem qJ (mi : jy ti) (mt : dM tt) (me : az te) : az (pG caps ti tt te) := fun δ P P' g h => mi _ _ _ (fun ds ⟨hl, q⟩ => ⟨hl, rW mt me _ _ P P' g q⟩) h
theorem DF {i : Nat} {z : Str} {pz spos : Pos} (hst : X.stack = X.env :: X.outer) (hfr : X.env.frame = some X.env.locals) (hx : fN X (fun _ => R)) (hN : X.N.Nodup) (hi' : X.N[i]? = some z) (hz : Loc X.env.scope z) (S : bA X scope cl [x, y] caps cn) (hc : X.calm = true) (hi : PId X (.Tuple [.Name x px, .Name y py] c tp) iter ti)
  (hg : ∀ C fp s₂ H₂, PG (bG X scope cl C ([x, y] ++ cn) fp s₂ H₂ R) (.Tuple [.Name x px, .Name y py] c tp) (B8 X.K 2 (ph (gI 0) (ph (gI 1) B7))))
  (ht : ∀ C fp s₂ H₂, qt (bG X scope cl C ([x, y] ++ cn) fp s₂ H₂ R) ifs tt) (he : ∀ C fp s₂ H₂, PD (bG X scope cl C ([x, y] ++ cn) fp s₂ H₂ R) elt te)
  (hsw : swapsWith (.ListComp elt [⟨.Tuple [.Name x px, .Name y py] c tp, iter, ifs, 0⟩] scope pos) (some (.Name z pz)) spos.line X.env = pure true := by rfl) (hf : X.fn z = true \/ X.env.scope.names.lookup z = some .local := by first | exact .inl rfl | exact .inr rfl | assumption)
  (hs : ∀ x, foldedSetIterable iter X.env x = pure x := by intro _; rfl) : sk X (.Assign [.Name z pz] (.ListComp elt [⟨.Tuple [.Name x px, .Name y py] c tp, iter, ifs, 0⟩] scope pos) spos) (Ac i (pG caps ti tt te)) :=
 have mt : dM tt := (ht 0 [] X.s₀ X.H₀).mono
 have me : az te := (he 0 [] X.s₀ X.H₀).mono
 ⟨PS.imp (xl hst hfr hx hN hi' hz S hc hi.pi hg (fun C fp s₂ H₂ => jt (ht C fp s₂ H₂).GX) (fun C fp s₂ H₂ => lN (he C fp s₂ H₂).pe) hsw hf hs) fun D σ H ⟨δ, r, h⟩ =>
   qz hi.mono mt me ⟨δ, r, qJ hi.mono mt me _ _ _ (fun d q v H1 s1 dv => q _ H1 s1 ((r.same s1).set i dv)) h⟩,
  fun E E' δ l h => qJ hi.mono mt me _ _ _ (fun d q => l.nx _ q) h⟩
end
def CI : D -> Option Key
 | .int i => some (.inl i)
 | .str x => some (.inr x)
 | _ => none
def mE (kvs : List (Key × D)) (k : Key) : Option D := (kvs.find? fun kv => decide (kv.1 = k)).map (·.2)
def FQ (td ty : ED) : ED := fun δ Q => td δ fun d => ty δ fun y => ∃ kvs k r, d = .dK kvs /\ CI y = some k /\ mE kvs k = some r /\ Q r
theorem dZ.look {K : PySem.W.Frag} {H : Hp} {k : Key} {r : D} : ∀ {vs : List (Key × V)} {ds : List (Key × D)}, dZ K H vs ds -> mE ds k = some r -> ∃ v, kQ vs k = some v /\ Dv K H v r
 | _, _, .nil, e => by cases e
 | _, _, .cons (k := k') (x := x) (d := d) (xs := xs) (ds := ds) h t, e => by
  unfold mE at e
  unfold kQ
  rw [List.find?_cons] at e ⊢
  by_cases q : k' = k
  ·simp only [q, decide_true] at e ⊢
   cases e
   exact ⟨x, rfl, h⟩
  ·simp only [q, decide_false] at e ⊢
   exact dZ.look t e
section
variable {X : Cx} {o i : Expr} {pos : Pos} {td ty : ED}
theorem kx (hu : X.A.units + 64 < cLine) (ho : PD X o td) (hi : PD X i ty) (hs : Bd i) : PD X (.Subscript o i pos) (FQ td ty) := by
 refine ⟨(AK (by omega) ho.pe hi.pe hs).imp fun σ H Q ⟨δ, r, h⟩ => ⟨δ, r, ho.mono _ _ _ (fun d hd v H1 s1 dv => ⟨δ, r.same s1, hi.mono _ _ _ (fun y hy u H2 s2 du => ?_) hd⟩) h⟩, fun δ P P' g h => ho.mono _ _ _ (fun d h' => hi.mono _ _ _ (fun e ⟨kvs, k, z, h1, h2, h3, h4⟩ => ⟨kvs, k, z, h1, h2, h3, g _ h4⟩) h') h⟩
 obtain ⟨kvs, k, z, e1, e2, e3, q⟩ := hy
 subst e1
 cases dv with
 | dK g1 g2 =>
  obtain ⟨v, ev, dv'⟩ := (g2.same s2).look e3
  refine ⟨_, v, rfl, .inl ⟨_, k, fe s2 g1, ?_, ev.symm⟩, q v H2 (s1.trans s2) dv'⟩
  cases du <;> cases e2 <;> rfl
end
section
variable {X : Cx} {rest : List Stmt} {st : Stmt} {t : kI}
def tY (t : kI) : kI := fun E δ μ => t E (fL μ δ) []
theorem zR (m : sZ t) {D : Ends} {σ : L2.St} {H : Hp} (h : oM X.K (tY t) D σ H) : oM X.K t D σ H := by
 obtain ⟨δ, μ, L, r, g, h⟩ := h
 exact ⟨fL μ δ, [], [], by rw [hidL_nil]; exact g.fL r, eR.nil, m _ _ _ _ (iw (by rw [hidL_nil]; exact hidL_same)) h⟩
theorem qM (h : se X rest t) : se X rest (tY t) := ⟨gi.imp h.ps fun D σ H q => zR h.mono q, fun E E' δ μ l q => h.mono _ _ _ _ l q⟩
end
section
variable {K : PySem.W.Frag} {H : Hp} {μ : Mu} {L : List Addr} {a : Addr} {vs ys : List (Key × V)} {ds : List (Key × D)}
theorem eR.putK (g : eR K H μ L) (ha : a ∈ L) (hv : H a = some (.dK vs)) (d : dZ K (hidL H L) ys ds) : eR K (upd H a (.dK ys)) (oo a (.dK ds) μ) L := by
 have e : hidL (upd H a (.dK ys)) L = hidL H L := jE ha
 refine ⟨fun p hp => ?_, by rw [nB]; exact g.BH, fun b hb => ?_, fun b hb => ?_⟩
 ·obtain ⟨q, hq, rfl⟩ := List.mem_map.mp hp
  by_cases hqa : q.1 = a
  ·rw [if_pos hqa]
   exact ⟨ha, ys, aI, by rw [e]; exact d⟩
  ·rw [if_neg hqa]
   obtain ⟨h1, h2⟩ := g.at_ q hq
   refine ⟨h1, ?_⟩
   obtain ⟨b, m⟩ := q
   cases m with
   | lst ds => obtain ⟨ws, h, d⟩ := h2; exact ⟨ws, by rw [aE hqa]; exact h, by rw [e]; exact d⟩
   | ins C gs => obtain ⟨dx, fs, h, h2, h3, d⟩ := h2; exact ⟨dx, fs, by rw [aE hqa]; exact h, by rw [aE (fun z => by rw [z, hv] at h2; cases h2)]; exact h2, h3, by rw [e]; exact d⟩
   | dK kvs => obtain ⟨ws, h, d⟩ := h2; exact ⟨ws, by rw [aE hqa]; exact h, by rw [e]; exact d⟩
 ·by_cases hba : b = a
  ·rw [hba]; exact .dK ys aI
  ·have w := g.cG b hb
   cases w with
   | lst xs h => exact .lst xs (by rw [aE hba]; exact h)
   | dK xs h => exact .dK xs (by rw [aE hba]; exact h)
   | ins C dx fs h hd => exact .ins C dx fs (by rw [aE hba]; exact h) hd
   | own C c fs h hc hi => exact .own C c fs (by rw [aE hba]; exact h) hc (by rw [aE (fun z => by rw [z, hv] at hi; cases hi)]; exact hi)
 ·rcases g.Br b hb with ⟨m, h⟩ | ⟨c, h⟩
  ·by_cases hba : b = a
   ·exact .inl ⟨.dK ds, List.mem_map.mpr ⟨_, h, by rw [if_pos hba, hba]⟩⟩
   ·exact .inl ⟨m, List.mem_map.mpr ⟨_, h, if_neg hba⟩⟩
  ·exact .inr ⟨c, by rw [aE (fun z => by rw [z, hv] at h; cases h)]; exact h⟩
theorem eR.GN (hn : H a = none) (d : dZ K H ys ds) : eR K (upd H a (.dK ys)) [(a, .dK ds)] [a] /\ hidL (upd H a (.dK ys)) [a] = H := by
 have e : hidL (upd H a (.dK ys)) [a] = H := by
  funext b
  by_cases hb : b = a
  ·rw [hb, hidL_in List.mem_cons_self, hn]
  ·rw [hidL_out (fun z => hb (List.mem_singleton.mp z)), aE hb]
 refine ⟨⟨fun p hp => ?_, ?_, fun b hb => ?_, fun b hb => ?_⟩, e⟩
 ·rw [List.mem_singleton.mp hp]
  exact ⟨List.mem_cons_self, ys, aI, by rw [e]; exact d⟩
 ·rw [List.map_cons, List.map_nil]; exact List.nodup_cons.mpr ⟨(fun h => nomatch h), List.nodup_nil⟩
 ·rw [List.mem_singleton.mp hb]; exact .dK ys aI
 ·rw [List.mem_singleton.mp hb]; exact .inl ⟨_, List.mem_cons_self⟩
end
def d0 (kvs : List (Key × D)) (k : Key) (v : D) : List (Key × D) :=
 if (kvs.any fun kv => decide (kv.1 = k)) = true then kvs.map (fun kv => if kv.1 = k then (kv.1, v) else kv) else kvs ++ [(k, v)]
section
variable {K : PySem.W.Frag} {H : Hp}
theorem dZ.length : ∀ {vs : List (Key × V)} {ds : List (Key × D)}, dZ K H vs ds -> vs.length = ds.length
 | _, _, .nil => rfl
 | _, _, .cons _ h => congrArg (· + 1) (dZ.length h)
theorem dZ.any {k : Key} : ∀ {vs : List (Key × V)} {ds : List (Key × D)}, dZ K H vs ds -> (vs.any fun kv => decide (kv.1 = k)) = ds.any fun kv => decide (kv.1 = k)
 | _, _, .nil => rfl
 | _, _, .cons _ h => by rw [List.any_cons, List.any_cons, dZ.any h]
theorem dZ.snoc {k : Key} {v : V} {d : D} (hv : Dv K H v d) : ∀ {vs : List (Key × V)} {ds : List (Key × D)}, dZ K H vs ds -> dZ K H (vs ++ [(k, v)]) (ds ++ [(k, d)])
 | _, _, .nil => .cons hv .nil
 | _, _, .cons h r => .cons h (dZ.snoc hv r)
theorem dZ.rZ {k : Key} {v : V} {d : D} (hv : Dv K H v d) : ∀ {vs : List (Key × V)} {ds : List (Key × D)}, dZ K H vs ds -> dZ K H (vs.map fun kv => if kv.1 = k then (kv.1, v) else kv) (ds.map fun kv => if kv.1 = k then (kv.1, d) else kv)
 | _, _, .nil => .nil
 | _, _, .cons (k := j) (x := x) (d := y) h r => by
  rw [List.map_cons, List.map_cons]
  by_cases e : j = k
  ·rw [if_pos (show ((j, x) : Key × V).1 = k from e), if_pos (show ((j, y) : Key × D).1 = k from e)]
   exact .cons hv (dZ.rZ hv r)
  ·rw [if_neg (show ¬ ((j, x) : Key × V).1 = k from e), if_neg (show ¬ ((j, y) : Key × D).1 = k from e)]
   exact .cons h (dZ.rZ hv r)
theorem dZ.put {k : Key} {v : V} {d : D} (hv : Dv K H v d) {vs : List (Key × V)} {ds : List (Key × D)} (h : dZ K H vs ds) : dZ K H (putK vs k v) (d0 ds k d) := by
 unfold putK d0
 rw [h.any]
 split
 ·exact h.rZ hv
 ·exact h.snoc hv
theorem CJ {y : V} {d : D} {k : Key} (h : Dv K H y d) (e : CI d = some k) : y = kV k := by cases h <;> cases e <;> rfl
end
section
variable {X : Cx} {e ke : Expr} {te tk : ED} {i : Nat} {x : Str} {p pos pos' : Pos}
def B2 : EF := fun _ Q => ∀ a, Q (.adr a) [(a, .dK [])]
theorem zO : PF X (.Dict [] [] pos) B2 := by
 refine ⟨xa.imp fun σ H Q ⟨δ, r, q⟩ a hn => ?_, fun δ P P' g q a => g _ _ (q a)⟩
 obtain ⟨g2, e2⟩ := eR.GN (K := X.K) (ds := []) hn .nil
 exact q a (.ref a) _ [a] (by rw [e2]; exact aK.refl _) g2 (.adr a)
def ET (i : Nat) (tk te : ED) : kI := fun E δ μ => te δ fun d => ∃ a kvs, δ[i]? = some (some (.adr a)) /\ μ.lookup a = some (.dK kvs) /\ kvs.length < sizeLine /\ tk δ fun y => ∃ k, CI y = some k /\ E.nx δ (oo a (.dK (d0 kvs k d)) μ)
theorem tj (hu : X.A.units + 64 < cLine) (hi : X.N[i]? = some x) (hv : ye X.env.scope x) (hk : PD X ke tk) (he : PD X e te) (hd : (x == ("__debug__" : Str)) = false := by decide) (hcd : (x == ("__classdict__" : Str)) = false := by decide)
  (hs : swapsWith e (some (.Subscript (.Name x p) ke pos')) pos.line X.env = pure false := by rfl) : yl X (.Assign [.Subscript (.Name x p) ke pos'] e pos) (ET i tk te) := by
 refine ⟨PS.imp (AV (by omega) (js hi hv hd hcd) (pe_frM hk.pe) (pe_frM he.pe) hs) fun D σ H ⟨δ, μ, L, r, g, q⟩ => ⟨L, g.cG, δ, r, he.mono _ _ _ (fun d ⟨a, kvs, k1, k2, k3, q⟩ v H1 s1 dv z => ?_) q⟩,
  fun E E' δ μ l q => he.mono _ _ _ (fun d ⟨a, kvs, k1, k2, k3, q⟩ => ⟨a, kvs, k1, k2, k3, hk.mono _ _ _ (fun y ⟨k, e1, q⟩ => ⟨k, e1, l.nx _ _ q⟩) q⟩) q⟩
 have e1 : hidL (showL H1 H L) L = H1 := hidL_showL z
 have g1 : eR X.K (showL H1 H L) μ L := g.show z s1
 have r1 : aw X.K (hidL (showL H1 H L) L) σ δ := by rw [e1]; exact r.same s1
 obtain ⟨w, hv1, dvw⟩ := r.get i _ k1
 cases dvw
 refine ⟨_, hv1, L, g1.cG, δ, r1, hk.mono _ _ _ (fun y ⟨k, ek, q⟩ u H2 s2 du z2 => ?_) q⟩
 have e2 : hidL (showL H2 (showL H1 H L) L) L = H2 := hidL_showL z2
 have g2 : eR X.K (showL H2 (showL H1 H L) L) μ L := g1.show z2 s2
 obtain ⟨haL, ws, hH, dvk⟩ := g2.at_ _ (mem_of_lookup k2)
 rw [e1] at s2
 have dk2 : dZ X.K H2 ws kvs := by rw [e2] at dvk; exact dvk
 rw [CJ du ek]
 refine ⟨a, _, rfl, vY.k hH (by rw [dk2.length]; exact k3), ?_⟩
 have e3 : hidL (upd (showL H2 (showL H1 H L) L) a (.dK (L2.putK ws k v))) L = H2 := by rw [jE haL, e2]
 exact q σ _ L (by rw [e3]; exact s1.trans s2) (by rw [e3]; exact r.same (s1.trans s2)) (g2.putK haL hH (by rw [e2]; exact dk2.put (dv.same s2)))
end
section
variable {X : Cx} {scope : Scope} {cl : List (Str × Addr)} {x : Str} {cn : List Str} {caps : List Nat} {elt tg iter : Expr} {ifs : List Expr} {ti : AD} {tt : TD} {te : ED} {pos : Pos}
end
section
variable {X : Cx} {e ke : Expr} {te tk : ED} {i : Nat} {x : Str} {p pos pos' : Pos}
end
theorem boot_dict : bootBuiltins "dict" = some (.type "dict") := by decide +kernel
def sE : cg := fun ds Q => ∃ kvs, ds = [.dK kvs] /\ Q (.dK kvs)
theorem CV : bU sE := fun ds P P' g ⟨xs, e, q⟩ => ⟨xs, e, g _ q⟩
theorem nV {X : Cx} : g_ X (.type "dict") (fun xs H Q => ∃ p kvs, xs = [.ref p] /\ Rd H p (.dK kvs) /\ ∀ l, H l = none -> Q (.ref l) (upd H l (.dK kvs))) := by
 intro pins s σ H xs us Q I r h
 obtain ⟨p, kvs, rfl, hq, q⟩ := h
 obtain ⟨u, rfl, rx⟩ := vals1 r
 cases rx
 obtain ⟨z, y, vs, rel, dd⟩ := mj I.ah hq
 refine kt_call_dict y dd (by rw [<- rel.length]; exact z) fun h' dd' hs => ?_
 have kp : ∀ b o, s.heap.get? b = some o -> h'.get? b = some o := fun b o e => (hs.2 b (Nat.ne_of_lt (Heap.lt_size e))).trans (Heap.get?_push_of_some _ e)
 exact ⟨.ref s.heap.objs.size, _, I.laid (t' := s.toks) kp (Nat.le_refl _) (wF z (beq_eq_false_iff_ne.mpr (Ne.symm (Nat.ne_of_lt I.big))) rel dd'), rfl, q _ (I.ah.fresh (Nat.le_refl _))⟩
theorem uS {K : PySem.W.Frag} : mK K (fun xs H Q => ∃ p kvs, xs = [.ref p] /\ Rd H p (.dK kvs) /\ ∀ l, H l = none -> Q (.ref l) (upd H l (.dK kvs))) sE := by
 intro H vs ds Q dvs ⟨kvs, e, q⟩
 subst e
 cases dvs with
 | cons dv r =>
  cases r
  cases dv with
  | dK h1 h2 => exact ⟨_, _, rfl, h1, fun l hl => q _ _ (aS hl) (.dK (.of aI) (h2.same (aS hl)))⟩
section
variable {X : Cx} {o e : Expr} {es : List Expr} {t : AD} {to te : ED} {pos p p1 p2 tp apos cpos : Pos}
theorem uN (hg : Gl X "dict") (hm : X.mg "dict" = none) (ha : kH X (e :: es) t) (h1 : starEach (e :: es) X.env = (false, eval e X.env) :: starEach es X.env := by rfl) (h2 : (backTo pos (starEach es X.env)).any (·.1) = false := by rfl) : PD X (.Call (.Name "dict" p) (e :: es) [] pos) (vB sE t) := vz (nA nV hg hm boot_dict ha.pa (he := h1) (hpl := h2)) ha.mono uS CV
theorem qy {C1 C2 : Addr} : g_ X (.builtin "isinstance") (fun xs H Q => ∃ x q a C gs b, xs = [x, .ref q] /\ H q = some (.tup [.ref C1, .ref C2]) /\ Dv X.K H x (.exc a C gs) /\ gB X.K C /\ PySem.W.kitAny X.K (.ref C) [.ref C1, .ref C2] = some b /\ Q (.bl b) H) := by
 intro pins s σ H xs us Q I r h
 obtain ⟨x, q, a, C, gs, b, rfl, hq, dv, ty, e, k⟩ := h
 obtain ⟨u, w', rfl, r1, r2⟩ := vals2 r
 cases (show w' = Value.ref q from r2)
 obtain ⟨its, rv, ht, _⟩ := I.tuple (ej.of hq)
 obtain ⟨ob, ho, hc, n, hd⟩ := id ht
 obtain ⟨y1, y2, rfl, z1, z2⟩ := vals2 rv
 cases (show y1 = Value.ref C1 from z1)
 cases (show y2 = Value.ref C2 from z2)
 obtain ⟨cls, dd, data, sl⟩ := ob
 simp only at hc hd
 subst hc hd
 cases dv with
 | exc h1 h2 h3 =>
  cases (show u = Value.ref a from r1)
  obtain ⟨ox, od, J⟩ := pb I.ah h1 h2
  exact PySem.W.kia_tup (qG (ox := ox) (od := od) ty) I.iQ J ho e (fun z => nomatch z) fun tk => ⟨.bl b, H, I.tok _, rfl, k⟩
def DW (K : PySem.W.Frag) (C1 C2 : Addr) (te : ED) : ED := fun δ Q => te δ fun d => ∃ a C gs b, d = .exc a C gs /\ gB K C /\ PySem.W.kitAny K (.ref C) [.ref C1, .ref C2] = some b /\ Q (.bl b)
theorem y_ (K : PySem.W.Frag) (hK : X.K = K) {C1 C2 : Addr} {x y : Str} {c : Nat} (he : PD X e te) (hg : Gl X "isinstance") (hm : X.mg "isinstance" = none) (g1 : Gl X x) (m1 : X.mg x = some (.ref C1)) (g2 : Gl X y) (m2 : X.mg y = some (.ref C2))
  (d1 : (x == ("__debug__" : Str)) = false := by decide) (d2 : (y == ("__debug__" : Str)) = false := by decide)
  (hs : starEach [e, .Tuple [.Name x p1, .Name y p2] c tp] X.env = (false, eval e X.env) :: starEach [.Tuple [.Name x p1, .Name y p2] c tp] X.env := by rfl) :
  PD X (.Call (.Name "isinstance" p) [e, .Tuple [.Name x p1, .Name y p2] c tp] [] pos) (DW K C1 C2 te) := by
 subst hK
 refine ⟨(dq (qy (C1 := C1) (C2 := C2)) hg hm boot_isinstance (bq he.pe (bq (xg (bq (kl (v := .ref C1) g1 m1 rfl d1) (bq (kl (v := .ref C2) g2 m2 rfl d2) gO))) gO) hs) (he := hs)).imp
  fun σ H Q ⟨δ, r, h⟩ => ⟨δ, r, he.mono _ _ _ (fun d ⟨a, C, gs, b, ed, ty, ek, k⟩ v H1 s1 dv => ⟨(show 2 <= sizeLine by decide), fun q hq => ?_⟩) h⟩, fun δ P P' g h => he.mono _ _ _ (fun d ⟨a, C, gs, b, ed, ty, ek, k⟩ => ⟨a, C, gs, b, ed, ty, ek, g _ k⟩) h⟩
 exact ⟨v, q, a, C, gs, b, rfl, aI, (ed ▸ dv).same (aS hq), ty, ek, k _ _ (s1.trans (aS hq)) (.bl _)⟩
end
section
variable {X : Cx} {a b : Expr} {ta tb : ED} {pos : Pos} {k : Nat}
def valsOk (kvs : List (Key × D)) : Prop := ∀ p ∈ kvs, plain p.2 = true /\ SeqAt.shaped (eg p.2) = true
theorem pK {κ : Type} [DecidableEq κ] {y : Value} {k : κ} : ∀ {pre post : List (κ × Value)}, ((pre ++ (k, y) :: post).map (·.1)).Nodup -> valueAt (pre ++ (k, y) :: post) k = some y
 | [], _, _ => by unfold valueAt; rw [List.nil_append, List.find?_cons]; simp
 | q :: pre, post, nd => by
  rw [List.cons_append, List.map_cons, List.nodup_cons] at nd
  have ne : ¬ q.1 = k := fun e => nd.1 (by rw [e, List.map_append, List.map_cons]; exact List.mem_append_right _ List.mem_cons_self)
  have ih := pK (pre := pre) nd.2
  unfold valueAt at ih ⊢
  rw [List.cons_append, List.find?_cons]
  simp only [ne, decide_false]
  exact ih
theorem ud {pins : List (Addr × Obj)} {σ : L2.St} {H : Hp} {s : Shared} (I : Inv X pins σ H s) (hu : X.A.units + 65 < cLine) {whole : List (Key × Value)} (nd : (whole.map (·.1)).Nodup) : ∀ {ka kb : List (Key × V)} {va vb : List (Key × Value)} {kvs : List (Key × D)} {pre : List (Key × Value)},
  KV ka va -> KV kb vb -> dZ X.K H ka kvs -> dZ X.K H kb kvs -> valsOk kvs -> whole = pre ++ vb -> PySem.W.KeqHits X.A.in1 s whole va true := by
 intro ka kb va vb kvs
 induction kvs generalizing ka kb va vb with
 | nil =>
  intro pre r1 r2 d1 d2 ok e
  cases d1
  unfold KV at r1
  cases r1
  exact .nil
 | cons p kvs ih =>
  intro pre r1 r2 d1 d2 ok e
  cases d1 with
  | cons x1 d1 =>
   cases d2 with
   | cons x2 d2 =>
    unfold KV at r1 r2
    cases r1 with
    | @cons _ q1 _ qs1 h1 t1 =>
     cases r2 with
     | @cons _ q2 _ qs2 h2 t2 =>
      obtain ⟨k1, v1⟩ := q1
      obtain ⟨k2, v2⟩ := q2
      obtain ⟨e1, rv1⟩ := h1
      obtain ⟨e2, rv2⟩ := h2
      cases (show _ = k1 from e1)
      cases (show _ = k2 from e2)
      obtain ⟨pl, sh⟩ := ok _ List.mem_cons_self
      obtain ⟨as, p1⟩ := (x1.dat pl).reads I rv1
      obtain ⟨bs, p2⟩ := (x2.dat pl).reads I rv2
      have ev : PyData.eqv (eg _) (eg _) = true := SeqAt.eqv_refl _ (SeqAt.canLay_of_shaped sh)
      have q := PySem.W.keq_at (A := X.A) p1 p2 sh sh (by show X.A.units + 1 + 64 < cLine; omega)
      rw [ev] at q
      have rest := ih (pre := pre ++ [(_, v2)]) t1 t2 d1 d2 (fun p hp => ok p (List.mem_cons_of_mem _ hp)) (by rw [e, List.append_assoc]; rfl)
      refine PySem.W.KeqHits.hit (y := v2) ?_ q rest
      rw [e] at nd ⊢
      exact pK nd
def B4 : F2 := fun d e Q => ∃ kvs, d = .dK kvs /\ e = .dK kvs /\ valsOk kvs /\ Q (.bl false)
theorem Eh : cS B4 := fun d e P P' g ⟨kvs, e1, e2, o, q⟩ => ⟨kvs, e1, e2, o, g _ q⟩
def E5 (K : PySem.W.Frag) : R2 := fun x y H Q => ∃ a b ka kb kvs, x = .ref a /\ y = .ref b /\ Rd H a (.dK ka) /\ Rd H b (.dK kb) /\ dZ K H ka kvs /\ dZ K H kb kvs /\ valsOk kvs /\ Q (.bl false) H
theorem Cq (hu : X.A.units + 65 < cLine) : eQ X (compareOp .NotEq) (E5 X.K) := by
 intro pins s σ H x y v u Q I rx ry h
 obtain ⟨a, b, ka, kb, kvs, rfl, rfl, ra, rb, da, db, ok, q⟩ := h
 cases rx
 cases ry
 obtain ⟨z1, y1, va, rel1, dd1⟩ := mj I.ah ra
 obtain ⟨z2, y2, vb, rel2, dd2⟩ := mj I.ah rb
 have nd : (vb.map (·.1)).Nodup := let ⟨_, _, _, _, _, _, _, _, hn⟩ := dd2; hn
 have el : va.length = vb.length := by rw [<- rel1.length, <- rel2.length, da.length, db.length]
 refine PySem.W.keq_ne (r := true) y1 y2 dd1 dd2 (by omega) (fun _ => ud (pre := []) I hu nd rel1 rel2 da db ok rfl) ⟨.bl false, H, I, ?_, q⟩
 show Value.bool _ = Value.bool false
 rw [el]
 simp
theorem wL {K : PySem.W.Frag} : eO K (E5 K) B4 := by
 rintro H v u d e Q hv hu ⟨kvs, rfl, rfl, ok, q⟩
 cases hv with
 | dK h1 h2 =>
  cases hu with
  | dK g1 g2 => exact ⟨_, _, _, _, kvs, rfl, rfl, h1, g1, h2, g2, ok, q _ H (aK.refl _) (.bl _)⟩
theorem FN (hr : ao k X.A) (ha : PD X a ta) (hb : PD X b tb) : jc X (.Compare a [.NotEq] [b] pos) (fK (lZ B4 ta tb)) := ja (Cq (by have := hr.un; omega)) wL Eh ha hb (eW _)
end
end DC
namespace L2
open PySem PySem.Spec PyProof.Rows
open AutoSeq1 (wpAny_loadPart')
theorem gL (l : Addr) (items : Array Value) (n : Nat) (dct : Option Addr) (sl : Array (Option Value)) :
  Meets (Builtin.«enumerate.__new__» ⟨[.type "enumerate", .ref l], []⟩) (fun _ R s => s.heap.get? l = some { cls := .type "tuple", dict := dct, data := .seq items n, slots := sl } /\
   R (.ok (.ret (.ref (s.heap.push { cls := .type "tuple_iterator", data := .fields #[.ref l, .int 0 0] }).objs.size)))
    { s with heap := (s.heap.push { cls := .type "tuple_iterator", data := .fields #[.ref l, .int 0 0] }).push { cls := .type "enumerate", data := .fields #[.none, .bool false, .ref s.heap.objs.size, rawInt 0, .none, .none] } }) :=
 .of_wp fun prog w A R s h => by
  obtain ⟨hp, g, d, tk, os⟩ := s; obtain ⟨hl, h⟩ := h
  have hsub := sub_enumerate
  have hL : Heap.IsTuple (Shared.heap ⟨hp, g, d, tk, os⟩) l items := ⟨_, hl, rfl, n, rfl⟩
  wp_walk using wpAny_loadPart' hl
  refine wpAny_stack_any fun st => wpAny_pure ?_
  split
  ·rename_i c _ _ _ _ _
   cases (c == Value.type "enumerate")
   ·wp_walk using wpAny_loadPart' hl, wpAny_pyIter_tuple hL
    exact ⟨_, rfl, h⟩
   ·wp_walk using wpAny_loadPart' hl, wpAny_pyIter_tuple hL
    exact ⟨_, rfl, h⟩
  ·wp_walk using wpAny_loadPart' hl, wpAny_pyIter_tuple hL
   exact ⟨_, rfl, h⟩
section
variable {prog : Program} {w : World} {A : Around} {E : Value -> Shared -> Prop} {s : Shared}
theorem gE {l : Addr} {items : Array Value} {Q : Value -> Shared -> Prop} (hL : s.heap.IsTuple l items)
  (h : ∀ h', IsEnum h' (s.heap.objs.size + 1) s.heap.objs.size 0 .none -> h'.IsTupleIter s.heap.objs.size l 0 -> h'.objs.size = s.heap.objs.size + 2 ->
   (∀ b o, s.heap.get? b = some o -> h'.get? b = some o) -> Q (.ref (s.heap.objs.size + 1)) { s with heap := h' }) :
  wpAny (model prog w) A (call (.type "enumerate") [.ref l]) Q E s := by
 obtain ⟨⟨c, dct, dt, sl⟩, hl, hc, n, hd⟩ := hL
 replace hc : c = .type "tuple" := hc
 replace hd : dt = .seq items n := hd
 subst hc hd
 refine callType_new F.called_enumerate (by decide) (F.typeCall_enumerate_1 _) (F.newCall_enumerate_1 _) (fun obj => F.args_object_init_2 obj _) F.entry_enumerate_new
  (gL l items n dct sl) ⟨hl, ?_⟩
 have hz : (s.heap.push { cls := .type "tuple_iterator", data := .fields #[.ref l, .int 0 0] }).objs.size = s.heap.objs.size + 1 := Heap.size_push ..
 show _ /\ _
 rw [hz]
 have he : IsEnum ((s.heap.push { cls := .type "tuple_iterator", data := .fields #[.ref l, .int 0 0] }).push
   { cls := .type "enumerate", data := .fields #[.none, .bool false, .ref s.heap.objs.size, rawInt 0, .none, .none] }) (s.heap.objs.size + 1) s.heap.objs.size 0 .none := by
  have := Heap.get?_push_size (s.heap.push { cls := .type "tuple_iterator", data := .fields #[.ref l, .int 0 0] })
   (o := { cls := .type "enumerate", data := .fields #[.none, .bool false, .ref s.heap.objs.size, rawInt 0, .none, .none] }) rfl
  rw [hz] at this; exact this
 refine ⟨⟨_, he, rfl⟩, h _ he ⟨_, Heap.get?_push_of_some _ (Heap.get?_push_size _ rfl), rfl, rfl⟩ (by rw [Heap.size_push, hz]) fun b o x => Heap.get?_push_of_some _ (Heap.get?_push_of_some _ x)⟩
theorem uU {it l : Addr} (xs : Array Value) (hh : A.handled = none) (hne : l ≠ it) : Draws prog w A it [it, l] xs.size (fun i x => xs[i]? = some x) (fun k h => h.IsTupleIter it l k /\ h.IsTuple l xs) where
 live := fun i h ⟨⟨o, e, _⟩, _⟩ => ⟨o, e⟩
 frame := fun i h h' ⟨h1, h2⟩ k => ⟨h1.at fun o q => k it (by simp) o q, by obtain ⟨o, e, r⟩ := h2; exact ⟨o, k l (by simp) o e, r⟩⟩
 item := fun i s Q E hi ⟨h1, h2⟩ hQ => oV h1 h2 (x := xs[i]) (by simp [hi]) fun h' h1' sb => hQ _ h' s.toks (by simp [hi]) ⟨h1', by obtain ⟨o, e, r⟩ := h2; exact ⟨o, sb.extBut _ _ hne e, r⟩⟩ sb
 done := fun s Q E ⟨h1, h2⟩ hE => j8 hh h1 h2 (by simp) hE
end
def Bc (K : PySem.W.Frag) (l : Addr) : It where
 go := fun i H => ∃ xs x, ej K H l xs /\ xs[i]? = some x
 yZ := fun i H v H' => ∃ p x, H p = none /\ v = .ref p /\ H' = upd H p (.tup [.int (i : Int), x]) /\ ∀ xs, ej K H l xs -> xs[i]? = some x
 stop := fun i H => ∃ xs, ej K H l xs /\ xs[i]? = none
theorem sM {P : Program} {w : World} {K : PySem.W.Frag} {elts : List Expr} {c : Nat} {tp : Pos} {e it l : Addr} (hei : e ≠ it) (hle : l ≠ e) (hli : l ≠ it) :
  Turn P w K (.Tuple elts c tp) (Bc K l) [e, it] e (fun i h => (∃ old, IsEnum h e it i old) /\ h.IsTupleIter it l i) where
 mem := by simp
 obj := fun i h ⟨⟨old, he⟩, hit⟩ q hq => by
  simp only [List.mem_cons, List.not_mem_nil, or_false] at hq
  rcases hq with rfl | rfl
  ·exact ⟨_, he, fun v z => by cases z⟩
  ·obtain ⟨o, z, _, d⟩ := hit
   exact ⟨o, z, fun v y => by rw [d] at y; cases y⟩
 keep := fun i h h' ⟨⟨old, he⟩, hit⟩ k => ⟨⟨old, k _ (by simp) _ he⟩, hit.at fun o z => k it (by simp) o z⟩
 item := by
  intro X hP hw hK hc i pins s σ H E I hf st hg
  subst hP hw hK
  obtain ⟨⟨old, he⟩, hit⟩ := st
  obtain ⟨xs, x, hq, hx⟩ := hg
  obtain ⟨its, rv, p, hz⟩ := I.tuple hq
  obtain ⟨u, hu, ru⟩ := rv.get hx
  have hlt : i < its.toArray.size := by rw [List.size_toArray]; exact (List.getElem?_eq_some_iff.mp hu).1
  refine wpAny_pyNext_enum_itemD (uU (A := X.A.in1) its.toArray (I.ok.hd hc) hli) he ⟨hit, p⟩ hlt hei (by simp [hei, Ne.symm hle]) fun x' h' tk hP ho hs' hT hsz hk => ?_
  obtain ⟨hit', _⟩ := hs'
  have ex : x' = u := by
   have q : its[i]? = some x' := by simpa using hP
   rw [hu] at q
   exact (Option.some.inj q).symm
  subst ex
  refine ⟨_, rfl, wpAny_letOwnedTupleGo_enum ho fun h'' he' sb => ?_⟩
  have elt : e < s.heap.objs.size := Heap.lt_size he
  have ilt : it < s.heap.objs.size := by obtain ⟨o, z, _⟩ := hit; exact Heap.lt_size z
  have up : ∀ b o, b ≠ e -> h'.get? b = some o -> h''.get? b = some o := fun b o nb q => (sb.2 b nb).trans q
  have I' := I.uC (h' := h'') (t' := tk + 1) (ch := [e, it]) (T := s.heap.objs.size) (u1 := .int (i : Int) tk) (u2 := x') (x := .int (i : Int)) (y := x)
   (fun b o hb q => by
    simp only [List.mem_cons, List.not_mem_nil, or_false, not_or] at hb
    exact up b o hb.1 (hk b o hb.1 hb.2 q)) hf (Nat.le_refl _) (up _ _ (Nat.ne_of_gt elt) hT) ⟨_, rfl⟩ ru
  refine ⟨.ref s.heap.objs.size, _, I', rfl, ⟨_, x, I.fresh, rfl, rfl, fun zs hz' => by rw [I.nH hz' hq]; exact hx⟩, ⟨⟨_, he'⟩, hit'.at fun o z => up it o (Ne.symm hei) z⟩, fun b hb => ?_⟩
  have hfb := (hf b hb).1
  rw [aE]
  ·exact hfb
  ·intro z
   have lt : b < s.heap.objs.size := by
    simp only [List.mem_cons, List.not_mem_nil, or_false] at hb
    rcases hb with rfl | rfl
    ·exact elt
    ·exact ilt
   rw [z] at lt
   exact Nat.lt_irrefl _ lt
 done := by
  intro X hP hw hK hc i pins s σ H E I hf st hg
  subst hP hw hK
  obtain ⟨⟨old, he⟩, hit⟩ := st
  obtain ⟨xs, hq, hx⟩ := hg
  obtain ⟨its, rv, p, hz⟩ := I.tuple hq
  have hl := rv.length
  have hge : its.length <= i := by rw [List.getElem?_eq_none_iff] at hx; omega
  have D : Draws X.prog X.w X.A.in1 it [it, l] i (fun i x => its.toArray[i]? = some x) (fun k h => k = i /\ h.IsTupleIter it l k /\ h.IsTuple l its.toArray) := {
   live := fun i h ⟨_, ⟨o, e, _⟩, _⟩ => ⟨o, e⟩
   frame := fun i h h' ⟨h0, h1, h2⟩ k => ⟨h0, h1.at fun o q => k it (by simp) o q, by obtain ⟨o, e, r⟩ := h2; exact ⟨o, k l (by simp) o e, r⟩⟩
   item := fun k s Q E hi ⟨h0, _⟩ hQ => absurd hi (by omega)
   done := fun s Q E ⟨_, h1, h2⟩ hE => j8 (I.ok.hd hc) h1 h2 (by simp; omega) hE }
  refine wpAny_pyNext_enum_endD D he ⟨rfl, hit, p⟩ fun h' eb => ⟨rfl, I.uB (t' := s.toks) (ch := [e, it]) (fun b o hb q => ?_) hf⟩
  simp only [List.mem_cons, List.not_mem_nil, or_false, not_or] at hb
  exact eb b o hb.2 q
 self := fun _ _ _ _ _ st h => let ⟨⟨_, he⟩, _⟩ := st; wpAny_pyIter_enum he h
section
variable {X : Cx} {e1 : Expr} {ta : TA} {p pos tp : Pos} {elts : List Expr} {c : Nat}
def CA (K : PySem.W.Frag) (ta : TA) : TI := fun σ H R => ta σ H fun vs H1 => ∃ l xs, vs = [.ref l] /\ ej K H1 l xs /\ R (Bc K l) H1
theorem xi (hg : Gl X "enumerate") (hm : X.mg "enumerate" = none) (ha : PA X [e1] ta) (hs : starEach [e1] X.env = [(false, eval e1 X.env)] := by rfl) :
  PI X (.Tuple elts c tp) (.Call (.Name "enumerate" p) [e1] [] pos) (CA X.K ta) := by
 intro pins s σ H R I h
 refine Call_ (iR I hg hm boot_enumerate (PyProof.Rows.callWith_type1 (au (ha pos pins s σ H _ I h) fun us s1 ⟨vs, H1, I1, r1, q1⟩ => ?_) (by rw [hs]; rfl) rfl))
 obtain ⟨l, xs, e, hq, q⟩ := q1
 subst e
 obtain ⟨u, rfl, ru⟩ := r1.one
 cases (show u = Value.ref l from ru)
 obtain ⟨its, rv, pl, hz⟩ := I1.tuple hq
 have llt : l < s1.heap.objs.size := by obtain ⟨o, z, _⟩ := pl; exact Heap.lt_size z
 refine gE pl fun h' a1 a2 a3 a4 => wpAny_pyIter_enum a1 ?_
 have I2 : Inv X pins σ H1 { s1 with heap := h' } := I1.kept (t' := s1.toks) a4
 refine ⟨_, [s1.heap.objs.size + 1, s1.heap.objs.size], _, _, H1, rfl, I2, sM (l := l) (Nat.succ_ne_self _) (Nat.ne_of_lt (Nat.lt_succ_of_lt llt)) (Nat.ne_of_lt llt), ⟨⟨_, a1⟩, a2⟩, fun b hb => ?_, q⟩
 have hb' : s1.heap.objs.size <= b := by
  simp only [List.mem_cons, List.not_mem_nil, or_false] at hb
  rcases hb with rfl | rfl
  ·exact Nat.le_add_right _ _
  ·exact Nat.le_refl _
 exact I1.wY hb' (I1.ah.fresh hb')
end
end L2
namespace DC
open PySem PySem.Spec PyProof.Rows L2
theorem wq {K : PySem.W.Frag} {H : Hp} {l : Addr} {xs : List V} {ds : List D} (h1 : ej K H l xs) (d1 : ar K H xs ds) : De K (Bc K l) H (yf 0 ds) := by
 have hl := iu 0 ds
 refine ⟨fun i H' s' hi => ?_, fun H' s' => ⟨xs, j9 s' h1, ?_⟩, fun i H' x H'' s' hi y => ?_⟩
 ·rw [hl] at hi
  obtain ⟨v1, g1, _⟩ := d1.get (List.getElem?_eq_getElem hi)
  exact ⟨xs, v1, j9 s' h1, g1⟩
 ·rw [hl, List.getElem?_eq_none_iff, d1.length]
  exact Nat.le_refl _
 ·obtain ⟨q, u, hn, rfl, rfl, y1⟩ := y
  obtain ⟨a1, g1, v1⟩ := d1.wb (y1 _ (j9 s' h1))
  have hnH : H q = none := s'.free hn
  refine ⟨aS hn, .tup [.int (i : Int), a1], by rw [kY, g1, Nat.zero_add]; rfl, upd H q (.tup [.int (i : Int), u]), aS hnH, .tup (ej.of aI) (.cons (.int _) (.cons (v1.same (aS hnH)) .nil)), fun a o z => ?_, fun a o z => ?_⟩
  ·by_cases ha : a = q
   ·rw [ha]; exact .inr hn
   ·rw [aE ha] at z; exact .inl z
  ·by_cases ha : a = q
   ·rw [ha] at z ⊢; rw [aI] at z ⊢; exact z
   ·rw [aE ha] at z ⊢; exact s' _ _ z
section
variable {X : Cx} {e1 : Expr} {ta : AD} {p pos tp : Pos} {elts : List Expr} {c : Nat}
def Bg (ta : AD) : AD := fun δ Q => ta δ fun ds => ∃ xs, ds = [.tup xs] /\ Q (yf 0 xs)
theorem zS (hg : Gl X "enumerate") (hm : X.mg "enumerate" = none) (ha : kH X [e1] ta) (hs : starEach [e1] X.env = [(false, eval e1 X.env)] := by rfl) :
  PId X (.Tuple elts c tp) (.Call (.Name "enumerate" p) [e1] [] pos) (Bg ta) := by
 refine ⟨PI.imp (xi hg hm ha.pa hs) fun σ H R ⟨δ, r, h⟩ => ⟨δ, r, ha.mono _ _ _ (fun ds ⟨xs, ed, q⟩ vs H1 sm dvs => ?_) h⟩, fun δ P P' g h => ha.mono _ _ _ (fun ds ⟨xs, ed, q⟩ => ⟨xs, ed, g _ q⟩) h⟩
 subst ed
 cases dvs with
 | cons a r =>
  cases r
  cases a with
  | tup g1 v1 => exact ⟨_, _, rfl, g1, q _ H1 sm (wq g1 v1)⟩
end
section
variable {P : Program} {w : World} {K : PySem.W.Frag} {mg : Str -> Option Value} {base : Heap}
theorem GS {x qual : Str} {st : Stmt} {f : Addr} {fd : FuncData} {N ps : List Str} {k : Nat} {sx : kU} {t : XR -> kI} (F : lz K x qual st f fd) (S : aG N ps (aC st)) (len : ∀ ds Q R, sx ds Q R -> ds.length = ps.length)
  (hb : ∀ (cdv : Value) (A : Around) (outer : List Env) (s : Shared) (H : Hp) (E : XK) (R : XR), ao k (A.deeper (envOfC qual (aC st) s.heap.objs.size f cdv)) -> fN (qo P w K mg base N qual st f cdv A outer s H E) (fun _ => R) -> se (qo P w K mg base N qual st f cdv A outer s H E) (aY st) (t R))
  (hr : ∀ ds Q R, sx ds Q R -> t R { nx := fun _ _ => Q .aV, rt := fun d μ => Q (b_ μ d) } (bB N ds) []) : bR P w K mg base (mJ P w) (k + 1) f fd ps (Aq K sx) := by
 obtain ⟨oc, od, dV, kV, doc, pm, an, cdv, ct, osl, rfl, lk, hcd⟩ := F.ex
 refine pd lk hcd S (fun vs H Q E ⟨ds, dvs, h⟩ => by rw [dvs.length]; exact len ds _ _ h) fun A outer s H vs Q E hroom ⟨ds, dvs, h⟩ => ?_
 have B := hb cdv A outer s H E (kX K E) hroom vd
 refine ⟨_, B.ps, bB N ds, [], [], by rw [hidL_nil]; exact dY dvs, eR.nil, ?_⟩
 let Q' : D -> Prop := fun d => ∀ v H', Dv K H' v d -> Q v H'
 exact B.mono { nx := fun _ _ => Q' .aV, rt := fun d μ => Q' (b_ μ d) } _ _ _ ⟨fun δ μ q σ H' L' s' r g => q _ H' .aV, fun d μ q v H' L' s' g dv => q v H' (g.view dv), fun _ _ q => q.elim, fun _ _ q => q.elim⟩ (hr ds _ _ h)
theorem Eo {x qual : Str} {st : Stmt} {f : Addr} {fd : FuncData} {N ps : List Str} {k : Nat} {sx : kU} {t : XR -> kI} (F : qq K x qual st f fd) (S : aG N ps (aC st)) (len : ∀ ds Q R, sx ds Q R -> ds.length = ps.length)
  (hb : ∀ (f : Addr) (cdv : Value) (A : Around) (outer : List Env) (s : Shared) (H : Hp) (E : XK) (R : XR), ao k (A.deeper (envOfC qual (aC st) s.heap.objs.size f cdv)) -> fN (qo P w K mg base N qual st f cdv A outer s H E) (fun _ => R) -> se (qo P w K mg base N qual st f cdv A outer s H E) (aY st) (t R))
  (hr : ∀ ds Q R, sx ds Q R -> t R { nx := fun _ _ => Q .aV, rt := fun d μ => Q (b_ μ d) } (bB N ds) []) : bR P w K mg base (mJ P w) (k + 1) f fd ps (Aq K sx) := GS (tQ F) S len (hb f) hr
end
section
variable {X : Cx} {scope : Scope} {cl : List (Str × Addr)} {x : Str} {cn : List Str} {caps : List Nat} {elt tg iter : Expr} {ifs : List Expr} {ti : AD} {tt : TD} {te : ED} {pos : Pos}
end
end DC
namespace K06
open PySem PySem.Spec PyProof.Rows L2 DC
def top (i : Nat) : Stmt := PySem.Challenge.pw_runrows_k06_beats.main.body.getD i (.Pass ⟨0, 0, 0, 0⟩)
def bQ : Stmt -> List Stmt
 | .ClassDef _ _ _ b _ _ _ _ _ _ _ => b
 | _ => []
theorem dE {N P : List Str} {sc : Scope} (a : sc.kind = .function := by rfl) (b : sc.isCoroutine = false := by rfl) (c : sc.isGenerator = false := by rfl) (d : N.Nodup := by decide +kernel) (e : N.take P.length = P := by rfl)
  (f : ∀ x ∈ P, sc.names.lookup x = some .local \/ sc.names.lookup x = some .cell := by decide +kernel) (g : ∀ y ∈ sc.names, y.2 ≠ .free := by decide +kernel) : aG N P sc := ⟨a, b, c, d, e, f, g⟩
abbrev eY : Stmt := top 14
theorem gZ : aG ["text"] ["text"] (aC eY) := dE
abbrev dD : Stmt := top 15
theorem fG : aG ["text"] ["text"] (aC dD) := dE
abbrev jv : Stmt := top 16
theorem lT : aG ["thing"] ["thing"] (aC jv) := dE
abbrev ju : Stmt := top 17
theorem lS : aG ["thing", "words"] ["thing"] (aC ju) := dE
abbrev gT : Stmt := top 18
theorem jS : aG ["thing"] ["thing"] (aC gT) := dE
abbrev iS : Stmt := top 19
theorem j_ : aG ["thing"] ["thing"] (aC iS) := dE
abbrev gX : Stmt := top 25
theorem jU : aG ["name"] ["name"] (aC gX) := dE
abbrev fi : Stmt := top 34
theorem iF : aG ["first"] ["first"] (aC fi) := dE
abbrev gW : Stmt := top 35
theorem jT : aG ["beat", "wanted", "place"] ["beat", "wanted", "place"] (aC gW) := dE
abbrev gS : Stmt := top 43
theorem jR : aG ["told"] ["told"] (aC gS) := dE
abbrev iT : Stmt := top 44
theorem kC : aG ["told", "inner", "word"] ["told", "inner"] (aC iT) := dE
abbrev iU : Stmt := top 45
theorem kE : aG ["told", "inner", "word"] ["told", "inner"] (aC iU) := dE
abbrev eZ : Stmt := top 46
theorem gc : aG ["told"] ["told"] (aC eZ) := dE
abbrev g6 : Stmt := top 47
theorem lU : aG ["told", "inner"] ["told"] (aC g6) := dE
abbrev d5 : Stmt := top 49
theorem fz : aG ["_law_script", "_law_k"] ["_law_script", "_law_k"] (aC d5) := dE
abbrev ff : Stmt := top 50
theorem iB : aG ["_law_cell", "_law_k", "_law_mix"] ["_law_cell", "_law_k"] (aC ff) := dE
abbrev fg : Stmt := top 51
theorem iC : aG ["_law_cell", "_law_many", "_law_letters", "_law_base", "_law_k", "_law_at", "_law_ahead"] ["_law_cell", "_law_many"] (aC fg) := dE
abbrev eX : Stmt := top 52
theorem gY : aG ["_law_mix"] ["_law_mix"] (aC eX) := dE
abbrev fh : Stmt := top 53
theorem iE : aG ["_law_mix", "_law_kind"] ["_law_mix", "_law_kind"] (aC fh) := dE
abbrev eI : Stmt := top 54
theorem jQ : aG ["_law_cell", "_law_names_here", "_law_deep", "_law_way", "_law_one", "_law_name", "_law_first", "_law_other"] ["_law_cell", "_law_names_here", "_law_deep"] (aC eI) := dE
abbrev gQ : Stmt := top 55
theorem jO : aG ["_law_cell", "_law_names_here", "_law_kind", "_law_beat_here", "_law_number_here"] ["_law_cell", "_law_names_here", "_law_kind", "_law_beat_here"] (aC gQ) := dE
abbrev dX : Stmt := top 56
theorem iD : aG ["_law_cell", "_law_names_here", "_law_kind", "_law_beat_here", "_law_deep", "_law_way", "_law_mixes", "_law_first", "_law_one", "_law_sign", "_law_within", "_law_other"] ["_law_cell", "_law_names_here", "_law_kind", "_law_beat_here", "_law_deep"] (aC dX) := dE
abbrev eG : Stmt := top 57
theorem jN : aG ["_law_told_here", "_law_beats", "_law_place", "_law_inner", "_law_some", "_law_beat_here", "_law_k", "_law_one", "_law_found", "_law_outer", "_law_due"] ["_law_told_here", "_law_beats", "_law_place"] (aC eG) := dE
abbrev gR : Stmt := top 58
theorem jP : aG ["_law_part", "_law_beats", "_law_place", "e"] ["_law_part", "_law_beats", "_law_place"] (aC gR) := dE
abbrev gU : Stmt := top 59
theorem x_ : aG ["_law_script", "_law_cell", "_law_names_here", "_law_some", "_law_beats", "_law_k", "_law_told_here", "_law_handed", "_law_part", "_law_place"] ["_law_script"] (aC gU) := dE
abbrev cL : Stmt := (bQ (top 6)).getD 0 (.Pass ⟨0, 0, 0, 0⟩)
theorem iV : aG ["self", "row", "place", "one", "other"] ["self", "row", "place", "one", "other"] (aC cL) := dE
abbrev bT : Stmt := (bQ (top 27)).getD 0 (.Pass ⟨0, 0, 0, 0⟩)
theorem cb : aG ["self"] ["self"] (aC bT) := dE
abbrev ai : Stmt := (bQ (top 27)).getD 2 (.Pass ⟨0, 0, 0, 0⟩)
theorem jM : aG ["self"] ["self"] (aC ai) := dE
abbrev af : Stmt := (bQ (top 27)).getD 3 (.Pass ⟨0, 0, 0, 0⟩)
theorem h_ : aG ["self"] ["self"] (aC af) := dE
abbrev aQ : Stmt := (bQ (top 27)).getD 4 (.Pass ⟨0, 0, 0, 0⟩)
theorem dN : aG ["self"] ["self"] (aC aQ) := dE
abbrev aW : Stmt := (bQ (top 27)).getD 8 (.Pass ⟨0, 0, 0, 0⟩)
theorem fu : aG ["self", "beats", "place", "within"] ["self", "beats", "place"] (aC aW) := dE
abbrev aP : Stmt := (bQ (top 27)).getD 9 (.Pass ⟨0, 0, 0, 0⟩)
theorem eM : aG ["self", "beats", "within", "place", "known", "beat"] ["self", "beats", "within", "place"] (aC aP) := dE
abbrev cV : Stmt := (bQ (top 28)).getD 0 (.Pass ⟨0, 0, 0, 0⟩)
theorem eJ : aG ["self", "value"] ["self", "value"] (aC cV) := dE
abbrev cW : Stmt := (bQ (top 29)).getD 0 (.Pass ⟨0, 0, 0, 0⟩)
theorem eL : aG ["self", "name"] ["self", "name"] (aC cW) := dE
abbrev bg : Stmt := (bQ (top 29)).getD 3 (.Pass ⟨0, 0, 0, 0⟩)
theorem d8 : aG ["self", "beats", "within", "place"] ["self", "beats", "within", "place"] (aC bg) := dE
abbrev cM : Stmt := (bQ (top 30)).getD 0 (.Pass ⟨0, 0, 0, 0⟩)
theorem d9 : aG ["self", "part"] ["self", "part"] (aC cM) := dE
abbrev cN : Stmt := (bQ (top 30)).getD 1 (.Pass ⟨0, 0, 0, 0⟩)
theorem fv : aG ["self"] ["self"] (aC cN) := dE
abbrev dB : Stmt := (bQ (top 31)).getD 0 (.Pass ⟨0, 0, 0, 0⟩)
theorem fE : aG ["self", "sign", "one", "other"] ["self", "sign", "one", "other"] (aC dB) := dE
abbrev dU : Stmt := (bQ (top 31)).getD 1 (.Pass ⟨0, 0, 0, 0⟩)
theorem hZ : aG ["self"] ["self"] (aC dU) := dE
abbrev cJ : Stmt := (bQ (top 32)).getD 0 (.Pass ⟨0, 0, 0, 0⟩)
theorem d7 : aG ["self", "truth", "one", "other"] ["self", "truth", "one", "other"] (aC cJ) := dE
abbrev cK : Stmt := (bQ (top 32)).getD 1 (.Pass ⟨0, 0, 0, 0⟩)
theorem fq : aG ["self"] ["self"] (aC cK) := dE
abbrev bc : Stmt := (bQ (top 37)).getD 0 (.Pass ⟨0, 0, 0, 0⟩)
theorem d6 : aG ["self", "part", "first"] ["self", "part", "first"] (aC bc) := dE
abbrev cI : Stmt := (bQ (top 37)).getD 1 (.Pass ⟨0, 0, 0, 0⟩)
theorem fm : aG ["self"] ["self"] (aC cI) := dE
abbrev d4 : Stmt := (bQ (top 38)).getD 0 (.Pass ⟨0, 0, 0, 0⟩)
theorem ft : aG ["self", "head", "rest"] ["self", "head", "rest"] (aC d4) := dE
abbrev eF : Stmt := (bQ (top 38)).getD 1 (.Pass ⟨0, 0, 0, 0⟩)
theorem jL : aG ["self"] ["self"] (aC eF) := dE
abbrev dC : Stmt := (bQ (top 39)).getD 0 (.Pass ⟨0, 0, 0, 0⟩)
theorem fF : aG ["self", "part", "name"] ["self", "part", "name"] (aC dC) := dE
abbrev dW : Stmt := (bQ (top 39)).getD 1 (.Pass ⟨0, 0, 0, 0⟩)
theorem iA : aG ["self"] ["self"] (aC dW) := dE
abbrev bw : Stmt := (bQ (top 39)).getD 4 (.Pass ⟨0, 0, 0, 0⟩)
theorem eN : aG ["self", "beats", "within", "place", "beat"] ["self", "beats", "within", "place"] (aC bw) := dE
abbrev b5 : Stmt := (bQ (top 40)).getD 0 (.Pass ⟨0, 0, 0, 0⟩)
theorem fD : aG ["self", "part", "name", "first"] ["self", "part", "name", "first"] (aC b5) := dE
abbrev dS : Stmt := (bQ (top 40)).getD 1 (.Pass ⟨0, 0, 0, 0⟩)
theorem hX : aG ["self"] ["self"] (aC dS) := dE
abbrev bu : Stmt := (bQ (top 40)).getD 4 (.Pass ⟨0, 0, 0, 0⟩)
theorem eK : aG ["self", "beats", "within", "place", "beat"] ["self", "beats", "within", "place"] (aC bu) := dE
inductive Pt where
 | given (v : D) | named (n : Str) | turned (p : Pt) | pair (g : Str) (a b : Pt) | choice (t a b : Pt)
 | before (p : Pt) (f : D) | led (h r : Pt) | bP (p : Pt) (n : Str) | held (p : Pt) (n : Str) (f : D)
structure bh where
 given : Addr
 named : Addr
 turned : Addr
 pair : Addr
 choice : Addr
 before : Addr
 led : Addr
 bP : Addr
 held : Addr
def Pt.cls (A : bh) : Pt -> Addr
 | .given _ => A.given | .named _ => A.named | .turned _ => A.turned | .pair _ _ _ => A.pair | .choice _ _ _ => A.choice
 | .before _ _ => A.before | .led _ _ => A.led | .bP _ _ => A.bP | .held _ _ _ => A.held
def Pt.d (A : bh) : Pt -> D
 | .given v => .obj A.given [("value", v)]
 | .named n => .obj A.named [("name", .str n)]
 | .turned p => .obj A.turned [("part", p.d A)]
 | .pair g a b => .obj A.pair [("sign", .str g), ("one", a.d A), ("other", b.d A)]
 | .choice t a b => .obj A.choice [("truth", t.d A), ("one", a.d A), ("other", b.d A)]
 | .before p f => .obj A.before [("part", p.d A), ("first", f)]
 | .led h r => .obj A.led [("head", h.d A), ("rest", r.d A)]
 | .bP p n => .obj A.bP [("part", p.d A), ("name", .str n)]
 | .held p n f => .obj A.held [("part", p.d A), ("name", .str n), ("first", f)]
def Pt.depth : Pt -> Nat
 | .given _ => 1 | .named _ => 1 | .turned p => p.depth + 1 | .pair _ a b => max a.depth b.depth + 1 | .choice t a b => max t.depth (max a.depth b.depth) + 1
 | .before p _ => p.depth + 1 | .led h r => max h.depth r.depth + 1 | .bP p _ => p.depth + 1 | .held p _ _ => p.depth + 1
def Pt.inner : Pt -> List Pt
 | .given _ => [] | .named _ => [] | .turned p => [p] | .pair _ a b => [a, b] | .choice t a b => [t, a, b]
 | .before p _ => [p] | .led h r => [h, r] | .bP p _ => [p] | .held p _ _ => [p]
def Pt.told : Pt -> D
 | .given v => .tup [.str "given", v]
 | .named n => .tup [.str "named", .str n]
 | .turned p => .tup [.str "not", p.told]
 | .pair g a b => .tup [.str g, a.told, b.told]
 | .choice t a b => .tup [.str "if", t.told, a.told, b.told]
 | .before p f => .tup [.str "before", p.told, f]
 | .led h r => .tup [.str "then", h.told, r.told]
 | .bP p n => .tup [.str "when", p.told, .str n]
 | .held p n f => .tup [.str "held", p.told, .str n, f]
structure f_ (K : PySem.W.Frag) (A : bh) : Prop where
 nd : [A.given, A.named, A.turned, A.pair, A.choice, A.before, A.led, A.bP, A.held].Nodup
 cl : ∀ C ∈ [A.given, A.named, A.turned, A.pair, A.choice, A.before, A.led, A.bP, A.held], pH K C
 mH : ∀ C ∈ [A.given, A.named, A.turned, A.pair, A.choice, A.before, A.led, A.bP, A.held], ∀ f ∈ (["value", "name", "part", "sign", "one", "other", "truth", "first", "head", "rest"] : List Str), cy K C f
theorem Pt.ax (A : bh) (p : Pt) : p.cls A ∈ [A.given, A.named, A.turned, A.pair, A.choice, A.before, A.led, A.bP, A.held] := by cases p <;> simp [Pt.cls]
def Pt.ix : Pt -> Nat
 | .given _ => 0 | .named _ => 1 | .turned _ => 2 | .pair _ _ _ => 3 | .choice _ _ _ => 4 | .before _ _ => 5 | .led _ _ => 6 | .bP _ _ => 7 | .held _ _ _ => 8
theorem Pt.at_ (A : bh) (p : Pt) : [A.given, A.named, A.turned, A.pair, A.choice, A.before, A.led, A.bP, A.held][p.ix]? = some (p.cls A) := by cases p <;> rfl
theorem xP {α : Type} : ∀ {l : List α} {i j : Nat} {x : α}, l.Nodup -> l[i]? = some x -> l[j]? = some x -> i = j := fun {l i j x} nd a b => by
 have hi : i < l.length := (List.getElem?_eq_some_iff.mp a).1
 exact (List.getElem?_inj hi nd).mp (a.trans b.symm)
theorem fQ {K : PySem.W.Frag} {A : bh} (hA : f_ K A) {p q : Pt} (h : p.cls A = q.cls A) : p.ix = q.ix := xP hA.nd (p.at_ A) (by rw [h]; exact q.at_ A)
theorem qC {K : PySem.W.Frag} {A : bh} (hA : f_ K A) {p : Pt} (h : p.cls A = A.given) : ∃ v, p = .given v := by
 have i := fQ hA (q := .given .aV) h
 cases p with
 | given v => exact ⟨v, rfl⟩
 | _ => exact absurd i (by simp only [Pt.ix]; decide)
theorem qE {K : PySem.W.Frag} {A : bh} (hA : f_ K A) {p : Pt} (h : p.cls A = A.named) : ∃ n, p = .named n := by
 have i := fQ hA (q := .named "") h
 cases p with
 | named n => exact ⟨n, rfl⟩
 | _ => exact absurd i (by simp only [Pt.ix]; decide)
theorem mx {K : PySem.W.Frag} {A : bh} (hA : f_ K A) {p : Pt} (h : p.cls A = A.turned) : ∃ x, p = .turned x := by
 have i := fQ hA (q := .turned (.given .aV)) h
 cases p with
 | turned x => exact ⟨x, rfl⟩
 | _ => exact absurd i (by simp only [Pt.ix]; decide)
theorem tT {K : PySem.W.Frag} {A : bh} (hA : f_ K A) {p : Pt} (h : p.cls A = A.pair) : ∃ g x y, p = .pair g x y := by
 have i := fQ hA (q := .pair "" (.given .aV) (.given .aV)) h
 cases p with
 | pair g x y => exact ⟨g, x, y, rfl⟩
 | _ => exact absurd i (by simp only [Pt.ix]; decide)
theorem mw {K : PySem.W.Frag} {A : bh} (hA : f_ K A) {p : Pt} (h : p.cls A = A.choice) : ∃ t x y, p = .choice t x y := by
 have i := fQ hA (q := .choice (.given .aV) (.given .aV) (.given .aV)) h
 cases p with
 | choice t x y => exact ⟨t, x, y, rfl⟩
 | _ => exact absurd i (by simp only [Pt.ix]; decide)
theorem mv {K : PySem.W.Frag} {A : bh} (hA : f_ K A) {p : Pt} (h : p.cls A = A.before) : ∃ x f, p = .before x f := by
 have i := fQ hA (q := .before (.given .aV) .aV) h
 cases p with
 | before x f => exact ⟨x, f, rfl⟩
 | _ => exact absurd i (by simp only [Pt.ix]; decide)
theorem wm {K : PySem.W.Frag} {A : bh} (hA : f_ K A) {p : Pt} (h : p.cls A = A.led) : ∃ x y, p = .led x y := by
 have i := fQ hA (q := .led (.given .aV) (.given .aV)) h
 cases p with
 | led x y => exact ⟨x, y, rfl⟩
 | _ => exact absurd i (by simp only [Pt.ix]; decide)
theorem wo {K : PySem.W.Frag} {A : bh} (hA : f_ K A) {p : Pt} (h : p.cls A = A.bP) : ∃ x n, p = .bP x n := by
 have i := fQ hA (q := .bP (.given .aV) "") h
 cases p with
 | bP x n => exact ⟨x, n, rfl⟩
 | _ => exact absurd i (by simp only [Pt.ix]; decide)
theorem tS {K : PySem.W.Frag} {A : bh} (hA : f_ K A) {p : Pt} (h : p.cls A = A.held) : ∃ x n f, p = .held x n f := by
 have i := fQ hA (q := .held (.given .aV) "" .aV) h
 cases p with
 | held x n f => exact ⟨x, n, f, rfl⟩
 | _ => exact absurd i (by simp only [Pt.ix]; decide)
def uA (A : bh) (n : Nat) (g : Pt -> D) (C : Addr) : cg := fun ds Q => ∃ p : Pt, ds = [p.d A] /\ p.cls A = C /\ p.depth <= n /\ Q (g p)
theorem vV {A : bh} {n : Nat} {g : Pt -> D} {C : Addr} : bU (uA A n g C) := fun ds P P' f ⟨p, e, c, h, q⟩ => ⟨p, e, c, h, f _ q⟩
theorem wy {A : bh} {n : Nat} {g : Pt -> D} {C : Addr} (ds : List D) (Q : D -> Prop) (h : uA A n g C ds Q) : ds.length = 1 := by obtain ⟨p, e, _⟩ := h; rw [e]; rfl
def kg (A : bh) (C : Addr) : Prop := ∃ p : Pt, p.cls A = C
def rh (m : Str) : Prop := ∀ f ∈ (["value", "name", "part", "sign", "one", "other", "truth", "first", "head", "rest"] : List Str), (m == f) = false
theorem jI (A : bh) {m : Str} (h : rh m) (p : Pt) : ∃ gs, p.d A = .obj (p.cls A) gs /\ gs.lookup m = none := by
 have l : ∀ {f : Str} {d : D} {r : List (Str × D)}, f ∈ (["value", "name", "part", "sign", "one", "other", "truth", "first", "head", "rest"] : List Str) -> r.lookup m = none -> ((f, d) :: r).lookup m = none := fun hf hr => by
  rw [List.lookup_cons, h _ hf]
  exact hr
 cases p <;> refine ⟨_, rfl, ?_⟩ <;> repeat (first | rfl | refine l (by decide) ?_)
theorem bL {K : PySem.W.Frag} {δ : SD} {i : Nat} {C : Addr} {gs : List (Str × D)} {f : Str} {r : D} {Q : D -> Prop} (h : δ[i]? = some (some (.obj C gs))) (c : pH K C) (n : cy K C f) (l : gs.lookup f = some r) (q : Q r) : A1 K (eD i) f δ Q := ⟨_, h, C, gs, r, rfl, c, n, l, q⟩
theorem eA {A : bh} {n : Nat} {g : Pt -> D} {m : Str} {ta : ED} {δ : SD} {p : Pt} {Q : D -> Prop} (mt : az ta) (hm : rh m) (h : ta δ fun d => d = p.d A) (hd : p.depth <= n) (q : Q (g p)) :
  nK (kg A) m (uA A n g) [] ta f9 δ Q := mt _ _ _ (fun d e => by
 obtain ⟨gs, e1, e2⟩ := jI A hm p
 exact ⟨p.cls A, gs, e.trans e1, e2, ⟨p, rfl⟩, p, by rw [List.append_nil, e], rfl, hd, q⟩) h
theorem jq : rh "inner" := by unfold rh; decide +kernel
def isVal (d : D) : Prop := (∃ b, d = .bl b) \/ ∃ i : Int, d = .int i /\ -128 <= i /\ i <= 127
def cH (d : D) : Prop := d = .aV \/ isVal d
def Fj (A : bh) (n : Nat) (ok : Pt -> Prop) (g : Pt -> D) (C : Addr) : cg := fun ds Q => ∃ p : Pt, ds = [p.d A] /\ p.cls A = C /\ p.depth <= n /\ ok p /\ Q (g p)
theorem HZ {A : bh} {n : Nat} {ok : Pt -> Prop} {g : Pt -> D} {C : Addr} : bU (Fj A n ok g C) := fun ds P P' f ⟨p, e, c, h, o, q⟩ => ⟨p, e, c, h, o, f _ q⟩
theorem HX {A : bh} {n : Nat} {ok : Pt -> Prop} {g : Pt -> D} {C : Addr} (ds : List D) (Q : D -> Prop) (h : Fj A n ok g C ds Q) : ds.length = 1 := by obtain ⟨p, e, _⟩ := h; rw [e]; rfl
theorem cZ {A : bh} {n : Nat} {ok : Pt -> Prop} {g : Pt -> D} {m : Str} {ta : ED} {δ : SD} {p : Pt} {Q : D -> Prop} (mt : az ta) (hm : rh m) (h : ta δ fun d => d = p.d A) (hd : p.depth <= n) (ho : ok p) (q : Q (g p)) :
  nK (kg A) m (Fj A n ok g) [] ta f9 δ Q := mt _ _ _ (fun d e => by
 obtain ⟨gs, e1, e2⟩ := jI A hm p
 exact ⟨p.cls A, gs, e.trans e1, e2, ⟨p, rfl⟩, p, by rw [List.append_nil, e], rfl, hd, ho, q⟩) h
abbrev MQ (P : Program) (w : World) (K : PySem.W.Frag) (mg : Str -> Option Value) (base : Heap) (A : bh) (j : Nat) (m : Str) (n : Nat) (ok : Pt -> Prop) (g : Pt -> D) : Prop := ∀ C, kg A C -> fM P w K mg base j C m (Fj A n ok g C) []
section
seal wpAny
variable {P : Program} {w : World} {K : PySem.W.Frag} {mg : Str -> Option Value} {base : Heap} {A : bh} {n j : Nat}
abbrev MP (P : Program) (w : World) (K : PySem.W.Frag) (mg : Str -> Option Value) (base : Heap) (A : bh) (j : Nat) (m : Str) (n : Nat) (g : Pt -> D) : Prop := ∀ C, kg A C -> fM P w K mg base j C m (uA A n g C) []
theorem Pt.gr (p : Pt) : 0 < p.depth := by cases p <;> simp only [Pt.depth] <;> omega
theorem Dm.never {C : Addr} {m qual : Str} {st : Stmt} {ps : List Str} {sd : cg} (d : Dm K C m qual st ps) (ms : bU sd) (h : ∀ ds Q, ¬ sd ds Q) : fM P w K mg base j C m sd [] := by
 obtain ⟨f, fd, F, M, c, b⟩ := d.ex
 exact ⟨⟨f, fd, ps, [], [], c, M, ⟨fun vs H Q E ⟨ds, _, q⟩ => (h _ _ q).elim, fun A outer s H args us vs Q E _ _ _ _ ⟨ds, _, q⟩ => (h _ _ q).elim⟩, b, .nil, fun _ => .nil⟩, ms⟩
theorem Dc {g : Pt -> D} {C : Addr} (ds : List D) (Q : D -> Prop) : ¬ uA A 0 g C ds Q := fun ⟨p, _, _, h, _⟩ => absurd p.gr (by omega)
end
mutual
def Pt.size : Pt -> Nat
 | .given _ => 1 | .named _ => 1 | .turned p => p.size + 1 | .pair _ a b => a.size + b.size + 1 | .choice t a b => t.size + a.size + b.size + 1
 | .before p _ => p.size + 1 | .led h r => h.size + r.size + 1 | .bP p _ => p.size + 1 | .held p _ _ => p.size + 1
end
theorem Pt.size_inner (p : Pt) : (p.size : Int) = 1 + (p.inner.map fun q => (q.size : Int)).sum := by
 cases p <;> simp only [Pt.size, Pt.inner, List.map_cons, List.map_nil, List.sum_cons, List.sum_nil] <;> omega
theorem Pt.pT (p : Pt) : (p.depth : Int) = 1 + mG 0 (p.inner.map fun q => (q.depth : Int)) := by
 cases p <;> simp only [Pt.depth, Pt.inner, List.map_cons, List.map_nil, mG, List.foldl_cons, List.foldl_nil] <;> omega
theorem Pt.fA {p q : Pt} (h : q ∈ p.inner) {n : Nat} (hd : p.depth <= n + 1) : q.depth <= n := by
 cases p <;> simp only [Pt.inner, Pt.depth, List.mem_cons, List.not_mem_nil, or_false] at h hd
 case turned => subst h; omega
 case pair => rcases h with rfl | rfl <;> omega
 case choice => rcases h with rfl | rfl | rfl <;> omega
 case before => subst h; omega
 case led => rcases h with rfl | rfl <;> omega
 case bP => subst h; omega
 case held => subst h; omega
theorem Pt.b9 (p : Pt) : p.inner.length <= 3 := by cases p <;> simp [Pt.inner]
def cF (A : bh) (p : Pt) : D := .tup (p.inner.map (Pt.d A))
theorem qP : rh "size" := by unfold rh; decide +kernel
theorem m7 : rh "depth" := by unfold rh; decide +kernel
theorem eE {i : Nat} : az (eD i) := fun δ P P' f ⟨d, hd, k⟩ => ⟨d, hd, f d k⟩
theorem p9 {A : bh} {g : Pt -> D} {ps : List Pt} {i : Nat} {d : D} {o : Option D} (h1 : (ps.map (Pt.d A))[i]? = some d) (h2 : (ps.map fun q => some (g q))[i]? = some o) : ∃ q ∈ ps, q.d A = d /\ some (g q) = o := by
 rw [List.getElem?_map] at h1 h2
 cases e : ps[i]? with
 | none => rw [e] at h1; cases h1
 | some q =>
  rw [e] at h1 h2
  exact ⟨q, List.mem_of_getElem? e, by simpa using h1, by simpa using h2⟩
theorem filterMap_some {α β : Type} (f : α -> β) : ∀ l : List α, l.filterMap (id ∘ fun q => some (f q)) = l.map f
 | [] => rfl
 | a :: l => by rw [List.map_cons, <- filterMap_some f l]; rfl
section
seal wpAny
variable {P : Program} {w : World} {K : PySem.W.Frag} {mg : Str -> Option Value} {base : Heap} {A : bh} {n j : Nat}
theorem size_of (d : ∀ C, kg A C -> Dm K C "size" "Part.size" ai ["self"]) (n_sum : mg "sum" = none) (m_inner : MP P w K mg base A j "inner" (n + 1) (cF A)) (m_size : MP P w K mg base A j "size" n fun p => .int p.size) : MP P w K mg base A (j + 1) "size" (n + 1) fun p => .int p.size := by
 intro C hC
 refine (d C hC).gp jM vV wy (fun f cdv A outer s H E hr => have hu := hr.units; have hh := hr.hd; have sc := jM
  (aF (aN (bo aB (D7 hh (by rfl) n_sum (aA (uP (x := "part") (caps := []) (cn := []) (cl := []) (j1 (by rfl) (by rfl) (by decide +kernel) (by decide +kernel) (by decide +kernel)) rfl (gJ (ip m_inner hr (by omega) (dv 0))) (fun C fp s₂ H₂ => bS (i := 0) (show (["part"] : List Str).Nodup by decide +kernel) rfl (Or.inl rfl) (.inr rfl)) (fun C fp s₂ H₂ => gh) (fun C fp s₂ H₂ => (ip m_size hr (by omega) (dv 0)))) aD)))))) ?_
 rintro ds Q ⟨p, rfl, hc, hd, q⟩
 refine eA eE jq ⟨_, rfl, rfl⟩ hd ?_
 refine ⟨p.inner.map (Pt.d A), rfl, p.inner.map fun q => some (.int q.size), by simp, fun i d o hd' ho => ?_, ?_, ?_⟩
 ·obtain ⟨r, hr, e1, e2⟩ := p9 hd' ho
  subst e1 e2
  exact ⟨rfl, fun _ => eA eE qP ⟨_, rfl, rfl⟩ (p.fA hr hd) rfl⟩
 ·rw [List.length_map]; exact Nat.lt_of_le_of_lt p.b9 (by decide)
 ·refine ⟨p.inner.map fun q => (q.size : Int), ?_, ?_⟩
  ·rw [List.filterMap_map, List.map_map]
   congr 2
   exact filterMap_some _ _
  ·have q' : Q (.int (p.size : Int)) := q
   rw [Pt.size_inner] at q'
   exact q'
theorem wB (d : ∀ C, kg A C -> Dm K C "depth" "Part.depth" af ["self"]) (n_max : mg "max" = none) (m_inner : MP P w K mg base A j "inner" (n + 1) (cF A)) (m_depth : MP P w K mg base A j "depth" n fun p => .int p.depth) : MP P w K mg base A (j + 1) "depth" (n + 1) fun p => .int p.depth := by
 intro C hC
 refine (d C hC).gp h_ vV wy (fun f cdv A outer s H E hr => have hu := hr.units; have hh := hr.hd; have sc := h_
  (aF (aN (bo aB (Bz hh (by rfl) n_max (uP (x := "part") (caps := []) (cn := []) (cl := []) (j1 (by rfl) (by rfl) (by decide +kernel) (by decide +kernel) (by decide +kernel)) rfl (gJ (ip m_inner hr (by omega) (dv 0))) (fun C fp s₂ H₂ => bS (i := 0) (show (["part"] : List Str).Nodup by decide +kernel) rfl (Or.inl rfl) (.inr rfl)) (fun C fp s₂ H₂ => gh) (fun C fp s₂ H₂ => (ip m_depth hr (by omega) (dv 0)))) aB))))) ?_
 rintro ds Q ⟨p, rfl, hc, hd, q⟩
 refine eA eE jq ⟨_, rfl, rfl⟩ hd ?_
 refine ⟨p.inner.map (Pt.d A), rfl, p.inner.map fun q => some (.int q.depth), by simp, fun i d o hd' ho => ?_, ?_, ?_⟩
 ·obtain ⟨r, hr, e1, e2⟩ := p9 hd' ho
  subst e1 e2
  exact ⟨rfl, fun _ => eA eE m7 ⟨_, rfl, rfl⟩ (p.fA hr hd) rfl⟩
 ·rw [List.length_map]; exact Nat.lt_of_le_of_lt p.b9 (by decide)
 ·refine ⟨p.inner.map fun q => (q.depth : Int), 0, ?_, rfl, ?_⟩
  ·rw [List.filterMap_map, List.map_map]
   congr 1
   exact filterMap_some _ _
  ·have q' : Q (.int (p.depth : Int)) := q
   rw [Pt.pT] at q'
   exact q'
end
theorem Pt.zU {p q : Pt} (h : q ∈ p.inner) : q.size <= p.size := by
 cases p <;> simp only [Pt.inner, Pt.size, List.mem_cons, List.not_mem_nil, or_false] at h ⊢
 case turned => subst h; omega
 case pair => rcases h with rfl | rfl <;> omega
 case choice => rcases h with rfl | rfl | rfl <;> omega
 case before => subst h; omega
 case led => rcases h with rfl | rfl <;> omega
 case bP => subst h; omega
 case held => subst h; omega
section
seal wpAny
variable {P : Program} {w : World} {K : PySem.W.Frag} {mg : Str -> Option Value} {base : Heap} {A : bh} {n j : Nat}
structure nP (K : PySem.W.Frag) (A : bh) : Prop where
 given : Dm K A.given "inner" "Part.inner" bT ["self"]
 named : Dm K A.named "inner" "Part.inner" bT ["self"]
 turned : Dm K A.turned "inner" "Turned.inner" cN ["self"]
 pair : Dm K A.pair "inner" "Pair.inner" dU ["self"]
 choice : Dm K A.choice "inner" "Choice.inner" cK ["self"]
 before : Dm K A.before "inner" "Before.inner" cI ["self"]
 led : Dm K A.led "inner" "Led.inner" eF ["self"]
 bP : Dm K A.bP "inner" "When.inner" dW ["self"]
 held : Dm K A.held "inner" "Held.inner" dS ["self"]
theorem p_ (hA : f_ K A) (d : Dm K A.given "inner" "Part.inner" bT ["self"]) : fM P w K mg base (j + 1) A.given "inner" (uA A n (cF A) A.given) [] := by
 refine d.gp cb vV wy (fun f cdv A outer s H E hr => have hu := hr.units; have hh := hr.hd; have sc := cb
  (aF (aN (aU aD)))) ?_
 rintro ds Q ⟨p, rfl, hc, hd, q⟩
 have c := hA.cl _ (Pt.ax A p)
 have no := hA.mH _ (Pt.ax A p)
 obtain ⟨v, rfl⟩ := qC hA hc
 exact ⟨(show 0 <= sizeLine by decide), q⟩
theorem qA (hA : f_ K A) (d : Dm K A.named "inner" "Part.inner" bT ["self"]) : fM P w K mg base (j + 1) A.named "inner" (uA A n (cF A) A.named) [] := by
 refine d.gp cb vV wy (fun f cdv A outer s H E hr => have hu := hr.units; have hh := hr.hd; have sc := cb
  (aF (aN (aU aD)))) ?_
 rintro ds Q ⟨p, rfl, hc, hd, q⟩
 have c := hA.cl _ (Pt.ax A p)
 have no := hA.mH _ (Pt.ax A p)
 obtain ⟨s, rfl⟩ := qE hA hc
 exact ⟨(show 0 <= sizeLine by decide), q⟩
theorem oH (hA : f_ K A) (d : Dm K A.turned "inner" "Turned.inner" cN ["self"]) : fM P w K mg base (j + 1) A.turned "inner" (uA A n (cF A) A.turned) [] := by
 refine d.gp fv vV wy (fun f cdv A outer s H E hr => have hu := hr.units; have hh := hr.hd; have sc := fv
  (aF (aN (aU (aA (bx K rfl (dv 0) (by rfl)) aD))))) ?_
 rintro ds Q ⟨p, rfl, hc, hd, q⟩
 have c := hA.cl _ (Pt.ax A p)
 have no := hA.mH _ (Pt.ax A p)
 obtain ⟨x, rfl⟩ := mx hA hc
 exact (bL rfl c (no _ (by decide)) (by kernel_rfl) ⟨(show 1 <= sizeLine by decide), q⟩)
theorem rO (hA : f_ K A) (d : Dm K A.pair "inner" "Pair.inner" dU ["self"]) : fM P w K mg base (j + 1) A.pair "inner" (uA A n (cF A) A.pair) [] := by
 refine d.gp hZ vV wy (fun f cdv A outer s H E hr => have hu := hr.units; have hh := hr.hd; have sc := hZ
  (aF (aN (aU (aA (bx K rfl (dv 0) (by rfl)) (aA (bx K rfl (dv 0) (by rfl)) aD)))))) ?_
 rintro ds Q ⟨p, rfl, hc, hd, q⟩
 have c := hA.cl _ (Pt.ax A p)
 have no := hA.mH _ (Pt.ax A p)
 obtain ⟨g, x, y, rfl⟩ := tT hA hc
 exact (bL rfl c (no _ (by decide)) (by kernel_rfl) (bL rfl c (no _ (by decide)) (by kernel_rfl) ⟨(show 2 <= sizeLine by decide), q⟩))
theorem oG (hA : f_ K A) (d : Dm K A.choice "inner" "Choice.inner" cK ["self"]) : fM P w K mg base (j + 1) A.choice "inner" (uA A n (cF A) A.choice) [] := by
 refine d.gp fq vV wy (fun f cdv A outer s H E hr => have hu := hr.units; have hh := hr.hd; have sc := fq
  (aF (aN (aU (aA (bx K rfl (dv 0) (by rfl)) (aA (bx K rfl (dv 0) (by rfl)) (aA (bx K rfl (dv 0) (by rfl)) aD))))))) ?_
 rintro ds Q ⟨p, rfl, hc, hd, q⟩
 have c := hA.cl _ (Pt.ax A p)
 have no := hA.mH _ (Pt.ax A p)
 obtain ⟨x, y, z, rfl⟩ := mw hA hc
 exact (bL rfl c (no _ (by decide)) (by kernel_rfl) (bL rfl c (no _ (by decide)) (by kernel_rfl) (bL rfl c (no _ (by decide)) (by kernel_rfl) ⟨(show 3 <= sizeLine by decide), q⟩)))
theorem oB (hA : f_ K A) (d : Dm K A.before "inner" "Before.inner" cI ["self"]) : fM P w K mg base (j + 1) A.before "inner" (uA A n (cF A) A.before) [] := by
 refine d.gp fm vV wy (fun f cdv A outer s H E hr => have hu := hr.units; have hh := hr.hd; have sc := fm
  (aF (aN (aU (aA (bx K rfl (dv 0) (by rfl)) aD))))) ?_
 rintro ds Q ⟨p, rfl, hc, hd, q⟩
 have c := hA.cl _ (Pt.ax A p)
 have no := hA.mH _ (Pt.ax A p)
 obtain ⟨x, f, rfl⟩ := mv hA hc
 exact (bL rfl c (no _ (by decide)) (by kernel_rfl) ⟨(show 1 <= sizeLine by decide), q⟩)
theorem uh (hA : f_ K A) (d : Dm K A.led "inner" "Led.inner" eF ["self"]) : fM P w K mg base (j + 1) A.led "inner" (uA A n (cF A) A.led) [] := by
 refine d.gp jL vV wy (fun f cdv A outer s H E hr => have hu := hr.units; have hh := hr.hd; have sc := jL
  (aF (aN (aU (aA (bx K rfl (dv 0) (by rfl)) (aA (bx K rfl (dv 0) (by rfl)) aD)))))) ?_
 rintro ds Q ⟨p, rfl, hc, hd, q⟩
 have c := hA.cl _ (Pt.ax A p)
 have no := hA.mH _ (Pt.ax A p)
 obtain ⟨x, y, rfl⟩ := wm hA hc
 exact (bL rfl c (no _ (by decide)) (by kernel_rfl) (bL rfl c (no _ (by decide)) (by kernel_rfl) ⟨(show 2 <= sizeLine by decide), q⟩))
theorem ui (hA : f_ K A) (d : Dm K A.bP "inner" "When.inner" dW ["self"]) : fM P w K mg base (j + 1) A.bP "inner" (uA A n (cF A) A.bP) [] := by
 refine d.gp iA vV wy (fun f cdv A outer s H E hr => have hu := hr.units; have hh := hr.hd; have sc := iA
  (aF (aN (aU (aA (bx K rfl (dv 0) (by rfl)) aD))))) ?_
 rintro ds Q ⟨p, rfl, hc, hd, q⟩
 have c := hA.cl _ (Pt.ax A p)
 have no := hA.mH _ (Pt.ax A p)
 obtain ⟨x, s, rfl⟩ := wo hA hc
 exact (bL rfl c (no _ (by decide)) (by kernel_rfl) ⟨(show 1 <= sizeLine by decide), q⟩)
theorem rN (hA : f_ K A) (d : Dm K A.held "inner" "Held.inner" dS ["self"]) : fM P w K mg base (j + 1) A.held "inner" (uA A n (cF A) A.held) [] := by
 refine d.gp hX vV wy (fun f cdv A outer s H E hr => have hu := hr.units; have hh := hr.hd; have sc := hX
  (aF (aN (aU (aA (bx K rfl (dv 0) (by rfl)) aD))))) ?_
 rintro ds Q ⟨p, rfl, hc, hd, q⟩
 have c := hA.cl _ (Pt.ax A p)
 have no := hA.mH _ (Pt.ax A p)
 obtain ⟨x, s, f, rfl⟩ := tS hA hc
 exact (bL rfl c (no _ (by decide)) (by kernel_rfl) ⟨(show 1 <= sizeLine by decide), q⟩)
theorem jm (hA : f_ K A) (d : nP K A) (n : Nat) : MP P w K mg base A (j + 1) "inner" n (cF A) := fun C ⟨p, e⟩ => by
 subst e
 cases p
 ·exact p_ hA d.given
 ·exact qA hA d.named
 ·exact oH hA d.turned
 ·exact rO hA d.pair
 ·exact oG hA d.choice
 ·exact oB hA d.before
 ·exact uh hA d.led
 ·exact ui hA d.bP
 ·exact rN hA d.held
theorem kq {m qual : Str} {st : Stmt} {ps : List Str} {g : Pt -> D} (d : ∀ C, kg A C -> Dm K C m qual st ps) (h : ∀ n j, MP P w K mg base A (j + 1) m n g -> MP P w K mg base A (j + 2) m (n + 1) g) : ∀ n, MP P w K mg base A (n + 1) m n g
 | 0 => fun C hC => (Dm.never (j := 1) (d C hC) vV Dc)
 | n + 1 => h n n (kq d h n)
theorem yH (hA : f_ K A) (dI : nP K A) (d : ∀ C, kg A C -> Dm K C "size" "Part.size" ai ["self"]) (n_sum : mg "sum" = none) (n : Nat) : MP P w K mg base A (n + 1) "size" n fun p => .int p.size :=
 kq d (fun n j h => size_of d n_sum (jm (j := j) hA dI _) h) n
theorem uR (hA : f_ K A) (dI : nP K A) (d : ∀ C, kg A C -> Dm K C "depth" "Part.depth" af ["self"]) (n_max : mg "max" = none) (n : Nat) : MP P w K mg base A (n + 1) "depth" n fun p => .int p.depth :=
 kq d (fun n j h => wB d n_max (jm (j := j) hA dI _) h) n
end
structure GI (mg : Str -> Option Value) (x : Str) (i : Int) : Prop where
 ex : ∃ t, mg x = some (.int i t)
def BS : cg := fun ds Q => ∃ i : Int, ds = [.int i] /\ Q (.bl (decide (-128 <= i) && decide (i <= 127)))
def yG : cg := fun ds Q => (∃ i : Int, ds = [.int i] /\ Q (.bl (decide (-128 <= i) && decide (i <= 127)))) \/ ∃ b, ds = [.bl b] /\ Q (.bl true)
theorem b7 : rh "need_bounds" := by unfold rh; decide +kernel
def iY (p : Pt) : Prop := p.depth <= 10 /\ p.size <= 40
section
seal wpAny
variable {P : Program} {w : World} {K : PySem.W.Frag} {mg : Str -> Option Value} {base : Heap} {A : bh} {n j : Nat}
theorem gD (d : Df K mg "is_number" gT ["thing"]) (n_isinstance : mg "isinstance" = none) (n_bool : mg "bool" = none) (n_int : mg "int" = none) (g1 : GI mg "LOWEST" (-128)) (g2 : GI mg "HIGHEST" 127) : bN P w K mg base (j + 1) "is_number" ["thing"] BS := by
 obtain ⟨t1, q_LOWEST⟩ := g1.ex
 obtain ⟨t2, q_HIGHEST⟩ := g2.ex
 have r_LOWEST : RelV (.int (-128)) (.int (-128) t1) := ⟨_, rfl⟩
 have r_HIGHEST : RelV (.int 127) (.int 127 t2) := ⟨_, rfl⟩
 have v_LOWEST : ∀ H, Dv K H (.int (-128)) (.int (-128)) := fun _ => .int _
 have v_HIGHEST : ∀ H, Dv K H (.int 127) (.int 127) := fun _ => .int _
 refine d.gp jS (fun ds P P' g ⟨i, e, q⟩ => ⟨i, e, g _ q⟩) (fun ds Q ⟨d, e, _⟩ => by rw [e]; rfl) (fun f cdv A outer s H E hr => have hu := hr.units; have hh := hr.hd; have sc := jS
  (aH (bO (l_.td (w_or (gf (qF (by rfl) n_isinstance (by rfl) n_bool (dv 0))) (kG (lY (gf (zX (by rfl) n_isinstance (by rfl) n_int (dv 0))))))) (aF (aN Bs)) aX)
 (aF (aN (Bv (di (by rfl) q_LOWEST r_LOWEST v_LOWEST) (dv 0) (di (by rfl) q_HIGHEST r_HIGHEST v_HIGHEST)))))) ?_
 rintro ds Q ⟨i, rfl, q⟩
 refine ⟨_, rfl, false, rfl, _, rfl, aT ⟨_, rfl, true, rfl, _, rfl, aT ⟨_, rfl, _, rfl, ?_⟩⟩⟩
 by_cases h : (-128 : Int) <= i
 ·rw [decide_eq_true h] at q ⊢
  exact aZ q
 ·rw [decide_eq_false h] at q ⊢
  exact aT q
theorem dh (d : Df K mg "is_value" iS ["thing"]) (n_isinstance : mg "isinstance" = none) (n_bool : mg "bool" = none) (gD : bN P w K mg base j "is_number" ["thing"] BS) : bN P w K mg base (j + 1) "is_value" ["thing"] yG := by
 refine d.gp j_ (fun ds P P' g h => h.elim (fun ⟨i, e, q⟩ => .inl ⟨i, e, g _ q⟩) fun ⟨i, e, q⟩ => .inr ⟨i, e, g _ q⟩) (fun ds Q h => h.elim (fun ⟨d, e, _⟩ => by rw [e]; rfl) fun ⟨d, e, _⟩ => by rw [e]; rfl) (fun f cdv A outer s H E hr => have hu := hr.units; have hh := hr.hd; have sc := j_
  (aF (aN (Fw (qF (by rfl) n_isinstance (by rfl) n_bool (dv 0)) (mf (aM gD hr (by omega) (by rfl) (aA (dv 0) aD))))))) ?_
 rintro ds Q (⟨i, rfl, q⟩ | ⟨b, rfl, q⟩)
 ·exact ⟨_, rfl, false, rfl, _, rfl, aT ⟨_, rfl, i, rfl, q⟩⟩
 ·exact ⟨_, rfl, true, rfl, _, rfl, aZ q⟩
theorem uK (d : ∀ C, kg A C -> Dm K C "need_bounds" "Part.need_bounds" aQ ["self"]) (m_depth : MP P w K mg base A j "depth" n fun p => .int p.depth) (m_size : MP P w K mg base A j "size" n fun p => .int p.size) (g1 : GI mg "DEEPEST" 10) (g2 : GI mg "LARGEST" 40) :
  MQ P w K mg base A (j + 1) "need_bounds" n iY fun _ => .aV := by
 obtain ⟨t1, q_DEEPEST⟩ := g1.ex
 obtain ⟨t2, q_LARGEST⟩ := g2.ex
 have r_DEEPEST : RelV (.int 10) (.int 10 t1) := ⟨_, rfl⟩
 have r_LARGEST : RelV (.int 40) (.int 40 t2) := ⟨_, rfl⟩
 have v_DEEPEST : ∀ H, Dv K H (.int 10) (.int 10) := fun _ => .int _
 have v_LARGEST : ∀ H, Dv K H (.int 40) (.int 40) := fun _ => .int _
 intro C hC
 refine (d C hC).gp dN HZ HX (fun f cdv A outer s H E hr => have hu := hr.units; have hh := hr.hd; have sc := dN
  (aF (bO (l_.td (w_or (vL (ip m_depth hr (by omega) (dv 0)) (di (by rfl) q_DEEPEST r_DEEPEST v_DEEPEST)) (kG (vL (ip m_size hr (by omega) (dv 0)) (di (by rfl) q_LARGEST r_LARGEST v_LARGEST))))) (aF jK) aX))) ?_
 rintro ds Q ⟨p, rfl, hc, hd, ho, q⟩
 obtain ⟨h1, h2⟩ := ho
 have e1 : decide ((10 : Int) < p.depth) = false := decide_eq_false (by omega)
 have e2 : decide ((40 : Int) < p.size) = false := decide_eq_false (by omega)
 refine eA (p := p) eE m7 ⟨_, rfl, rfl⟩ hd ⟨_, rfl, ?_⟩
 show if decide ((10 : Int) < p.depth) = true then _ else _
 rw [e1]
 refine aT (eA (p := p) eE qP ⟨_, rfl, rfl⟩ hd ⟨_, rfl, ?_⟩)
 show if decide ((40 : Int) < p.size) = true then _ else _
 rw [e2]
 exact aT q
theorem rL (hc : pH K A.given) (hn : cy K A.given "value") (d : Di K mg "Given" A.given "Given.__init__" cV ["self", "value"] []) (dh : bN P w K mg base j "is_value" ["thing"] yG) :
  l9 P w K mg base (j + 1) "Given" A.given (fun ds Q => ∃ v, ds = [v] /\ isVal v /\ Q [("value", v)]) [] := by
 refine d.z0 eJ (fun ds P P' g ⟨v, e, h, q⟩ => ⟨v, e, h, g _ q⟩) (fun ds Q ⟨v, e, _⟩ => by rw [e]; rfl) (fun f cdv A outer s H E hr => have hu := hr.units; have hh := hr.hd; have sc := eJ
  (aq (iO (bO (lY (gf (aM dh hr (by omega) (by rfl) (aA (dv 1) aD)))) (aF jK) aX))
 (aq (bX K rfl rfl (Or.inl rfl) (dv 1))
 BE))) ?_
 rintro a ds Q ⟨v, rfl, hv, q⟩
 rcases hv with ⟨b, rfl⟩ | ⟨i, rfl, h1, h2⟩
 ·exact ⟨_, rfl, .inr ⟨b, rfl, _, rfl, ⟨_, rfl, rfl, hc, hn, (by decide), q⟩⟩⟩
 ·refine ⟨_, rfl, .inl ⟨i, rfl, true, by simp [Az, h1, h2], ⟨_, rfl, rfl, hc, hn, (by decide), q⟩⟩⟩
end
def ot : cg := fun ds Q => ∃ f, ds = [f] /\ cH f /\ Q .aV
theorem jJ (f : Str) (d : D) : ∀ gs : FD, (putD f d gs).length <= gs.length + 1
 | [] => Nat.le_refl _
 | (g, e) :: r => by
  unfold putD
  split
  ·exact Nat.le_succ _
  ·exact Nat.succ_le_succ (jJ f d r)
theorem qW : ([] : FD).length < 1000 := by decide
theorem qX {f : Str} {d : D} : (putD f d []).length < 1000 := Nat.lt_of_le_of_lt (jJ f d []) (by decide)
theorem qY {f g : Str} {d e : D} : (putD f d (putD g e [])).length < 1000 := Nat.lt_of_le_of_lt (Nat.le_trans (jJ f d _) (Nat.succ_le_succ (jJ g e []))) (by decide)
section
seal wpAny
variable {P : Program} {w : World} {K : PySem.W.Frag} {mg : Str -> Option Value} {base : Heap} {A : bh} {n j : Nat}
theorem p8 (hA : f_ K A) (d : Di K mg "Turned" A.turned "Turned.__init__" cM ["self", "part"] []) (m_need_bounds : MQ P w K mg base A j "need_bounds" n iY fun _ => .aV) :
  l9 P w K mg base (j + 1) "Turned" A.turned (fun ds Q => ∃ p : Pt, ds = [p.d A] /\ (Pt.turned p).depth <= n /\ iY (.turned p) /\ Q [("part", p.d A)]) [] := by
 have hc := hA.cl A.turned (by simp)
 have hn := hA.mH A.turned (by simp)
 refine d.z0 d9 (fun ds P P' g ⟨v, e, h, o, q⟩ => ⟨v, e, h, o, g _ q⟩) (fun ds Q ⟨v, e, _⟩ => by rw [e]; rfl) (fun f cdv A outer s H E hr => have hu := hr.units; have hh := hr.hd; have sc := d9
  (aq (bX K rfl rfl (Or.inl rfl) (dv 1))
 (iP (aF (cO (ip m_need_bounds hr (by omega) (dv 0))))))) ?_
 rintro a ds Q ⟨p, rfl, hd, ho, q⟩
 exact ⟨_, rfl, rfl, hc, hn _ (by decide), (by first | exact qW | exact qX | exact qY), rfl, cZ (p := .turned p) eE b7 ⟨_, rfl, rfl⟩ hd ho q⟩
theorem p7 (hA : f_ K A) (d : Di K mg "Choice" A.choice "Choice.__init__" cJ ["self", "truth", "one", "other"] []) (m_need_bounds : MQ P w K mg base A j "need_bounds" n iY fun _ => .aV) :
  l9 P w K mg base (j + 1) "Choice" A.choice (fun ds Q => ∃ t x y : Pt, ds = [t.d A, x.d A, y.d A] /\ (Pt.choice t x y).depth <= n /\ iY (.choice t x y) /\ Q [("truth", t.d A), ("one", x.d A), ("other", y.d A)]) [] := by
 have hc := hA.cl A.choice (by simp)
 have hn := hA.mH A.choice (by simp)
 refine d.z0 d7 (fun ds P P' g ⟨t, v, u, e, h, o, q⟩ => ⟨t, v, u, e, h, o, g _ q⟩) (fun ds Q ⟨t, v, u, e, _⟩ => by rw [e]; rfl) (fun f cdv A outer s H E hr => have hu := hr.units; have hh := hr.hd; have sc := d7
  (aq (bX K rfl rfl (Or.inl rfl) (dv 1))
 (aq (bX K rfl rfl (Or.inl rfl) (dv 2))
 (aq (bX K rfl rfl (Or.inl rfl) (dv 3))
 (iP (aF (cO (ip m_need_bounds hr (by omega) (dv 0))))))))) ?_
 rintro a ds Q ⟨t, x, y, rfl, hd, ho, q⟩
 exact ⟨_, rfl, rfl, hc, hn _ (by decide), (by first | exact qW | exact qX | exact qY), _, rfl, rfl, hc, hn _ (by decide), (by first | exact qW | exact qX | exact qY), _, rfl, rfl, hc, hn _ (by decide), (by first | exact qW | exact qX | exact qY), rfl, cZ (p := .choice t x y) eE b7 ⟨_, rfl, rfl⟩ hd ho q⟩
theorem wk (hA : f_ K A) (d : Di K mg "Led" A.led "Led.__init__" d4 ["self", "head", "rest"] []) (m_need_bounds : MQ P w K mg base A j "need_bounds" n iY fun _ => .aV) :
  l9 P w K mg base (j + 1) "Led" A.led (fun ds Q => ∃ x y : Pt, ds = [x.d A, y.d A] /\ (Pt.led x y).depth <= n /\ iY (.led x y) /\ Q [("head", x.d A), ("rest", y.d A)]) [] := by
 have hc := hA.cl A.led (by simp)
 have hn := hA.mH A.led (by simp)
 refine d.z0 ft (fun ds P P' g ⟨v, u, e, h, o, q⟩ => ⟨v, u, e, h, o, g _ q⟩) (fun ds Q ⟨v, u, e, _⟩ => by rw [e]; rfl) (fun f cdv A outer s H E hr => have hu := hr.units; have hh := hr.hd; have sc := ft
  (aq (bX K rfl rfl (Or.inl rfl) (dv 1))
 (aq (bX K rfl rfl (Or.inl rfl) (dv 2))
 (iP (aF (cO (ip m_need_bounds hr (by omega) (dv 0)))))))) ?_
 rintro a ds Q ⟨x, y, rfl, hd, ho, q⟩
 exact ⟨_, rfl, rfl, hc, hn _ (by decide), (by first | exact qW | exact qX | exact qY), _, rfl, rfl, hc, hn _ (by decide), (by first | exact qW | exact qX | exact qY), rfl, cZ (p := .led x y) eE b7 ⟨_, rfl, rfl⟩ hd ho q⟩
theorem cC (d : Df K mg "need_first" fi ["first"]) (dh : bN P w K mg base j "is_value" ["thing"] yG) : bN P w K mg base (j + 1) "need_first" ["first"] ot := by
 refine d.gp iF (fun ds P P' g ⟨f, e, h, q⟩ => ⟨f, e, h, g _ q⟩) (fun ds Q ⟨f, e, _⟩ => by rw [e]; rfl) (fun f cdv A outer s H E hr => have hu := hr.units; have hh := hr.hd; have sc := iF
  (aF (bO (l_.td (w_and (jb (dv 0) b8) (lq (lY (gf (aM dh hr (by omega) (by rfl) (aA (dv 0) aD))))))) (aF jK) aX))) ?_
 rintro ds Q ⟨f, rfl, hf, q⟩
 rcases hf with rfl | ⟨b, rfl⟩ | ⟨i, rfl, h1, h2⟩
 ·exact ⟨_, rfl, _, rfl, q⟩
 ·exact ⟨_, rfl, _, rfl, _, rfl, .inr ⟨b, rfl, _, rfl, q⟩⟩
 ·exact ⟨_, rfl, _, rfl, _, rfl, .inl ⟨i, rfl, true, by simp [Az, h1, h2], q⟩⟩
theorem p6 (hA : f_ K A) (d : Di K mg "Before" A.before "Before.__init__" bc ["self", "part", "first"] []) (cC : bN P w K mg base j "need_first" ["first"] ot) (m_need_bounds : MQ P w K mg base A j "need_bounds" n iY fun _ => .aV) :
  l9 P w K mg base (j + 1) "Before" A.before (fun ds Q => ∃ (p : Pt) (f : D), ds = [p.d A, f] /\ cH f /\ (Pt.before p f).depth <= n /\ iY (.before p f) /\ Q [("part", p.d A), ("first", f)]) [] := by
 have hc := hA.cl A.before (by simp)
 have hn := hA.mH A.before (by simp)
 refine d.z0 d6 (fun ds P P' g ⟨v, u, e, k, h, o, q⟩ => ⟨v, u, e, k, h, o, g _ q⟩) (fun ds Q ⟨v, u, e, _⟩ => by rw [e]; rfl) (fun f cdv A outer s H E hr => have hu := hr.units; have hh := hr.hd; have sc := d6
  (aq (iO (cO (aM cC hr (by omega) (by rfl) (aA (dv 2) aD))))
 (aq (bX K rfl rfl (Or.inl rfl) (dv 1))
 (aq (bX K rfl rfl (Or.inl rfl) (dv 2))
 (iP (aF (cO (ip m_need_bounds hr (by omega) (dv 0))))))))) ?_
 rintro a ds Q ⟨p, f, rfl, hf, hd, ho, q⟩
 exact ⟨_, rfl, _, rfl, hf, _, rfl, rfl, hc, hn _ (by decide), (by first | exact qW | exact qX | exact qY), _, rfl, rfl, hc, hn _ (by decide), (by first | exact qW | exact qX | exact qY), rfl, cZ (p := .before p f) eE b7 ⟨_, rfl, rfl⟩ hd ho q⟩
end
theorem zV (n : Str) (l : List Str) : inD (.str n) (l.map D.str) = l.contains n := by
 unfold inD
 rw [List.any_map, List.contains_eq_any_beq]
 congr 1
 funext x
 show (x == n) = (n == x)
 exact Bool.beq_comm
theorem uX (l : List Str) : (l.map D.str).all gH = true := by
 rw [List.all_eq_true]
 intro d hd
 obtain ⟨x, _, rfl⟩ := List.mem_map.mp hd
 rfl
def fU : Str := "abcdefghijklmnopqrstuvwxyz"
def signs (x : Str) : List Str := x.cps.toList.map fun c => ⟨#[c]⟩
def Dp (c : Str) : Bool := sG c fU
def mF (x : Str) : Bool := decide ((0 : Int) < (x.length : Int)) && (signs x).all Dp
def cm (x : Str) : Bool := decide ((x.length : Int) <= 8) && mF x
def j5 : List Str := ["module", "in", "out", "row", "use", "end", "number", "truth", "on", "yes", "no", "not", "and", "or", "if", "before", "then", "when", "held"]
def iG (x : Str) : Bool := cm x && !j5.contains x
def dot : Str := "."
def dk (x : Str) : Bool := if decide (((Txt.split x dot).length : Int) = 1) = true then iG x else decide (((Txt.split x dot).length : Int) <= 4) && (Txt.split x dot).all cm
structure GD (K : PySem.W.Frag) (mg : Str -> Option Value) (x : Str) (d : D) : Prop where
 ex : ∃ v u, mg x = some u /\ RelV v u /\ ∀ H, Dv K H v d
def yE (g : Str -> D) : cg := fun ds Q => ∃ x : Str, ds = [.str x] /\ x.length <= 100000 /\ Q (g x)
theorem Fh {g : Str -> D} : bU (yE g) := fun ds P P' f ⟨x, e, h, q⟩ => ⟨x, e, h, f _ q⟩
theorem Fg {g : Str -> D} (ds : List D) (Q : D -> Prop) (h : yE g ds Q) : ds.length = 1 := by obtain ⟨x, e, _⟩ := h; rw [e]; rfl
theorem str_len {x : Str} (h : x.length <= 100000) : x.length <= sizeLine := Nat.le_trans h (by decide)
theorem ij {Q : D -> Prop} {a b : Bool} (e : a = b) (q : Q (.bl a)) : Q (.bl b) := e ▸ q
theorem w_ : ∀ {l : List Nat} {a : Nat}, a ∈ l -> a <= l.sum
 | b :: l, a, h => by
  rw [List.sum_cons]
  rcases List.mem_cons.mp h with rfl | h
  ·exact Nat.le_add_right _ _
  ·exact Nat.le_trans (w_ h) (Nat.le_add_left _ _)
def Fy : D -> D
 | .str z => .bl (Dp z)
 | _ => .aV
def EB : D -> D
 | .str z => .bl (cm z)
 | _ => .aV
section
seal wpAny
variable {P : Program} {w : World} {K : PySem.W.Frag} {mg : Str -> Option Value} {base : Heap} {A : bh} {n j : Nat}
theorem eU (d : Df K mg "has_letters" eY ["text"]) (n_len : mg "len" = none) (n_all : mg "all" = none) (gl : GD K mg "LETTERS" (.str fU)) : bN P w K mg base (j + 1) "has_letters" ["text"] (yE fun x => .bl (mF x)) := by
 obtain ⟨y_LETTERS, u_LETTERS, q_LETTERS, r_LETTERS, v_LETTERS⟩ := gl.ex
 refine d.gp gZ Fh Fg (fun f cdv A outer s H E hr => have hu := hr.units; have hh := hr.hd; have sc := gZ
  (aF (aN (pR (Fu (il (by rfl) n_len (aA (dv 0) aD)) aB) (mf (A9 hh (by rfl) n_all (aA (uP (x := "sign") (caps := []) (cn := []) (cl := []) (j1 (by rfl) (by rfl) (by decide +kernel) (by decide +kernel) (by decide +kernel)) rfl (gJ (dv 0)) (fun C fp s₂ H₂ => bS (i := 0) (show (["sign"] : List Str).Nodup by decide +kernel) rfl (Or.inl rfl) (.inr rfl)) (fun C fp s₂ H₂ => gh) (fun C fp s₂ H₂ => (Fv (dv 0) (di (by rfl) q_LETTERS r_LETTERS v_LETTERS) (by rfl)))) aD))))))) ?_
 rintro ds Q ⟨x, rfl, hx, q⟩
 refine ⟨_, rfl, _, _, rfl, if_pos (str_len hx), _, rfl, ?_⟩
 cases h : decide ((0 : Int) < (x.length : Int)) with
 | false =>
  have e : mF x = false := by unfold mF; rw [h]; rfl
  exact aT (ij e q)
 | true =>
  have e : mF x = ((signs x).map Dp).all id := by unfold mF; rw [h, List.all_map]; rfl
  refine aZ ⟨_, rfl, _, rfl, mO Fy (x.cps.toList.map fun c => .str ⟨#[c]⟩), rS, fun i d o h1 h2 => ?_, ?_, ?_⟩
  ·obtain ⟨hd, rfl⟩ := xB h1 h2
   obtain ⟨c, _, rfl⟩ := List.mem_map.mp hd
   exact ⟨rfl, fun _ => ⟨_, rfl, _, rfl, rfl⟩⟩
  ·rw [List.length_map, Array.length_toList]
   exact Nat.lt_of_le_of_lt hx (by decide)
  ·rw [oR]
   refine ⟨(signs x).map Dp, ?_, ij e q⟩
   unfold signs
   rw [List.map_map, List.map_map, List.map_map]
   rfl
theorem bV (d : Df K mg "has_word_form" dD ["text"]) (n_len : mg "len" = none) (g : GI mg "LONGEST_WORD" 8) (eU : bN P w K mg base j "has_letters" ["text"] (yE fun x => .bl (mF x))) :
  bN P w K mg base (j + 1) "has_word_form" ["text"] (yE fun x => .bl (cm x)) := by
 obtain ⟨t1, q_LONGEST_WORD⟩ := g.ex
 have r_LONGEST_WORD : RelV (.int 8) (.int 8 t1) := ⟨_, rfl⟩
 have v_LONGEST_WORD : ∀ H, Dv K H (.int 8) (.int 8) := fun _ => .int _
 refine d.gp fG Fh Fg (fun f cdv A outer s H E hr => have hu := hr.units; have hh := hr.hd; have sc := fG
  (aF (aN (pR (D5 (il (by rfl) n_len (aA (dv 0) aD)) (di (by rfl) q_LONGEST_WORD r_LONGEST_WORD v_LONGEST_WORD)) (mf (aM eU hr (by omega) (by rfl) (aA (dv 0) aD))))))) ?_
 rintro ds Q ⟨x, rfl, hx, q⟩
 refine ⟨_, rfl, _, _, rfl, if_pos (str_len hx), _, rfl, ?_⟩
 cases h : decide ((x.length : Int) <= 8) with
 | false =>
  have e : cm x = false := by unfold cm; rw [h]; rfl
  exact aT (ij e q)
 | true =>
  have e : cm x = mF x := by unfold cm; rw [h]; rfl
  exact aZ ⟨_, rfl, x, rfl, hx, ij e q⟩
theorem jg (d : Df K mg "is_word" jv ["thing"]) (gk : GD K mg "KEPT_WORDS" (.tup (j5.map D.str))) (bV : bN P w K mg base j "has_word_form" ["text"] (yE fun x => .bl (cm x))) :
  bN P w K mg base (j + 1) "is_word" ["thing"] (yE fun x => .bl (iG x)) := by
 obtain ⟨y_KEPT_WORDS, u_KEPT_WORDS, q_KEPT_WORDS, r_KEPT_WORDS, v_KEPT_WORDS⟩ := gk.ex
 refine d.gp lT Fh Fg (fun f cdv A outer s H E hr => have hu := hr.units; have hh := hr.hd; have sc := lT
  (aF (aN (pR (aM bV hr (by omega) (by rfl) (aA (dv 0) aD)) (mf (zD (dv 0) (di (by rfl) q_KEPT_WORDS r_KEPT_WORDS v_KEPT_WORDS) (by rfl))))))) ?_
 rintro ds Q ⟨x, rfl, hx, q⟩
 refine ⟨_, rfl, x, rfl, hx, _, rfl, ?_⟩
 cases h : cm x with
 | false =>
  have e : iG x = false := by unfold iG; rw [h]; rfl
  exact aT (ij e q)
 | true =>
  have e : iG x = !inD (.str x) (j5.map D.str) := by unfold iG; rw [h, zV]; rfl
  exact aZ ⟨_, rfl, rfl, uX _, ij e q⟩
theorem jf (d : Df K mg "is_name" ju ["thing"]) (n_len : mg "len" = none) (n_all : mg "all" = none) (g : GI mg "MOST_WORDS" 4) (jg : bN P w K mg base j "is_word" ["thing"] (yE fun x => .bl (iG x)))
  (bV : bN P w K mg base j "has_word_form" ["text"] (yE fun x => .bl (cm x))) : bN P w K mg base (j + 1) "is_name" ["thing"] (yE fun x => .bl (dk x)) := by
 obtain ⟨t1, q_MOST_WORDS⟩ := g.ex
 have r_MOST_WORDS : RelV (.int 4) (.int 4 t1) := ⟨_, rfl⟩
 have v_MOST_WORDS : ∀ H, Dv K H (.int 4) (.int 4) := fun _ => .int _
 refine d.gp lS Fh Fg (fun f cdv A outer s H E hr => have hu := hr.units; have hh := hr.hd; have sc := lS
  (aH (ak (i := 1) sc.nd rfl (Or.inl rfl) (zE (dv 0) (aA aj aD)))
 (aH (bO (cu hu (il (by rfl) n_len (aA (dv 1) aD)) aB) (aF (aN (aM jg hr (by omega) (by rfl) (aA (dv 0) aD)))) aX)
 (aF (aN (pR (D5 (il (by rfl) n_len (aA (dv 1) aD)) (di (by rfl) q_MOST_WORDS r_MOST_WORDS v_MOST_WORDS)) (mf (A9 hh (by rfl) n_all (aA (uP (x := "word") (caps := []) (cn := []) (cl := []) (j1 (by rfl) (by rfl) (by decide +kernel) (by decide +kernel) (by decide +kernel)) rfl (gJ (dv 1)) (fun C fp s₂ H₂ => bS (i := 0) (show (["word"] : List Str).Nodup by decide +kernel) rfl (Or.inl rfl) (.inr rfl)) (fun C fp s₂ H₂ => gh) (fun C fp s₂ H₂ => (aM bV hr (by omega) (by rfl) (aA (dv 0) aD)))) aD))))))))) ?_
 rintro ds Q ⟨x, rfl, hx, q⟩
 have hs := split_le x dot
 refine ⟨_, rfl, ⟨x, rfl⟩, x, dot, rfl, rfl, rfl, Nat.le_trans (Nat.add_le_add_right hx 2) (by decide), ?_⟩
 refine ⟨_, rfl, _, _, rfl, rfl, _, rfl, ?_⟩
 show if decide ((((Txt.split x dot).map D.str).length : Int) = 1) = true then _ else _
 rw [List.length_map]
 cases h : decide (((Txt.split x dot).length : Int) = 1) with
 | true =>
  have e : dk x = iG x := by unfold dk; rw [h]; rfl
  exact aZ ⟨_, rfl, x, rfl, hx, ij e q⟩
 | false =>
  refine aT ⟨_, rfl, _, _, rfl, rfl, _, rfl, ?_⟩
  show if decide ((((Txt.split x dot).map D.str).length : Int) <= 4) = true then _ else _
  rw [List.length_map]
  cases h2 : decide (((Txt.split x dot).length : Int) <= 4) with
  | false =>
   have e : dk x = false := by unfold dk; rw [h, h2]; rfl
   exact aT (ij e q)
  | true =>
   have e : dk x = ((Txt.split x dot).map cm).all id := by unfold dk; rw [h, h2, List.all_map]; rfl
   refine aZ ⟨_, rfl, _, rfl, mO EB ((Txt.split x dot).map D.str), rS, fun i d o h1 h2 => ?_, ?_, ?_⟩
   ·obtain ⟨hd, rfl⟩ := xB h1 h2
    obtain ⟨c, hc, rfl⟩ := List.mem_map.mp hd
    refine ⟨rfl, fun _ => ⟨_, rfl, c, rfl, ?_, rfl⟩⟩
    have hw := split_weight x dot (by decide)
    have hc2 : c.length ∈ (Txt.split x dot).map (·.length) := List.mem_map.mpr ⟨c, hc, rfl⟩
    have := w_ hc2
    have hp := split_pos x dot
    omega
   ·rw [List.length_map]
    exact Nat.lt_of_le_of_lt hs (Nat.lt_of_le_of_lt (Nat.add_le_add_right hx 2) (by decide))
   ·rw [oR]
    refine ⟨(Txt.split x dot).map cm, ?_, ij e q⟩
    rw [List.map_map, List.map_map]
    rfl
def Ak : cg := fun ds Q => ∃ x : Str, ds = [.str x] /\ x.length <= 100000 /\ dk x = true /\ Q .aV
theorem bj (d : Df K mg "need_name" gX ["name"]) (jf : bN P w K mg base j "is_name" ["thing"] (yE fun x => .bl (dk x))) : bN P w K mg base (j + 1) "need_name" ["name"] Ak := by
 refine d.gp jU (fun ds P P' f ⟨x, e, h, z, q⟩ => ⟨x, e, h, z, f _ q⟩) (fun ds Q ⟨x, e, _⟩ => by rw [e]; rfl) (fun f cdv A outer s H E hr => have hu := hr.units; have hh := hr.hd; have sc := jU
  (aF (bO (lY (gf (aM jf hr (by omega) (by rfl) (aA (dv 0) aD)))) (aF jK) aX))) ?_
 rintro ds Q ⟨x, rfl, hx, hn, q⟩
 exact ⟨_, rfl, x, rfl, hx, true, congrArg some hn, aT q⟩
end
def nn : D := .tup [.str "number", .str "number"]
def nt : D := .tup [.str "number", .str "truth"]
def tt : D := .tup [.str "truth", .str "truth"]
def pB : List (Str × D) := [("+", nn), ("-", nn), ("*", nn), ("=", .tup [.aV, .str "truth"]), ("<", nt), ("<=", nt), ("and", tt), ("or", tt)]
def cq : List Str := ["+", "-", "*", "=", "<", "<=", "and", "or"]
theorem Ao {g : Str} (h : g ∈ cq) : (if true = true then !pB.any fun p => p.1 == g else pB.any fun p => p.1 == g) = false := by
 simp only [cq, List.mem_cons, List.not_mem_nil, or_false] at h
 rcases h with rfl | rfl | rfl | rfl | rfl | rfl | rfl | rfl <;> decide +kernel
def dn (x : Str) : Prop := dk x = true /\ x.length <= 100 /\ PyData.strOk x = true
section
seal wpAny
variable {P : Program} {w : World} {K : PySem.W.Frag} {mg : Str -> Option Value} {base : Heap} {A : bh} {n j : Nat}
theorem rM (hA : f_ K A) (d : Di K mg "Named" A.named "Named.__init__" cW ["self", "name"] []) (bj : bN P w K mg base j "need_name" ["name"] Ak) :
  l9 P w K mg base (j + 1) "Named" A.named (fun ds Q => ∃ x : Str, ds = [.str x] /\ dn x /\ Q [("name", .str x)]) [] := by
 have hc := hA.cl A.named (by simp)
 have hn := hA.mH A.named (by simp)
 refine d.z0 eL (fun ds P P' g ⟨v, e, h, q⟩ => ⟨v, e, h, g _ q⟩) (fun ds Q ⟨v, e, _⟩ => by rw [e]; rfl) (fun f cdv A outer s H E hr => have hu := hr.units; have hh := hr.hd; have sc := eL
  (aq (iO (cO (aM bj hr (by omega) (by rfl) (aA (dv 1) aD))))
 (aq (bX K rfl rfl (Or.inl rfl) (dv 1))
 BE))) ?_
 rintro a ds Q ⟨x, rfl, ⟨h1, h2, h3⟩, q⟩
 exact ⟨_, rfl, x, rfl, Nat.le_trans h2 (by decide), h1, _, rfl, rfl, hc, hn _ (by decide), (by first | exact qW | exact qX | exact qY), q⟩
theorem ug (hA : f_ K A) (d : Di K mg "When" A.bP "When.__init__" dC ["self", "part", "name"] []) (bj : bN P w K mg base j "need_name" ["name"] Ak) (m_need_bounds : MQ P w K mg base A j "need_bounds" n iY fun _ => .aV) :
  l9 P w K mg base (j + 1) "When" A.bP (fun ds Q => ∃ (p : Pt) (x : Str), ds = [p.d A, .str x] /\ dn x /\ (Pt.bP p x).depth <= n /\ iY (.bP p x) /\ Q [("part", p.d A), ("name", .str x)]) [] := by
 have hc := hA.cl A.bP (by simp)
 have hn := hA.mH A.bP (by simp)
 refine d.z0 fF (fun ds P P' g ⟨v, u, e, k, h, o, q⟩ => ⟨v, u, e, k, h, o, g _ q⟩) (fun ds Q ⟨v, u, e, _⟩ => by rw [e]; rfl) (fun f cdv A outer s H E hr => have hu := hr.units; have hh := hr.hd; have sc := fF
  (aq (iO (cO (aM bj hr (by omega) (by rfl) (aA (dv 2) aD))))
 (aq (bX K rfl rfl (Or.inl rfl) (dv 1))
 (aq (bX K rfl rfl (Or.inl rfl) (dv 2))
 (iP (aF (cO (ip m_need_bounds hr (by omega) (dv 0))))))))) ?_
 rintro a ds Q ⟨p, x, rfl, ⟨h1, h2, h3⟩, hd, ho, q⟩
 exact ⟨_, rfl, x, rfl, Nat.le_trans h2 (by decide), h1, _, rfl, rfl, hc, hn _ (by decide), (by first | exact qW | exact qX | exact qY), _, rfl, rfl, hc, hn _ (by decide), (by first | exact qW | exact qX | exact qY), rfl, cZ (p := .bP p x) eE b7 ⟨_, rfl, rfl⟩ hd ho q⟩
theorem ue (hA : f_ K A) (d : Di K mg "Held" A.held "Held.__init__" b5 ["self", "part", "name", "first"] []) (bj : bN P w K mg base j "need_name" ["name"] Ak) (cC : bN P w K mg base j "need_first" ["first"] ot)
  (m_need_bounds : MQ P w K mg base A j "need_bounds" n iY fun _ => .aV) :
  l9 P w K mg base (j + 1) "Held" A.held (fun ds Q => ∃ (p : Pt) (x : Str) (f : D), ds = [p.d A, .str x, f] /\ dn x /\ cH f /\ (Pt.held p x f).depth <= n /\ iY (.held p x f) /\ Q [("part", p.d A), ("name", .str x), ("first", f)]) [] := by
 have hc := hA.cl A.held (by simp)
 have hn := hA.mH A.held (by simp)
 refine d.z0 fD (fun ds P P' g ⟨v, u, f, e, k, l, h, o, q⟩ => ⟨v, u, f, e, k, l, h, o, g _ q⟩) (fun ds Q ⟨v, u, f, e, _⟩ => by rw [e]; rfl) (fun f cdv A outer s H E hr => have hu := hr.units; have hh := hr.hd; have sc := fD
  (aq (iO (cO (aM bj hr (by omega) (by rfl) (aA (dv 2) aD))))
 (aq (iO (cO (aM cC hr (by omega) (by rfl) (aA (dv 3) aD))))
 (aq (bX K rfl rfl (Or.inl rfl) (dv 1))
 (aq (bX K rfl rfl (Or.inl rfl) (dv 2))
 (aq (bX K rfl rfl (Or.inl rfl) (dv 3))
 (iP (aF (cO (ip m_need_bounds hr (by omega) (dv 0))))))))))) ?_
 rintro a ds Q ⟨p, x, f, rfl, ⟨h1, h2, h3⟩, hf, hd, ho, q⟩
 exact ⟨_, rfl, x, rfl, Nat.le_trans h2 (by decide), h1, _, rfl, _, rfl, hf, _, rfl, rfl, hc, hn _ (by decide), (by first | exact qW | exact qX | exact qY), _, rfl, rfl, hc, hn _ (by decide), (by first | exact qW | exact qX | exact qY), _, rfl, rfl, hc, hn _ (by decide), (by first | exact qW | exact qX | exact qY), rfl, cZ (p := .held p x f) eE b7 ⟨_, rfl, rfl⟩ hd ho q⟩
theorem uf {sa : Addr} (hA : f_ K A) (d : Di K mg "Pair" A.pair "Pair.__init__" dB ["self", "sign", "one", "other"] []) (kd_SIGNS : yj w K mg "SIGNS" sa pB) (m_need_bounds : MQ P w K mg base A j "need_bounds" n iY fun _ => .aV) :
  l9 P w K mg base (j + 1) "Pair" A.pair (fun ds Q => ∃ (g : Str) (x y : Pt), ds = [.str g, x.d A, y.d A] /\ g ∈ cq /\ (Pt.pair g x y).depth <= n /\ iY (.pair g x y) /\ Q [("sign", .str g), ("one", x.d A), ("other", y.d A)]) [] := by
 have hc := hA.cl A.pair (by simp)
 have hn := hA.mH A.pair (by simp)
 refine d.z0 fE (fun ds P P' g ⟨v, u, f, e, k, h, o, q⟩ => ⟨v, u, f, e, k, h, o, g _ q⟩) (fun ds Q ⟨v, u, f, e, _⟩ => by rw [e]; rfl) (fun f cdv A outer s H E hr => have hu := hr.units; have hh := hr.hd; have sc := fE
  (aq (iO (bO (yO kd_SIGNS (by rfl) (dv 1)) (aF jK) aX))
 (aq (bX K rfl rfl (Or.inl rfl) (dv 1))
 (aq (bX K rfl rfl (Or.inl rfl) (dv 2))
 (aq (bX K rfl rfl (Or.inl rfl) (dv 3))
 (iP (aF (cO (ip m_need_bounds hr (by omega) (dv 0)))))))))) ?_
 rintro a ds Q ⟨g, x, y, rfl, hg, hd, ho, q⟩
 exact ⟨_, rfl, g, rfl, false, congrArg D.bl (Ao hg), aT ⟨_, rfl, rfl, hc, hn _ (by decide), (by first | exact qW | exact qX | exact qY), _, rfl, rfl, hc, hn _ (by decide), (by first | exact qW | exact qX | exact qY), _, rfl, rfl, hc, hn _ (by decide), (by first | exact qW | exact qX | exact qY), rfl, cZ (p := .pair g x y) eE b7 ⟨_, rfl, rfl⟩ hd ho q⟩⟩
end
def sh (a b : Int) : D := .tup [.int a, .int b]
def jX : List (Str × D) := [("given", sh 2 0), ("named", sh 2 0), ("not", sh 2 1), ("if", sh 4 3), ("before", sh 3 1), ("then", sh 3 2), ("when", sh 3 1), ("held", sh 4 1)]
def Pt.ok : Pt -> Prop
 | .given v => isVal v
 | .named s => dn s
 | .turned p => p.ok
 | .pair g a b => g ∈ cq /\ a.ok /\ b.ok
 | .choice t a b => t.ok /\ a.ok /\ b.ok
 | .before p f => p.ok /\ cH f
 | .led h r => h.ok /\ r.ok
 | .bP p s => p.ok /\ dn s
 | .held p s f => p.ok /\ dn s /\ cH f
def Pt.lF : Pt -> Bool
 | .pair _ _ _ => true
 | _ => false
def Pt.isPlain : Pt -> Bool
 | .given _ => true | .named _ => true | .turned _ => true | .choice _ _ _ => true | _ => false
theorem Pt.xR {p q : Pt} (h : q ∈ p.inner) (o : p.ok) : q.ok := by
 cases p <;> simp only [Pt.inner, Pt.ok, List.mem_cons, List.not_mem_nil, or_false] at h o
 case turned => subst h; exact o
 case pair => rcases h with rfl | rfl <;> simp only [o]
 case choice => rcases h with rfl | rfl | rfl <;> simp only [o]
 case before => subst h; exact o.1
 case led => rcases h with rfl | rfl <;> simp only [o]
 case bP => subst h; exact o.1
 case held => subst h; exact o.1
def o_ (ok : Pt -> Prop) (g : Pt -> D) : cg := fun ds Q => ∃ p : Pt, ds = [p.told] /\ ok p /\ Q (g p)
theorem Ea {ok : Pt -> Prop} {g : Pt -> D} : bU (o_ ok g) := fun ds P P' f ⟨p, e, h, q⟩ => ⟨p, e, h, f _ q⟩
theorem ES {ok : Pt -> Prop} {g : Pt -> D} (ds : List D) (Q : D -> Prop) (h : o_ ok g ds Q) : ds.length = 1 := by obtain ⟨x, e, _⟩ := h; rw [e]; rfl
def sD (A : bh) (n : Nat) (b : Bool) : cg := fun ds Q => ∃ p : Pt, ds = [p.told, .lst (p.inner.map (Pt.d A))] /\ p.lF = false /\ p.isPlain = b /\ p.ok /\ iY p /\ p.depth <= n /\ Q (p.d A)
def vF (A : bh) (n : Nat) : cg := fun ds Q => ∃ p : Pt, ds = [p.told] /\ p.depth <= n /\ p.ok /\ iY p /\ Q (p.d A)
theorem GH {A : bh} {n : Nat} : bU (vF A n) := fun ds P P' f ⟨p, e, h, o, b, q⟩ => ⟨p, e, h, o, b, f _ q⟩
theorem EY {A : bh} {n : Nat} {b : Bool} : bU (sD A n b) := fun ds P P' f ⟨p, e, h, o, b, i, d, q⟩ => ⟨p, e, h, o, b, i, d, f _ q⟩
theorem xO {g : Str} (h : g ∈ cq) : (if false = true then !jX.any fun p => p.1 == g else jX.any fun p => p.1 == g) = false := by
 simp only [cq, List.mem_cons, List.not_mem_nil, or_false] at h
 rcases h with rfl | rfl | rfl | rfl | rfl | rfl | rfl | rfl <;> decide +kernel
section
seal wpAny
variable {P : Program} {w : World} {K : PySem.W.Frag} {mg : Str -> Option Value} {base : Heap} {A : bh} {n j : Nat}
theorem cj {sa : Addr} (d : Df K mg "has_shape" gS ["told"]) (n_len : mg "len" = none) (kd_SHAPES : yj w K mg "SHAPES" sa jX) : bN P w K mg base (j + 1) "has_shape" ["told"] (o_ Pt.ok fun p => .bl (!p.lF)) := by
 refine d.gp jR Ea ES (fun f cdv A outer s H E hr => have hu := hr.units; have hh := hr.hd; have sc := jR
  (aF (aN (pR (D4 kd_SHAPES (by rfl) (aR (dv 0) aB (fun _ _ => rfl))) (mf (q9 hu (il (by rfl) n_len (aA (dv 0) aD)) (aR (v7 kd_SHAPES (by rfl) (aR (dv 0) aB (fun _ _ => rfl)) (fun _ _ => rfl)) aB (fun _ _ => rfl)))))))) ?_
 rintro ds Q ⟨p, rfl, ho, q⟩
 cases p with
 | given v => exact ⟨_, rfl, _, rfl, "given", rfl, true, congrArg D.bl (by decide +kernel), aZ ⟨_, rfl, _, _, rfl, rfl, _, rfl, _, rfl, "given", sh 2 0, rfl, (by kernel_rfl), _, rfl, q⟩⟩
 | named s => exact ⟨_, rfl, _, rfl, "named", rfl, true, congrArg D.bl (by decide +kernel), aZ ⟨_, rfl, _, _, rfl, rfl, _, rfl, _, rfl, "named", sh 2 0, rfl, (by kernel_rfl), _, rfl, q⟩⟩
 | turned x => exact ⟨_, rfl, _, rfl, "not", rfl, true, congrArg D.bl (by decide +kernel), aZ ⟨_, rfl, _, _, rfl, rfl, _, rfl, _, rfl, "not", sh 2 1, rfl, (by kernel_rfl), _, rfl, q⟩⟩
 | pair g x y => exact ⟨_, rfl, _, rfl, g, rfl, false, congrArg D.bl (xO ho.1), aT q⟩
 | choice x y z => exact ⟨_, rfl, _, rfl, "if", rfl, true, congrArg D.bl (by decide +kernel), aZ ⟨_, rfl, _, _, rfl, rfl, _, rfl, _, rfl, "if", sh 4 3, rfl, (by kernel_rfl), _, rfl, q⟩⟩
 | before x f => exact ⟨_, rfl, _, rfl, "before", rfl, true, congrArg D.bl (by decide +kernel), aZ ⟨_, rfl, _, _, rfl, rfl, _, rfl, _, rfl, "before", sh 3 1, rfl, (by kernel_rfl), _, rfl, q⟩⟩
 | led x y => exact ⟨_, rfl, _, rfl, "then", rfl, true, congrArg D.bl (by decide +kernel), aZ ⟨_, rfl, _, _, rfl, rfl, _, rfl, _, rfl, "then", sh 3 2, rfl, (by kernel_rfl), _, rfl, q⟩⟩
 | bP x s => exact ⟨_, rfl, _, rfl, "when", rfl, true, congrArg D.bl (by decide +kernel), aZ ⟨_, rfl, _, _, rfl, rfl, _, rfl, _, rfl, "when", sh 3 1, rfl, (by kernel_rfl), _, rfl, q⟩⟩
 | held x s f => exact ⟨_, rfl, _, rfl, "held", rfl, true, congrArg D.bl (by decide +kernel), aZ ⟨_, rfl, _, _, rfl, rfl, _, rfl, _, rfl, "held", sh 4 1, rfl, (by kernel_rfl), _, rfl, q⟩⟩
theorem iJ (d : Df K mg "plain_by" iT ["told", "inner"])
  {i : Nat} (hi : i + 1 <= j)
  (k_Given_1 : l9 P w K mg base i "Given" A.given (fun ds Q => ∃ v, ds = [v] /\ isVal v /\ Q [("value", v)]) [])
  (k_Named_1 : l9 P w K mg base i "Named" A.named (fun ds Q => ∃ x : Str, ds = [.str x] /\ dn x /\ Q [("name", .str x)]) [])
  (k_Turned_1 : l9 P w K mg base i "Turned" A.turned (fun ds Q => ∃ p : Pt, ds = [p.d A] /\ (Pt.turned p).depth <= n /\ iY (.turned p) /\ Q [("part", p.d A)]) [])
  (k_Choice_3 : l9 P w K mg base i "Choice" A.choice (fun ds Q => ∃ t x y : Pt, ds = [t.d A, x.d A, y.d A] /\ (Pt.choice t x y).depth <= n /\ iY (.choice t x y) /\ Q [("truth", t.d A), ("one", x.d A), ("other", y.d A)]) [])
  : bN P w K mg base (j + 1) "plain_by" ["told", "inner"] (sD A n true) := by
 refine d.gp kC EY (fun ds Q ⟨x, e, _⟩ => by rw [e]; rfl) (fun f cdv A outer s H E hr => have hu := hr.units; have hh := hr.hd; have sc := kC
  (aH (ak (i := 2) sc.nd rfl (Or.inl rfl) (aR (dv 0) aB (fun _ _ => rfl)))
 (aH (bO (cu hu (dv 2) aj) (aF (aN (ng k_Given_1 hr (by omega) (by rfl) (aA (aR (dv 0) aB (fun _ _ => rfl)) aD)))) aX)
 (aH (bO (cu hu (dv 2) aj) (aF (aN (ng k_Named_1 hr (by omega) (by rfl) (aA (aR (dv 0) aB (fun _ _ => rfl)) aD)))) aX)
 (aH (bO (cu hu (dv 2) aj) (aF (aN (ng k_Turned_1 hr (by omega) (by rfl) (aA (aR (dv 1) aB (fun _ _ => rfl)) aD)))) aX)
 (aF (aN (ng k_Choice_3 hr (by omega) (by rfl) (aA (aR (dv 1) aB (fun _ _ => rfl)) (aA (aR (dv 1) aB (fun _ _ => rfl)) (aA (aR (dv 1) aB (fun _ _ => rfl)) aD))))))))))) ?_
 rintro ds Q ⟨p, rfl, hp, hl, ho, hb, hd, q⟩
 cases p with
 | given v => exact ⟨_, rfl, _, rfl, ⟨_, rfl, true, congrArg D.bl (by decide +kernel), aZ ⟨_, rfl, _, rfl, v, rfl, ho, q⟩⟩⟩
 | named s => exact ⟨_, rfl, _, rfl, ⟨_, rfl, false, congrArg D.bl (by decide +kernel), aT ⟨_, rfl, true, congrArg D.bl (by decide +kernel), aZ ⟨_, rfl, _, rfl, s, rfl, ho, q⟩⟩⟩⟩
 | turned x => exact ⟨_, rfl, _, rfl, ⟨_, rfl, false, congrArg D.bl (by decide +kernel), aT ⟨_, rfl, false, congrArg D.bl (by decide +kernel), aT ⟨_, rfl, true, congrArg D.bl (by decide +kernel), aZ ⟨_, rfl, _, rfl, x, rfl, hd, hb, q⟩⟩⟩⟩⟩
 | pair g x y => cases hp
 | choice x y z => exact ⟨_, rfl, _, rfl, ⟨_, rfl, false, congrArg D.bl (by decide +kernel), aT ⟨_, rfl, false, congrArg D.bl (by decide +kernel), aT ⟨_, rfl, false, congrArg D.bl (by decide +kernel), aT ⟨_, rfl, _, rfl, _, rfl, _, rfl, _, rfl, _, rfl, x, y, z, rfl, hd, hb, q⟩⟩⟩⟩⟩
 | before x f => cases hl
 | led x y => cases hl
 | bP x s => cases hl
 | held x s f => cases hl
theorem iK (d : Df K mg "timed_by" iU ["told", "inner"])
  {i : Nat} (hi : i + 1 <= j)
  (k_Before_2 : l9 P w K mg base i "Before" A.before (fun ds Q => ∃ (p : Pt) (f : D), ds = [p.d A, f] /\ cH f /\ (Pt.before p f).depth <= n /\ iY (.before p f) /\ Q [("part", p.d A), ("first", f)]) [])
  (k_Led_2 : l9 P w K mg base i "Led" A.led (fun ds Q => ∃ x y : Pt, ds = [x.d A, y.d A] /\ (Pt.led x y).depth <= n /\ iY (.led x y) /\ Q [("head", x.d A), ("rest", y.d A)]) [])
  (k_When_2 : l9 P w K mg base i "When" A.bP (fun ds Q => ∃ (p : Pt) (x : Str), ds = [p.d A, .str x] /\ dn x /\ (Pt.bP p x).depth <= n /\ iY (.bP p x) /\ Q [("part", p.d A), ("name", .str x)]) [])
  (k_Held_3 : l9 P w K mg base i "Held" A.held (fun ds Q => ∃ (p : Pt) (x : Str) (f : D), ds = [p.d A, .str x, f] /\ dn x /\ cH f /\ (Pt.held p x f).depth <= n /\ iY (.held p x f) /\ Q [("part", p.d A), ("name", .str x), ("first", f)]) [])
  : bN P w K mg base (j + 1) "timed_by" ["told", "inner"] (sD A n false) := by
 refine d.gp kE EY (fun ds Q ⟨x, e, _⟩ => by rw [e]; rfl) (fun f cdv A outer s H E hr => have hu := hr.units; have hh := hr.hd; have sc := kE
  (aH (ak (i := 2) sc.nd rfl (Or.inl rfl) (aR (dv 0) aB (fun _ _ => rfl)))
 (aH (bO (cu hu (dv 2) aj) (aF (aN (ng k_Before_2 hr (by omega) (by rfl) (aA (aR (dv 1) aB (fun _ _ => rfl)) (aA (aR (dv 0) aB (fun _ _ => rfl)) aD))))) aX)
 (aH (bO (cu hu (dv 2) aj) (aF (aN (ng k_Led_2 hr (by omega) (by rfl) (aA (aR (dv 1) aB (fun _ _ => rfl)) (aA (aR (dv 1) aB (fun _ _ => rfl)) aD))))) aX)
 (aH (bO (cu hu (dv 2) aj) (aF (aN (ng k_When_2 hr (by omega) (by rfl) (aA (aR (dv 1) aB (fun _ _ => rfl)) (aA (aR (dv 0) aB (fun _ _ => rfl)) aD))))) aX)
 (aF (aN (ng k_Held_3 hr (by omega) (by rfl) (aA (aR (dv 1) aB (fun _ _ => rfl)) (aA (aR (dv 0) aB (fun _ _ => rfl)) (aA (aR (dv 0) aB (fun _ _ => rfl)) aD))))))))))) ?_
 rintro ds Q ⟨p, rfl, hp, hl, ho, hb, hd, q⟩
 cases p with
 | given v => cases hl
 | named s => cases hl
 | turned x => cases hl
 | pair g x y => cases hp
 | choice x y z => cases hl
 | before x f => exact ⟨_, rfl, _, rfl, ⟨_, rfl, true, congrArg D.bl (by decide +kernel), aZ ⟨_, rfl, _, rfl, _, rfl, _, rfl, x, f, rfl, ho.2, hd, hb, q⟩⟩⟩
 | led x y => exact ⟨_, rfl, _, rfl, ⟨_, rfl, false, congrArg D.bl (by decide +kernel), aT ⟨_, rfl, true, congrArg D.bl (by decide +kernel), aZ ⟨_, rfl, _, rfl, _, rfl, _, rfl, x, y, rfl, hd, hb, q⟩⟩⟩⟩
 | bP x s => exact ⟨_, rfl, _, rfl, ⟨_, rfl, false, congrArg D.bl (by decide +kernel), aT ⟨_, rfl, false, congrArg D.bl (by decide +kernel), aT ⟨_, rfl, true, congrArg D.bl (by decide +kernel), aZ ⟨_, rfl, _, rfl, _, rfl, _, rfl, x, s, rfl, ho.2, hd, hb, q⟩⟩⟩⟩⟩
 | held x s f => exact ⟨_, rfl, _, rfl, ⟨_, rfl, false, congrArg D.bl (by decide +kernel), aT ⟨_, rfl, false, congrArg D.bl (by decide +kernel), aT ⟨_, rfl, false, congrArg D.bl (by decide +kernel), aT ⟨_, rfl, _, rfl, _, rfl, _, rfl, _, rfl, _, rfl, x, s, f, rfl, ho.2.1, ho.2.2, hd, hb, q⟩⟩⟩⟩⟩
theorem E_ (x : D) (xs : List D) : HT.cA (x :: xs).length 0 (some 1) = 1 := by
 rw [show (1 : Int) = ((1 : Nat) : Int) from rfl, HT.Ai, List.length_cons]
 omega
theorem fW {x : D} {xs : List D} {R : Prop} : ¬ (HT.cA (x :: xs).length 0 (some 1) = 0 /\ R) := fun z => by
 rw [E_] at z
 exact absurd z.1 (by decide)
theorem fX (p : Pt) : (p.inner.map fun q => some (q.d A)).length = (p.inner.map Pt.told).length := by simp
theorem dR {caps : List Nat} {δ : SD} (p : Pt) (hd : p.depth <= n + 1) (ho : p.ok) (hb : iY p) (i : Nat) (d : D) (o : Option D) (h1 : (p.inner.map Pt.told)[i]? = some d) (h2 : (p.inner.map fun q => some (q.d A))[i]? = some o) :
  DR (some d :: kL caps δ) fun b => b = o.isSome /\ (b = true -> yU (vF A n) (cB (eD 0) f9) (some d :: kL caps δ) fun y => o = some y) := by
 rw [List.getElem?_map] at h1 h2
 cases e : p.inner[i]? with
 | none => rw [e] at h1; cases h1
 | some r =>
  rw [e] at h1 h2
  cases h1
  cases h2
  have hr := List.mem_of_getElem? e
  have hs := Pt.zU hr
  have hp := p.fA hr (n := p.depth - 1) (by omega)
  exact ⟨rfl, fun _ => ⟨_, rfl, r, rfl, p.fA hr hd, Pt.xR hr ho, ⟨by have := hb.1; omega, Nat.le_trans hs hb.2⟩, rfl⟩⟩
theorem of_lt (p : Pt) : (p.inner.map Pt.told).length < sizeLine := by rw [List.length_map]; exact Nat.lt_of_le_of_lt p.b9 (by decide)
theorem fY (p : Pt) : (p.inner.map fun q => some (q.d A)).filterMap id = p.inner.map (Pt.d A) := by rw [List.filterMap_map, filterMap_some]
theorem eV {sa : Addr} (d : Df K mg "many_within" eZ ["told"]) (kd_SHAPES : yj w K mg "SHAPES" sa jX) (cj : bN P w K mg base j "has_shape" ["told"] (o_ Pt.ok fun p => .bl (!p.lF))) : bN P w K mg base (j + 1) "many_within" ["told"] (o_ Pt.ok fun p => .int p.inner.length) := by
 refine d.gp gc Ea ES (fun f cdv A outer s H E hr => have hu := hr.units; have hh := hr.hd; have sc := gc
  (aF (aN (y9 (gf (aM cj hr (by omega) (by rfl) (aA (dv 0) aD))) (aR (v7 kd_SHAPES (by rfl) (aR (dv 0) aB (fun _ _ => rfl)) (fun _ _ => rfl)) aB (fun _ _ => rfl)) aB)))) ?_
 rintro ds Q ⟨p, rfl, ho, q⟩
 cases p with
 | given v => exact ⟨_, rfl, .given v, rfl, ho, _, rfl, aZ ⟨_, rfl, _, rfl, "given", sh 2 0, rfl, (by kernel_rfl), _, rfl, q⟩⟩
 | named s => exact ⟨_, rfl, .named s, rfl, ho, _, rfl, aZ ⟨_, rfl, _, rfl, "named", sh 2 0, rfl, (by kernel_rfl), _, rfl, q⟩⟩
 | turned x => exact ⟨_, rfl, .turned x, rfl, ho, _, rfl, aZ ⟨_, rfl, _, rfl, "not", sh 2 1, rfl, (by kernel_rfl), _, rfl, q⟩⟩
 | pair g x y => exact ⟨_, rfl, .pair g x y, rfl, ho, _, rfl, aT q⟩
 | choice x y z => exact ⟨_, rfl, .choice x y z, rfl, ho, _, rfl, aZ ⟨_, rfl, _, rfl, "if", sh 4 3, rfl, (by kernel_rfl), _, rfl, q⟩⟩
 | before x f => exact ⟨_, rfl, .before x f, rfl, ho, _, rfl, aZ ⟨_, rfl, _, rfl, "before", sh 3 1, rfl, (by kernel_rfl), _, rfl, q⟩⟩
 | led x y => exact ⟨_, rfl, .led x y, rfl, ho, _, rfl, aZ ⟨_, rfl, _, rfl, "then", sh 3 2, rfl, (by kernel_rfl), _, rfl, q⟩⟩
 | bP x s => exact ⟨_, rfl, .bP x s, rfl, ho, _, rfl, aZ ⟨_, rfl, _, rfl, "when", sh 3 1, rfl, (by kernel_rfl), _, rfl, q⟩⟩
 | held x s f => exact ⟨_, rfl, .held x s f, rfl, ho, _, rfl, aZ ⟨_, rfl, _, rfl, "held", sh 4 1, rfl, (by kernel_rfl), _, rfl, q⟩⟩
theorem u0 {i m N : Nat} (hi : i + 1 <= j) (hN : n <= N) (d : Df K mg "part_of" g6 ["told"]) (eV : bN P w K mg base j "many_within" ["told"] (o_ Pt.ok fun p => .int p.inner.length)) (cj : bN P w K mg base j "has_shape" ["told"] (o_ Pt.ok fun p => .bl (!p.lF)))
  (c_part_of : bN P w K mg base j "part_of" ["told"] (vF A m)) (hm : n <= m + 1)
  (iJ : bN P w K mg base j "plain_by" ["told", "inner"] (sD A N true)) (iK : bN P w K mg base j "timed_by" ["told", "inner"] (sD A N false))
  (k_Pair_3 : l9 P w K mg base i "Pair" A.pair (fun ds Q => ∃ (g : Str) (x y : Pt), ds = [.str g, x.d A, y.d A] /\ g ∈ cq /\ (Pt.pair g x y).depth <= N /\ iY (.pair g x y) /\ Q [("sign", .str g), ("one", x.d A), ("other", y.d A)]) [])
  : bN P w K mg base (j + 1) "part_of" ["told"] (vF A n) := by
 refine d.gp lU GH (fun ds Q ⟨x, e, _⟩ => by rw [e]; rfl) (fun f cdv A outer s H E hr => have hu := hr.units; have hh := hr.hd; have sc := lU
  (aH (Aj (i := 1) sc.nd rfl (Or.inl rfl) (x := "one") (caps := []) (cn := []) (cl := []) (j1 (by rfl) (by rfl) (by decide +kernel) (by decide +kernel) (by decide +kernel)) rfl (gJ (kW (dv 0) (lL aB) (lL (bo aB (aM eV hr (by omega) (by rfl) (aA (dv 0) aD)))))) (fun C fp s₂ H₂ => bS (i := 0) (show (["one"] : List Str).Nodup by decide +kernel) rfl (Or.inl rfl) (.inr rfl)) (fun C fp s₂ H₂ => gh) (fun C fp s₂ H₂ => (aM c_part_of hr (by omega) (by rfl) (aA (dv 0) aD))))
 (aH (bO (lY (gf (aM cj hr (by omega) (by rfl) (aA (dv 0) aD)))) (aF (aN (ng k_Pair_3 hr (by omega) (by rfl) (aA (aR (dv 0) aB (fun _ _ => rfl)) (aA (aR (dv 1) aB (fun _ _ => rfl)) (aA (aR (dv 1) aB (fun _ _ => rfl)) aD)))))) aX)
 (aH (bO (FL (aR (dv 0) aB (fun _ _ => rfl)) (aU (eT (by rfl))) (by rfl)) (aF (aN (aM iJ hr (by omega) (by rfl) (aA (dv 0) (aA (dv 1) aD))))) aX)
 (aF (aN (aM iK hr (by omega) (by rfl) (aA (dv 0) (aA (dv 1) aD))))))))) ?_
 rintro ds Q ⟨p, rfl, hd, ho, hb, q⟩
 have hdm : p.depth <= m + 1 := Nat.le_trans hd hm
 have hdN : p.depth <= N := Nat.le_trans hd hN
 cases p with
 | given v =>
  refine ⟨_, rfl, _, rfl, _, rfl, .given v, rfl, ho, _, rfl, fW, (Pt.given v).inner.map Pt.told, rfl, _, fX (.given v), dR (.given v) hdm ho hb, of_lt (.given v), ?_⟩
  rw [fY]
  exact ⟨_, rfl, .given v, rfl, ho, _, rfl, aT ⟨_, rfl, _, rfl, (by decide), rfl, (by decide), true, congrArg D.bl (by decide +kernel), aZ ⟨_, rfl, _, rfl, .given v, rfl, rfl, rfl, ho, hb, hdN, q⟩⟩⟩
 | named s =>
  refine ⟨_, rfl, _, rfl, _, rfl, .named s, rfl, ho, _, rfl, fW, (Pt.named s).inner.map Pt.told, rfl, _, fX (.named s), dR (.named s) hdm ho hb, of_lt (.named s), ?_⟩
  rw [fY]
  exact ⟨_, rfl, .named s, rfl, ho, _, rfl, aT ⟨_, rfl, _, rfl, (by decide), rfl, (by decide), true, congrArg D.bl (by decide +kernel), aZ ⟨_, rfl, _, rfl, .named s, rfl, rfl, rfl, ho, hb, hdN, q⟩⟩⟩
 | turned x =>
  refine ⟨_, rfl, _, rfl, _, rfl, .turned x, rfl, ho, _, rfl, fW, (Pt.turned x).inner.map Pt.told, rfl, _, fX (.turned x), dR (.turned x) hdm ho hb, of_lt (.turned x), ?_⟩
  rw [fY]
  exact ⟨_, rfl, .turned x, rfl, ho, _, rfl, aT ⟨_, rfl, _, rfl, (by decide), rfl, (by decide), true, congrArg D.bl (by decide +kernel), aZ ⟨_, rfl, _, rfl, .turned x, rfl, rfl, rfl, ho, hb, hdN, q⟩⟩⟩
 | pair g x y =>
  refine ⟨_, rfl, _, rfl, _, rfl, .pair g x y, rfl, ho, _, rfl, fW, (Pt.pair g x y).inner.map Pt.told, rfl, _, fX (.pair g x y), dR (.pair g x y) hdm ho hb, of_lt (.pair g x y), ?_⟩
  rw [fY]
  exact ⟨_, rfl, .pair g x y, rfl, ho, _, rfl, aZ ⟨_, rfl, _, rfl, _, rfl, _, rfl, _, rfl, _, rfl, g, x, y, rfl, ho.1, hdN, hb, q⟩⟩
 | choice x y z =>
  refine ⟨_, rfl, _, rfl, _, rfl, .choice x y z, rfl, ho, _, rfl, fW, (Pt.choice x y z).inner.map Pt.told, rfl, _, fX (.choice x y z), dR (.choice x y z) hdm ho hb, of_lt (.choice x y z), ?_⟩
  rw [fY]
  exact ⟨_, rfl, .choice x y z, rfl, ho, _, rfl, aT ⟨_, rfl, _, rfl, (by decide), rfl, (by decide), true, congrArg D.bl (by decide +kernel), aZ ⟨_, rfl, _, rfl, .choice x y z, rfl, rfl, rfl, ho, hb, hdN, q⟩⟩⟩
 | before x f =>
  refine ⟨_, rfl, _, rfl, _, rfl, .before x f, rfl, ho, _, rfl, fW, (Pt.before x f).inner.map Pt.told, rfl, _, fX (.before x f), dR (.before x f) hdm ho hb, of_lt (.before x f), ?_⟩
  rw [fY]
  exact ⟨_, rfl, .before x f, rfl, ho, _, rfl, aT ⟨_, rfl, _, rfl, (by decide), rfl, (by decide), false, congrArg D.bl (by decide +kernel), aT ⟨_, rfl, _, rfl, .before x f, rfl, rfl, rfl, ho, hb, hdN, q⟩⟩⟩
 | led x y =>
  refine ⟨_, rfl, _, rfl, _, rfl, .led x y, rfl, ho, _, rfl, fW, (Pt.led x y).inner.map Pt.told, rfl, _, fX (.led x y), dR (.led x y) hdm ho hb, of_lt (.led x y), ?_⟩
  rw [fY]
  exact ⟨_, rfl, .led x y, rfl, ho, _, rfl, aT ⟨_, rfl, _, rfl, (by decide), rfl, (by decide), false, congrArg D.bl (by decide +kernel), aT ⟨_, rfl, _, rfl, .led x y, rfl, rfl, rfl, ho, hb, hdN, q⟩⟩⟩
 | bP x s =>
  refine ⟨_, rfl, _, rfl, _, rfl, .bP x s, rfl, ho, _, rfl, fW, (Pt.bP x s).inner.map Pt.told, rfl, _, fX (.bP x s), dR (.bP x s) hdm ho hb, of_lt (.bP x s), ?_⟩
  rw [fY]
  exact ⟨_, rfl, .bP x s, rfl, ho, _, rfl, aT ⟨_, rfl, _, rfl, (by decide), rfl, (by decide), false, congrArg D.bl (by decide +kernel), aT ⟨_, rfl, _, rfl, .bP x s, rfl, rfl, rfl, ho, hb, hdN, q⟩⟩⟩
 | held x s f =>
  refine ⟨_, rfl, _, rfl, _, rfl, .held x s f, rfl, ho, _, rfl, fW, (Pt.held x s f).inner.map Pt.told, rfl, _, fX (.held x s f), dR (.held x s f) hdm ho hb, of_lt (.held x s f), ?_⟩
  rw [fY]
  exact ⟨_, rfl, .held x s f, rfl, ho, _, rfl, aT ⟨_, rfl, _, rfl, (by decide), rfl, (by decide), false, congrArg D.bl (by decide +kernel), aT ⟨_, rfl, _, rfl, .held x s f, rfl, rfl, rfl, ho, hb, hdN, q⟩⟩⟩
end
theorem jZ {x y : Str} (h : x.cps.toList = y.cps.toList) : x = y := by
 obtain ⟨⟨a⟩⟩ := x
 obtain ⟨⟨b⟩⟩ := y
 have : a = b := h
 rw [this]
theorem bF (x y : Str) : (x ++ y).cps.toList = x.cps.toList ++ y.cps.toList := by
 show (x.cps ++ y.cps).toList = _
 exact Array.toList_append
theorem oO (x : Str) : x.length = x.cps.toList.length := by
 show x.cps.size = _
 exact Array.length_toList.symm
theorem fP (x y : Str) : (x ++ y).length = x.length + y.length := by rw [oO, bF, List.length_append, <- oO, <- oO]
theorem vy {c : Nat} : ∀ {a b r s : List Nat}, c ∉ a -> c ∉ b -> a ++ c :: r = b ++ c :: s -> a = b /\ r = s
 | [], [], r, s, _, _, h => ⟨rfl, by simpa using h⟩
 | [], y :: b, r, s, _, hb, h => by
  have : c = y := by simpa using (List.cons.inj h).1
  exact (hb (by rw [this]; exact List.mem_cons_self)).elim
 | x :: a, [], r, s, ha, _, h => by
  have : x = c := by simpa using (List.cons.inj h).1
  exact (ha (by rw [this]; exact List.mem_cons_self)).elim
 | x :: a, y :: b, r, s, ha, hb, h => by
  obtain ⟨e1, e2⟩ := List.cons.inj h
  obtain ⟨e3, e4⟩ := vy (fun m => ha (List.mem_cons_of_mem _ m)) (fun m => hb (List.mem_cons_of_mem _ m)) e2
  exact ⟨by rw [e1, e3], e4⟩
def jl (c : Nat) : List (List Nat) -> List Nat
 | [] => []
 | [a] => a
 | a :: b :: r => a ++ c :: jl c (b :: r)
theorem oJ (c : Nat) : ∀ ws : List Str, (Str.join ⟨#[c]⟩ ws).cps.toList = jl c (ws.map fun w => w.cps.toList)
 | [] => rfl
 | [x] => rfl
 | x :: y :: r => by
  have ih := oJ c (y :: r)
  show (x ++ ⟨#[c]⟩ ++ Str.join ⟨#[c]⟩ (y :: r)).cps.toList = _
  rw [bF, bF, ih]
  simp [jl]
theorem wu (c : Nat) : ∀ ws vs : List (List Nat), ws ≠ [] -> vs ≠ [] -> (∀ w ∈ ws, c ∉ w) -> (∀ v ∈ vs, c ∉ v) -> jl c ws = jl c vs -> ws = vs
 | [], _, h, _, _, _, _ => absurd rfl h
 | _ :: _, [], _, h, _, _, _ => absurd rfl h
 | [a], [b], _, _, _, _, h => by rw [show a = b from h]
 | [a], b :: b2 :: s, _, _, fa, _, h => by
  have e : a = b ++ c :: jl c (b2 :: s) := h
  exact (fa a List.mem_cons_self (by rw [e]; simp)).elim
 | a :: a2 :: r, [b], _, _, _, fb, h => by
  have e : a ++ c :: jl c (a2 :: r) = b := h
  exact (fb b List.mem_cons_self (by rw [<- e]; simp)).elim
 | a :: a2 :: r, b :: b2 :: s, _, _, fa, fb, h => by
  obtain ⟨e1, e2⟩ := vy (fa a List.mem_cons_self) (fb b List.mem_cons_self) (show a ++ c :: jl c (a2 :: r) = b ++ c :: jl c (b2 :: s) from h)
  rw [e1, wu c (a2 :: r) (b2 :: s) (by simp) (by simp) (fun w m => fa w (List.mem_cons_of_mem _ m)) (fun w m => fb w (List.mem_cons_of_mem _ m)) e2]
theorem qh (c : Nat) (ws : List Str) (hne : ws ≠ []) (free : ∀ w ∈ ws, c ∉ w.cps.toList) : Txt.split (Str.join ⟨#[c]⟩ ws) ⟨#[c]⟩ = ws := by
 have j := StrLaws.join_split (Str.join ⟨#[c]⟩ ws) ⟨#[c]⟩
 have f := StrLaws.split_free (Str.join ⟨#[c]⟩ ws) c
 have p := split_pos (Str.join ⟨#[c]⟩ ws) ⟨#[c]⟩
 generalize Txt.split (Str.join ⟨#[c]⟩ ws) ⟨#[c]⟩ = vs at j f p ⊢
 have e : jl c (vs.map fun w => w.cps.toList) = jl c (ws.map fun w => w.cps.toList) := by rw [<- oJ, <- oJ, j]
 have hv : vs ≠ [] := fun z => by rw [z] at p; simp at p
 have q := wu c _ _ (by simpa using hv) (by simpa using hne) (fun w m => ?_) (fun w m => ?_) e
 ·exact (List.map_inj_right fun x y h => jZ h).mp q
 ·obtain ⟨x, hx, rfl⟩ := List.mem_map.mp m; exact f x hx
 ·obtain ⟨x, hx, rfl⟩ := List.mem_map.mp m; exact free x hx
theorem vG {x : Str} {l u : Option Int} {c : Nat} (h : c ∈ (Txt.slice x l u).cps.toList) : c ∈ x.cps.toList := by
 unfold Txt.slice at h
 split at h
 ·exact h
 ·obtain ⟨i, _, hi⟩ := List.mem_filterMap.mp (show c ∈ List.filterMap (x.cps[·]?) _ from by simpa using h)
  rw [<- Array.getElem?_toList] at hi
  exact List.mem_of_getElem? hi
theorem nC {x : Str} {l u : Option Int} : (Txt.slice x l u).length <= (Builtin.Str.strSliceIndices l u 1 x.length).length := by
 unfold Txt.slice
 split
 ·rename_i h
  have h2 : (Builtin.Str.strSliceIndices l u 1 x.length).length = x.length := by simpa using h
  exact Nat.le_of_eq h2.symm
 ·show (List.filterMap _ _).toArray.size <= _
  rw [List.size_toArray]
  exact List.length_filterMap_le _ _
theorem zT : ∀ n : Fin 7, ∀ a : Fin 7, (Builtin.Str.strSliceIndices none (some (a.val : Int)) 1 n.val).length + (Builtin.Str.strSliceIndices (some (a.val : Int)) none 1 n.val).length <= n.val := by decide +kernel
theorem vH {x : Str} {a : Int} (hx : x.length <= 6) (h0 : 0 <= a) (h1 : a < 7) : (Txt.slice x none (some a)).length + (Txt.slice x (some a) none).length <= x.length := by
 have q := zT ⟨x.length, by omega⟩ ⟨a.toNat, by omega⟩
 rw [show ((⟨a.toNat, by omega⟩ : Fin 7).val : Int) = a from Int.toNat_of_nonneg h0] at q
 have h2 := nC (x := x) (l := none) (u := some a)
 have h3 := nC (x := x) (l := some a) (u := none)
 have q' : (Builtin.Str.strSliceIndices none (some a) 1 x.length).length + (Builtin.Str.strSliceIndices (some a) none 1 x.length).length <= x.length := q
 omega
theorem bI {α : Type} {xs : List α} {i : Int} (h0 : 0 <= i) (h1 : i < xs.length) : ∃ r, r ∈ xs /\ L2.eo xs i = some r := by
 unfold L2.eo L2.CD
 rw [if_pos h0, if_pos h1]
 have h : i.toNat < xs.length := by omega
 exact ⟨xs[i.toNat], List.getElem_mem h, by simp [List.getElem?_eq_getElem h]⟩
theorem ic {α : Type} {xs : List α} {i : Nat} {x : α} (h : xs[i]? = some x) : L2.eo xs (i : Int) = some x := by
 unfold L2.eo L2.CD
 have hl : i < xs.length := (List.getElem?_eq_some_iff.mp h).1
 rw [if_pos (by omega), if_pos (by omega), Int.toNat_natCast]
 exact h
def low (x : Str) : Prop := ∀ c ∈ x.cps.toList, 97 <= c /\ c <= 122
def lM : List Nat := [99, 103, 106, 107, 112, 113, 118, 120, 122]
theorem zp {c : Nat} (h1 : 97 <= c) (h2 : c <= 122) : Dp ⟨#[c]⟩ = true := by
 have all : ∀ k : Fin 26, Dp ⟨#[97 + k.val]⟩ = true := by decide +kernel
 have q := all ⟨c - 97, by omega⟩
 have e : 97 + (c - 97) = c := by omega
 rw [show (97 + (⟨c - 97, by omega⟩ : Fin 26).val) = c from e] at q
 exact q
theorem zq {x : Str} (h : low x) (h0 : 0 < x.length) : mF x = true := by
 unfold mF
 rw [decide_eq_true (by omega), Bool.true_and, List.all_eq_true]
 intro s hs
 unfold signs at hs
 obtain ⟨c, hc, rfl⟩ := List.mem_map.mp hs
 exact zp (h c hc).1 (h c hc).2
theorem xA {x : Str} (h : low x) (h0 : 0 < x.length) (h8 : x.length <= 8) : cm x = true := by
 unfold cm
 rw [zq h h0, decide_eq_true (by omega)]
 rfl
theorem oQ {x : Str} (h : low x) : 46 ∉ x.cps.toList := fun m => by have := h 46 m; omega
theorem oP {x y : Str} (h : low x) (g : low y) : low (x ++ y) := fun c hc => by
 rw [bF] at hc
 exact (List.mem_append.mp hc).elim (h c) (g c)
theorem tW {c : Nat} (h : 97 <= c /\ c <= 122) : low ⟨#[c]⟩ := fun d hd => by
 have : d = c := by simpa using hd
 rw [this]; exact h
theorem m6 {x : Str} {l u : Option Int} (h : low x) : low (Txt.slice x l u) := fun c hc => h c (vG hc)
theorem z8 {c : Nat} (h : c ∈ lM) : 97 <= c /\ c <= 122 := by
 have all : ∀ c ∈ lM, 97 <= c /\ c <= 122 := by decide
 exact all c h
theorem zg {x : Str} {c : Nat} (hc : c ∈ x.cps.toList) (hz : c ∈ lM) : j5.contains x = false := by
 have all : ∀ y ∈ j5, ∀ c ∈ lM, c ∉ y.cps.toList := by decide +kernel
 rw [Bool.eq_false_iff]
 intro h
 exact all x (List.contains_iff_mem.mp h) c hz hc
theorem wN : dot = ⟨#[46]⟩ := by decide +kernel
theorem uv {x : Str} (hf : 46 ∉ x.cps.toList) (hw : iG x = true) : dk x = true := by
 have e : Txt.split x dot = [x] := by
  rw [wN]
  exact qh 46 [x] (by simp) (by simpa using hf)
 unfold dk
 rw [e]
 exact hw
theorem lJ {ws : List Str} (h1 : 2 <= ws.length) (h2 : ws.length <= 4) (hf : ∀ w ∈ ws, cm w = true /\ 46 ∉ w.cps.toList) : dk (Str.join ⟨#[46]⟩ ws) = true := by
 have e : Txt.split (Str.join ⟨#[46]⟩ ws) dot = ws := by
  rw [wN]
  exact qh 46 ws (fun z => by rw [z] at h1; simp at h1) fun w m => (hf w m).2
 unfold dk
 rw [e, decide_eq_false (by omega), if_neg Bool.false_ne_true, decide_eq_true (by omega), Bool.true_and, List.all_eq_true]
 exact fun w m => (hf w m).1
theorem yI {x : Str} (h : ∀ c ∈ x.cps.toList, c < 0x110000) : PyData.strOk x = true := by
 unfold PyData.strOk
 rw [<- Array.all_toList, List.all_eq_true]
 exact fun c hc => decide_eq_true (h c hc)
theorem CS {x : Str} (h : low x) : ∀ c ∈ x.cps.toList, c < 0x110000 := fun c hc => by have := h c hc; omega
def nm (ahead b : Str) (a : Int) (c : Nat) : Str := ahead ++ Txt.slice b none (some a) ++ ⟨#[c]⟩ ++ Txt.slice b (some a) none
theorem z6 {ahead b : Str} {a : Int} {c : Nat} (ha : ahead ∈ (["", "", "row.", "a.in."] : List Str)) (hb : b.length <= 6) (lb : low b) (h0 : 0 <= a) (h1 : a < 7) (hc : c ∈ lM) :
  dn (nm ahead b a c) := by
 have hs := vH hb h0 h1
 let wd : Str := Txt.slice b none (some a) ++ ⟨#[c]⟩ ++ Txt.slice b (some a) none
 have lw : low wd := oP (oP (m6 lb) (tW (z8 hc))) (m6 lb)
 have cw : c ∈ wd.cps.toList := by
  show c ∈ (Txt.slice b none (some a) ++ ⟨#[c]⟩ ++ Txt.slice b (some a) none).cps.toList
  rw [bF, bF]
  simp
 have nw : wd.length = (Txt.slice b none (some a)).length + 1 + (Txt.slice b (some a) none).length := by
  show (Txt.slice b none (some a) ++ ⟨#[c]⟩ ++ Txt.slice b (some a) none).length = _
  rw [fP, fP]
  rfl
 have fw : cm wd = true := xA lw (by omega) (by omega)
 have hnm : nm ahead b a c = ahead ++ wd := jZ (by
  show (ahead ++ Txt.slice b none (some a) ++ ⟨#[c]⟩ ++ Txt.slice b (some a) none).cps.toList = (ahead ++ (Txt.slice b none (some a) ++ ⟨#[c]⟩ ++ Txt.slice b (some a) none)).cps.toList
  simp only [bF, List.append_assoc])
 rw [hnm]
 clear_value wd
 have hl : (ahead ++ wd).length <= 100 := by
  have : ahead.length <= 5 := by
   have all : ∀ y ∈ (["", "", "row.", "a.in."] : List Str), y.length <= 5 := by decide +kernel
   exact all _ ha
  rw [fP]
  omega
 refine ⟨?_, hl, ?_⟩
 ·have ha' := ha
  simp only [List.mem_cons, List.not_mem_nil, or_false] at ha'
  have e0 : ("" : Str) ++ wd = wd := jZ (by rw [bF]; rfl)
  have one : dk wd = true := uv (oQ lw) (by unfold iG; rw [fw, zg cw hc]; rfl)
  rcases ha' with rfl | rfl | rfl | rfl
  ·rw [e0]; exact one
  ·rw [e0]; exact one
  ·have e : ("row." : Str) ++ wd = Str.join ⟨#[46]⟩ ["row", wd] := jZ (by
    show _ = (("row" : Str) ++ ⟨#[46]⟩ ++ wd).cps.toList
    rw [bF, bF, bF]
    rfl)
   rw [e]
   refine lJ (by simp) (by simp) fun w m => ?_
   simp only [List.mem_cons, List.not_mem_nil, or_false] at m
   rcases m with rfl | rfl
   ·exact ⟨by decide +kernel, by decide +kernel⟩
   ·exact ⟨fw, oQ lw⟩
  ·have e : ("a.in." : Str) ++ wd = Str.join ⟨#[46]⟩ ["a", "in", wd] := jZ (by
    show _ = (("a" : Str) ++ ⟨#[46]⟩ ++ (("in" : Str) ++ ⟨#[46]⟩ ++ wd)).cps.toList
    rw [bF, bF, bF, bF, bF]
    rfl)
   rw [e]
   refine lJ (by simp) (by simp) fun w m => ?_
   simp only [List.mem_cons, List.not_mem_nil, or_false] at m
   rcases m with rfl | rfl | rfl
   ·exact ⟨by decide +kernel, by decide +kernel⟩
   ·exact ⟨by decide +kernel, by decide +kernel⟩
   ·exact ⟨fw, oQ lw⟩
 ·refine yI fun d hd => ?_
  rw [bF] at hd
  rcases List.mem_append.mp hd with h | h
  ·have all : ∀ y ∈ (["", "", "row.", "a.in."] : List Str), ∀ d ∈ y.cps.toList, d < 0x110000 := by decide +kernel
   exact all _ ha d h
  ·exact CS lw d h
def rf (c k : Int) : Int := (c + 7919 * k + 11) * 48271 % 2147483647
def mixed (c k : Int) : Int := (rf c k * rf c k + 40692 * rf c k) % 2147483399
theorem zz (c k : Int) : 0 <= rf c k /\ rf c k < 2147483647 := ⟨Int.emod_nonneg _ (by decide), Int.emod_lt_of_pos _ (by decide)⟩
def jV : cg := fun ds Q => ∃ c k : Int, ds = [.int c, .int k] /\ Q (.int (mixed c k))
theorem EZ : bU jV := fun ds P P' f ⟨c, k, e, q⟩ => ⟨c, k, e, f _ q⟩
def yB : cg := fun ds Q => ∃ (ns : List Int) (k : Nat), ds = [.lst (ns.map D.int), .int (k : Int)] /\ k <= 10 /\ ∀ c : Int, Q (.int c)
def oz : cg := fun ds Q => ∃ m : Int, ds = [.int m] /\ ∀ i : Int, -128 <= i -> i <= 127 -> Q (.int i)
def jw : cg := fun ds Q => ∃ (m : Int) (k : Str), ds = [.int m, .str k] /\ ∀ v : D, isVal v -> Q v
def t_ : cg := fun ds Q => ∃ (c : Int) (m : Nat), ds = [.int c, .int (m : Int)] /\ 1 <= m /\ m <= 9 /\ ∀ l : List Str, l.length = m -> (∀ x ∈ l, dn x) -> Q (.lst (l.map D.str))
theorem cd {i j : Int} (h : 0 < j) (h2 : j < 1073741824) : Ba i j := ⟨h, h2⟩
theorem bE (a : Int) {b : Int} (h : 0 < b) : 0 <= a % b := Int.emod_nonneg _ (by omega)
theorem bC (a : Int) {b : Int} (h : 0 < b) : a % b < b := Int.emod_lt_of_pos _ h
def HE (ahead b : Str) (a : Int) : D -> D
 | .int i => .str (nm ahead b a (((L2.eo lM i)).getD 0))
 | _ => .aV
section
seal wpAny
variable {P : Program} {w : World} {K : PySem.W.Frag} {mg : Str -> Option Value} {base : Heap} {A : bh} {n j : Nat}
theorem yu (d : Df K mg "_law_mixed" ff ["_law_cell", "_law_k"]) : bN P w K mg base (j + 1) "_law_mixed" ["_law_cell", "_law_k"] jV := by
 refine d.gp iB EZ (fun ds Q ⟨c, k, e, _⟩ => by rw [e]; rfl) (fun f cdv A outer s H E hr => have hu := hr.units; have hh := hr.hd; have sc := iB
  (aH (ak (i := 2) sc.nd rfl (Or.inl rfl) (a_ (ky (bo (bo (dv 0) (ky aB (dv 1))) aB) aB) aB))
 (aF (aN (a_ (bo (ky (dv 2) (dv 2)) (ky aB (dv 2))) aB))))) ?_
 rintro ds Q ⟨c, k, rfl, q⟩
 have hb := zz c k
 refine ⟨_, rfl, _, rfl, nO.ok (.inl ⟨by decide, by decide⟩), nO.ok (.inr ⟨by decide, by decide⟩), (show (0 : Int) < 2147483647 by decide), ?_⟩
 exact ⟨_, rfl, _, rfl, nO.ok (i := rf c k) (j := rf c k) (.inl ⟨by omega, by omega⟩), _, rfl, nO.ok (.inl ⟨by decide, by decide⟩), (show (0 : Int) < 2147483399 by decide), q⟩
seal mixed
theorem Bm (d : Df K mg "_law_cell_at" d5 ["_law_script", "_law_k"]) (n_len : mg "len" = none) : bN P w K mg base (j + 1) "_law_cell_at" ["_law_script", "_law_k"] yB := by
 refine d.gp fz (fun ds P P' f ⟨c, k, e, h, q⟩ => ⟨c, k, e, h, fun c => f _ (q c)⟩) (fun ds Q ⟨c, k, e, _⟩ => by rw [e]; rfl) (fun f cdv A outer s H E hr => have hu := hr.units; have hh := hr.hd; have sc := fz
  (aH (bO (yN (dv 1) (il (by rfl) n_len (aA (dv 0) aD))) (aF (aN (aR (dv 0) (dv 1) (fun _ _ => rfl)))) aX)
 (aF (aN (ky (ky (bo (dv 1) aB) (bo (dv 1) aB)) aB))))) ?_
 rintro ds Q ⟨ns, k, rfl, hk, q⟩
 refine ⟨_, rfl, _, rfl, _, _, rfl, rfl, _, rfl, ?_⟩
 show if decide ((k : Int) < ((ns.map D.int).length : Int)) = true then _ else _
 rw [List.length_map]
 cases h : decide ((k : Int) < (ns.length : Int)) with
 | true =>
  have hk' : k < ns.length := by have := of_decide_eq_true h; omega
  exact aZ ⟨_, rfl, _, rfl, .int ns[k], ic (by rw [List.getElem?_map, List.getElem?_eq_getElem hk']; rfl), q _⟩
 | false =>
  exact aT ⟨_, rfl, _, rfl, nO.ok (i := (k : Int) + 3) (.inl ⟨by omega, by omega⟩), nO.ok (.inr ⟨by decide, by decide⟩), q _⟩
theorem vk (d : Df K mg "_law_number" eX ["_law_mix"]) : bN P w K mg base (j + 1) "_law_number" ["_law_mix"] oz := by
 refine d.gp gY (fun ds P P' f ⟨c, e, q⟩ => ⟨c, e, fun i h1 h2 => f _ (q i h1 h2)⟩) (fun ds Q ⟨c, e, _⟩ => by rw [e]; rfl) (fun f cdv A outer s H E hr => have hu := hr.units; have hh := hr.hd; have sc := gY
  (aF (aN (aR (bY (aA (ck (a_ (bM (dv 0) aB) aB) aB) (aA (ck (a_ (bM (dv 0) aB) aB) aB) (aA (aR (bY (eT (by rfl))) (a_ (bM (dv 0) aB) aB) (fun _ _ => rfl)) (aA (a_ (bM (dv 0) aB) aB) aD))))) (a_ (dv 0) aB) (fun _ _ => rfl))))) ?_
 rintro ds Q ⟨m, rfl, q⟩
 obtain ⟨r, hr, er⟩ := bI (xs := [D.int (-128), .int 127, .int 0, .int 1]) (bE (m / 8) (show (0 : Int) < 4 by decide)) (bC (m / 8) (show (0 : Int) < 4 by decide))
 obtain ⟨s, hs, es⟩ := bI (xs := [D.int (m / 8 % 256 - 128), .int (m / 8 % 5 - 2), r, .int (m / 8 % 9)]) (bE m (show (0 : Int) < 4 by decide)) (bC m (show (0 : Int) < 4 by decide))
 refine ⟨_, rfl, cd (by decide) (by decide), (show (0 : Int) < 256 by decide), _, rfl, cd (by decide) (by decide), (show (0 : Int) < 5 by decide), (show 4 <= sizeLine by decide), _, rfl, cd (by decide) (by decide), (show (0 : Int) < 4 by decide), r, er, _, rfl, cd (by decide) (by decide), (show (0 : Int) < 9 by decide), (show 4 <= sizeLine by decide), _, rfl, (show (0 : Int) < 4 by decide), s, es, ?_⟩
 have ha := bE (m / 8) (show (0 : Int) < 256 by decide)
 have hb := bC (m / 8) (show (0 : Int) < 256 by decide)
 have hc := bE (m / 8) (show (0 : Int) < 5 by decide)
 have hd := bC (m / 8) (show (0 : Int) < 5 by decide)
 have he := bE (m / 8) (show (0 : Int) < 9 by decide)
 have hf := bC (m / 8) (show (0 : Int) < 9 by decide)
 simp only [List.mem_cons, List.not_mem_nil, or_false] at hr hs
 rcases hs with rfl | rfl | rfl | rfl
 ·exact q _ (by omega) (by omega)
 ·exact q _ (by omega) (by omega)
 ·rcases hr with rfl | rfl | rfl | rfl <;> exact q _ (by decide) (by decide)
 ·exact q _ (by omega) (by omega)
theorem yw (d : Df K mg "_law_value" fh ["_law_mix", "_law_kind"]) (c__law_number : bN P w K mg base j "_law_number" ["_law_mix"] oz) : bN P w K mg base (j + 1) "_law_value" ["_law_mix", "_law_kind"] jw := by
 refine d.gp iE (fun ds P P' f ⟨c, k, e, q⟩ => ⟨c, k, e, fun i h1 => f _ (q i h1)⟩) (fun ds Q ⟨c, k, e, _⟩ => by rw [e]; rfl) (fun f cdv A outer s H E hr => have hu := hr.units; have hh := hr.hd; have sc := iE
  (aH (bO (cu hu (dv 1) aj) (aF (aN (q9 hu (a_ (bM (dv 0) aB) aB) aB))) aX)
 (aF (aN (aM c__law_number hr (by omega) (by rfl) (aA (bM (dv 0) aB) aD)))))) ?_
 rintro ds Q ⟨m, k, rfl, q⟩
 refine ⟨_, rfl, _, rfl, ?_⟩
 cases h : decide (k = "truth") with
 | true => exact aZ ⟨_, rfl, cd (by decide) (by decide), (show (0 : Int) < 2 by decide), q _ (.inl ⟨_, rfl⟩)⟩
 | false => exact aT ⟨_, rfl, cd (by decide) (by decide), _, rfl, fun i h1 h2 => q _ (.inr ⟨i, rfl, h1, h2⟩)⟩
theorem yv (d : Df K mg "_law_names" fg ["_law_cell", "_law_many"]) (n_range : mg "range" = none) (c__law_mixed : bN P w K mg base j "_law_mixed" ["_law_cell", "_law_k"] jV) : bN P w K mg base (j + 1) "_law_names" ["_law_cell", "_law_many"] t_ := by
 refine d.gp iC (fun ds P P' f ⟨c, k, e, h1, h2, q⟩ => ⟨c, k, e, h1, h2, fun l h3 h4 => f _ (q l h3 h4)⟩) (fun ds Q ⟨c, k, e, _⟩ => by rw [e]; rfl) (fun f cdv A outer s H E hr => have hu := hr.units; have hh := hr.hd; have sc := iC
  (aH (ak (i := 2) sc.nd rfl (Or.inl rfl) aj)
 (aH (ak (i := 3) sc.nd rfl (Or.inr rfl) aj)
 (aH (t9 PassesOwn.never rfl (jG (by rfl) n_range (aA (a_ (dv 0) aB) aD)) (iN (i := 4) sc.nd rfl (Or.inl rfl)) (aF (ak (i := 3) sc.nd rfl (Or.inr rfl) (bo (dv 3) (aR (dv 2) (a_ (bM (aM c__law_mixed hr (by omega) (by rfl) (aA (dv 0) (aA (bo aB (dv 4)) aD))) aB) aB) (fun _ _ => rfl))))))
 (aH (ak (i := 5) sc.nd rfl (Or.inr rfl) (a_ (bM (aM c__law_mixed hr (by omega) (by rfl) (aA (dv 0) (aA aB aD))) aB) aB))
 (aH (ak (i := 6) sc.nd rfl (Or.inr rfl) (aR (bY (eT (by rfl))) (a_ (bM (aM c__law_mixed hr (by omega) (by rfl) (aA (dv 0) (aA aB aD))) aB) aB) (fun _ _ => rfl)))
 (aF (aN (uP (x := "_law_k") (caps := [3, 6, 5]) (cn := ["_law_base", "_law_ahead", "_law_at"]) (cl := [("_law_base", s.heap.objs.size + 1), ("_law_at", s.heap.objs.size + 2), ("_law_ahead", s.heap.objs.size + 3)]) (vw (by rfl) (by rfl) (by decide +kernel) (ny ["_law_base", "_law_at", "_law_ahead"] rfl (by decide +kernel)) (by decide +kernel) (cU (by rfl) (cU (by rfl) (cU (by rfl) jh))) (.cons ⟨rfl, .inl rfl, rfl⟩ (.cons ⟨rfl, .inl rfl, rfl⟩ (.cons ⟨rfl, .inl rfl, rfl⟩ .nil)))) rfl (jG (by rfl) n_range (aA (dv 1) aD)) (fun C fp s₂ H₂ => bS (i := 0) (show (["_law_k", "_law_base", "_law_ahead", "_law_at"] : List Str).Nodup by decide +kernel) rfl (Or.inl rfl) (.inr rfl)) (fun C fp s₂ H₂ => gh) (fun C fp s₂ H₂ => (bo (bo (bo (dv 2) (kW (dv 1) rj (lL (dv 3)))) (aR aj (dv 0) (fun _ _ => rfl))) (kW (dv 1) (lL (dv 3)) rj)))))))))))) ?_
 rintro ds Q ⟨c, m, rfl, hm1, hm9, q⟩
 have h7 := bE c (show (0 : Int) < 7 by decide)
 have h8 := bC c (show (0 : Int) < 7 by decide)
 refine ⟨_, rfl, (show (0 : Int) < 7 by decide), _, rfl, (by show -(2 ^ 62 : Int) <= c % 7; omega), (by show c % 7 < (2 ^ 62 : Int); omega), fun i δ => ∃ (b : Str) (k : Option D), δ = [some (.int c), some (.int (m : Int)), some (.str fU), some (.str b), k, none, none] /\ b.length <= i /\ low b /\ i <= 6, ?_, ?_, ?_⟩
 ·exact ⟨"", none, rfl, (by decide +kernel), (fun c hc => by cases hc), (by decide)⟩
 ·rintro i dd δ hd ⟨b, k, rfl, hb, lb, hi⟩
  have hlt : i < (c % 7).toNat := by
   have := (List.getElem?_eq_some_iff.mp hd).1
   simpa using this
  have hdd : D.int (0 + (i : Int)) = dd := by
   rw [List.getElem?_map, List.getElem?_range hlt] at hd
   simpa using hd
  subst hdd
  have e26 : fU.cps.toList.length = 26 := by decide +kernel
  have h26 := bC (mixed c (20 + (0 + (i : Int))) / 31) (show (0 : Int) < 26 by decide)
  obtain ⟨x, hx, ex⟩ := bI (xs := fU.cps.toList) (bE (mixed c (20 + (0 + (i : Int))) / 31) (show (0 : Int) < 26 by decide)) (by rw [e26]; exact h26)
  have lx : 97 <= x /\ x <= 122 := by
   have all : ∀ x ∈ fU.cps.toList, 97 <= x /\ x <= 122 := by decide +kernel
   exact all x hx
  refine ⟨_, rfl, _, rfl, _, rfl, _, rfl, _, _, rfl, cd (by decide) (by decide), (show (0 : Int) < 26 by decide), (by decide +kernel), x, ex, ?_, ?_⟩
  ·show b.length + 1 <= sizeLine
   exact Nat.le_trans (show b.length + 1 <= 7 by omega) (by decide)
  ·refine ⟨b ++ ⟨#[x]⟩, _, rfl, ?_, oP lb (tW lx), by omega⟩
   rw [fP]
   exact Nat.add_le_add_right hb 1
 ·rintro δ ⟨b, k, rfl, hb, lb, hi⟩
  have hb6 : b.length <= 6 := Nat.le_trans hb hi
  refine ⟨_, rfl, _, _, rfl, cd (by decide) (by decide), (show (0 : Int) < 7 by decide), ?_⟩
  have a0 := bE (mixed c 30 / 7) (show (0 : Int) < 7 by decide)
  have a1 := bC (mixed c 30 / 7) (show (0 : Int) < 7 by decide)
  obtain ⟨y, hy, ey⟩ := bI (xs := [D.str "", .str "", .str "row.", .str "a.in."]) (bE (mixed c 31 / 7) (show (0 : Int) < 4 by decide)) (bC (mixed c 31 / 7) (show (0 : Int) < 4 by decide))
  have hz : ∃ z, y = .str z /\ z ∈ (["", "", "row.", "a.in."] : List Str) := by
   simp only [List.mem_cons, List.not_mem_nil, or_false] at hy
   rcases hy with rfl | rfl | rfl | rfl
   ·exact ⟨_, rfl, by simp⟩
   ·exact ⟨_, rfl, by simp⟩
   ·exact ⟨_, rfl, by simp⟩
   ·exact ⟨_, rfl, by simp⟩
  obtain ⟨z, rfl, hz⟩ := hz
  refine ⟨(show 4 <= sizeLine by decide), _, rfl, _, _, rfl, cd (by decide) (by decide), (show (0 : Int) < 4 by decide), _, ey, ?_⟩
  have ah : ∀ i : Nat, i < m -> ∃ x, L2.eo lM (0 + (i : Int)) = some x /\ x ∈ lM := fun i hi => by
   obtain ⟨x, h1, h2⟩ := bI (xs := lM) (i := 0 + (i : Int)) (by omega) (by show 0 + (i : Int) < 9; omega)
   exact ⟨x, h2, h1⟩
  refine ⟨_, rfl, _, rfl, (by show -(2 ^ 62 : Int) <= (m : Int); omega), (by show (m : Int) < (2 ^ 62 : Int); omega), mO (HE z b (mixed c 30 / 7 % 7)) ((List.range (m : Int).toNat).map fun i : Nat => .int (0 + (i : Int))), rS, fun i0 d o g1 g2 => ?_, ?_, ?_⟩
  ·obtain ⟨hd, rfl⟩ := xB g1 g2
   obtain ⟨i, hi, rfl⟩ := List.mem_map.mp hd
   have hi' : i < m := by simpa using hi
   obtain ⟨x, e1, h1⟩ := ah i hi'
   have hs : ∀ l u : Option Int, (Txt.slice b l u).length <= 6 := fun l u => Nat.le_trans (Txt.slice_le b l u) hb6
   have hz5 : z.length <= 5 := by
    have all : ∀ y ∈ (["", "", "row.", "a.in."] : List Str), y.length <= 5 := by decide +kernel
    exact all _ hz
   have hsb : b.length <= sizeLine := Nat.le_trans hb6 (by decide)
   have l1 : z.length + (Txt.slice b none (some (mixed c 30 / 7 % 7))).length <= sizeLine := Nat.le_trans (Nat.add_le_add hz5 (hs _ _)) (by decide)
   have l2 : (z ++ Txt.slice b none (some (mixed c 30 / 7 % 7))).length + 1 <= sizeLine := by
    rw [fP]
    exact Nat.le_trans (Nat.add_le_add_right (Nat.add_le_add hz5 (hs _ _)) 1) (by decide)
   have l3 : (z ++ Txt.slice b none (some (mixed c 30 / 7 % 7)) ++ (⟨#[x]⟩ : Str)).length + (Txt.slice b (some (mixed c 30 / 7 % 7)) none).length <= sizeLine := by
    rw [fP, fP]
    exact Nat.le_trans (Nat.add_le_add (Nat.add_le_add_right (Nat.add_le_add hz5 (hs _ _)) 1) (hs _ _)) (by decide)
   refine ⟨rfl, fun _ => ⟨_, rfl, _, rfl, _, rfl, _, rfl, hsb, l1, _, rfl, (by decide +kernel), x, e1, l2, _, rfl, _, rfl, _, rfl, hsb, l3, ?_⟩⟩
   show some (D.str (nm z b (mixed c 30 / 7 % 7) ((L2.eo lM (0 + (i : Int))).getD 0))) = some (D.str (nm z b (mixed c 30 / 7 % 7) x))
   rw [e1]
   rfl
  ·rw [List.length_map, List.length_range]
   exact Nat.lt_of_le_of_lt (show (m : Int).toNat <= 9 by omega) (by decide)
  ·rw [oR]
   have e : (((List.range (m : Int).toNat).map fun i : Nat => D.int (0 + (i : Int))).map (HE z b (mixed c 30 / 7 % 7))) = ((List.range m).map fun i : Nat => nm z b (mixed c 30 / 7 % 7) ((L2.eo lM (0 + (i : Int))).getD 0)).map D.str := by
    rw [Int.toNat_natCast, List.map_map, List.map_map]
    rfl
   rw [e]
   refine q _ (by simp) fun x hx => ?_
   obtain ⟨i, hi, rfl⟩ := List.mem_map.mp hx
   obtain ⟨y, e1, h1⟩ := ah i (by simpa using hi)
   rw [e1]
   exact z6 hz hb6 lb a0 a1 h1
end
def nE : Nat -> Nat
 | 0 => 1
 | d + 1 => 3 * nE d + 1
theorem cf : ∀ k, 1 <= nE k
 | 0 => Nat.le_refl _
 | k + 1 => by unfold nE; omega
def Pt.nk (g : Str -> Prop) : Pt -> Prop
 | .given _ => True
 | .named n => g n
 | .turned p => p.nk g
 | .pair _ a b => a.nk g /\ b.nk g
 | .choice t a b => t.nk g /\ a.nk g /\ b.nk g
 | .before p _ => p.nk g
 | .led h r => h.nk g /\ r.nk g
 | .bP p n => p.nk g /\ g n
 | .held p n _ => p.nk g /\ g n
theorem Pt.qN {g : Str -> Prop} {p q : Pt} (h : q ∈ p.inner) (o : p.nk g) : q.nk g := by
 cases p <;> simp only [Pt.inner, Pt.nk, List.mem_cons, List.not_mem_nil, or_false] at h o
 case turned => subst h; exact o
 case pair => rcases h with rfl | rfl <;> simp only [o]
 case choice => rcases h with rfl | rfl | rfl <;> simp only [o]
 case before => subst h; exact o
 case led => rcases h with rfl | rfl <;> simp only [o]
 case bP => subst h; exact o.1
 case held => subst h; exact o.1
structure GP (l : List Str) (k : Nat) (p : Pt) : Prop where
 ok : p.ok
 nk : p.nk (· ∈ l)
 dp : p.depth <= k + 1
 sz : p.size <= nE k
section
variable {l : List Str} {k m : Nat} {p a b c : Pt} {x g : Str} {f v : D}
theorem GP.named (h : x ∈ l) (o : dn x) : GP l k (.named x) := ⟨o, h, by show 1 <= k + 1; omega, cf k⟩
theorem GP.given (h : isVal v) : GP l k (.given v) := ⟨h, True.intro, by show 1 <= k + 1; omega, cf k⟩
theorem GP.turned (h : GP l m p) : GP l (m + 1) (.turned p) := ⟨h.ok, h.nk, by have := h.dp; simp only [Pt.depth]; omega, by have := h.sz; have := cf m; have e : nE (m + 1) = 3 * nE m + 1 := rfl; simp only [Pt.size]; omega⟩
theorem GP.before (h : GP l m p) (hf : cH f) : GP l (m + 1) (.before p f) := ⟨⟨h.ok, hf⟩, h.nk, by have := h.dp; simp only [Pt.depth]; omega, by have := h.sz; have := cf m; have e : nE (m + 1) = 3 * nE m + 1 := rfl; simp only [Pt.size]; omega⟩
theorem GP.bP (h : GP l m p) (hx : x ∈ l) (o : dn x) : GP l (m + 1) (.bP p x) := ⟨⟨h.ok, o⟩, ⟨h.nk, hx⟩, by have := h.dp; simp only [Pt.depth]; omega, by have := h.sz; have := cf m; have e : nE (m + 1) = 3 * nE m + 1 := rfl; simp only [Pt.size]; omega⟩
theorem GP.held (h : GP l m p) (hx : x ∈ l) (o : dn x) (hf : cH f) : GP l (m + 1) (.held p x f) := ⟨⟨h.ok, o, hf⟩, ⟨h.nk, hx⟩, by have := h.dp; simp only [Pt.depth]; omega, by have := h.sz; have := cf m; have e : nE (m + 1) = 3 * nE m + 1 := rfl; simp only [Pt.size]; omega⟩
theorem GP.choice (ha : GP l m a) (hb : GP l m b) (hc : GP l m c) : GP l (m + 1) (.choice a b c) := ⟨⟨ha.ok, hb.ok, hc.ok⟩, ⟨ha.nk, hb.nk, hc.nk⟩, by have := ha.dp; have := hb.dp; have := hc.dp; simp only [Pt.depth]; omega, by have := ha.sz; have := hb.sz; have := hc.sz; have e : nE (m + 1) = 3 * nE m + 1 := rfl; simp only [Pt.size]; omega⟩
theorem GP.led (ha : GP l m a) (hb : GP l m b) : GP l (m + 1) (.led a b) := ⟨⟨ha.ok, hb.ok⟩, ⟨ha.nk, hb.nk⟩, by have := ha.dp; have := hb.dp; simp only [Pt.depth]; omega, by have := ha.sz; have := hb.sz; have := cf m; have e : nE (m + 1) = 3 * nE m + 1 := rfl; simp only [Pt.size]; omega⟩
theorem GP.pair (hg : g ∈ cq) (ha : GP l m a) (hb : GP l m b) : GP l (m + 1) (.pair g a b) := ⟨⟨hg, ha.ok, hb.ok⟩, ⟨ha.nk, hb.nk⟩, by have := ha.dp; have := hb.dp; simp only [Pt.depth]; omega, by have := ha.sz; have := hb.sz; have := cf m; have e : nE (m + 1) = 3 * nE m + 1 := rfl; simp only [Pt.size]; omega⟩
end
def lV (n : Nat) : cg := fun ds Q => ∃ (c : Int) (l : List Str) (k : Nat), ds = [.int c, .lst (l.map D.str), .int (k : Int)] /\ k < n /\ l ≠ [] /\ (∀ x ∈ l, dn x) /\ ∀ p : Pt, GP l k p -> Q p.told
theorem CU {n : Nat} : bU (lV n) := fun ds P P' f ⟨c, l, k, e, h1, h2, h3, q⟩ => ⟨c, l, k, e, h1, h2, h3, fun p o => f _ (q p o)⟩
theorem oZ {b1 b2 : Bool} {L R : Prop} {U : (Bool -> Prop) -> Prop} (hU : ∀ Q : Bool -> Prop, Q b2 -> U Q) (hl : L) (hr : b1 = false -> R) : if b1 = true then (if true = true then L else R) else U (fun b => if b = true then L else R) := by
 cases b1 with
 | true => exact aZ (aZ hl)
 | false =>
  refine aT (hU _ ?_)
  cases b2 with
  | true => exact aZ hl
  | false => exact aT (hr rfl)
theorem vg {b1 b2 : Bool} {L R : Prop} {U : (Bool -> Prop) -> Prop} (hU : ∀ Q : Bool -> Prop, Q b2 -> U Q) (hl : b1 = true -> b2 = true -> L) (hr : R) : if b1 = true then U (fun b => if b = true then L else R) else (if false = true then L else R) := by
 cases b1 with
 | true =>
  refine aZ (hU _ ?_)
  cases b2 with
  | true => exact aZ (hl rfl rfl)
  | false => exact aT hr
 | false => exact aT (aT hr)
theorem uy {b1 b2 b3 : Bool} {L R : Prop} {U V : (Bool -> Prop) -> Prop} (hU : ∀ Q : Bool -> Prop, Q b2 -> U Q) (hV : ∀ Q : Bool -> Prop, Q b3 -> V Q) (hl : b3 = true -> L) (hr : R) :
  if b1 = true then (if true = true then V (fun b => if b = true then L else R) else (if false = true then L else R)) else U (fun b => if b = true then V (fun b => if b = true then L else R) else (if false = true then L else R)) := by
 have fin : V (fun b => if b = true then L else R) := by
  refine hV _ ?_
  cases b3 with
  | true => exact aZ (hl rfl)
  | false => exact aT hr
 cases b1 with
 | true => exact aZ (aZ fin)
 | false =>
  refine aT (hU _ ?_)
  cases b2 with
  | true => exact aZ fin
  | false => exact aT (aT hr)
theorem pick {l : List Str} (hl : l ≠ []) (ho : ∀ x ∈ l, dn x) (i : Int) : (0 : Int) < ((l.map D.str).length : Int) /\ ∃ x, x ∈ l /\ dn x /\ L2.eo (l.map D.str) (i % ((l.map D.str).length : Int)) = some (.str x) := by
 have hp : (0 : Int) < ((l.map D.str).length : Int) := by
  rw [List.length_map]
  have : l.length ≠ 0 := fun z => hl (List.eq_nil_of_length_eq_zero z)
  omega
 refine ⟨hp, ?_⟩
 obtain ⟨r, hr, er⟩ := bI (xs := l.map D.str) (bE i hp) (bC i hp)
 obtain ⟨x, hx, rfl⟩ := List.mem_map.mp hr
 exact ⟨x, hx, ho x hx, er⟩
theorem lP {l : List Str} (hl : l.length = 8) (ho : ∀ x ∈ l, dn x) {i : Int} (h0 : 0 <= i) (h1 : i < 8) : ∃ x, x ∈ l /\ dn x /\ L2.eo (l.map D.str) i = some (.str x) := by
 obtain ⟨r, hr, er⟩ := bI (xs := l.map D.str) h0 (by rw [List.length_map, hl]; exact h1)
 obtain ⟨x, hx, rfl⟩ := List.mem_map.mp hr
 exact ⟨x, hx, ho x hx, er⟩
section
seal wpAny
variable {P : Program} {w : World} {K : PySem.W.Frag} {mg : Str -> Option Value} {base : Heap} {A : bh} {n j : Nat}
theorem Df.never {x : Str} {st : Stmt} {ps : List Str} {sd : cg} (d : Df K mg x st ps) (h : ∀ ds Q, ¬ sd ds Q) : bN P w K mg base j x ps sd := by
 obtain ⟨f, fd, F, m, b⟩ := d.ex
 exact ⟨⟨f, fd, ⟨fun vs H Q E ⟨ds, _, q⟩ => (h _ _ q).elim, fun A outer s H args us vs Q E _ _ _ _ ⟨ds, _, q⟩ => (h _ _ q).elim⟩, m, F.kp, b⟩, fun ds P P' g q => (h _ _ q).elim⟩
theorem vM (d : Df K mg "_law_tree" eI ["_law_cell", "_law_names_here", "_law_deep"]) (n_len : mg "len" = none) (c__law_mixed : bN P w K mg base j "_law_mixed" ["_law_cell", "_law_k"] jV)
  (c__law_number : bN P w K mg base j "_law_number" ["_law_mix"] oz) (c__law_value : bN P w K mg base j "_law_value" ["_law_mix", "_law_kind"] jw) (c__law_tree : bN P w K mg base j "_law_tree" ["_law_cell", "_law_names_here", "_law_deep"] (lV n)) :
  bN P w K mg base (j + 1) "_law_tree" ["_law_cell", "_law_names_here", "_law_deep"] (lV (n + 1)) := by
 refine d.gp jQ CU (fun ds Q ⟨c, l, k, e, _⟩ => by rw [e]; rfl) (fun f cdv A outer s H E hr => have hu := hr.units; have hh := hr.hd; have sc := jQ
  (aH (ak (i := 3) sc.nd rfl (Or.inl rfl) (a_ (bM (aM c__law_mixed hr (by omega) (by rfl) (aA (dv 0) (aA aB aD))) aB) aB))
 (aH (bO (l_.td (w_or (cu hu (dv 2) aB) (kG (yN (dv 3) aB)))) (aH (bO (vL (a_ (bM (aM c__law_mixed hr (by omega) (by rfl) (aA (dv 0) (aA aB aD))) aB) aB) aB) (aF (aN (aU (aA aj (aA (aR (dv 1) (a_ (bM (aM c__law_mixed hr (by omega) (by rfl) (aA (dv 0) (aA aB aD))) aB) (il (by rfl) n_len (aA (dv 1) aD))) (fun _ _ => rfl)) aD))))) aX)
 (aF (aN (aU (aA aj (aA (aM c__law_value hr (by omega) (by rfl) (aA (bM (aM c__law_mixed hr (by omega) (by rfl) (aA (dv 0) (aA aB aD))) aB) (aA (aR (bY (eT (by rfl))) (a_ (bM (aM c__law_mixed hr (by omega) (by rfl) (aA (dv 0) (aA aB aD))) aB) aB) (fun _ _ => rfl)) aD))) aD)))))) aX)
 (aH (ak (i := 4) sc.nd rfl (Or.inl rfl) (aM c__law_tree hr (by omega) (by rfl) (aA (aM c__law_mixed hr (by omega) (by rfl) (aA (dv 0) (aA aB aD))) (aA (dv 1) (aA (ck (dv 2) aB) aD)))))
 (aH (ak (i := 5) sc.nd rfl (Or.inl rfl) (aR (dv 1) (a_ (bM (aM c__law_mixed hr (by omega) (by rfl) (aA (dv 0) (aA aB aD))) aB) (il (by rfl) n_len (aA (dv 1) aD))) (fun _ _ => rfl)))
 (aH (ak (i := 6) sc.nd rfl (Or.inl rfl) (aR (bY (aA b8 (aA b8 (aA (aM c__law_number hr (by omega) (by rfl) (aA (aM c__law_mixed hr (by omega) (by rfl) (aA (dv 0) (aA aB aD))) aD)) (aA (q9 hu (a_ (aM c__law_mixed hr (by omega) (by rfl) (aA (dv 0) (aA aB aD))) aB) aB) aD))))) (a_ (bM (aM c__law_mixed hr (by omega) (by rfl) (aA (dv 0) (aA aB aD))) aB) aB) (fun _ _ => rfl)))
 (aH (bO (yN (dv 3) aB) (aF (aN (aR (bY (aA (aU (aA aj (aA (dv 4) aD))) (aA (aU (aA aj (aA (dv 4) (aA (dv 6) aD)))) (aA (aU (aA aj (aA (dv 4) (aA (dv 5) aD)))) (aA (aU (aA aj (aA (dv 4) (aA (dv 5) (aA (dv 6) aD))))) aD))))) (a_ (dv 3) aB) (fun _ _ => rfl)))) aX)
 (aH (ak (i := 7) sc.nd rfl (Or.inl rfl) (aM c__law_tree hr (by omega) (by rfl) (aA (aM c__law_mixed hr (by omega) (by rfl) (aA (dv 0) (aA aB aD))) (aA (dv 1) (aA (ck (dv 2) aB) aD)))))
 (aH (bO (cu hu (dv 3) aB) (aF (aN (aU (aA aj (aA (dv 4) (aA (dv 7) (aA (aM c__law_tree hr (by omega) (by rfl) (aA (aM c__law_mixed hr (by omega) (by rfl) (aA (dv 0) (aA aB aD))) (aA (dv 1) (aA (ck (dv 2) aB) aD)))) aD))))))) aX)
 (aH (bO (cu hu (dv 3) aB) (aF (aN (aU (aA aj (aA (dv 4) (aA (dv 7) aD)))))) aX)
 (aF (aN (aU (aA (aR (bY (eT (by rfl))) (a_ (bM (aM c__law_mixed hr (by omega) (by rfl) (aA (dv 0) (aA aB aD))) aB) aB) (fun _ _ => rfl)) (aA (dv 4) (aA (dv 7) aD)))))))))))))))) ?_
 rintro ds Q ⟨c, l, k, rfl, hk, hl, ho, q⟩
 refine ⟨_, rfl, _, _, rfl, cd (by decide) (by decide), (show (0 : Int) < 15 by decide), ?_⟩
 have w0 := bE (mixed c 1 / 7) (show (0 : Int) < 15 by decide)
 have w1 := bC (mixed c 1 / 7) (show (0 : Int) < 15 by decide)
 obtain ⟨hp, x, hin, hx, ex⟩ := pick hl ho (mixed c 3 / 7)
 refine ⟨_, rfl, _, rfl, oZ (b2 := decide ((mixed c 1 / 7 % 15) < 2)) (fun Q q => ⟨_, rfl, _, rfl, q⟩) ?_ (fun hz => ?_)⟩
 ·refine ⟨_, rfl, _, _, rfl, cd (by decide) (by decide), (show (0 : Int) < 3 by decide), _, rfl, ?_⟩
  have hpos := cf k
  cases h : decide ((0 : Int) < mixed c 2 / 7 % 3) with
  | true => exact aZ ⟨_, rfl, _, rfl, _, _, rfl, cd (by decide) (by decide), _, rfl, _, _, rfl, rfl, hp, .str x, ex, (show 2 <= sizeLine by decide), q (.named x) (.named hin hx)⟩
  | false =>
   obtain ⟨r, hr, er⟩ := bI (xs := [D.str "truth", .str "number"]) (bE (mixed c 5 / 7) (show (0 : Int) < 2 by decide)) (bC (mixed c 5 / 7) (show (0 : Int) < 2 by decide))
   have hr' : ∃ z, r = .str z := by
    simp only [List.mem_cons, List.not_mem_nil, or_false] at hr
    rcases hr with rfl | rfl <;> exact ⟨_, rfl⟩
   obtain ⟨z, rfl⟩ := hr'
   exact aT ⟨_, rfl, _, _, rfl, cd (by decide) (by decide), (show 2 <= sizeLine by decide), _, rfl, _, _, rfl, cd (by decide) (by decide), (show (0 : Int) < 2 by decide), _, er, _, z, rfl, fun v hv => ⟨(show 2 <= sizeLine by decide), q (.given v) (.given hv)⟩⟩
 ·have hk0 : k ≠ 0 := fun z => by subst z; cases hz
  obtain ⟨m, rfl⟩ : ∃ m, k = m + 1 := ⟨k - 1, by omega⟩
  have hm : ((m + 1 : Nat) : Int) - 1 = (m : Int) := by omega
  have hn : m < n := by omega
  have es : nE (m + 1) = 3 * nE m + 1 := rfl
  have hsp := cf m
  refine ⟨_, rfl, _, _, rfl, _, rfl, _, rfl, mixed c 11, l, m, congrArg (fun z => [D.int (mixed c 11), D.lst (l.map D.str), D.int z]) hm, hn, hl, ho, fun p1 o1 => ?_⟩
  refine ⟨_, rfl, _, rfl, _, _, rfl, cd (by decide) (by decide), _, rfl, _, _, rfl, rfl, hp, .str x, ex, ?_⟩
  refine ⟨_, rfl, _, _, rfl, _, rfl, fun i i1 i2 => ?_⟩
  obtain ⟨f, hf, ef⟩ := bI (xs := [D.aV, .aV, .int i, .bl (decide (mixed c 4 % 2 = 0))]) (bE (mixed c 6 / 7) (show (0 : Int) < 4 by decide)) (bC (mixed c 6 / 7) (show (0 : Int) < 4 by decide))
  have hf' : cH f := by
   simp only [List.mem_cons, List.not_mem_nil, or_false] at hf
   rcases hf with rfl | rfl | rfl | rfl
   ·exact .inl rfl
   ·exact .inl rfl
   ·exact .inr (.inr ⟨i, rfl, i1, i2⟩)
   ·exact .inr (.inl ⟨_, rfl⟩)
  refine ⟨_, rfl, _, _, rfl, (show (0 : Int) < 2 by decide), (show 4 <= sizeLine by decide), _, rfl, _, _, rfl, cd (by decide) (by decide), (show (0 : Int) < 4 by decide), f, ef, ?_⟩
  refine ⟨_, rfl, _, rfl, ?_⟩
  cases h8 : decide ((mixed c 1 / 7 % 15) < 8) with
  | true =>
   obtain ⟨r, hr, er⟩ := bI (xs := [(Pt.turned p1).told, (Pt.before p1 f).told, (Pt.bP p1 x).told, (Pt.held p1 x f).told]) (bE (mixed c 1 / 7 % 15) (show (0 : Int) < 4 by decide)) (bC (mixed c 1 / 7 % 15) (show (0 : Int) < 4 by decide))
   refine aZ ⟨_, rfl, (show 2 <= sizeLine by decide), _, rfl, _, rfl, (show 3 <= sizeLine by decide), _, rfl, _, rfl, (show 3 <= sizeLine by decide), _, rfl, _, rfl, _, rfl, (show 4 <= sizeLine by decide), (show 4 <= sizeLine by decide), _, rfl, (show (0 : Int) < 4 by decide), r, er, ?_⟩
   simp only [List.mem_cons, List.not_mem_nil, or_false] at hr
   rcases hr with rfl | rfl | rfl | rfl
   ·exact q (.turned p1) o1.turned
   ·exact q (.before p1 f) (o1.before hf')
   ·exact q (.bP p1 x) (o1.bP hin hx)
   ·exact q (.held p1 x f) (o1.held hin hx hf')
  | false =>
   refine aT ⟨_, rfl, _, _, rfl, _, rfl, _, rfl, mixed c 12, l, m, congrArg (fun z => [D.int (mixed c 12), D.lst (l.map D.str), D.int z]) hm, hn, hl, ho, fun p2 o2 => ?_⟩
   refine ⟨_, rfl, _, rfl, ?_⟩
   cases h9 : decide ((mixed c 1 / 7 % 15) = 8) with
   | true =>
    exact aZ ⟨_, rfl, _, rfl, _, rfl, _, _, rfl, _, rfl, _, rfl, mixed c 13, l, m, congrArg (fun z => [D.int (mixed c 13), D.lst (l.map D.str), D.int z]) hm, hn, hl, ho, fun p3 o3 => ⟨(show 4 <= sizeLine by decide), q (.choice p1 p2 p3) (o1.choice o2 o3)⟩⟩
   | false =>
    refine aT ⟨_, rfl, _, rfl, ?_⟩
    cases h10 : decide ((mixed c 1 / 7 % 15) = 9) with
    | true => exact aZ ⟨_, rfl, _, rfl, (show 3 <= sizeLine by decide), q (.led p1 p2) (o1.led o2)⟩
    | false =>
     obtain ⟨r, hr, er⟩ := bI (xs := [D.str "+", .str "-", .str "*", .str "=", .str "<", .str "<=", .str "and", .str "or"]) (bE (mixed c 7 / 7) (show (0 : Int) < 8 by decide)) (bC (mixed c 7 / 7) (show (0 : Int) < 8 by decide))
     have hr' : ∃ g, r = .str g /\ g ∈ cq := by
      have : r ∈ cq.map D.str := hr
      obtain ⟨g, hg, rfl⟩ := List.mem_map.mp this
      exact ⟨g, rfl, hg⟩
     obtain ⟨g, rfl, hg⟩ := hr'
     exact aT ⟨(show 8 <= sizeLine by decide), _, rfl, _, _, rfl, cd (by decide) (by decide), (show (0 : Int) < 8 by decide), _, er, _, rfl, _, rfl, (show 3 <= sizeLine by decide), q (.pair g p1 p2) (.pair hg o1 o2)⟩
theorem qj (d : Df K mg "_law_tree" eI ["_law_cell", "_law_names_here", "_law_deep"]) (n_len : mg "len" = none) (c1 : bN P w K mg base 1 "_law_mixed" ["_law_cell", "_law_k"] jV)
  (c2 : bN P w K mg base 1 "_law_number" ["_law_mix"] oz) (c3 : bN P w K mg base 2 "_law_value" ["_law_mix", "_law_kind"] jw) : ∀ n, bN P w K mg base (n + 2) "_law_tree" ["_law_cell", "_law_names_here", "_law_deep"] (lV n)
 | 0 => Df.never d fun ds Q ⟨_, _, _, _, h, _⟩ => absurd h (by omega)
 | n + 1 => vM d n_len (c1.up (by omega)) (c2.up (by omega)) (c3.up (by omega)) (qj d n_len c1 c2 c3 n)
end
def CP (b : Bool) : Str := if b then "truth" else "number"
def kD (b : Bool) : D := .str (CP b)
def ou : cg := fun ds Q => ∃ (c : Int) (l : List Str) (kd : Bool) (b : Nat), ds = [.int c, .lst (l.map D.str), kD kd, .int (b : Int)] /\ b <= 2 /\ l.length = 8 /\ (∀ x ∈ l, dn x) /\ ∀ p : Pt, (∀ k, GP l k p) -> Q p.told
def jW (n : Nat) : cg := fun ds Q => ∃ (c : Int) (l : List Str) (kd : Bool) (b k : Nat), ds = [.int c, .lst (l.map D.str), kD kd, .int (b : Int), .int (k : Int)] /\ k < n /\ b <= 2 /\ l.length = 8 /\ (∀ x ∈ l, dn x) /\ ∀ p : Pt, GP l k p -> Q p.told
theorem CT : bU ou := fun ds P P' f ⟨c, l, kd, b, e, h1, h2, h3, q⟩ => ⟨c, l, kd, b, e, h1, h2, h3, fun p o => f _ (q p o)⟩
theorem zu {n : Nat} : bU (jW n) := fun ds P P' f ⟨c, l, kd, b, k, e, h1, h2, h3, h4, q⟩ => ⟨c, l, kd, b, k, e, h1, h2, h3, h4, fun p o => f _ (q p o)⟩
theorem qS {g : Str} (h : g ∈ cq) : decide (g = "not") = false := by
 simp only [cq, List.mem_cons, List.not_mem_nil, or_false] at h
 rcases h with rfl | rfl | rfl | rfl | rfl | rfl | rfl | rfl <;> decide +kernel
section
seal wpAny
variable {P : Program} {w : World} {K : PySem.W.Frag} {mg : Str -> Option Value} {base : Heap} {A : bh} {n j : Nat}
theorem Bn (d : Df K mg "_law_leaf" gQ ["_law_cell", "_law_names_here", "_law_kind", "_law_beat_here"]) (n_int : mg "int" = none) (c__law_mixed : bN P w K mg base j "_law_mixed" ["_law_cell", "_law_k"] jV) (c__law_value : bN P w K mg base j "_law_value" ["_law_mix", "_law_kind"] jw) :
  bN P w K mg base (j + 1) "_law_leaf" ["_law_cell", "_law_names_here", "_law_kind", "_law_beat_here"] ou := by
 refine d.gp jO CT (fun ds Q ⟨c, l, kd, b, e, _⟩ => by rw [e]; rfl) (fun f cdv A outer s H E hr => have hu := hr.units; have hh := hr.hd; have sc := jO
  (aH (ak (i := 4) sc.nd rfl (Or.inl rfl) (q9 hu (dv 2) aj))
 (aH (bO (cu hu (a_ (bM (aM c__law_mixed hr (by omega) (by rfl) (aA (dv 0) (aA aB aD))) aB) aB) aB) (aF (aN (aU (aA aj (aA (aM c__law_value hr (by omega) (by rfl) (aA (aM c__law_mixed hr (by omega) (by rfl) (aA (dv 0) (aA aB aD))) (aA (dv 2) aD))) aD))))) aX)
 (aH (bO (cu hu (dv 3) aB) (aF (aN (aU (aA aj (aA (aR (dv 1) (aR (bY (eT (by rfl))) (bo (a_ (bM (aM c__law_mixed hr (by omega) (by rfl) (aA (dv 0) (aA aB aD))) aB) aB) (ky aB (ik (by rfl) n_int (aA (dv 4) aD)))) (fun _ _ => rfl)) (fun _ _ => rfl)) aD))))) aX)
 (aF (aN (aU (aA aj (aA (aR (dv 1) (aR (aR (bY (aA (bY (eT (by rfl))) (aA (bY (eT (by rfl))) aD))) (ck (dv 3) aB) (fun _ _ => rfl)) (ik (by rfl) n_int (aA (dv 4) aD)) (fun _ _ => rfl)) (fun _ _ => rfl)) aD))))))))) ?_
 rintro ds Q ⟨c, l, kd, b, rfl, hb, hl, ho, q⟩
 have m0 := bE (mixed c 23 / 7) (show (0 : Int) < 2 by decide)
 have m1 := bC (mixed c 23 / 7) (show (0 : Int) < 2 by decide)
 refine ⟨_, rfl, _, rfl, _, _, rfl, cd (by decide) (by decide), (show (0 : Int) < 4 by decide), _, rfl, ?_⟩
 cases h : decide (mixed c 21 / 7 % 4 = 0) with
 | true => exact aZ ⟨_, rfl, _, _, rfl, _, rfl, _, _, rfl, fun v hv => ⟨(show 2 <= sizeLine by decide), q (.given v) fun k => .given hv⟩⟩
 | false =>
  refine aT ⟨_, rfl, _, rfl, ?_⟩
  cases h0 : decide ((b : Int) = 0) with
  | true =>
   have key : ∀ z : Bool, ∃ r x : D, L2.eo [D.int 0, .int 1, .int 3, .int 4] (mixed c 23 / 7 % 2 + 2 * (if z = true then 1 else 0)) = some r /\ ∃ i y, r = .int i /\ x = .str y /\ y ∈ l /\ dn y /\ L2.eo (l.map D.str) i = some x := fun z => by
    obtain ⟨r, hr, er⟩ := bI (xs := [D.int 0, .int 1, .int 3, .int 4]) (i := mixed c 23 / 7 % 2 + 2 * (if z = true then 1 else 0)) (by split <;> omega) (by show _ < (4 : Int); split <;> omega)
    have hi : ∃ i : Int, r = .int i /\ 0 <= i /\ i < 8 := by
     simp only [List.mem_cons, List.not_mem_nil, or_false] at hr
     rcases hr with rfl | rfl | rfl | rfl <;> exact ⟨_, rfl, by decide, by decide⟩
    obtain ⟨i, rfl, i0, i1⟩ := hi
    obtain ⟨y, hy, oy, ey⟩ := lP hl ho i0 i1
    exact ⟨_, _, er, i, y, rfl, rfl, hy, oy, ey⟩
   obtain ⟨r, x, er, i, y, rfl, rfl, hy, oy, ey⟩ := key (decide (CP kd = "number"))
   exact aZ ⟨_, rfl, (show 4 <= sizeLine by decide), _, rfl, _, _, rfl, cd (by decide) (by decide), (show (0 : Int) < 2 by decide), _, rfl, .inr ⟨_, rfl, nO.ok (.inl ⟨by decide, by decide⟩), _, er, _, ey, (show 2 <= sizeLine by decide), q (.named y) fun k => .named hy oy⟩⟩
  | false =>
   have hb0 : ¬ (b : Int) = 0 := of_decide_eq_false h0
   have key : ∀ z : Bool, ∃ r1 r2 x : D, L2.eo [D.lst [.int 2, .int 5], .lst [.int 7, .int 6]] ((b : Int) - 1) = some r1 /\ ∃ xs i y, r1 = .lst xs /\ r2 = .int i /\ x = .str y /\ y ∈ l /\ dn y /\ L2.eo xs (if z = true then 1 else 0) = some r2 /\ L2.eo (l.map D.str) i = some x := fun z => by
    obtain ⟨r, hr, er⟩ := bI (xs := [D.lst [.int 2, .int 5], .lst [.int 7, .int 6]]) (i := (b : Int) - 1) (by omega) (by show _ < (2 : Int); omega)
    have hi : ∃ xs : List D, r = .lst xs /\ xs.length = 2 /\ ∀ d ∈ xs, ∃ i : Int, d = .int i /\ 0 <= i /\ i < 8 := by
     simp only [List.mem_cons, List.not_mem_nil, or_false] at hr
     rcases hr with rfl | rfl
     ·refine ⟨_, rfl, rfl, fun d hd => ?_⟩
      simp only [List.mem_cons, List.not_mem_nil, or_false] at hd
      rcases hd with rfl | rfl <;> exact ⟨_, rfl, by decide, by decide⟩
     ·refine ⟨_, rfl, rfl, fun d hd => ?_⟩
      simp only [List.mem_cons, List.not_mem_nil, or_false] at hd
      rcases hd with rfl | rfl <;> exact ⟨_, rfl, by decide, by decide⟩
    obtain ⟨xs, rfl, hxs, hall⟩ := hi
    obtain ⟨r2, hr2, er2⟩ := bI (xs := xs) (i := if z = true then 1 else 0) (by split <;> omega) (by rw [hxs]; split <;> omega)
    obtain ⟨i, rfl, i0, i1⟩ := hall r2 hr2
    obtain ⟨y, hy, oy, ey⟩ := lP hl ho i0 i1
    exact ⟨_, _, _, er, xs, i, y, rfl, rfl, rfl, hy, oy, er2, ey⟩
   obtain ⟨r1, r2, x, er, xs, i, y, rfl, rfl, rfl, hy, oy, er2, ey⟩ := key (decide (CP kd = "number"))
   exact aT ⟨_, rfl, (show 2 <= sizeLine by decide), (show 2 <= sizeLine by decide), (show 2 <= sizeLine by decide), _, rfl, _, er, _, rfl, .inr ⟨_, rfl, _, er2, _, ey, (show 2 <= sizeLine by decide), q (.named y) fun k => .named hy oy⟩⟩
theorem sP (d : Df K mg "_law_typed" dX ["_law_cell", "_law_names_here", "_law_kind", "_law_beat_here", "_law_deep"]) (n_range : mg "range" = none) (c__law_mixed : bN P w K mg base j "_law_mixed" ["_law_cell", "_law_k"] jV) (c__law_value : bN P w K mg base j "_law_value" ["_law_mix", "_law_kind"] jw)
  (c__law_leaf : bN P w K mg base j "_law_leaf" ["_law_cell", "_law_names_here", "_law_kind", "_law_beat_here"] ou) (c__law_typed : bN P w K mg base j "_law_typed" ["_law_cell", "_law_names_here", "_law_kind", "_law_beat_here", "_law_deep"] (jW n)) :
  bN P w K mg base (j + 1) "_law_typed" ["_law_cell", "_law_names_here", "_law_kind", "_law_beat_here", "_law_deep"] (jW (n + 1)) := by
 refine d.gp iD zu (fun ds Q ⟨c, l, kd, b, k, e, _⟩ => by rw [e]; rfl) (fun f cdv A outer s H E hr => have hu := hr.units; have hh := hr.hd; have sc := iD
  (aH (ak (i := 5) sc.nd rfl (Or.inl rfl) (a_ (bM (aM c__law_mixed hr (by omega) (by rfl) (aA (dv 0) (aA aB aD))) aB) aB))
 (aH (bO (l_.td (w_or (cu hu (dv 4) aB) (kG (yN (dv 5) aB)))) (aF (aN (aM c__law_leaf hr (by omega) (by rfl) (aA (dv 0) (aA (dv 1) (aA (dv 2) (aA (dv 3) aD))))))) aX)
 (aH (Aj (i := 6) sc.nd rfl (Or.inl rfl) (x := "_law_k") (caps := [0]) (cn := ["_law_cell"]) (cl := [("_law_cell", s.heap.objs.size + 1)]) (vw (by rfl) (by rfl) (by decide +kernel) (ny ["_law_cell"] rfl (by decide +kernel)) (by decide +kernel) (cU (by rfl) jh) (.cons ⟨rfl, .inl rfl, rfl⟩ .nil)) rfl (jG (by rfl) n_range (aA aB aD)) (fun C fp s₂ H₂ => bS (i := 0) (show (["_law_k", "_law_cell"] : List Str).Nodup by decide +kernel) rfl (Or.inl rfl) (.inr rfl)) (fun C fp s₂ H₂ => gh) (fun C fp s₂ H₂ => (aM c__law_mixed hr (by omega) (by rfl) (aA (dv 1) (aA (bo aB (dv 0)) aD)))))
 (aH (ak (i := 7) sc.nd rfl (Or.inl rfl) (aM c__law_value hr (by omega) (by rfl) (aA (aM c__law_mixed hr (by omega) (by rfl) (aA (dv 0) (aA aB aD))) (aA (dv 2) aD))))
 (aH (bO (l_.td (w_or (cu hu (dv 5) aB) (kG (cu hu (dv 5) aB)))) (aF (aN (aU (aA aj (aA (aM c__law_typed hr (by omega) (by rfl) (aA (aR (dv 6) aB (fun _ _ => rfl)) (aA (dv 1) (aA (dv 2) (aA (dv 3) (aA (ck (dv 4) aB) aD)))))) (aA (dv 7) aD)))))) aX)
 (aH (bO (l_.td (w_and (cu hu (dv 5) aB) (lq (vL (dv 3) aB)))) (aF (aN (aU (aA aj (aA (aM c__law_typed hr (by omega) (by rfl) (aA (aR (dv 6) aB (fun _ _ => rfl)) (aA (dv 1) (aA (dv 2) (aA (ck (dv 3) aB) (aA (ck (dv 4) aB) aD)))))) (aA (aR (dv 1) (aR (bY (eT (by rfl))) (ck (dv 3) aB) (fun _ _ => rfl)) (fun _ _ => rfl)) aD)))))) aX)
 (aH (bO (l_.td (w_and (l_.td (w_or (cu hu (dv 5) aB) (kG (cu hu (dv 5) aB)))) (lq (yN (dv 3) aB)))) (aF (aN (aU (aA aj (aA (aM c__law_typed hr (by omega) (by rfl) (aA (aR (dv 6) aB (fun _ _ => rfl)) (aA (dv 1) (aA (dv 2) (aA (bo (dv 3) aB) (aA (ck (dv 4) aB) aD)))))) (aA (aR (dv 1) (aR (bY (eT (by rfl))) (dv 3) (fun _ _ => rfl)) (fun _ _ => rfl)) (aA (dv 7) aD))))))) aX)
 (aH (ak (i := 8) sc.nd rfl (Or.inl rfl) (aM c__law_typed hr (by omega) (by rfl) (aA (aR (dv 6) aB (fun _ _ => rfl)) (aA (dv 1) (aA (dv 2) (aA (dv 3) (aA (ck (dv 4) aB) aD)))))))
 (aH (bO (cu hu (dv 5) aB) (aF (aN (aU (aA aj (aA (dv 8) (aA (aM c__law_typed hr (by omega) (by rfl) (aA (aR (dv 6) aB (fun _ _ => rfl)) (aA (dv 1) (aA (dv 2) (aA (dv 3) (aA (ck (dv 4) aB) aD)))))) aD)))))) aX)
 (aH (bO (cu hu (dv 5) aB) (aH (ak (i := 11) sc.nd rfl (Or.inl rfl) (aM c__law_typed hr (by omega) (by rfl) (aA (aR (dv 6) aB (fun _ _ => rfl)) (aA (dv 1) (aA (dv 2) (aA (dv 3) (aA (ck (dv 4) aB) aD)))))))
 (aF (aN (aU (aA aj (aA (aM c__law_typed hr (by omega) (by rfl) (aA (aR (dv 6) aB (fun _ _ => rfl)) (aA (dv 1) (aA aj (aA (dv 3) (aA (ck (dv 4) aB) aD)))))) (aA (dv 8) (aA (dv 11) aD)))))))) aX)
 (aH (ak (i := 9) sc.nd rfl (Or.inl rfl) (aR (bY (eT (by rfl))) (a_ (bM (aM c__law_mixed hr (by omega) (by rfl) (aA (dv 0) (aA aB aD))) aB) aB) (fun _ _ => rfl)))
 (aH (ak (i := 10) sc.nd rfl (Or.inl rfl) (dv 2))
 (aH (bO (cu hu (dv 2) aj) (aH (ak (i := 9) sc.nd rfl (Or.inl rfl) (aR (bY (eT (by rfl))) (a_ (bM (aM c__law_mixed hr (by omega) (by rfl) (aA (dv 0) (aA aB aD))) aB) aB) (fun _ _ => rfl)))
 (aF (ak (i := 10) sc.nd rfl (Or.inl rfl) (aR (bY (eT (by rfl))) (a_ (bM (aM c__law_mixed hr (by omega) (by rfl) (aA (dv 0) (aA aB aD))) aB) aB) (fun _ _ => rfl))))) aX)
 (aH (ak (i := 8) sc.nd rfl (Or.inl rfl) (aM c__law_typed hr (by omega) (by rfl) (aA (aR (dv 6) aB (fun _ _ => rfl)) (aA (dv 1) (aA (dv 10) (aA (dv 3) (aA (ck (dv 4) aB) aD)))))))
 (aH (bO (cu hu (dv 9) aj) (aF (aN (aU (aA aj (aA (dv 8) aD))))) aX)
 (aF (aN (aU (aA (dv 9) (aA (dv 8) (aA (aM c__law_typed hr (by omega) (by rfl) (aA (aR (dv 6) aB (fun _ _ => rfl)) (aA (dv 1) (aA (dv 10) (aA (dv 3) (aA (ck (dv 4) aB) aD)))))) aD)))))))))))))))))))))) ?_
 rintro ds Q ⟨c, l, kd, b, k, rfl, hk, hb, hl, ho, q⟩
 refine ⟨_, rfl, _, _, rfl, cd (by decide) (by decide), (show (0 : Int) < 13 by decide), ?_⟩
 refine ⟨_, rfl, _, rfl, oZ (b2 := decide (mixed c 1 / 7 % 13 < 2)) (fun Q q => ⟨_, rfl, _, rfl, q⟩) ?_ (fun hz => ?_)⟩
 ·exact ⟨_, rfl, _, rfl, _, rfl, _, rfl, c, l, kd, b, rfl, hb, hl, ho, fun p hp => q p (hp k)⟩
 ·have hk0 : k ≠ 0 := fun z => by subst z; cases hz
  obtain ⟨m, rfl⟩ : ∃ m, k = m + 1 := ⟨k - 1, by omega⟩
  have hm : ((m + 1 : Nat) : Int) - 1 = (m : Int) := by omega
  have hn : m < n := by omega
  have tq : ∀ (c' : Int) (kd' : Bool) (b' : Nat) (bi : Int), bi = (b' : Int) -> [D.int c', D.lst (l.map D.str), kD kd', D.int bi, D.int (((m + 1 : Nat) : Int) - 1)] = [D.int c', D.lst (l.map D.str), kD kd', D.int (b' : Int), D.int (m : Int)] := fun c' kd' b' bi e => by rw [e, hm]
  refine ⟨3, rfl, (by decide), (by decide), [some (.int (mixed c 11)), some (.int (mixed c 12)), some (.int (mixed c 13))], rfl, ?_, (show 3 < sizeLine by decide), ?_⟩
  ·intro i d o h1 h2
   match i, h1, h2 with
   | 0, h1, h2 => cases h1; cases h2; exact ⟨rfl, fun _ => ⟨_, rfl, _, rfl, _, _, rfl, congrArg (fun z => some (D.int (mixed c z))) (show (11 : Int) = 11 + (0 + ((0 : Nat) : Int)) by decide)⟩⟩
   | 1, h1, h2 => cases h1; cases h2; exact ⟨rfl, fun _ => ⟨_, rfl, _, rfl, _, _, rfl, congrArg (fun z => some (D.int (mixed c z))) (show (12 : Int) = 11 + (0 + ((1 : Nat) : Int)) by decide)⟩⟩
   | 2, h1, h2 => cases h1; cases h2; exact ⟨rfl, fun _ => ⟨_, rfl, _, rfl, _, _, rfl, congrArg (fun z => some (D.int (mixed c z))) (show (13 : Int) = 11 + (0 + ((2 : Nat) : Int)) by decide)⟩⟩
   | i + 3, h1, h2 => cases h2
  refine ⟨_, rfl, _, _, rfl, _, rfl, _, _, rfl, fun f hf => ?_⟩
  refine ⟨_, rfl, _, rfl, oZ (b2 := decide (mixed c 1 / 7 % 13 = 3)) (fun Q q => ⟨_, rfl, _, rfl, q⟩) ?_ (fun _ => ?_)⟩
  ·exact ⟨_, rfl, _, rfl, _, rfl, _, rfl, _, rfl, _, rfl, _, l, kd, b, m, tq _ kd b _ rfl, hn, hb, hl, ho, fun p1 o1 => ⟨_, rfl, (show 3 <= sizeLine by decide), q (.before p1 f) (o1.before (.inr hf))⟩⟩
  refine ⟨_, rfl, _, rfl, vg (b2 := decide ((0 : Int) < (b : Int))) (fun Q q => ⟨_, rfl, _, rfl, q⟩) (fun _ hb0 => ?_) ?_⟩
  ·have hb1 : (0 : Int) < (b : Int) := of_decide_eq_true hb0
   obtain ⟨r, hr, er⟩ := bI (xs := [D.int 0, .int 2]) (i := (b : Int) - 1) (by omega) (by show _ < (2 : Int); omega)
   have hi : ∃ i : Int, r = .int i /\ 0 <= i /\ i < 8 := by
    simp only [List.mem_cons, List.not_mem_nil, or_false] at hr
    rcases hr with rfl | rfl <;> exact ⟨_, rfl, by decide, by decide⟩
   obtain ⟨i, rfl, i0, i1⟩ := hi
   obtain ⟨x, hx, ox, ex⟩ := lP hl ho i0 i1
   exact ⟨_, rfl, _, rfl, _, rfl, _, rfl, _, rfl, _, rfl, _, l, kd, (b - 1), m, tq _ kd (b - 1) _ (by omega), hn, (by omega), hl, ho, fun p1 o1 => ⟨_, rfl, (show 2 <= sizeLine by decide), _, rfl, _, er, _, ex, (show 3 <= sizeLine by decide), q (.bP p1 x) (o1.bP hx ox)⟩⟩
  refine ⟨_, rfl, _, rfl, uy (b2 := decide (mixed c 1 / 7 % 13 = 4)) (b3 := decide ((b : Int) < 2)) (fun Q q => ⟨_, rfl, _, rfl, q⟩) (fun Q q => ⟨_, rfl, _, rfl, q⟩) (fun hb2 => ?_) ?_⟩
  ·have hb1 : (b : Int) < 2 := of_decide_eq_true hb2
   obtain ⟨r, hr, er⟩ := bI (xs := [D.int 0, .int 2]) (i := (b : Int)) (by omega) (by show _ < (2 : Int); omega)
   have hi : ∃ i : Int, r = .int i /\ 0 <= i /\ i < 8 := by
    simp only [List.mem_cons, List.not_mem_nil, or_false] at hr
    rcases hr with rfl | rfl <;> exact ⟨_, rfl, by decide, by decide⟩
   obtain ⟨i, rfl, i0, i1⟩ := hi
   obtain ⟨x, hx, ox, ex⟩ := lP hl ho i0 i1
   exact ⟨_, rfl, _, rfl, _, rfl, _, rfl, _, rfl, _, rfl, _, l, kd, (b + 1), m, tq _ kd (b + 1) _ (by omega), hn, (by omega), hl, ho, fun p1 o1 => ⟨_, rfl, (show 2 <= sizeLine by decide), _, rfl, _, er, _, ex, _, rfl, (show 4 <= sizeLine by decide), q (.held p1 x f) (o1.held hx ox (.inr hf))⟩⟩
  refine ⟨_, rfl, _, rfl, _, rfl, _, rfl, _, rfl, _, rfl, _, l, kd, b, m, tq _ kd b _ rfl, hn, hb, hl, ho, fun p1 o1 => ?_⟩
  refine ⟨_, rfl, _, rfl, ?_⟩
  cases h6 : decide (mixed c 1 / 7 % 13 = 6) with
  | true => exact aZ ⟨_, rfl, _, rfl, _, rfl, _, rfl, _, rfl, _, rfl, _, rfl, _, l, kd, b, m, tq _ kd b _ rfl, hn, hb, hl, ho, fun p2 o2 => ⟨(show 3 <= sizeLine by decide), q (.led p1 p2) (o1.led o2)⟩⟩
  | false =>
   refine aT ⟨_, rfl, _, rfl, ?_⟩
   cases h7 : decide (mixed c 1 / 7 % 13 = 7) with
   | true => exact aZ ⟨_, rfl, _, rfl, _, rfl, _, rfl, _, rfl, _, rfl, _, l, kd, b, m, tq _ kd b _ rfl, hn, hb, hl, ho, fun p2 o2 => ⟨_, rfl, _, rfl, _, rfl, _, rfl, _, rfl, _, l, true, b, m, tq _ true b _ rfl, hn, hb, hl, ho, fun p3 o3 => ⟨_, rfl, _, rfl, (show 4 <= sizeLine by decide), q (.choice p3 p1 p2) (o3.choice o1 o2)⟩⟩⟩
   | false =>
    obtain ⟨r3, hr3, er3⟩ := bI (xs := [D.str "+", .str "-", .str "*"]) (bE (mixed c 5 / 7) (show (0 : Int) < 3 by decide)) (bC (mixed c 5 / 7) (show (0 : Int) < 3 by decide))
    refine aT ⟨(show 3 <= sizeLine by decide), _, rfl, _, _, rfl, cd (by decide) (by decide), (show (0 : Int) < 3 by decide), _, er3, ?_⟩
    refine ⟨_, rfl, ?_⟩
    have hsg3 : ∃ sg, r3 = .str sg /\ (sg = "not" \/ sg ∈ cq) := by
     simp only [List.mem_cons, List.not_mem_nil, or_false] at hr3
     rcases hr3 with rfl | rfl | rfl <;> exact ⟨_, rfl, .inr (by decide +kernel)⟩
    obtain ⟨sg, rfl, hsg⟩ := hsg3
    cases kd with
    | false =>
     refine ⟨_, rfl, false, congrArg D.bl (by decide +kernel), aT ?_⟩
     refine ⟨_, rfl, _, rfl, _, rfl, _, rfl, _, rfl, _, rfl, _, l, false, b, m, tq _ false b _ rfl, hn, hb, hl, ho, fun p3 o3 => ?_⟩
     rcases hsg with rfl | hsg
     ·exact ⟨_, rfl, true, congrArg D.bl (by decide +kernel), aZ ⟨_, rfl, (show 2 <= sizeLine by decide), q (.turned p3) o3.turned⟩⟩
     ·exact ⟨_, rfl, false, congrArg D.bl (qS hsg), aT ⟨_, rfl, _, rfl, _, rfl, _, rfl, _, rfl, _, rfl, _, rfl, _, rfl, _, l, false, b, m, tq _ false b _ rfl, hn, hb, hl, ho, fun p4 o4 => ⟨(show 3 <= sizeLine by decide), q (.pair sg p3 p4) (.pair hsg o3 o4)⟩⟩⟩
    | true =>
     clear hsg
     obtain ⟨r7, hr7, er7⟩ := bI (xs := [D.str "and", .str "or", .str "=", .str "=", .str "<", .str "<=", .str "not"]) (bE (mixed c 5 / 7) (show (0 : Int) < 7 by decide)) (bC (mixed c 5 / 7) (show (0 : Int) < 7 by decide))
     obtain ⟨r8, hr8, er8⟩ := bI (xs := [D.str "truth", .str "truth", .str "truth", .str "number", .str "number", .str "number", .str "truth"]) (bE (mixed c 5 / 7) (show (0 : Int) < 7 by decide)) (bC (mixed c 5 / 7) (show (0 : Int) < 7 by decide))
     have hsg7 : ∃ sg, r7 = .str sg /\ (sg = "not" \/ sg ∈ cq) := by
      simp only [List.mem_cons, List.not_mem_nil, or_false] at hr7
      rcases hr7 with rfl | rfl | rfl | rfl | rfl | rfl | rfl
      ·exact ⟨_, rfl, .inr (by decide +kernel)⟩
      ·exact ⟨_, rfl, .inr (by decide +kernel)⟩
      ·exact ⟨_, rfl, .inr (by decide +kernel)⟩
      ·exact ⟨_, rfl, .inr (by decide +kernel)⟩
      ·exact ⟨_, rfl, .inr (by decide +kernel)⟩
      ·exact ⟨_, rfl, .inr (by decide +kernel)⟩
      ·exact ⟨_, rfl, .inl rfl⟩
     have hkw : ∃ kw, r8 = kD kw := by
      simp only [List.mem_cons, List.not_mem_nil, or_false] at hr8
      rcases hr8 with rfl | rfl | rfl | rfl | rfl | rfl | rfl
      ·exact ⟨true, rfl⟩
      ·exact ⟨true, rfl⟩
      ·exact ⟨true, rfl⟩
      ·exact ⟨false, rfl⟩
      ·exact ⟨false, rfl⟩
      ·exact ⟨false, rfl⟩
      ·exact ⟨true, rfl⟩
     obtain ⟨sg7, rfl, hsg⟩ := hsg7
     obtain ⟨kw, rfl⟩ := hkw
     refine ⟨_, rfl, true, congrArg D.bl (by decide +kernel), aZ ?_⟩
     refine ⟨(show 7 <= sizeLine by decide), _, rfl, _, _, rfl, cd (by decide) (by decide), (show (0 : Int) < 7 by decide), _, er7, ?_⟩
     refine ⟨(show 7 <= sizeLine by decide), _, rfl, _, _, rfl, cd (by decide) (by decide), (show (0 : Int) < 7 by decide), _, er8, ?_⟩
     refine ⟨_, rfl, _, rfl, _, rfl, _, rfl, _, rfl, _, rfl, _, l, kw, b, m, tq _ kw b _ rfl, hn, hb, hl, ho, fun p3 o3 => ?_⟩
     rcases hsg with rfl | hsg
     ·exact ⟨_, rfl, true, congrArg D.bl (by decide +kernel), aZ ⟨_, rfl, (show 2 <= sizeLine by decide), q (.turned p3) o3.turned⟩⟩
     ·exact ⟨_, rfl, false, congrArg D.bl (qS hsg), aT ⟨_, rfl, _, rfl, _, rfl, _, rfl, _, rfl, _, rfl, _, rfl, _, rfl, _, l, kw, b, m, tq _ kw b _ rfl, hn, hb, hl, ho, fun p4 o4 => ⟨(show 3 <= sizeLine by decide), q (.pair sg7 p3 p4) (.pair hsg o3 o4)⟩⟩⟩
theorem nI (d : Df K mg "_law_typed" dX ["_law_cell", "_law_names_here", "_law_kind", "_law_beat_here", "_law_deep"]) (n_range : mg "range" = none) (c1 : bN P w K mg base 1 "_law_mixed" ["_law_cell", "_law_k"] jV) (c3 : bN P w K mg base 2 "_law_value" ["_law_mix", "_law_kind"] jw)
  (c4 : bN P w K mg base 3 "_law_leaf" ["_law_cell", "_law_names_here", "_law_kind", "_law_beat_here"] ou) : ∀ n, bN P w K mg base (n + 3) "_law_typed" ["_law_cell", "_law_names_here", "_law_kind", "_law_beat_here", "_law_deep"] (jW n)
 | 0 => Df.never d fun ds Q ⟨_, _, _, _, _, _, h, _⟩ => absurd h (by omega)
 | n + 1 => sP d n_range (c1.up (by omega)) (c3.up (by omega)) (c4.up (by omega)) (nI d n_range c1 c3 c4 n)
end
abbrev aa := List Str
abbrev qp := List Int × aa × aa
def bD (b : aa) : D := .tup (b.map D.str)
def gz : Option aa -> D
 | none => .aV
 | some b => bD b
def ay (pl : List Int) : D := .tup (pl.map D.int)
theorem lR (pl : List Int) (i : Int) : D.tup (pl.map D.int ++ [.int i]) = ay (pl ++ [i]) := by unfold ay; rw [List.map_append]; rfl
structure bJ (k : Nat) (b : aa) : Prop where
 len : b.length <= k
 str : ∀ x ∈ b, PyData.strOk x = true
theorem bJ.up {k m : Nat} {b : aa} (h : bJ k b) (e : k <= m) : bJ m b := ⟨Nat.le_trans h.len e, h.str⟩
theorem bJ.snoc {k : Nat} {b : aa} {x : Str} (h : bJ k b) (hx : PyData.strOk x = true) : bJ (k + 1) (b ++ [x]) := ⟨by rw [List.length_append, List.length_singleton]; have := h.len; omega, fun y hy => by
 rcases List.mem_append.mp hy with hy | hy
 ·exact h.str y hy
 ·rw [List.mem_singleton.mp hy]; exact hx⟩
theorem gj (b : aa) (x : Str) : D.tup (b.map D.str ++ [.str x]) = bD (b ++ [x]) := by unfold bD; rw [List.map_append]; rfl
theorem pY : ∀ a b : aa, PyData.eqvAll (dF (a.map D.str)) (dF (b.map D.str)) = decide (a = b)
 | [], [] => by rw [List.map_nil, dF, PyData.eqvAll]; rfl
 | [], y :: b => by rw [List.map_nil, List.map_cons, dF, dF, PyData.eqvAll]; rfl
 | x :: a, [] => by rw [List.map_nil, List.map_cons, dF, dF, PyData.eqvAll]; rfl
 | x :: a, y :: b => by
  rw [List.map_cons, List.map_cons, dF, dF, PyData.eqvAll, pY a b, eg, eg, PyData.eqv]
  by_cases h : x = y
  ·subst h
   by_cases h2 : a = b
   ·subst h2; simp
   ·simp [h2]
  ·simp [h]
theorem qH : ∀ {b : aa}, (∀ x ∈ b, PyData.strOk x = true) -> PyData.canLayAll0 (dF (b.map D.str)) = true /\ fc (b.map D.str) = true /\ PyData.depthAll (dF (b.map D.str)) = 0
 | [], _ => ⟨rfl, rfl, rfl⟩
 | x :: b, h => by
  obtain ⟨h1, h2, h3⟩ := qH (b := b) fun y hy => h y (List.mem_cons_of_mem _ hy)
  have hx := h x List.mem_cons_self
  rw [List.map_cons, dF, eg]
  refine ⟨?_, ?_, ?_⟩
  ·rw [PyData.canLayAll0, h1, PyData.canLay0, hx]; rfl
  ·rw [fc, h2, show DC.plain (.str x) = true by simp [DC.plain]]; rfl
  ·rw [PyData.depthAll, h3, PyData.depth]; rfl
structure Lay (k : Nat) (d : D) : Prop where
 pl : DC.plain d = true
 cl : (eg d).canLay0 = true
 dp : (eg d).depth <= k
theorem Lay.up {k m : Nat} {d : D} (h : Lay k d) (e : k <= m) : Lay m d := ⟨h.pl, h.cl, Nat.le_trans h.dp e⟩
theorem lH {k : Nat} {b : aa} (h : bJ k b) : Lay 1 (bD b) := by
 obtain ⟨h1, h2, h3⟩ := qH h.str
 unfold bD
 refine ⟨by rw [DC.plain]; exact h2, by rw [eg, PyData.canLay0]; exact h1, by rw [eg, PyData.depth, h3]; decide⟩
theorem oN : Lay 0 .aV := ⟨by simp [DC.plain], by rw [eg, PyData.canLay0], by rw [eg, PyData.depth]; decide⟩
theorem zj (i : Int) : Lay 0 (.int i) := ⟨by simp [DC.plain], by rw [eg, PyData.canLay0], by rw [eg, PyData.depth]; decide⟩
theorem oK {k : Nat} : ∀ {ds : List D}, (∀ d ∈ ds, Lay k d) -> fc ds = true /\ PyData.canLayAll0 (dF ds) = true /\ PyData.depthAll (dF ds) <= k
 | [], _ => ⟨rfl, rfl, Nat.zero_le _⟩
 | d :: ds, h => by
  obtain ⟨h1, h2, h3⟩ := oK (ds := ds) fun e he => h e (List.mem_cons_of_mem _ he)
  have hd := h d List.mem_cons_self
  refine ⟨?_, ?_, ?_⟩
  ·rw [fc, hd.pl, h1]; rfl
  ·rw [dF, PyData.canLayAll0, hd.cl, h2]; rfl
  ·rw [dF, PyData.depthAll]; exact Nat.max_le.mpr ⟨hd.dp, h3⟩
theorem kh {k : Nat} {ds : List D} (h : ∀ d ∈ ds, Lay k d) : Lay (k + 1) (.tup ds) := by
 obtain ⟨h1, h2, h3⟩ := oK h
 exact ⟨by rw [DC.plain]; exact h1, by rw [eg, PyData.canLay0]; exact h2, by rw [eg, PyData.depth]; omega⟩
theorem tU {k : Nat} {ds : List D} (h : ∀ d ∈ ds, Lay k d) : Lay (k + 1) (.lst ds) := by
 obtain ⟨h1, h2, h3⟩ := oK h
 exact ⟨by rw [DC.plain]; exact h1, by rw [eg, PyData.canLay0]; exact h2, by rw [eg, PyData.depth]; omega⟩
theorem Lay.sh {k : Nat} {d : D} (h : Lay k d) (e : k <= 64) : SeqAt.shaped (eg d) = true := by
 unfold SeqAt.shaped
 rw [h.cl, decide_eq_true (Nat.le_trans h.dp e)]
 rfl
theorem eqB {neg : Bool} {k m : Nat} {a b : aa} {Q : D -> Prop} (ha : bJ k a) (hb : bJ m b) (q : Q (.bl (if neg = true then !decide (a = b) else decide (a = b)))) : rE neg (bD a) (bD b) Q := by
 have la := lH ha
 have lb := lH hb
 have e : PyData.eqv (eg (bD a)) (eg (bD b)) = decide (a = b) := by unfold bD; rw [eg, eg, PyData.eqv, pY]
 unfold rE
 rw [show jj (bD a) (bD b) = none from rfl]
 refine ⟨la.pl, lb.pl, la.sh (by decide), lb.sh (by decide), ?_⟩
 rw [e]
 exact q
theorem Am {neg : Bool} {k : Nat} {d : D} {Q : D -> Prop} (e : jj d d = none) (h : Lay k d) (hk : k <= 64) (q : Q (.bl (!neg))) : rE neg d d Q := by
 have ev : PyData.eqv (eg d) (eg d) = true := SeqAt.eqv_refl _ h.cl
 unfold rE
 rw [e]
 refine ⟨h.pl, h.pl, h.sh hk, h.sh hk, ?_⟩
 rw [ev]
 cases neg <;> exact q
theorem ml {neg : Bool} {k : Nat} {bs : List aa} {Q : D -> Prop} (h : ∀ b ∈ bs, bJ k b) (q : Q (.bl (if neg = true then !bs.isEmpty else bs.isEmpty))) : rE neg (.lst (bs.map bD)) (.lst []) Q := by
 have l : Lay 2 (.lst (bs.map bD)) := tU fun d hd => by
  obtain ⟨b, hb, rfl⟩ := List.mem_map.mp hd
  exact lH (h b hb)
 have l0 : Lay 2 (.lst []) := tU fun d hd => nomatch hd
 have e : PyData.eqv (eg (.lst (bs.map bD))) (eg (.lst [])) = bs.isEmpty := by
  rw [eg, eg, PyData.eqv]
  cases bs with
  | nil => rw [List.map_nil, dF, PyData.eqvAll]; rfl
  | cons b bs => rw [List.map_cons, dF, dF, PyData.eqvAll]; rfl
 unfold rE
 rw [show jj (.lst (bs.map bD)) (.lst []) = none from rfl]
 refine ⟨l.pl, l0.pl, l.sh (by decide), l0.sh (by decide), ?_⟩
 rw [e]
 exact q
def kP (pl : List Int) (ks : List aa) : Except qp (Option aa) := match ks with
 | [] => .ok none
 | k :: r => match (k :: r).find? (fun b => !decide (b = k)) with
  | none => .ok (some k)
  | some b => .error (pl, k, b)
def cT (pl : List Int) (w : Option aa) (want tell : aa) : Except qp (Option aa) := match w with
 | none => .ok (some tell)
 | some b => if decide (b = want) = true then .ok (some tell) else .error (pl, b, want)
def Pt.oi : Pt -> Bool
 | .named _ => false
 | .bP _ _ => false
 | .held _ _ _ => false
 | _ => true
def Pt.xW (bf : Str -> aa) (pl : List Int) : Pt -> List (Option aa) -> Except qp (Option aa)
 | .named n, _ => .ok (some (bf n))
 | .bP _ n, ws => cT pl (ws.headD none) (bf n) (bf n ++ [n])
 | .held _ n _, ws => cT pl (ws.headD none) (bf n ++ [n]) (bf n)
 | _, ws => kP pl (ws.filterMap id)
theorem m_ {bf : Str -> aa} {pl : List Int} {p : Pt} {ws : List (Option aa)} (h : p.oi = true) : p.xW bf pl ws = kP pl (ws.filterMap id) := by
 cases p <;> first | rfl | cases h
def fH {ε α : Type} (f : Pt -> List Int -> Except ε α) (pl : List Int) : Nat -> List Pt -> Except ε (List α)
 | _, [] => .ok []
 | i, p :: ps => match f p (pl ++ [(i : Int)]) with
  | .error e => .error e
  | .ok b => match fH f pl (i + 1) ps with
   | .error e => .error e
   | .ok bs => .ok (b :: bs)
theorem g7 {ε α : Type} {f : Pt -> List Int -> Except ε α} {pl : List Int} {i : Nat} {p : Pt} {ps : List Pt} : fH f pl i (p :: ps) = (match f p (pl ++ [(i : Int)]) with
  | .error e => .error e
  | .ok b => match fH f pl (i + 1) ps with
   | .error e => .error e
   | .ok bs => .ok (b :: bs)) := rfl
theorem qe {ε α : Type} {f : Pt -> List Int -> Except ε α} {pl : List Int} : ∀ {i : Nat} {ps : List Pt} {bs : List α}, fH f pl i ps = .ok bs -> bs.length = ps.length
 | i, [], bs, h => by cases h; rfl
 | i, p :: ps, bs, h => by
  rw [g7] at h
  cases h1 : f p (pl ++ [(i : Int)]) with
  | error e => rw [h1] at h; cases h
  | ok b =>
   rw [h1] at h
   cases h2 : fH f pl (i + 1) ps with
   | error e => simp only [h2] at h; cases h
   | ok bs' =>
    simp only [h2] at h
    cases h
    rw [List.length_cons, List.length_cons, qe h2]
def ig (bf : Str -> aa) : Nat -> Pt -> List Int -> Except qp (Option aa)
 | 0, _, _ => .ok none
 | n + 1, p, pl => match fH (ig bf n) pl 0 p.inner with
  | .error e => .error e
  | .ok ws => p.xW bf pl ws
structure ya (kvs : List (Key × D)) (bf : Str -> aa) (x : Str) : Prop where
 at_ : mE kvs (.inr x) = some (bD (bf x))
 gd : bJ 9 (bf x)
 st : PyData.strOk x = true
def ko (w : Option aa) : Prop := ∀ b, w = some b -> bJ 10 b
def GoodR : Except qp (Option aa) -> Prop
 | .ok w => ko w
 | .error (_, a, b) => bJ 10 a /\ bJ 10 b
theorem we {pl : List Int} {ks : List aa} (h : ∀ b ∈ ks, bJ 10 b) : GoodR (kP pl ks) := by
 unfold kP
 cases ks with
 | nil => exact fun b e => nomatch e
 | cons k r =>
  have hk := h k List.mem_cons_self
  dsimp only
  cases e : (k :: r).find? (fun b => !decide (b = k)) with
  | none => exact fun b z => by cases z; exact hk
  | some b => exact ⟨hk, h b (List.mem_of_find?_eq_some e)⟩
theorem mq {pl : List Int} {w : Option aa} {want tell : aa} (hw : ko w) (h1 : bJ 10 want) (h2 : bJ 10 tell) : GoodR (cT pl w want tell) := by
 unfold cT
 cases w with
 | none => exact fun b z => by cases z; exact h2
 | some b =>
  dsimp only
  split
  ·exact fun b z => by cases z; exact h2
  ·exact ⟨hw b rfl, h1⟩
theorem wg {kvs : List (Key × D)} {bf : Str -> aa} {pl : List Int} {p : Pt} {ws : List (Option aa)} (nk : p.nk (ya kvs bf)) (h : ∀ w ∈ ws, ko w) : GoodR (p.xW bf pl ws) := by
 have hf : ∀ b ∈ ws.filterMap id, bJ 10 b := fun b hb => by
  obtain ⟨w, hw, e⟩ := List.mem_filterMap.mp hb
  exact h w hw b e
 have hd : ko (ws.headD none) := by
  cases ws with
  | nil => exact fun b z => nomatch z
  | cons w r => exact h w List.mem_cons_self
 cases p with
 | named n => exact fun b z => by cases z; exact nk.gd.up (by decide)
 | bP x n => exact mq hd (nk.2.gd.up (by decide)) (nk.2.gd.snoc nk.2.st)
 | held x n f => exact mq hd (nk.2.gd.snoc nk.2.st) (nk.2.gd.up (by decide))
 | _ => exact we hf
theorem jC {f : Pt -> List Int -> Except qp (Option aa)} {pl : List Int} : ∀ {i : Nat} {ps : List Pt}, (∀ p ∈ ps, ∀ pl, GoodR (f p pl)) -> (∀ ws, fH f pl i ps = .ok ws -> ∀ w ∈ ws, ko w) /\ ∀ e, fH f pl i ps = .error e -> GoodR (.error e)
 | i, [], _ => ⟨fun ws h => by cases h; exact (fun w hw => nomatch hw), fun e h => by cases h⟩
 | i, p :: ps, hp => by
  have ih := jC (f := f) (pl := pl) (i := i + 1) (ps := ps) fun q hq => hp q (List.mem_cons_of_mem _ hq)
  have hq := hp p List.mem_cons_self (pl ++ [(i : Int)])
  rw [g7]
  cases h1 : f p (pl ++ [(i : Int)]) with
  | error e =>
   rw [h1] at hq
   exact ⟨(fun ws h => nomatch h), fun e' h => by cases h; exact hq⟩
  | ok b =>
   rw [h1] at hq
   dsimp only
   cases h2 : fH f pl (i + 1) ps with
   | error e => exact ⟨(fun ws h => nomatch h), fun e' h => by cases h; exact ih.2 e h2⟩
   | ok bs =>
    refine ⟨fun ws h => ?_, fun e' h => nomatch h⟩
    cases h
    intro w hw
    rcases List.mem_cons.mp hw with rfl | hw
    ·exact hq
    ·exact ih.1 bs h2 w hw
theorem jB {kvs : List (Key × D)} {bf : Str -> aa} : ∀ {n : Nat} {p : Pt} {pl : List Int}, p.nk (ya kvs bf) -> GoodR (ig bf n p pl)
 | 0, p, pl, _ => fun b z => nomatch z
 | n + 1, p, pl, h => by
  have gs := jC (f := ig bf n) (pl := pl) (i := 0) (ps := p.inner) fun q hq pl => (by
   exact jB (n := n) (Pt.qN hq h))
  unfold ig
  cases h1 : fH (ig bf n) pl 0 p.inner with
  | error e => exact gs.2 e h1
  | ok ws => exact wg h (gs.1 ws h1)
theorem iL {α : Type} {p : α -> Bool} : ∀ {l : List α} {i : Nat} {b : α}, (∀ m x, m < i -> l[m]? = some x -> p x = false) -> l[i]? = some b -> p b = true -> l.find? p = some b
 | [], i, b, _, h, _ => by simp at h
 | x :: l, 0, b, _, h, hb => by
  simp at h
  subst h
  rw [List.find?_cons, hb]
 | x :: l, i + 1, b, hf, h, hb => by
  rw [List.find?_cons, hf 0 x (by omega) rfl]
  exact iL (i := i) (fun m y hm hy => hf (m + 1) y (by omega) (by simpa using hy)) (by simpa using h) hb
theorem find_none {α : Type} {p : α -> Bool} {l : List α} (h : ∀ (m : Nat) (x : α), l[m]? = some x -> p x = false) : l.find? p = none := by
 rw [List.find?_eq_none]
 intro x hx
 obtain ⟨m, hm, e⟩ := List.getElem_of_mem hx
 rw [h m x (by rw [List.getElem?_eq_getElem hm, e])]
 decide
def uw : D -> Bool
 | .aV => false
 | _ => true
theorem m5 (ws : List (Option aa)) : ((ws.map gz).filter uw).map id = (ws.filterMap id).map bD := by
 induction ws with
 | nil => rfl
 | cons w ws ih =>
  cases w with
  | none =>
   rw [List.map_cons, List.filter_cons]
   exact ih
  | some b =>
   rw [List.map_cons, List.filter_cons]
   show (gz (some b) :: ((ws.map gz).filter uw)).map id = _
   rw [List.map_cons, ih]
   rfl
def pZ (e : qp) : List (Str × D) := [("row", .aV), ("place", ay e.1), ("one", bD e.2.1), ("other", bD e.2.2)]
def rl (nb : Addr) (Q : D -> Prop) (R : XR) : Except qp (Option aa) -> Prop
 | .ok b => Q (gz b)
 | .error e => R nb (pZ e)
theorem xE {nb : Addr} {Q Q' : D -> Prop} {R R' : XR} (f : ∀ d, Q d -> Q' d) (g : ∀ C z, R C z -> R' C z) : ∀ {x : Except qp (Option aa)}, rl nb Q R x -> rl nb Q' R' x
 | .ok _, h => f _ h
 | .error _, h => g _ _ h
def pE (A : bh) (nb : Addr) (C : Addr) : kU := fun ds Q R => ∃ (p : Pt) (kvs : List (Key × D)) (bf : Str -> aa) (ws : List (Option aa)) (pl : List Int), ds = [p.d A, .dK kvs, .lst (ws.map gz), ay pl] /\ p.cls A = C /\ p.ok /\ p.nk (ya kvs bf) /\ ws.length = p.inner.length /\ (∀ w ∈ ws, ko w) /\ rl nb Q R (p.xW bf pl ws)
theorem zt {A : bh} {nb C : Addr} : fk (pE A nb C) := fun ds P P' R R' f g ⟨p, kvs, bf, ws, pl, e, c, o, k, l, w, q⟩ => ⟨p, kvs, bf, ws, pl, e, c, o, k, l, w, xE f g q⟩
theorem zi {A : bh} {nb C : Addr} (ds : List D) (Q : D -> Prop) (R : XR) (h : pE A nb C ds Q R) : ds.length = 4 := by obtain ⟨p, kvs, bf, ws, pl, e, _⟩ := h; rw [e]; rfl
def yJ (nb : Addr) : kU := fun ds Q R => ∃ (w : Option aa) (want : aa) (pl : List Int), ds = [gz w, bD want, ay pl] /\ ko w /\ bJ 10 want /\ (match cT pl w want [] with | .ok _ => Q .aV | .error e => R nb (pZ e))
theorem GG {nb : Addr} : fk (yJ nb) := fun ds P P' R R' f g ⟨w, want, pl, e, h1, h2, q⟩ => ⟨w, want, pl, e, h1, h2, by
 cases h : cT pl w want [] with
 | ok b => rw [h] at q; exact f _ q
 | error e => rw [h] at q; exact g _ _ q⟩
theorem lK {pl : List Int} {w : Option aa} {want tell : aa} {nb : Addr} {Q : D -> Prop} {R : XR} (h : rl nb Q R (cT pl w want tell)) : match cT pl w want [] with | .ok _ => Q (bD tell) | .error e => R nb (pZ e) := by
 unfold cT at h ⊢
 cases w with
 | none => exact h
 | some b =>
  dsimp only at h ⊢
  cases hb : decide (b = want) with
  | true => rw [hb] at h; exact h
  | false => rw [hb] at h; exact h
section
seal wpAny
variable {P : Program} {w : World} {K : PySem.W.Frag} {mg : Str -> Option Value} {base : Heap} {A : bh} {n j : Nat} {nb : Addr}
theorem cD {i : Nat} (hi : i + 1 <= j) (d : Df K mg "need_beat" gW ["beat", "wanted", "place"]) (ke_NoBeat : Dg P w K mg base i "NoBeat" nb ["row", "place", "one", "other"]) (bm_NoBeat : PySem.W.mroIn K nb (.type "BaseException") = some true) (bt_NoBeat : PySem.W.typeIn K (.ref nb) = some (.type "type")) :
  kn P w K mg base (j + 1) "need_beat" ["beat", "wanted", "place"] (yJ nb) := by
 refine d.qx jT GG (fun ds Q R ⟨w, want, pl, e, _⟩ => by rw [e]; rfl) (fun f cdv A outer s H E R hr hx => have hu := hr.units; have hh := hr.hd; have sc := jT
  (aF (bO (l_.td (w_and (jb (dv 0) b8) (lq (sI hu (dv 0) (dv 1))))) (aF (qb hx rfl rfl ke_NoBeat bm_NoBeat bt_NoBeat hr (by omega) (by rfl) (aA b8 (aA (dv 2) (aA (dv 0) (aA (dv 1) aD)))))) aX))) ?_
 rintro ds Q R ⟨w, want, pl, rfl, h1, h2, q⟩
 cases w with
 | none => exact ⟨_, rfl, false, rfl, aT (aT q)⟩
 | some b =>
  refine ⟨_, rfl, true, rfl, aZ ⟨_, rfl, _, rfl, eqB (h1 b rfl) h2 ⟨_, rfl, ?_⟩⟩⟩
  unfold cT at q
  dsimp only at q
  cases hb : decide (b = want) with
  | true => rw [hb] at q; exact aT q
  | false => rw [hb] at q; exact aZ ⟨_, rfl, _, rfl, _, rfl, rfl, q⟩
theorem vi (hA : f_ K A) (d : Dm K A.named "beat_from" "Named.beat_from" bg ["self", "beats", "within", "place"]) : dJ P w K mg base (j + 1) A.named "beat_from" (pE A nb A.named) := by
 refine d.qx d8 zt zi (fun f cdv A outer s H E R hr hx => have hu := hr.units; have hh := hr.hd; have sc := d8
  (aF (aN (kx hu (dv 1) (bx K rfl (dv 0) (by rfl)) (fun _ _ => rfl))))) ?_
 rintro ds Q R ⟨p, kvs, bf, ws, pl, rfl, hc, ok, nk, hl, hw, q⟩
 have c := hA.cl _ (Pt.ax A p)
 have no := hA.mH _ (Pt.ax A p)
 obtain ⟨x, rfl⟩ := qE hA hc
 exact ⟨_, rfl, bL (r := .str x) rfl c (no _ (by decide)) (by kernel_rfl) ⟨kvs, .inr x, bD (bf x), rfl, rfl, nk.at_, q⟩⟩
theorem yt (hA : f_ K A) (d : Dm K A.bP "beat_from" "When.beat_from" bw ["self", "beats", "within", "place"]) (cD : kn P w K mg base j "need_beat" ["beat", "wanted", "place"] (yJ nb)) : dJ P w K mg base (j + 1) A.bP "beat_from" (pE A nb A.bP) := by
 refine d.qx eN zt zi (fun f cdv A outer s H E R hr hx => have hu := hr.units; have hh := hr.hd; have sc := eN
  (aH (ak (i := 4) sc.nd rfl (Or.inl rfl) (kx hu (dv 1) (bx K rfl (dv 0) (by rfl)) (fun _ _ => rfl)))
 (aH (cO (nY hx cD hr (by omega) (by rfl) (aA (aR (dv 2) aB (fun _ _ => rfl)) (aA (dv 4) (aA (dv 3) aD)))))
 (aF (aN (bo (dv 4) (aU (aA (bx K rfl (dv 0) (by rfl)) aD)))))))) ?_
 rintro ds Q R ⟨p, kvs, bf, ws, pl, rfl, hc, ok, nk, hl, hw, q⟩
 have c := hA.cl _ (Pt.ax A p)
 have no := hA.mH _ (Pt.ax A p)
 obtain ⟨x, s, rfl⟩ := wo hA hc
 obtain ⟨u, rfl⟩ : ∃ u, ws = [u] := by
  match ws, hl with
  | [u], _ => exact ⟨u, rfl⟩
 have q' := lK (show rl nb Q R (cT pl u (bf s) (bf s ++ [s])) from q)
 have fin : Q (bD (bf s ++ [s])) -> yT (eD 4) (sS (cB (A1 K (eD 0) "name") f9)) [some ((Pt.bP x s).d A), some (.dK kvs), some (.lst ([u].map gz)), some (ay pl), some (bD (bf s))] Q := fun k =>
  ⟨_, rfl, bL (r := .str s) rfl c (no _ (by decide)) (by kernel_rfl) ⟨(show 1 <= sizeLine by decide), by rw [List.length_map]; exact Nat.le_trans (Nat.add_le_add_right nk.2.gd.len 1) (by decide), by rw [gj]; exact k⟩⟩
 refine ⟨_, rfl, bL (r := .str s) rfl c (no _ (by decide)) (by kernel_rfl) ⟨kvs, .inr s, bD (bf s), rfl, rfl, nk.2.at_, ?_⟩⟩
 refine ⟨_, rfl, gz u, rfl, _, rfl, _, rfl, u, bf s, pl, rfl, hw u List.mem_cons_self, nk.2.gd.up (by decide), ?_⟩
 cases h : cT pl u (bf s) [] with
 | ok b => rw [h] at q'; exact fin q'
 | error e => rw [h] at q'; exact q'
theorem yr (hA : f_ K A) (d : Dm K A.held "beat_from" "Held.beat_from" bu ["self", "beats", "within", "place"]) (cD : kn P w K mg base j "need_beat" ["beat", "wanted", "place"] (yJ nb)) : dJ P w K mg base (j + 1) A.held "beat_from" (pE A nb A.held) := by
 refine d.qx eK zt zi (fun f cdv A outer s H E R hr hx => have hu := hr.units; have hh := hr.hd; have sc := eK
  (aH (ak (i := 4) sc.nd rfl (Or.inl rfl) (kx hu (dv 1) (bx K rfl (dv 0) (by rfl)) (fun _ _ => rfl)))
 (aH (cO (nY hx cD hr (by omega) (by rfl) (aA (aR (dv 2) aB (fun _ _ => rfl)) (aA (bo (dv 4) (aU (aA (bx K rfl (dv 0) (by rfl)) aD))) (aA (dv 3) aD)))))
 (aF (aN (dv 4)))))) ?_
 rintro ds Q R ⟨p, kvs, bf, ws, pl, rfl, hc, ok, nk, hl, hw, q⟩
 have c := hA.cl _ (Pt.ax A p)
 have no := hA.mH _ (Pt.ax A p)
 obtain ⟨x, s, f, rfl⟩ := tS hA hc
 obtain ⟨u, rfl⟩ : ∃ u, ws = [u] := by
  match ws, hl with
  | [u], _ => exact ⟨u, rfl⟩
 have q' := lK (show rl nb Q R (cT pl u (bf s ++ [s]) (bf s)) from q)
 refine ⟨_, rfl, bL (r := .str s) rfl c (no _ (by decide)) (by kernel_rfl) ⟨kvs, .inr s, bD (bf s), rfl, rfl, nk.2.at_, ?_⟩⟩
 refine ⟨_, rfl, gz u, rfl, _, rfl, bL (r := .str s) rfl c (no _ (by decide)) (by kernel_rfl) ⟨(show 1 <= sizeLine by decide), by rw [List.length_map]; exact Nat.le_trans (Nat.add_le_add_right nk.2.gd.len 1) (by decide), _, rfl, u, bf s ++ [s], pl, (by rw [gj]; rfl), hw u List.mem_cons_self, nk.2.gd.snoc nk.2.st, ?_⟩⟩
 cases h : cT pl u (bf s ++ [s]) [] with
 | ok b => rw [h] at q'; exact ⟨_, rfl, q'⟩
 | error e => rw [h] at q'; exact q'
theorem eu {i : Nat} {C : Addr} (hi : i + 1 <= j) (hp : ∀ p : Pt, p.cls A = C -> p.oi = true) (d : Dm K C "beat_from" "Part.beat_from" aP ["self", "beats", "within", "place"]) (n_len : mg "len" = none) (ke_NoBeat : Dg P w K mg base i "NoBeat" nb ["row", "place", "one", "other"]) (bm_NoBeat : PySem.W.mroIn K nb (.type "BaseException") = some true) (bt_NoBeat : PySem.W.typeIn K (.ref nb) = some (.type "type")) :
  dJ P w K mg base (j + 1) C "beat_from" (pE A nb C) := by
 refine d.qx eM zt zi (fun f cdv A outer s H E R hr hx => have hu := hr.units; have hh := hr.hd; have sc := eM
  (aH (Aj (i := 4) sc.nd rfl (Or.inl rfl) (x := "beat") (caps := []) (cn := []) (cl := []) (j1 (by rfl) (by rfl) (by decide +kernel) (by decide +kernel) (by decide +kernel)) rfl (gJ (dv 2)) (fun C fp s₂ H₂ => bS (i := 0) (show (["beat"] : List Str).Nodup by decide +kernel) rfl (Or.inl rfl) (.inr rfl)) (fun C fp s₂ H₂ => (sJ (jb (dv 0) b8))) (fun C fp s₂ H₂ => (dv 0)))
 (aH (t9 PassesOwn.leaving rfl (gJ (dv 4)) (iN (i := 5) sc.nd rfl (Or.inl rfl)) (aF (bO (sI hu (dv 5) (aR (dv 4) aB (fun _ _ => rfl))) (aF (qb hx rfl rfl ke_NoBeat bm_NoBeat bt_NoBeat hr (by omega) (by rfl) (aA b8 (aA (dv 3) (aA (aR (dv 4) aB (fun _ _ => rfl)) (aA (dv 5) aD)))))) aX)))
 (aF (aN (y9 (vL (il (by rfl) n_len (aA (dv 4) aD)) aB) (aR (dv 4) aB (fun _ _ => rfl)) b8)))))) ?_
 rintro ds Q R ⟨p, kvs, bf, ws, pl, rfl, hc, ok, nk, hl, hw, q⟩
 rw [m_ (hp p hc)] at q
 have hgood : ∀ b ∈ ws.filterMap id, bJ 10 b := fun b hb => by
  obtain ⟨u, hu, e⟩ := List.mem_filterMap.mp hb
  exact hw u hu b e
 have hlen : (ws.filterMap id).length <= 3 := Nat.le_trans (List.length_filterMap_le _ _) (by rw [hl]; exact p.b9)
 refine ⟨_, rfl, _, rfl, fO uw id (ws.map gz), rF, fun i d o h1 h2 => ?_, ?_, ?_⟩
 ·obtain ⟨hd, e⟩ := wW h1 h2
  exact ⟨_, rfl, uw d, congrArg D.bl (by cases d <;> rfl), rG (R := fun k => eD 0 _ k) e ⟨_, rfl, rfl⟩⟩
 ·rw [List.length_map, hl]; exact Nat.lt_of_le_of_lt p.b9 (by decide)
 ·rw [rH, m5]
  generalize ws.filterMap id = ks at q hgood hlen
  cases ks with
  | nil =>
   refine ⟨_, rfl, _, rfl, fun i δ => ∃ x5, δ = [some (p.d A), some (.dK kvs), some (.lst (ws.map gz)), some (ay pl), some (.lst []), x5], ⟨none, rfl⟩, fun i dd δ hdd => by simp at hdd, ?_⟩
   rintro δ ⟨x5, rfl⟩
   exact ⟨_, rfl, _, _, rfl, rfl, _, rfl, aT q⟩
  | cons k r =>
   have hk := hgood k List.mem_cons_self
   have at0 : L2.eo ((k :: r).map bD) 0 = some (bD k) := ic (i := 0) rfl
   refine ⟨_, rfl, _, rfl, fun i δ => (∃ x5, δ = [some (p.d A), some (.dK kvs), some (.lst (ws.map gz)), some (ay pl), some (.lst ((k :: r).map bD)), x5]) /\ ∀ (m : Nat) (b : aa), m < i -> (k :: r)[m]? = some b -> b = k, ⟨⟨none, rfl⟩, fun m b hm => absurd hm (by omega)⟩, ?_, ?_⟩
   ·rintro i dd δ hdd ⟨⟨x5, rfl⟩, hall⟩
    rw [List.getElem?_map] at hdd
    cases hb : (k :: r)[i]? with
    | none => rw [hb] at hdd; cases hdd
    | some b =>
     rw [hb] at hdd
     have e : bD b = dd := by simpa using hdd
     subst e
     have hgb := hgood b (List.mem_of_getElem? hb)
     refine ⟨_, rfl, _, rfl, bD k, at0, eqB hgb hk ⟨_, rfl, ?_⟩⟩
     cases hbk : decide (b = k) with
     | true =>
      refine aT ⟨⟨_, rfl⟩, fun m x hm hx => ?_⟩
      by_cases hmi : m = i
      ·subst hmi
       rw [hb] at hx
       cases hx
       exact of_decide_eq_true hbk
      ·exact hall m x (by omega) hx
     | false =>
      refine aZ ⟨_, rfl, _, rfl, bD k, at0, _, rfl, rfl, ?_⟩
      have ef : (k :: r).find? (fun b => !decide (b = k)) = some b := iL (fun m x hm hx => by rw [hall m x hm hx]; simp) hb (by rw [hbk]; rfl)
      have em : kP pl (k :: r) = .error (pl, k, b) := by unfold kP; dsimp only; rw [ef]
      rw [em] at q
      exact q
   ·rintro δ ⟨⟨x5, rfl⟩, hall⟩
    have ef : (k :: r).find? (fun b => !decide (b = k)) = none := find_none fun m x hx => by
     rw [hall m x (by rw [List.length_map]; exact (List.getElem?_eq_some_iff.mp hx).1) hx]
     simp
    have em : kP pl (k :: r) = .ok (some k) := by unfold kP; dsimp only; rw [ef]
    rw [em] at q
    refine ⟨_, rfl, _, _, rfl, rfl, true, congrArg D.bl ?_, aZ ⟨_, rfl, bD k, at0, q⟩⟩
    rw [List.length_map, List.length_cons]
    exact decide_eq_true (by omega)
structure G6 (K : PySem.W.Frag) (A : bh) : Prop where
 given : Dm K A.given "beat_from" "Part.beat_from" aP ["self", "beats", "within", "place"]
 named : Dm K A.named "beat_from" "Named.beat_from" bg ["self", "beats", "within", "place"]
 turned : Dm K A.turned "beat_from" "Part.beat_from" aP ["self", "beats", "within", "place"]
 pair : Dm K A.pair "beat_from" "Part.beat_from" aP ["self", "beats", "within", "place"]
 choice : Dm K A.choice "beat_from" "Part.beat_from" aP ["self", "beats", "within", "place"]
 before : Dm K A.before "beat_from" "Part.beat_from" aP ["self", "beats", "within", "place"]
 led : Dm K A.led "beat_from" "Part.beat_from" aP ["self", "beats", "within", "place"]
 bP : Dm K A.bP "beat_from" "When.beat_from" bw ["self", "beats", "within", "place"]
 held : Dm K A.held "beat_from" "Held.beat_from" bu ["self", "beats", "within", "place"]
theorem Bj {i : Nat} (hi : i + 1 <= j) (hA : f_ K A) (d : G6 K A) (n_len : mg "len" = none) (c1 : kn P w K mg base j "need_beat" ["beat", "wanted", "place"] (yJ nb)) (ke : Dg P w K mg base i "NoBeat" nb ["row", "place", "one", "other"]) (bm : PySem.W.mroIn K nb (.type "BaseException") = some true) (bt : PySem.W.typeIn K (.ref nb) = some (.type "type")) :
  ∀ C, kg A C -> dJ P w K mg base (j + 1) C "beat_from" (pE A nb C) := fun C ⟨p, e⟩ => by
 subst e
 cases p
 ·exact eu hi (fun p h => by obtain ⟨_, rfl⟩ := qC hA h; rfl) d.given n_len ke bm bt
 ·exact vi hA d.named
 ·exact eu hi (fun p h => by obtain ⟨_, rfl⟩ := mx hA h; rfl) d.turned n_len ke bm bt
 ·exact eu hi (fun p h => by obtain ⟨_, _, _, rfl⟩ := tT hA h; rfl) d.pair n_len ke bm bt
 ·exact eu hi (fun p h => by obtain ⟨_, _, _, rfl⟩ := mw hA h; rfl) d.choice n_len ke bm bt
 ·exact eu hi (fun p h => by obtain ⟨_, _, rfl⟩ := mv hA h; rfl) d.before n_len ke bm bt
 ·exact eu hi (fun p h => by obtain ⟨_, _, rfl⟩ := wm hA h; rfl) d.led n_len ke bm bt
 ·exact yt hA d.bP c1
 ·exact yr hA d.held c1
end
def vK (A : bh) (nb : Addr) (n : Nat) (C : Addr) : kU := fun ds Q R => ∃ (p : Pt) (kvs : List (Key × D)) (bf : Str -> aa) (pl : List Int), ds = [p.d A, .dK kvs, ay pl] /\ p.cls A = C /\ p.depth <= n /\ p.ok /\ p.nk (ya kvs bf) /\ pl.length + n <= 100 /\ rl nb Q R (ig bf n p pl)
theorem EX {A : bh} {nb : Addr} {n : Nat} {C : Addr} : fk (vK A nb n C) := fun ds P P' R R' f g ⟨p, kvs, bf, pl, e, c, d, o, k, l, q⟩ => ⟨p, kvs, bf, pl, e, c, d, o, k, l, xE f g q⟩
theorem qO : rh "beat_by" := by unfold rh; decide +kernel
theorem Cd : rh "beat_from" := by unfold rh; decide +kernel
def GW (nb : Addr) (Q : D -> Prop) (R : XR) (acc : List D) : Except qp (List (Option aa)) -> Prop
 | .ok ws => Q (.lst (acc ++ ws.map gz))
 | .error e => R nb (pZ e)
theorem pk {A : bh} {nb : Addr} {n : Nat} {R : XR} {Q : D -> Prop} {kvs : List (Key × D)} {bf : Str -> aa} {pl : List Int} (hl : pl.length + (n + 1) <= 100) : ∀ (ps : List Pt) (i : Nat) (acc : List D), (∀ q ∈ ps, q.depth <= n /\ q.ok /\ q.nk (ya kvs bf)) -> GW nb Q R acc (fH (ig bf n) pl i ps) ->
  rJ DR (yX (fun _ => R) (kg A) "beat_by" (vK A nb n) (eD 1) (cB (eD 2) (cB (yT (eD 3) (sS (cB (eD 0) f9))) f9))) [some (.dK kvs), some (ay pl)] (yf i (ps.map (Pt.d A))) acc Q
 | [], i, acc, _, h => by
  have h' : Q (.lst (acc ++ [])) := h
  rw [List.append_nil] at h'
  exact h'
 | p :: ps, i, acc, hp, h => by
  obtain ⟨hd, ho, hn⟩ := hp p List.mem_cons_self
  obtain ⟨gs, e1, e2⟩ := jI A qO p
  refine ⟨_, _, rfl, fun _ => ?_, fun z => by cases z⟩
  refine ⟨_, rfl, p.cls A, gs, e1, e2, ⟨p, rfl⟩, _, rfl, _, rfl, _, rfl, (show 1 <= sizeLine by decide), ?_, p, kvs, bf, pl ++ [(i : Int)], ?_, rfl, hd, ho, hn, ?_, ?_⟩
  ·rw [List.length_map]
   exact Nat.le_trans (show pl.length + 1 <= 101 by omega) (by decide)
  ·rw [lR]
  ·rw [List.length_append, List.length_singleton]; omega
  ·rw [g7] at h
   cases h1 : ig bf n p (pl ++ [(i : Int)]) with
   | error e => rw [h1] at h; exact h
   | ok b =>
    rw [h1] at h
    refine pk hl ps (i + 1) (acc ++ [gz b]) (fun q hq => hp q (List.mem_cons_of_mem _ hq)) ?_
    cases h2 : fH (ig bf n) pl (i + 1) ps with
    | error e => simp only [h2] at h; exact h
    | ok bs =>
     simp only [h2] at h
     show Q (.lst (acc ++ [gz b] ++ bs.map gz))
     rw [List.append_assoc]
     exact h
section
seal wpAny
variable {P : Program} {w : World} {K : PySem.W.Frag} {mg : Str -> Option Value} {base : Heap} {A : bh} {n j : Nat} {nb : Addr}
theorem yq (d : ∀ C, kg A C -> Dm K C "beat_by" "Part.beat_by" aW ["self", "beats", "place"]) (n_enumerate : mg "enumerate" = none) (m_inner : MP P w K mg base A j "inner" (n + 1) (cF A))
  (mx_beat_from : ∀ C, kg A C -> dJ P w K mg base j C "beat_from" (pE A nb C)) (mx_beat_by : ∀ C, kg A C -> dJ P w K mg base j C "beat_by" (vK A nb n C)) : ∀ C, kg A C -> dJ P w K mg base (j + 1) C "beat_by" (vK A nb (n + 1) C) := by
 intro C hC
 refine (d C hC).qx fu EX (fun ds Q R ⟨p, kvs, bf, pl, e, _⟩ => by rw [e]; rfl) (fun f cdv A outer s H E R hr hx => have hu := hr.units; have hh := hr.hd; have sc := fu
  (aH (DF (i := 3) rfl rfl hx sc.nd rfl (Or.inl rfl) (x := "at") (y := "part") (caps := [1, 2]) (cn := ["beats", "place"]) (cl := [("place", s.heap.objs.size + 2), ("beats", s.heap.objs.size + 1)]) (vw (by rfl) (by rfl) (by decide +kernel) (ny ["place", "beats"] rfl (by decide +kernel)) (by decide +kernel) (cU (by rfl) (cU (by rfl) jh)) (.cons ⟨rfl, .inl rfl, rfl⟩ (.cons ⟨rfl, .inl rfl, rfl⟩ .nil))) rfl (zS (by rfl) n_enumerate (aA (ip m_inner hr (by omega) (dv 0)) aD)) (fun C fp s₂ H₂ => xh rfl (lO (bS (i := 0) (show (["at", "part", "beats", "place"] : List Str).Nodup by decide +kernel) rfl (Or.inl rfl) (.inr rfl)) (lO (bS (i := 1) (show (["at", "part", "beats", "place"] : List Str).Nodup by decide +kernel) rfl (Or.inl rfl) (.inr rfl)) t6))) (fun C fp s₂ H₂ => gh) (fun C fp s₂ H₂ => (Bw vf mx_beat_by hr (by omega) (dv 1) (aA (dv 2) (aA (bo (dv 3) (aU (aA (dv 0) aD))) aD)))))
 (aF (aN (Bw hx mx_beat_from hr (by omega) (dv 0) (aA (dv 1) (aA (dv 3) (aA (dv 2) aD)))))))) ?_
 rintro ds Q R ⟨p, kvs, bf, pl, rfl, hc, hd, ho, hn, hl, q⟩
 refine eA eE jq ⟨_, rfl, rfl⟩ hd ⟨p.inner.map (Pt.d A), rfl, ?_, pk hl p.inner 0 [] (fun q hq => ⟨p.fA hq hd, Pt.xR hq ho, Pt.qN hq hn⟩) ?_⟩
 ·rw [iu, List.length_map]; exact Nat.lt_of_le_of_lt p.b9 (by decide)
 ·have gs := jC (f := ig bf n) (pl := pl) (i := 0) (ps := p.inner) fun q hq pl => jB (n := n) (Pt.qN hq hn)
  unfold ig at q
  cases h1 : fH (ig bf n) pl 0 p.inner with
  | error e => rw [h1] at q; exact q
  | ok ws =>
   rw [h1] at q
   have hbl := qe h1
   show _
   obtain ⟨fs, e1, e2⟩ := jI A Cd p
   exact ⟨_, rfl, p.cls A, fs, e1, e2, ⟨p, rfl⟩, _, rfl, _, rfl, _, rfl, p, kvs, bf, ws, pl, rfl, rfl, ho, hn, hbl, gs.1 ws h1, q⟩
theorem Dm.Cc {C : Addr} {m qual : Str} {st : Stmt} {ps : List Str} {sx : kU} (d : Dm K C m qual st ps) (ms : fk sx) (h : ∀ ds Q R, ¬ sx ds Q R) : dJ P w K mg base j C m sx := by
 obtain ⟨f, fd, F, M, c, b⟩ := d.ex
 exact ⟨⟨f, fd, ps, c, M, ⟨fun vs H Q E ⟨ds, _, q⟩ => (h _ _ _ q).elim, fun A outer s H args us vs Q E _ _ _ _ ⟨ds, _, q⟩ => (h _ _ _ q).elim⟩, b⟩, ms⟩
theorem Hn {C : Addr} {m : Str} {sx : kU} {k : Nat} (c : dJ P w K mg base j C m sx) (h : j <= k) : dJ P w K mg base k C m sx := ⟨let ⟨f, fd, ps, cl, M, F, b⟩ := c.ex; ⟨f, fd, ps, cl, M, F.mono h, b⟩, c.ms⟩
theorem vh (d : ∀ C, kg A C -> Dm K C "beat_by" "Part.beat_by" aW ["self", "beats", "place"]) (n_enumerate : mg "enumerate" = none) (m_inner : ∀ n, MP P w K mg base A j "inner" n (cF A))
  (m_bf : ∀ C, kg A C -> dJ P w K mg base j C "beat_from" (pE A nb C)) : ∀ n, ∀ C, kg A C -> dJ P w K mg base (j + n) C "beat_by" (vK A nb n C)
 | 0 => fun C hC => Dm.Cc (d C hC) EX fun ds Q R ⟨p, _, _, _, _, _, h, _⟩ => absurd p.gr (by omega)
 | n + 1 => yq (j := j + n) d n_enumerate (fun C hC => (m_inner (n + 1) C hC).up (by omega)) (fun C hC => Hn (m_bf C hC) (by omega)) (vh d n_enumerate m_inner m_bf n)
end
def Pt.word : Pt -> Str
 | .given _ => "given" | .named _ => "named" | .turned _ => "not" | .pair g _ _ => g | .choice _ _ _ => "if"
 | .before _ _ => "before" | .led _ _ => "then" | .bP _ _ => "when" | .held _ _ _ => "held"
def Pt.rest : Pt -> List D
 | .given v => [v] | .named s => [.str s] | .turned p => [p.told] | .pair _ a b => [a.told, b.told] | .choice t a b => [t.told, a.told, b.told]
 | .before p f => [p.told, f] | .led h r => [h.told, r.told] | .bP p s => [p.told, .str s] | .held p s f => [p.told, .str s, f]
theorem Pt.pF (p : Pt) : p.told = .tup (.str p.word :: p.rest) := by cases p <;> rfl
def sL : D -> Bool
 | .tup _ => true
 | _ => false
theorem d_ (p : Pt) : sL p.told = true := by rw [p.pF]; rfl
theorem zZ {d : D} (h : (jH d).isSome = true) : rQ "tuple" d = some (sL d) := by
 cases d <;> first | rfl | cases h
theorem Ft (x : D) (xs : List D) : HT.cA (x :: xs).length 0 (some 1) = 1 /\ DC.cutD (x :: xs) (some 1) none = xs := by
 have e : HT.cA (x :: xs).length 0 (some 1) = 1 := E_ x xs
 refine ⟨e, ?_⟩
 unfold DC.cutD
 rw [e]
 show List.take ((x :: xs).length - 1) xs = xs
 rw [List.length_cons, Nat.add_sub_cancel, List.take_length]
theorem lj {v : D} (h : isVal v) : (jH v).isSome = true /\ sL v = false := by rcases h with ⟨b, rfl⟩ | ⟨i, rfl, _⟩ <;> exact ⟨rfl, rfl⟩
theorem fS {v : D} (h : cH v) : (jH v).isSome = true /\ sL v = false := by
 rcases h with rfl | h
 ·exact ⟨rfl, rfl⟩
 ·exact lj h
theorem cY (p : Pt) : (jH p.told).isSome = true := by rw [p.pF]; rfl
theorem vD {p : Pt} (ho : p.ok) : ∀ d ∈ p.rest, (jH d).isSome = true := by
 intro d hd
 cases p <;> simp only [Pt.rest, Pt.ok, List.mem_cons, List.not_mem_nil, or_false] at hd ho
 case given => subst hd; exact (lj ho).1
 case named => subst hd; rfl
 case turned => subst hd; exact cY _
 case pair => rcases hd with rfl | rfl <;> exact cY _
 case choice => rcases hd with rfl | rfl | rfl <;> exact cY _
 case before => rcases hd with rfl | rfl; exact cY _; exact (fS ho.2).1
 case led => rcases hd with rfl | rfl <;> exact cY _
 case bP => rcases hd with rfl | rfl; exact cY _; rfl
 case held => rcases hd with rfl | rfl | rfl; exact cY _; rfl; exact (fS ho.2.2).1
theorem r_ {p : Pt} (ho : p.ok) : (p.rest.filter sL).map id = p.inner.map Pt.told := by
 have s : ∀ s : Str, sL (.str s) = false := fun _ => rfl
 cases p <;> simp only [Pt.rest, Pt.inner, Pt.ok] at ho ⊢
 case given => simp [(lj ho).2]
 case named => simp [s]
 case turned => simp [d_]
 case pair => simp [d_]
 case choice => simp [d_]
 case before => simp [d_, (fS ho.2).2]
 case led => simp [d_]
 case bP => simp [d_, s]
 case held => simp [d_, s, (fS ho.2.2).2]
theorem xw (p : Pt) : p.rest.length <= 3 := by cases p <;> simp [Pt.rest]
theorem kK : bootBuiltins "ValueError" = some (.type "ValueError") := by decide +kernel
def Pt.leaf : Pt -> Bool
 | .given _ => true
 | .named _ => true
 | _ => false
def resB : Except qp (Option aa) -> D
 | .ok b => .tup [gz b, .aV]
 | .error e => .tup [.aV, .tup [ay e.1, bD e.2.1, bD e.2.2]]
def yC (n : Nat) : cg := fun ds Q => ∃ (p : Pt) (kvs : List (Key × D)) (bf : Str -> aa) (pl : List Int), ds = [p.told, .dK kvs, ay pl] /\ p.depth <= n /\ p.ok /\ p.nk (ya kvs bf) /\ pl.length + n <= 100 /\ Q (resB (ig bf n p pl))
theorem GC {n : Nat} : bU (yC n) := fun ds P P' f ⟨p, kvs, bf, pl, e, d, o, k, l, q⟩ => ⟨p, kvs, bf, pl, e, d, o, k, l, f _ q⟩
theorem pA {g : Str} (h : g ∈ cq) : decide (g = "given") = false /\ decide (g = "named") = false /\ inD (.str g) [.str "when", .str "held"] = false := by
 simp only [cq, List.mem_cons, List.not_mem_nil, or_false] at h
 rcases h with rfl | rfl | rfl | rfl | rfl | rfl | rfl | rfl <;> exact ⟨by decide +kernel, by decide +kernel, by decide +kernel⟩
theorem A3 {p : Pt} (h : p.leaf = false) (ho : p.ok) : decide (p.word = "given") = false /\ decide (p.word = "named") = false := by
 cases p with
 | given v => cases h
 | named s => cases h
 | pair g x y => exact ⟨(pA ho.1).1, (pA ho.1).2.1⟩
 | turned x => exact ⟨(show decide (("not" : Str) = "given") = false by decide +kernel), (show decide (("not" : Str) = "named") = false by decide +kernel)⟩
 | choice x y z => exact ⟨(show decide (("if" : Str) = "given") = false by decide +kernel), (show decide (("if" : Str) = "named") = false by decide +kernel)⟩
 | before x f => exact ⟨(show decide (("before" : Str) = "given") = false by decide +kernel), (show decide (("before" : Str) = "named") = false by decide +kernel)⟩
 | led x y => exact ⟨(show decide (("then" : Str) = "given") = false by decide +kernel), (show decide (("then" : Str) = "named") = false by decide +kernel)⟩
 | bP x s => exact ⟨(show decide (("when" : Str) = "given") = false by decide +kernel), (show decide (("when" : Str) = "named") = false by decide +kernel)⟩
 | held x s f => exact ⟨(show decide (("held" : Str) = "given") = false by decide +kernel), (show decide (("held" : Str) = "named") = false by decide +kernel)⟩
theorem sT {p : Pt} (h : p.leaf = false) (hp : p.oi = true) (ho : p.ok) : inD (.str p.word) [.str "when", .str "held"] = false := by
 cases p with
 | given v => cases h
 | named s => cases h
 | pair g x y => exact (pA ho.1).2.2
 | turned x => exact (show inD (.str "not") [.str "when", .str "held"] = false by decide +kernel)
 | choice x y z => exact (show inD (.str "if") [.str "when", .str "held"] = false by decide +kernel)
 | before x f => exact (show inD (.str "before") [.str "when", .str "held"] = false by decide +kernel)
 | led x y => exact (show inD (.str "then") [.str "when", .str "held"] = false by decide +kernel)
 | bP x s => cases hp
 | held x s f => cases hp
theorem yY {a : Addr} {ds : List D} {μ : Mu} (h : μ.lookup a = some (.lst ds)) : b_ μ (.adr a) = .lst ds := by simp [b_, MD.d, h]
def ql (ws : List (Option aa)) : Except qp (List (Option aa)) -> Except qp (List (Option aa))
 | .error e => .error e
 | .ok r => .ok (ws ++ r)
section
seal wpAny
variable {P : Program} {w : World} {K : PySem.W.Frag} {mg : Str -> Option Value} {base : Heap} {A : bh} {n j : Nat}
theorem zl (d : Df K mg "_law_beat" eG ["_law_told_here", "_law_beats", "_law_place"]) (n_isinstance : mg "isinstance" = none) (n_int : mg "int" = none) (n_tuple : mg "tuple" = none) (n_enumerate : mg "enumerate" = none)
  (c__law_beat : bN P w K mg base j "_law_beat" ["_law_told_here", "_law_beats", "_law_place"] (yC n)) :
  bN P w K mg base (j + 1) "_law_beat" ["_law_told_here", "_law_beats", "_law_place"] (yC (n + 1)) := by
 refine d.Fs jN GC (fun ds Q ⟨p, kvs, bf, pl, e, _⟩ => by rw [e]; rfl) (fun f cdv A outer s H E hr => have hu := hr.units; have hh := hr.hd; have sc := jN
  (b4 (tm (cu hu (aR (dv 0) aB (fun _ _ => rfl)) aj) (gN (aF (aN (aU (eT (by rfl)))))) oU)
 (b4 (tm (cu hu (aR (dv 0) aB (fun _ _ => rfl)) aj) (gN (aF (aN (aU (aA (kx hu (dv 1) (aR (dv 0) aB (fun _ _ => rfl)) (fun _ _ => rfl)) (aA b8 aD)))))) oU)
 (b4 (z4 (i := 3) sc.nd rfl (Or.inl rfl) aD)
 (b4 (xK PassesOwn.never rfl (CB (by rfl) n_enumerate (aA (uP (x := "_law_one") (caps := []) (cn := []) (cl := []) (j1 (by rfl) (by rfl) (by decide +kernel) (by decide +kernel) (by decide +kernel)) rfl (gJ (kW (dv 0) (lL aB) rj)) (fun C fp s₂ H₂ => bS (i := 0) (show (["_law_one"] : List Str).Nodup by decide +kernel) rfl (Or.inl rfl) (.inr rfl)) (fun C fp s₂ H₂ => (sJ (gf (um (by rfl) n_isinstance (by rfl) n_tuple (dv 0))))) (fun C fp s₂ H₂ => (dv 0))) aD)) (EC (n := 2) rfl (tR (iN (i := 6) sc.nd rfl (Or.inl rfl)) (tR (iN (i := 7) sc.nd rfl (Or.inl rfl)) B9))) (b4 (ki (ak (i := 8) sc.nd rfl (Or.inl rfl) (aM c__law_beat hr (by omega) (by rfl) (aA (dv 7) (aA (dv 1) (aA (bo (dv 2) (aU (aA (dv 6) aD))) aD))))))
 (b4 (tm (jb (aR (dv 8) aB (fun _ _ => rfl)) b8) (gN (aF (aN (dv 8)))) oU)
 (rg (uu (i := 3) rfl (Or.inl rfl) (aR (dv 8) aB (fun _ _ => rfl)))))))
 (qM (gN (aH (Aj (i := 4) sc.nd rfl (Or.inl rfl) (x := "_law_beat_here") (caps := []) (cn := []) (cl := []) (j1 (by rfl) (by rfl) (by decide +kernel) (by decide +kernel) (by decide +kernel)) rfl (gJ (dv 3)) (fun C fp s₂ H₂ => bS (i := 0) (show (["_law_beat_here"] : List Str).Nodup by decide +kernel) rfl (Or.inl rfl) (.inr rfl)) (fun C fp s₂ H₂ => (sJ (jb (dv 0) b8))) (fun C fp s₂ H₂ => (dv 0)))
 (aH (bO (FL (aR (dv 0) aB (fun _ _ => rfl)) (aU (eT (by rfl))) (by rfl)) (aH (ak (i := 9) sc.nd rfl (Or.inl rfl) (kx hu (dv 1) (aR (dv 0) aB (fun _ _ => rfl)) (fun _ _ => rfl)))
 (aH (ak (i := 10) sc.nd rfl (Or.inl rfl) (aR (bY (aA (dv 9) (aA (bo (dv 9) (aU (aA (aR (dv 0) aB (fun _ _ => rfl)) aD))) aD))) (ik (by rfl) n_int (aA (q9 hu (aR (dv 0) aB (fun _ _ => rfl)) aj) aD)) (fun _ _ => rfl)))
 (aH (bO (l_.td (w_and (sI hu (dv 4) (bY aD)) (lq (sI hu (aR (dv 4) aB (fun _ _ => rfl)) (dv 10))))) (aF (aN (aU (aA b8 (aA (aU (aA (dv 2) (aA (aR (dv 4) aB (fun _ _ => rfl)) (aA (dv 10) aD)))) aD))))) aX)
 (aF (aN (aU (aA (aR (bY (aA (bo (dv 9) (aU (aA (aR (dv 0) aB (fun _ _ => rfl)) aD))) (aA (dv 9) aD))) (ik (by rfl) n_int (aA (q9 hu (aR (dv 0) aB (fun _ _ => rfl)) aj) aD)) (fun _ _ => rfl)) (aA b8 aD)))))))) aX)
 (aH (t9 PassesOwn.never rfl (gJ (dv 4)) (iN (i := 5) sc.nd rfl (Or.inl rfl)) (aF (bO (sI hu (dv 5) (aR (dv 4) aB (fun _ _ => rfl))) (aF (aN (aU (aA b8 (aA (aU (aA (dv 2) (aA (aR (dv 4) aB (fun _ _ => rfl)) (aA (dv 5) aD)))) aD))))) aX)))
 (aF (aN (aU (aA (y9 (sI hu (dv 4) (bY aD)) (aR (dv 4) aB (fun _ _ => rfl)) b8) (aA b8 aD))))))))))))))) ?_
 rintro ds Q ⟨p, kvs, bf, pl, rfl, hd, ok, nk, hl, q⟩
 cases hlf : p.leaf with
 | true =>
  cases p with
  | given v => exact ⟨_, rfl, _, rfl, true, congrArg D.bl (by decide +kernel), aZ ⟨(show 2 <= sizeLine by decide), q⟩⟩
  | named s =>
   exact ⟨_, rfl, _, rfl, false, congrArg D.bl (by decide +kernel), aT ⟨_, rfl, _, rfl, true, congrArg D.bl (by decide +kernel), aZ ⟨_, rfl, _, rfl, _, rfl, kvs, .inr s, bD (bf s), rfl, rfl, nk.at_, (show 2 <= sizeLine by decide), q⟩⟩⟩
  | _ => cases hlf
 | false =>
  have hw := A3 hlf ok
  have hc := Ft (.str p.word) p.rest
  have et := p.pF
  have a0 : L2.eo (D.str p.word :: p.rest) 0 = some (.str p.word) := ic (i := 0) rfl
  rw [et]
  refine ⟨_, rfl, _, a0, false, congrArg D.bl hw.1, aT ⟨_, rfl, _, a0, false, congrArg D.bl hw.2, aT ⟨(show 0 <= sizeLine by decide), fun a _ => ?_⟩⟩⟩
  have fin : fH (ig bf n) pl 0 p.inner = ql [] (fH (ig bf n) pl 0 (p.inner.drop 0)) := by
   rw [List.drop_zero]
   cases fH (ig bf n) pl 0 p.inner <;> rfl
  refine ⟨_, rfl, _, rfl, fun z => by rw [hc.1] at z; exact absurd z.1 (by decide), p.rest, congrArg some hc.2, fO sL id p.rest, rF, fun i d o h1 h2 => ?_, ?_, ?_⟩
  ·obtain ⟨hd, e⟩ := wW h1 h2
   exact ⟨_, rfl, _, zZ (vD ok d hd), _, rfl, rG (R := fun k => eD 0 _ k) e ⟨_, rfl, rfl⟩⟩
  ·exact Nat.lt_of_le_of_lt (xw p) (by decide)
  ·rw [rH, r_ ok]
   refine ⟨_, rfl, fun i δ μ => ∃ (ws : List (Option aa)) (x6 x7 x8 : Option D), δ = [some (.tup (.str p.word :: p.rest)), some (.dK kvs), some (ay pl), some (.adr a), none, none, x6, x7, x8, none, none] /\ μ = [(a, .lst (ws.map gz))] /\ ws.length = i /\ fH (ig bf n) pl 0 p.inner = ql ws (fH (ig bf n) pl i (p.inner.drop i)), ⟨[], none, none, none, rfl, rfl, rfl, fin⟩, ?_, ?_⟩
   ·rintro i dd δ μ hdd ⟨ws, x6, x7, x8, rfl, rfl, hbl, hseq⟩
    rw [kY, List.getElem?_map] at hdd
    cases hq : p.inner[i]? with
    | none => rw [hq] at hdd; cases hdd
    | some r =>
     rw [hq] at hdd
     have edd : D.tup [.int ((0 + i : Nat) : Int), r.told] = dd := by simpa using hdd
     subst edd
     have hr := List.mem_of_getElem? hq
     have ed : p.inner.drop i = r :: p.inner.drop (i + 1) := by
      have hi := List.getElem?_eq_some_iff.mp hq
      rw [List.drop_eq_getElem_cons hi.1, hi.2]
     rw [ed] at hseq
     have hi0 : ((0 + i : Nat) : Int) = (i : Int) := by omega
     rw [hi0]
     refine ⟨_, rfl, rfl, _, _, rfl, _, _, rfl, rfl, ?_⟩
     refine ⟨_, rfl, _, rfl, _, rfl, _, rfl, (show 1 <= sizeLine by decide), ?_, r, kvs, bf, pl ++ [(i : Int)], ?_, p.fA hr hd, Pt.xR hr ok, Pt.qN hr nk, ?_, ?_⟩
     ·rw [List.length_map]
      exact Nat.le_trans (show pl.length + 1 <= 101 by omega) (by decide)
     ·rw [lR]
     ·rw [List.length_append, List.length_singleton]; omega
     ·rw [g7] at hseq
      cases h1 : ig bf n r (pl ++ [(i : Int)]) with
      | error e =>
       rw [h1] at hseq
       refine ⟨_, rfl, _, rfl, true, rfl, aZ ⟨_, rfl, ?_⟩⟩
       have eq : ig bf (n + 1) p pl = .error e := by unfold ig; rw [hseq]; rfl
       rw [eq] at q
       exact q
      | ok b =>
       rw [h1] at hseq
       refine ⟨_, rfl, .aV, rfl, false, rfl, aT ⟨a, ws.map gz, rfl, (by simp [List.lookup]), ?_, _, rfl, gz b, rfl, ws ++ [b], _, _, _, rfl, ?_, ?_, ?_⟩⟩
       ·rw [List.length_map, hbl]
        have := p.b9
        have hi := (List.getElem?_eq_some_iff.mp hq).1
        exact Nat.lt_of_lt_of_le (show i < 4 by omega) (by decide)
       ·simp [oo]
       ·rw [List.length_append, hbl]; rfl
       ·rw [hseq]
        cases h2 : fH (ig bf n) pl (i + 1) (p.inner.drop (i + 1)) with
        | error e => rfl
        | ok rs =>
         show ql ws (.ok (b :: rs)) = ql (ws ++ [b]) (.ok rs)
         unfold ql
         simp
   ·rintro δ μ ⟨ws, x6, x7, x8, rfl, rfl, hbl, hseq⟩
    rw [iu, List.length_map] at hbl hseq
    rw [List.drop_length] at hseq
    have hseq' : fH (ig bf n) pl 0 p.inner = .ok ws := by
     rw [hseq]
     show Except.ok (ws ++ []) = Except.ok ws
     rw [List.append_nil]
    have gsq := jC (f := ig bf n) (pl := pl) (i := 0) (ps := p.inner) fun q hq pl => jB (n := n) (Pt.qN hq nk)
    have hgw := gsq.1 ws hseq'
    have hgood : ∀ b ∈ ws.filterMap id, bJ 10 b := fun b hb => by
     obtain ⟨u, hu, e⟩ := List.mem_filterMap.mp hb
     exact hgw u hu b e
    have eq : ig bf (n + 1) p pl = p.xW bf pl ws := by unfold ig; rw [hseq']
    rw [eq] at q
    have ev : fL [(a, .lst (ws.map gz))] [some (.tup (.str p.word :: p.rest)), some (.dK kvs), some (ay pl), some (.adr a), none, none, x6, x7, x8, none, none] = [some (.tup (.str p.word :: p.rest)), some (.dK kvs), some (ay pl), some (.lst (ws.map gz)), none, none, x6.map (b_ [(a, .lst (ws.map gz))]), x7.map (b_ [(a, .lst (ws.map gz))]), x8.map (b_ [(a, .lst (ws.map gz))]), none, none] := by
     unfold fL
     simp only [List.map_cons, List.map_nil, Option.map_some, Option.map_none]
     rw [yY (ds := ws.map gz) (by simp [List.lookup])]
     rfl
    unfold tY
    dsimp only
    rw [ev]
    generalize x6.map (b_ [(a, .lst (ws.map gz))]) = y6
    generalize x7.map (b_ [(a, .lst (ws.map gz))]) = y7
    generalize x8.map (b_ [(a, .lst (ws.map gz))]) = y8
    obtain ⟨y5, hy5⟩ : ∃ y5 : Option D, y5 = none := ⟨none, rfl⟩
    refine ⟨_, rfl, _, rfl, fO uw id (ws.map gz), rF, fun i d o h1 h2 => ?_, ?_, ?_⟩
    ·obtain ⟨hd, e⟩ := wW h1 h2
     exact ⟨_, rfl, uw d, congrArg D.bl (by cases d <;> rfl), rG (R := fun k => eD 0 _ k) e ⟨_, rfl, rfl⟩⟩
    ·rw [List.length_map, hbl]; exact Nat.lt_of_le_of_lt p.b9 (by decide)
    rw [rH, m5]
    by_cases hpl : p.oi = true
    ·rw [m_ hpl] at q
     refine ⟨_, rfl, _, a0, (show 2 <= sizeLine by decide), rfl, (by decide), false, congrArg D.bl (sT hlf hpl ok), aT ?_⟩
     generalize ws.filterMap id = ks at q hgood
     cases ks with
     | nil =>
      refine ⟨_, rfl, _, rfl, fun i δ => ∃ x5, δ = [some (.tup (.str p.word :: p.rest)), some (.dK kvs), some (ay pl), some (.lst (ws.map gz)), some (.lst []), x5, y6, y7, y8, none, none], ⟨none, rfl⟩, fun i dd δ hdd => by simp at hdd, ?_⟩
      rintro δ ⟨x5, rfl⟩
      exact ⟨_, rfl, (show 0 <= sizeLine by decide), ml (bs := []) (k := 10) hgood ⟨false, rfl, aT ⟨(show 2 <= sizeLine by decide), q⟩⟩⟩
     | cons k r =>
      have hk := hgood k List.mem_cons_self
      have at0 : L2.eo ((k :: r).map bD) 0 = some (bD k) := ic (i := 0) rfl
      refine ⟨_, rfl, _, rfl, fun i δ => (∃ x5, δ = [some (.tup (.str p.word :: p.rest)), some (.dK kvs), some (ay pl), some (.lst (ws.map gz)), some (.lst ((k :: r).map bD)), x5, y6, y7, y8, none, none]) /\ ∀ (m : Nat) (b : aa), m < i -> (k :: r)[m]? = some b -> b = k, ⟨⟨none, rfl⟩, fun m b hm => absurd hm (by omega)⟩, ?_, ?_⟩
      ·rintro i dd δ hdd ⟨⟨x5, rfl⟩, hall⟩
       rw [List.getElem?_map] at hdd
       cases hb : (k :: r)[i]? with
       | none => rw [hb] at hdd; cases hdd
       | some b =>
        rw [hb] at hdd
        have e : bD b = dd := by simpa using hdd
        subst e
        have hgb := hgood b (List.mem_of_getElem? hb)
        refine ⟨_, rfl, _, rfl, bD k, at0, eqB hgb hk ⟨_, rfl, ?_⟩⟩
        cases hbk : decide (b = k) with
        | true =>
         refine aT ⟨⟨_, rfl⟩, fun m x hm hx => ?_⟩
         by_cases hmi : m = i
         ·subst hmi
          rw [hb] at hx
          cases hx
          exact of_decide_eq_true hbk
         ·exact hall m x (by omega) hx
        | false =>
         have ef : (k :: r).find? (fun b => !decide (b = k)) = some b := iL (fun m x hm hx => by rw [hall m x hm hx]; simp) hb (by rw [hbk]; rfl)
         have em : kP pl (k :: r) = .error (pl, k, b) := by unfold kP; dsimp only; rw [ef]
         rw [em] at q
         exact aZ ⟨_, rfl, _, rfl, bD k, at0, _, rfl, (show 3 <= sizeLine by decide), (show 2 <= sizeLine by decide), q⟩
      ·rintro δ ⟨⟨x5, rfl⟩, hall⟩
       have ef : (k :: r).find? (fun b => !decide (b = k)) = none := find_none fun m x hx => by
        rw [hall m x (by rw [List.length_map]; exact (List.getElem?_eq_some_iff.mp hx).1) hx]
        simp
       have em : kP pl (k :: r) = .ok (some k) := by unfold kP; dsimp only; rw [ef]
       rw [em] at q
       exact ⟨_, rfl, (show 0 <= sizeLine by decide), ml (k := 10) hgood ⟨true, rfl, aZ ⟨_, rfl, bD k, at0, (show 2 <= sizeLine by decide), q⟩⟩⟩
    clear hc et a0 hw ev eq hseq hseq' fin
    cases p with
    | given v => cases hlf
    | named s => cases hlf
    | turned x => exact absurd rfl hpl
    | pair g x y => exact absurd rfl hpl
    | choice x y z => exact absurd rfl hpl
    | before x f => exact absurd rfl hpl
    | led x y => exact absurd rfl hpl
    | bP x s =>
     obtain ⟨u, rfl⟩ : ∃ u, ws = [u] := by
      match ws, hbl with
      | [u], _ => exact ⟨u, rfl⟩
     have hi : decide (("when" : Str) = "held") = false := by decide +kernel
     have gb := nk.2.gd
     have gs := nk.2.gd.snoc nk.2.st
     have e1 : L2.eo [bD (bf s), D.tup ((bf s).map D.str ++ [.str s])] (if decide (("when" : Str) = "held") = true then 1 else 0) = some (bD (bf s)) := by rw [hi, gj]; rfl
     have e2 : L2.eo [D.tup ((bf s).map D.str ++ [.str s]), bD (bf s)] (if decide (("when" : Str) = "held") = true then 1 else 0) = some (bD (bf s ++ [s])) := by rw [hi, gj]; rfl
     have hlen : ((bf s).map D.str).length + 1 <= sizeLine := by rw [List.length_map]; exact Nat.le_trans (Nat.add_le_add_right gb.len 1) (by decide)
     have q' : Q (resB (cT pl u (bf s) (bf s ++ [s]))) := q
     have ret : Q (.tup [bD (bf s ++ [s]), .aV]) -> sS (cB (DX (DY (cB (yT (eD 9) (sS (cB (DX (eD 0) (vC (.int 2))) f9))) (cB (eD 9) f9))) (vB qd (cB (vEq (DX (eD 0) (vC (.int 0))) (vC (.str "held"))) f9))) (cB (vC .aV) f9))
       [some (.tup (.str (Pt.bP x s).word :: (Pt.bP x s).rest)), some (.dK kvs), some (ay pl), some (.lst ([u].map gz)), some (.lst (([u].filterMap id).map bD)), y5, y6, y7, y8, some (bD (bf s)), some (bD (bf s))] Q := fun k =>
      ⟨_, rfl, _, rfl, _, rfl, (show 1 <= sizeLine by decide), hlen, _, rfl, (show 2 <= sizeLine by decide), _, rfl, _, rfl, .inr ⟨_, rfl, _, e2, (show 2 <= sizeLine by decide), k⟩⟩
     refine ⟨_, rfl, _, rfl, (show 2 <= sizeLine by decide), rfl, (by decide), true, congrArg D.bl (show inD (.str "when") [.str "when", .str "held"] = true by decide +kernel), aZ ?_⟩
     refine ⟨_, rfl, _, rfl, _, rfl, kvs, .inr s, bD (bf s), rfl, rfl, nk.2.at_, ?_⟩
     refine ⟨_, rfl, _, rfl, _, rfl, _, rfl, (show 1 <= sizeLine by decide), hlen, (show 2 <= sizeLine by decide), _, rfl, _, rfl, .inr ⟨_, rfl, _, e1, ?_⟩⟩
     cases u with
     | none =>
      exact ⟨_, rfl, (show 0 <= sizeLine by decide), ml (bs := []) (k := 10) (fun b hb => nomatch hb) ⟨false, rfl, aT (aT (ret q'))⟩⟩
     | some b =>
      have hgb : bJ 10 b := hgood b (by simp)
      refine ⟨_, rfl, (show 0 <= sizeLine by decide), ml (bs := [b]) (k := 10) (fun x hx => by rw [List.mem_singleton.mp hx]; exact hgb) ⟨true, rfl, aZ ⟨_, rfl, bD b, rfl, _, rfl, eqB hgb (gb) ⟨_, rfl, ?_⟩⟩⟩⟩
      unfold cT at q'
      dsimp only at q'
      cases hb : decide (b = bf s) with
      | true => rw [hb] at q'; exact aT (ret q')
      | false => rw [hb] at q'; exact aZ ⟨_, rfl, _, rfl, bD b, rfl, _, rfl, (show 3 <= sizeLine by decide), (show 2 <= sizeLine by decide), q'⟩
    | held x s f =>
     obtain ⟨u, rfl⟩ : ∃ u, ws = [u] := by
      match ws, hbl with
      | [u], _ => exact ⟨u, rfl⟩
     have hi : decide (("held" : Str) = "held") = true := by decide +kernel
     have gb := nk.2.gd
     have gs := nk.2.gd.snoc nk.2.st
     have e1 : L2.eo [bD (bf s), D.tup ((bf s).map D.str ++ [.str s])] (if decide (("held" : Str) = "held") = true then 1 else 0) = some (bD (bf s ++ [s])) := by rw [hi, gj]; rfl
     have e2 : L2.eo [D.tup ((bf s).map D.str ++ [.str s]), bD (bf s)] (if decide (("held" : Str) = "held") = true then 1 else 0) = some (bD (bf s)) := by rw [hi, gj]; rfl
     have hlen : ((bf s).map D.str).length + 1 <= sizeLine := by rw [List.length_map]; exact Nat.le_trans (Nat.add_le_add_right gb.len 1) (by decide)
     have q' : Q (resB (cT pl u (bf s ++ [s]) (bf s))) := q
     have ret : Q (.tup [bD (bf s), .aV]) -> sS (cB (DX (DY (cB (yT (eD 9) (sS (cB (DX (eD 0) (vC (.int 2))) f9))) (cB (eD 9) f9))) (vB qd (cB (vEq (DX (eD 0) (vC (.int 0))) (vC (.str "held"))) f9))) (cB (vC .aV) f9))
       [some (.tup (.str (Pt.held x s f).word :: (Pt.held x s f).rest)), some (.dK kvs), some (ay pl), some (.lst ([u].map gz)), some (.lst (([u].filterMap id).map bD)), y5, y6, y7, y8, some (bD (bf s)), some (bD (bf s ++ [s]))] Q := fun k =>
      ⟨_, rfl, _, rfl, _, rfl, (show 1 <= sizeLine by decide), hlen, _, rfl, (show 2 <= sizeLine by decide), _, rfl, _, rfl, .inr ⟨_, rfl, _, e2, (show 2 <= sizeLine by decide), k⟩⟩
     refine ⟨_, rfl, _, rfl, (show 2 <= sizeLine by decide), rfl, (by decide), true, congrArg D.bl (show inD (.str "held") [.str "when", .str "held"] = true by decide +kernel), aZ ?_⟩
     refine ⟨_, rfl, _, rfl, _, rfl, kvs, .inr s, bD (bf s), rfl, rfl, nk.2.at_, ?_⟩
     refine ⟨_, rfl, _, rfl, _, rfl, _, rfl, (show 1 <= sizeLine by decide), hlen, (show 2 <= sizeLine by decide), _, rfl, _, rfl, .inr ⟨_, rfl, _, e1, ?_⟩⟩
     cases u with
     | none =>
      exact ⟨_, rfl, (show 0 <= sizeLine by decide), ml (bs := []) (k := 10) (fun b hb => nomatch hb) ⟨false, rfl, aT (aT (ret q'))⟩⟩
     | some b =>
      have hgb : bJ 10 b := hgood b (by simp)
      refine ⟨_, rfl, (show 0 <= sizeLine by decide), ml (bs := [b]) (k := 10) (fun x hx => by rw [List.mem_singleton.mp hx]; exact hgb) ⟨true, rfl, aZ ⟨_, rfl, bD b, rfl, _, rfl, eqB hgb (gs) ⟨_, rfl, ?_⟩⟩⟩⟩
      unfold cT at q'
      dsimp only at q'
      cases hb : decide (b = bf s ++ [s]) with
      | true => rw [hb] at q'; exact aT (ret q')
      | false => rw [hb] at q'; exact aZ ⟨_, rfl, _, rfl, bD b, rfl, _, rfl, (show 3 <= sizeLine by decide), (show 2 <= sizeLine by decide), q'⟩
theorem w6 (d : Df K mg "_law_beat" eG ["_law_told_here", "_law_beats", "_law_place"]) (n_isinstance : mg "isinstance" = none) (n_int : mg "int" = none) (n_tuple : mg "tuple" = none) (n_enumerate : mg "enumerate" = none) : ∀ n, bN P w K mg base n "_law_beat" ["_law_told_here", "_law_beats", "_law_place"] (yC n)
 | 0 => Df.never d fun ds Q ⟨p, _, _, _, _, h, _⟩ => absurd p.gr (by omega)
 | n + 1 => zl (j := n) d n_isinstance n_int n_tuple n_enumerate (w6 d n_isinstance n_int n_tuple n_enumerate n)
end
structure G5 (K : PySem.W.Frag) (nb nk np : Addr) : Prop where
 ty : gB K nb
 two : PySem.W.kitAny K (.ref nb) [.ref nk, .ref np] = some false
 one : PySem.W.kitOne K (.ref nb) (.ref nb) = some true
 ve : PySem.W.kitOne K (.ref nb) (.type "ValueError") = some true
 pg : eP K nb
 hd : PySem.W.hasDictIn K nb = true
 f1 : PySem.W.findIn K (.ref nb) "row" = some none
 f2 : PySem.W.findIn K (.ref nb) "place" = some none
 f3 : PySem.W.findIn K (.ref nb) "one" = some none
 f4 : PySem.W.findIn K (.ref nb) "other" = some none
def DJ (A : bh) (n : Nat) : kU := fun ds Q _ => ∃ (p : Pt) (kvs : List (Key × D)) (bf : Str -> aa) (pl : List Int), ds = [p.d A, .dK kvs, ay pl] /\ p.depth <= n /\ p.ok /\ p.nk (ya kvs bf) /\ pl.length + n <= 100 /\ Q (resB (ig bf n p pl))
theorem GF {A : bh} {n : Nat} : fk (DJ A n) := fun ds P P' R R' f g ⟨p, kvs, bf, pl, e, d, o, k, l, q⟩ => ⟨p, kvs, bf, pl, e, d, o, k, l, f _ q⟩
section
seal wpAny
variable {P : Program} {w : World} {K : PySem.W.Frag} {mg : Str -> Option Value} {base : Heap} {A : bh} {n j : Nat} {nk nb np cR : Addr}
theorem Bo (d : Df K mg "_law_told" gR ["_law_part", "_law_beats", "_law_place"]) (i_RowError : mg "RowError" = some (.ref cR)) (hk : PySem.W.kitCls K (.ref nb) (.ref cR) = some true) (be_RowError : PySem.W.mroIn K cR (.type "BaseException") = some true)
  (n_isinstance : mg "isinstance" = none) (n_ValueError : mg "ValueError" = none) (i_NoKind : mg "NoKind" = some (.ref nk)) (i_NoPart : mg "NoPart" = some (.ref np)) (i_NoBeat : mg "NoBeat" = some (.ref nb)) (ex : G5 K nb nk np)
  (mx_beat_by : ∀ C, kg A C -> dJ P w K mg base j C "beat_by" (vK A nb n C)) : kn P w K mg base (j + 1) "_law_told" ["_law_part", "_law_beats", "_law_place"] (DJ A n) := by
 have hit_RowError : ∀ C, C = nb -> PySem.W.kitCls K (.ref C) (.ref cR) = some true := fun C e => e ▸ hk
 refine d.D0 jP GF (fun ds Q R ⟨p, kvs, bf, pl, e, _⟩ => by rw [e]; rfl) (fun f cdv A outer s H E R hr hx => have hu := hr.units; have hh := hr.hd; have sc := jP
  (zP (B6 (i := 3) rfl rfl rfl sc.nd rfl rfl (by rfl) i_RowError hit_RowError be_RowError (fun pins E' xk hx => (aF (aN (aU (aA (Bw hx mx_beat_by hr (by omega) (dv 0) (aA (dv 1) (aA (dv 2) aD))) (aA b8 aD))))))
 (fun ea => (aH (bO (l_.td (w_or (gf (y_ K rfl (dv 3) (by rfl) n_isinstance (by rfl) i_NoKind (by rfl) i_NoPart)) (w_or (lY (gf (zA K rfl (dv 3) (by rfl) n_isinstance (by rfl) i_NoBeat))) (kG (lY (gf (zB K rfl (dv 3) (by rfl) n_isinstance (by rfl) n_ValueError kK))))))) (aF (aN (aU (eT (by rfl))))) aX)
 (aF (aN (y9 (Gs (nZ K rfl (dv 3) (by rfl)) b8) (aU (aA b8 (aA (aU (aA (nZ K rfl (dv 3) (by rfl)) (aA (nZ K rfl (dv 3) (by rfl)) (aA (nZ K rfl (dv 3) (by rfl)) aD)))) aD))) (aU (eT (by rfl)))))))))
 (B5 aX))) ?_
 rintro ds Q R ⟨p, kvs, bf, pl, rfl, hd, ok, nk', hl, q⟩
 obtain ⟨gs, e1, e2⟩ := jI A qO p
 refine ⟨fun δ C (gs : List (Str × D)) => C = nb /\ δ = bB ["_law_part", "_law_beats", "_law_place", "e"] [p.d A, .dK kvs, ay pl] /\ ∃ e, gs = pZ e /\ ig bf n p pl = .error e, ?_, ?_⟩
 ·rintro δ C gs ⟨rfl, rfl, e, rfl, he⟩
  refine ⟨rfl, fun a => ?_⟩
  rw [he] at q
  refine ⟨_, rfl, a, _, _, false, rfl, ex.ty, ex.two, false, rfl, aT ⟨_, rfl, a, _, _, true, rfl, ex.ty, ex.one, true, rfl, aT ⟨_, rfl, a, _, _, true, rfl, ex.ty, ex.ve, true, rfl, aT ?_⟩⟩⟩
  exact ⟨_, rfl, a, _, _, .aV, rfl, ex.pg, ex.hd, ex.f1, rfl, true, rfl, aZ ⟨_, rfl, a, _, _, ay e.1, rfl, ex.pg, ex.hd, ex.f2, rfl, _, rfl, a, _, _, bD e.2.1, rfl, ex.pg, ex.hd, ex.f3, rfl, _, rfl, a, _, _, bD e.2.2, rfl, ex.pg, ex.hd, ex.f4, rfl, (show 3 <= sizeLine by decide), (show 2 <= sizeLine by decide), q⟩⟩
 ·refine ⟨_, rfl, p.cls A, gs, e1, e2, ⟨p, rfl⟩, _, rfl, _, rfl, p, kvs, bf, pl, rfl, rfl, hd, ok, nk', hl, ?_⟩
  cases h : ig bf n p pl with
  | ok b =>
   rw [h] at q
   exact ⟨(show 2 <= sizeLine by decide), q⟩
  | error e => exact ⟨rfl, rfl, e, rfl, rfl⟩
end
theorem Ar {t u : eB} {E : ia} {δ : SD} (I : SD -> Prop) (hI : ∀ δ', I δ' -> u E δ') (hA : ∀ N : SD -> Prop, (∀ δ', I δ' -> N δ') -> t { E with nx := N } δ) : C_ t u E δ := hA (u E) hI
def allB (kvs : List (Key × D)) : Prop := ∀ p ∈ kvs, ∃ b, p.2 = bD b /\ bJ 9 b
theorem zx {kvs : List (Key × D)} {k : Key} {v : D} {p : Key × D} (h : p ∈ d0 kvs k v) : p ∈ kvs \/ p.2 = v := by
 unfold d0 at h
 split at h
 ·obtain ⟨q, hq, rfl⟩ := List.mem_map.mp h
  by_cases e : q.1 = k
  ·rw [if_pos e]; exact .inr rfl
  ·rw [if_neg e]; exact .inl hq
 ·rcases List.mem_append.mp h with h | h
  ·exact .inl h
  ·rw [List.mem_singleton.mp h]; exact .inr rfl
theorem allB.put {kvs : List (Key × D)} {k : Key} (h : allB kvs) {b : aa} (hb : bJ 9 b) : allB (d0 kvs k (bD b)) := fun p hp => by
 rcases zx hp with hp | hp
 ·exact h p hp
 ·exact ⟨b, hp, hb⟩
theorem t8 (kvs : List (Key × D)) (k : Key) (v : D) : (d0 kvs k v).length <= kvs.length + 1 := by
 unfold d0
 split
 ·rw [List.length_map]; omega
 ·rw [List.length_append, List.length_singleton]; omega
theorem wa {kvs : List (Key × D)} {k : Key} {r : D} (h : mE kvs k = some r) : ∃ p ∈ kvs, p.2 = r := by
 unfold mE at h
 cases e : kvs.find? (fun kv => decide (kv.1 = k)) with
 | none => rw [e] at h; cases h
 | some p => rw [e] at h; exact ⟨p, List.mem_of_find?_eq_some e, by simpa using h⟩
def g9 (kvs : List (Key × D)) (x : Str) : Prop := (mE kvs (.inr x)).isSome = true
theorem j3 (kvs : List (Key × D)) (k : Key) : (mE kvs k).isSome = kvs.any fun kv => decide (kv.1 = k) := by
 unfold mE
 rw [Option.isSome_map]
 cases h : kvs.any fun kv => decide (kv.1 = k) with
 | true =>
  obtain ⟨p, hp, e⟩ := List.any_eq_true.mp h
  rw [List.find?_isSome]
  exact ⟨p, hp, e⟩
 | false =>
  cases h2 : (kvs.find? fun kv => decide (kv.1 = k)) with
  | none => rfl
  | some p =>
   have := List.find?_some h2
   have hm := List.mem_of_find?_eq_some h2
   have : (kvs.any fun kv => decide (kv.1 = k)) = true := List.any_eq_true.mpr ⟨p, hm, this⟩
   rw [h] at this
   cases this
theorem any_put (kvs : List (Key × D)) (k j : Key) (v : D) (h : j = k \/ (kvs.any fun kv => decide (kv.1 = j)) = true) : ((d0 kvs k v).any fun kv => decide (kv.1 = j)) = true := by
 unfold d0
 split
 ·rename_i hk
  have : (kvs.any fun kv => decide (kv.1 = j)) = true := by
   rcases h with h | h
   ·rw [h]; exact hk
   ·exact h
  obtain ⟨p, hp, e⟩ := List.any_eq_true.mp this
  refine List.any_eq_true.mpr ⟨if p.1 = k then (p.1, v) else p, List.mem_map.mpr ⟨p, hp, rfl⟩, ?_⟩
  split <;> exact e
 ·rw [List.any_append]
  rcases h with h | h
  ·rw [Bool.or_eq_true]
   refine .inr ?_
   subst h
   simp
  ·rw [h]; rfl
theorem g9.same (kvs : List (Key × D)) (x : Str) (v : D) : g9 (d0 kvs (.inr x) v) x := by
 unfold g9
 rw [j3]
 exact any_put _ _ _ _ (.inl rfl)
theorem g9.put {kvs : List (Key × D)} {x : Str} (h : g9 kvs x) (k : Key) (v : D) : g9 (d0 kvs k v) x := by
 unfold g9 at h ⊢
 rw [j3] at h ⊢
 exact any_put _ _ _ _ (.inr h)
def strsOf : D -> aa
 | .tup ds => ds.map fun d => match d with
  | .str x => x
  | _ => ""
 | _ => []
theorem As (b : aa) : strsOf (bD b) = b := by
 unfold bD strsOf
 dsimp only
 rw [List.map_map]
 exact List.map_id' b
def nU (kvs : List (Key × D)) (x : Str) : aa := match mE kvs (.inr x) with
 | some d => strsOf d
 | none => []
theorem BZ {kvs : List (Key × D)} {x : Str} (h : allB kvs) (hx : g9 kvs x) (hs : PyData.strOk x = true) : ya kvs (nU kvs) x := by
 unfold g9 at hx
 obtain ⟨r, e⟩ := Option.isSome_iff_exists.mp hx
 obtain ⟨p, hp, rfl⟩ := wa e
 obtain ⟨b, hb, hg⟩ := h p hp
 have ef : nU kvs x = b := by unfold nU; rw [e, hb]; exact As b
 exact ⟨by rw [ef, e, hb], by rw [ef]; exact hg, hs⟩
theorem Pt.dA {g g' : Str -> Prop} (f : ∀ x, g x -> g' x) : ∀ {p : Pt}, p.nk g -> p.nk g'
 | .given _, h => h
 | .named n, h => f n h
 | .turned p, h => Pt.dA (p := p) f h
 | .pair _ a b, h => ⟨Pt.dA (p := a) f h.1, Pt.dA (p := b) f h.2⟩
 | .choice t a b, h => ⟨Pt.dA (p := t) f h.1, Pt.dA (p := a) f h.2.1, Pt.dA (p := b) f h.2.2⟩
 | .before p _, h => Pt.dA (p := p) f h
 | .led a b, h => ⟨Pt.dA (p := a) f h.1, Pt.dA (p := b) f h.2⟩
 | .bP p n, h => ⟨Pt.dA (p := p) f h.1, f n h.2⟩
 | .held p n _, h => ⟨Pt.dA (p := p) f h.1, f n h.2⟩
theorem yp {kvs : List (Key × D)} (h : allB kvs) : valsOk kvs := fun p hp => by
 obtain ⟨b, e, hg⟩ := h p hp
 rw [e]
 have l := lH hg
 exact ⟨l.pl, l.sh (by decide)⟩
theorem ur (pl : List Int) : Lay 1 (ay pl) := kh fun d hd => by
 obtain ⟨i, _, rfl⟩ := List.mem_map.mp hd
 exact zj i
theorem zk {r : Except qp (Option aa)} (h : GoodR r) : Lay 3 (resB r) := by
 cases r with
 | ok w =>
  refine (kh (k := 1) fun d hd => ?_).up (by decide)
  simp only [List.mem_cons, List.not_mem_nil, or_false] at hd
  rcases hd with rfl | rfl
  ·cases w with
   | none => exact oN.up (by decide)
   | some b => exact lH (h b rfl)
  ·exact oN.up (by decide)
 | error e =>
  obtain ⟨pl, a, b⟩ := e
  refine kh fun d hd => ?_
  simp only [List.mem_cons, List.not_mem_nil, or_false] at hd
  rcases hd with rfl | rfl
  ·exact oN.up (by decide)
  ·refine kh fun d hd => ?_
   simp only [List.mem_cons, List.not_mem_nil, or_false] at hd
   rcases hd with rfl | rfl | rfl
   ·exact ur pl
   ·exact lH h.1
   ·exact lH h.2
theorem xv {neg : Bool} {r : Except qp (Option aa)} {Q : D -> Prop} (h : GoodR r) (q : Q (.bl (!neg))) : rE neg (resB r) (resB r) Q := Am (by cases r <;> rfl) (zk h) (by decide) q
theorem kk (z : Int) : ∃ b, L2.eo [D.str "truth", .str "number"] (z % 2) = some (kD b) := by
 obtain ⟨r, hr, er⟩ := bI (xs := [D.str "truth", .str "number"]) (bE z (show (0 : Int) < 2 by decide)) (bC z (show (0 : Int) < 2 by decide))
 simp only [List.mem_cons, List.not_mem_nil, or_false] at hr
 rcases hr with rfl | rfl
 ·exact ⟨true, er⟩
 ·exact ⟨false, er⟩
def FA : kU := fun ds Q _ => ∃ ns : List Int, ds = [.lst (ns.map D.int)] /\ Q (.bl true)
section
seal wpAny
variable {P : Program} {w : World} {K : PySem.W.Frag} {mg : Str -> Option Value} {base : Heap} {A : bh} {n j : Nat}
theorem Cg {f : Addr} {fd : FuncData} (F : qq K "law" "law" gU f fd) (n_range : mg "range" = none) (n_dict : mg "dict" = none) (c__law_mixed : bN P w K mg base j "_law_mixed" ["_law_cell", "_law_k"] jV) (c__law_cell_at : bN P w K mg base j "_law_cell_at" ["_law_script", "_law_k"] yB)
  (c__law_names : bN P w K mg base j "_law_names" ["_law_cell", "_law_many"] t_) (c__law_tree : bN P w K mg base j "_law_tree" ["_law_cell", "_law_names_here", "_law_deep"] (lV 4))
  (c__law_typed : bN P w K mg base j "_law_typed" ["_law_cell", "_law_names_here", "_law_kind", "_law_beat_here", "_law_deep"] (jW 4)) (c_part_of : bN P w K mg base j "part_of" ["told"] (vF A 4))
  (cx__law_told : kn P w K mg base j "_law_told" ["_law_part", "_law_beats", "_law_place"] (DJ A 4)) (c__law_beat : bN P w K mg base j "_law_beat" ["_law_told_here", "_law_beats", "_law_place"] (yC 4)) :
  bR P w K mg base (mJ P w) (j + 1) f fd ["_law_script"] (Aq K FA) := by
 refine Eo F x_ (fun ds Q R ⟨ns, e, _⟩ => by rw [e]; rfl) (fun f cdv A outer s H E R hr hx => have hu := hr.units; have hh := hr.hd; have sc := x_
  (b4 (ki (ak (i := 1) sc.nd rfl (Or.inl rfl) (aM c__law_cell_at hr (by omega) (by rfl) (aA (dv 0) (aA aB aD)))))
 (b4 (ki (ak (i := 2) sc.nd rfl (Or.inl rfl) (aM c__law_names hr (by omega) (by rfl) (aA (aM c__law_cell_at hr (by omega) (by rfl) (aA (dv 0) (aA aB aD))) (aA aB aD)))))
 (b4 (ki (ak (i := 3) sc.nd rfl (Or.inl rfl) (bY (aA (aU aD) (aA (aU (aA (aR (dv 2) aB (fun _ _ => rfl)) aD)) (aA (aU (aA (aR (dv 2) aB (fun _ _ => rfl)) (aA (aR (dv 2) aB (fun _ _ => rfl)) aD))) (aA (aU (aA (aR (dv 2) aB (fun _ _ => rfl)) aD)) (aA (aU (aA (aR (dv 2) aB (fun _ _ => rfl)) aD)) aD))))))))
 (b4 (z5 (i := 4) sc.nd rfl (Or.inl rfl) zO)
 (b4 (xK PassesOwn.leaving rfl (jG (by rfl) n_range (aA aB aD)) (iN (i := 5) sc.nd rfl (Or.inl rfl)) (b4 (tj (i := 4) hu rfl (Or.inl rfl) (aR (dv 2) (dv 5) (fun _ _ => rfl)) (aR (dv 3) (aR (bY (eT (by rfl))) (dv 5) (fun _ _ => rfl)) (fun _ _ => rfl)))
 (rg (tm (cu hu (a_ (bM (aM c__law_mixed hr (by omega) (by rfl) (aA (aM c__law_cell_at hr (by omega) (by rfl) (aA (dv 0) (aA aB aD))) (aA (dv 5) aD))) aB) aB) aB) (rg (tj (i := 4) hu rfl (Or.inl rfl) (aR (dv 2) (dv 5) (fun _ _ => rfl)) (aR (dv 3) (a_ (bM (aM c__law_mixed hr (by omega) (by rfl) (aA (aM c__law_cell_at hr (by omega) (by rfl) (aA (dv 0) (aA aB aD))) (aA (bo aB (dv 5)) aD))) aB) aB) (fun _ _ => rfl)))) oU))))
 (qM (gN (aH (ak (i := 6) sc.nd rfl (Or.inl rfl) (aM c__law_tree hr (by omega) (by rfl) (aA (dv 1) (aA (dv 2) (aA aB aD)))))
 (aH (bO (vL (a_ (bM (aM c__law_mixed hr (by omega) (by rfl) (aA (dv 1) (aA aB aD))) aB) aB) aB) (aF (ak (i := 6) sc.nd rfl (Or.inl rfl) (aM c__law_typed hr (by omega) (by rfl) (aA (dv 1) (aA (dv 2) (aA (aR (bY (eT (by rfl))) (a_ (dv 1) aB) (fun _ _ => rfl)) (aA (a_ (bM (aM c__law_mixed hr (by omega) (by rfl) (aA (dv 1) (aA aB aD))) aB) aB) (aA aB aD)))))))) aX)
 (aH (ak (i := 7) sc.nd rfl (Or.inl rfl) (uN (by rfl) n_dict (aA (dv 4) aD)))
 (aH (ak (i := 8) sc.nd rfl (Or.inl rfl) (aM c_part_of hr (by omega) (by rfl) (aA (dv 6) aD)))
 (aH (t9 PassesOwn.leaving rfl (gJ (bY (aA (aU aD) (aA (aU (eT (by rfl))) aD)))) (iN (i := 9) sc.nd rfl (Or.inl rfl)) (aF (bO (l_.td (w_or (sI hu (nY hx cx__law_told hr (by omega) (by rfl) (aA (dv 8) (aA (dv 7) (aA (dv 9) aD)))) (aM c__law_beat hr (by omega) (by rfl) (aA (dv 6) (aA (dv 4) (aA (dv 9) aD))))) (kG (FN hr (dv 7) (dv 4))))) (aF (aN Bs)) aX)))
 (aF (aN (q9 hu (nY hx cx__law_told hr (by omega) (by rfl) (aA (dv 8) (aA (dv 7) (aA (aU aD) aD)))) (aM c__law_beat hr (by omega) (by rfl) (aA (dv 6) (aA (dv 4) (aA (aU aD) aD)))))))))))))))))))) ?_
 rintro ds Q R ⟨ns, rfl, q⟩
 refine ⟨_, rfl, ns, 1, rfl, (by decide), fun c => ?_⟩
 refine ⟨_, rfl, ns, 0, rfl, (by decide), fun c0 => ⟨c0, 8, rfl, (by decide), (by decide), fun l hl ho => ?_⟩⟩
 have hne : l ≠ [] := fun z => by rw [z] at hl; cases hl
 obtain ⟨n0, i0, o0, e0⟩ := lP hl ho (i := 0) (by decide) (by decide)
 obtain ⟨n1, i1, o1, e1⟩ := lP hl ho (i := 1) (by decide) (by decide)
 obtain ⟨n2, i2, o2, e2⟩ := lP hl ho (i := 2) (by decide) (by decide)
 have s0 := o0.2.2
 have s1 := o1.2.2
 have s2 := o2.2.2
 have gm : ∀ b ∈ ([[], [n0], [n0, n2], [n1], [n2]] : List aa), bJ 9 b := fun b hb => by
  simp only [List.mem_cons, List.not_mem_nil, or_false] at hb
  rcases hb with rfl | rfl | rfl | rfl | rfl
  ·exact ⟨Nat.zero_le _, fun x hx => nomatch hx⟩
  ·exact ⟨(show 1 <= 9 by decide), fun x hx => by rw [List.mem_singleton.mp hx]; exact s0⟩
  ·refine ⟨(show 2 <= 9 by decide), fun x hx => ?_⟩
   simp only [List.mem_cons, List.not_mem_nil, or_false] at hx
   rcases hx with rfl | rfl
   ·exact s0
   ·exact s2
  ·exact ⟨(show 1 <= 9 by decide), fun x hx => by rw [List.mem_singleton.mp hx]; exact s1⟩
  ·exact ⟨(show 1 <= 9 by decide), fun x hx => by rw [List.mem_singleton.mp hx]; exact s2⟩
 refine ⟨(show 0 <= sizeLine by decide), _, rfl, _, e0, (show 1 <= sizeLine by decide), _, rfl, _, e0, _, rfl, _, e2, (show 2 <= sizeLine by decide), _, rfl, _, e1, (show 1 <= sizeLine by decide), _, rfl, _, e2, (show 1 <= sizeLine by decide), (show 5 <= sizeLine by decide), fun a _ => ?_⟩
 obtain ⟨sm, hsm⟩ : ∃ sm : List aa, sm = [[], [n0], [n0, n2], [n1], [n2]] := ⟨_, rfl⟩
 have at8 : ∀ i : Nat, i < 8 -> ∃ x, l[i]? = some x /\ x ∈ l /\ L2.eo (l.map D.str) (0 + (i : Int)) = some (.str x) := fun i hi => by
  have hlt : i < l.length := by omega
  refine ⟨l[i], List.getElem?_eq_getElem hlt, List.getElem_mem hlt, ?_⟩
  rw [Int.zero_add]
  exact ic (by rw [List.getElem?_map, List.getElem?_eq_getElem hlt]; rfl)
 have k8 : ∀ i : Nat, i < 8 -> ∃ (m : Int) (b : aa), L2.eo [D.int 0, .int 0, .int 1, .int 0, .int 0, .int 1, .int 2, .int 2] (0 + (i : Int)) = some (.int m) /\ L2.eo (([[], [n0], [n0, n2], [n1], [n2]] : List aa).map bD) m = some (bD b) /\ bJ 9 b := fun i hi => by
  match i, hi with
  | 0, _ => exact ⟨0, _, rfl, rfl, gm _ (by simp)⟩
  | 1, _ => exact ⟨0, _, rfl, rfl, gm _ (by simp)⟩
  | 2, _ => exact ⟨1, _, rfl, rfl, gm [n0] (by simp)⟩
  | 3, _ => exact ⟨0, _, rfl, rfl, gm _ (by simp)⟩
  | 4, _ => exact ⟨0, _, rfl, rfl, gm _ (by simp)⟩
  | 5, _ => exact ⟨1, _, rfl, rfl, gm [n0] (by simp)⟩
  | 6, _ => exact ⟨2, _, rfl, rfl, gm [n0, n2] (by simp)⟩
  | 7, _ => exact ⟨2, _, rfl, rfl, gm [n0, n2] (by simp)⟩
 have k5 : ∀ z : Int, ∃ b : aa, L2.eo (([[], [n0], [n0, n2], [n1], [n2]] : List aa).map bD) (z % 5) = some (bD b) /\ bJ 9 b := fun z => by
  obtain ⟨r, hr, er⟩ := bI (xs := ([[], [n0], [n0, n2], [n1], [n2]] : List aa).map bD) (bE z (show (0 : Int) < 5 by decide)) (bC z (show (0 : Int) < 5 by decide))
  obtain ⟨b, hb, rfl⟩ := List.mem_map.mp hr
  exact ⟨b, er, gm b hb⟩
 refine ⟨8, rfl, (by decide), (by decide), fun i δ μ => ∃ (kvs : List (Key × D)) (x5 : Option D), δ = [some (.lst (ns.map D.int)), some (.int c), some (.lst (l.map D.str)), some (.lst (([[], [n0], [n0, n2], [n1], [n2]] : List aa).map bD)), some (.adr a), x5, none, none, none, none] /\ μ = [(a, .dK kvs)] /\ kvs.length <= 2 * i /\ allB kvs /\ i <= 8 /\ ∀ (m : Nat) (x : Str), m < i -> l[m]? = some x -> g9 kvs x, ?_, ?_, ?_⟩
 ·exact ⟨[], none, rfl, rfl, Nat.le_refl _, (fun p hp => nomatch hp), (by decide), fun m x hm => absurd hm (by omega)⟩
 ·rintro i dd δ μ hdd ⟨kvs, x5, rfl, rfl, hlen, hall, hi8, hhas⟩
  have hlt : i < 8 := by
   have := (List.getElem?_eq_some_iff.mp hdd).1
   simpa using this
  have hdd' : D.int (0 + (i : Int)) = dd := by
   rw [List.getElem?_map, show (8 : Int).toNat = 8 from rfl, List.getElem?_range hlt] at hdd
   simpa using hdd
  subst hdd'
  obtain ⟨x, ex, hx, eix⟩ := at8 i hlt
  obtain ⟨m, b, em, eb, gb⟩ := k8 i hlt
  have hlk : ∀ (m : MD), List.lookup a [(a, m)] = some m := fun m => by simp [List.lookup]
  have hpt : ∀ (m m' : MD), oo a m' [(a, m)] = [(a, m')] := fun m m' => by simp [oo]
  have hl1 := t8 kvs (.inr x) (bD b)
  refine ⟨_, rfl, (show 8 <= sizeLine by decide), _, rfl, _, em, _, eb, a, kvs, rfl, hlk _, Nat.lt_of_le_of_lt (show kvs.length <= 16 by omega) (by decide), _, rfl, _, rfl, .str x, eix, .inr x, rfl, ?_⟩
  rw [hpt]
  refine ⟨_, rfl, ns, 2, rfl, (by decide), fun c2 => ⟨_, rfl, _, _, rfl, cd (by decide) (by decide), (show (0 : Int) < 16 by decide), _, rfl, ?_⟩⟩
  have fin : ∀ kvs' : List (Key × D), kvs'.length <= kvs.length + 2 -> allB kvs' -> (∀ y, g9 kvs y -> g9 kvs' y) -> g9 kvs' x -> ∃ (kvs2 : List (Key × D)) (x5 : Option D), [some (.lst (ns.map D.int)), some (.int c), some (.lst (l.map D.str)), some (.lst (([[], [n0], [n0, n2], [n1], [n2]] : List aa).map bD)), some (.adr a), some (D.int (0 + (i : Int))), none, none, none, none] = [some (.lst (ns.map D.int)), some (.int c), some (.lst (l.map D.str)), some (.lst (([[], [n0], [n0, n2], [n1], [n2]] : List aa).map bD)), some (.adr a), x5, none, none, none, none] /\ [(a, MD.dK kvs')] = [(a, .dK kvs2)] /\ kvs2.length <= 2 * (i + 1) /\ allB kvs2 /\ i + 1 <= 8 /\ ∀ (m : Nat) (x : Str), m < i + 1 -> l[m]? = some x -> g9 kvs2 x := fun kvs' h1 h2 h3 h4 =>
   ⟨kvs', _, rfl, rfl, by omega, h2, by omega, fun m y hm hy => by
    by_cases hmi : m = i
    ·subst hmi
     rw [ex] at hy
     cases hy
     exact h4
    ·exact h3 y (hhas m y (by omega) hy)⟩
  cases h12 : decide (mixed c2 (0 + (i : Int)) / 7 % 16 = 0) with
  | true =>
   refine aZ ?_
   refine ⟨_, rfl, _, rfl, ns, 2, rfl, (by decide), fun c3 => ?_⟩
   obtain ⟨b2, eb2, gb2⟩ := k5 (mixed c3 (20 + (0 + (i : Int))) / 7)
   refine ⟨_, rfl, _, _, rfl, cd (by decide) (by decide), (show (0 : Int) < 5 by decide), _, eb2, a, d0 kvs (.inr x) (bD b), rfl, hlk _, Nat.lt_of_le_of_lt (show (d0 kvs (.inr x) (bD b)).length <= 17 by omega) (by decide), _, rfl, _, rfl, .str x, eix, .inr x, rfl, ?_⟩
   rw [hpt]
   have hl2 := t8 (d0 kvs (.inr x) (bD b)) (.inr x) (bD b2)
   exact fin _ (by omega) ((hall.put gb).put gb2) (fun y hy => (hy.put _ _).put _ _) (g9.same _ _ _)
  | false => exact aT (fin _ (by omega) (hall.put gb) (fun y hy => hy.put _ _) (g9.same _ _ _))
 rintro δ μ ⟨kvs, x5, rfl, rfl, hlen, hall, hi8, hhas⟩
 have hk : ∀ x, x ∈ l -> ya kvs (nU kvs) x := fun x hx => by
  obtain ⟨m, hm, e⟩ := List.getElem_of_mem hx
  refine BZ hall (hhas m x ?_ (by rw [List.getElem?_eq_getElem hm, e])) (ho x hx).2.2
  show m < ((List.range (8 : Int).toNat).map fun i : Nat => D.int (0 + (i : Int))).length
  rw [List.length_map, List.length_range]
  show m < 8
  omega
 have ev : fL [(a, .dK kvs)] [some (.lst (ns.map D.int)), some (.int c), some (.lst (l.map D.str)), some (.lst (([[], [n0], [n0, n2], [n1], [n2]] : List aa).map bD)), some (.adr a), x5, none, none, none, none] = [some (.lst (ns.map D.int)), some (.int c), some (.lst (l.map D.str)), some (.lst (([[], [n0], [n0, n2], [n1], [n2]] : List aa).map bD)), some (.dK kvs), x5.map (b_ [(a, .dK kvs)]), none, none, none, none] := by
  unfold fL
  simp only [List.map_cons, List.map_nil, Option.map_some, Option.map_none]
  rw [show b_ [(a, MD.dK kvs)] (.adr a) = .dK kvs by simp [b_, MD.d, List.lookup]]
  rfl
 generalize x5.map (b_ [(a, .dK kvs)]) = y5 at ev
 unfold tY
 dsimp only
 rw [ev]
 clear ev
 generalize ([[], [n0], [n0, n2], [n1], [n2]] : List aa).map bD = y3
 refine ⟨_, rfl, _, rfl, c, l, 3, rfl, (by decide), hne, ho, fun p1 g1 => ?_⟩
 dsimp only
 refine Ar (fun δ => ∃ p, GP l 3 p /\ δ = [some (.lst (ns.map D.int)), some (.int c), some (.lst (l.map D.str)), some (.lst y3), some (.dK kvs), y5, some p.told, none, none, none]) ?_ (fun N hN => ?_)
 rotate_left
 ·refine ⟨_, rfl, _, _, rfl, cd (by decide) (by decide), (show (0 : Int) < 4 by decide), _, rfl, ?_⟩
  cases h9 : decide ((0 : Int) < mixed c 9 / 7 % 4) with
  | false => exact aT (hN _ ⟨p1, g1, rfl⟩)
  | true =>
   obtain ⟨kd, ek⟩ := kk c
   have b0 := bE (mixed c 8 / 7) (show (0 : Int) < 3 by decide)
   have b1 := bC (mixed c 8 / 7) (show (0 : Int) < 3 by decide)
   exact aZ ⟨_, rfl, _, rfl, (show 2 <= sizeLine by decide), _, rfl, (show (0 : Int) < 2 by decide), _, ek, _, rfl, _, _, rfl, cd (by decide) (by decide), (show (0 : Int) < 3 by decide), c, l, kd, (mixed c 8 / 7 % 3).toNat, 3, congrArg (fun z => [D.int c, D.lst (l.map D.str), kD kd, D.int z, D.int 3]) (show mixed c 8 / 7 % 3 = (((mixed c 8 / 7 % 3).toNat : Nat) : Int) by omega), (by decide), (by omega), hl, ho, fun p g => hN _ ⟨p, g, rfl⟩⟩
 rintro δ ⟨p, g, rfl⟩
 have nk : p.nk (ya kvs (nU kvs)) := Pt.dA hk g.nk
 have okb : iY p := ⟨by have := g.dp; omega, Nat.le_trans g.sz (by decide)⟩
 refine ⟨_, rfl, kvs, rfl, ?_⟩
 refine ⟨_, rfl, p, rfl, g.dp, g.ok, okb, ?_⟩
 refine ⟨(show 0 <= sizeLine by decide), (show 2 <= sizeLine by decide), (show 2 <= sizeLine by decide), _, rfl, fun i δ => ∃ x9, δ = [some (.lst (ns.map D.int)), some (.int c), some (.lst (l.map D.str)), some (.lst y3), some (.dK kvs), y5, some p.told, some (.dK kvs), some (p.d A), x9], ⟨none, rfl⟩, ?_, ?_⟩
 ·rintro i d δ hd ⟨x9, rfl⟩
  have hp : ∃ pl, d = ay pl /\ pl.length <= 2 := by
   match i, hd with
   | 0, hd => cases hd; exact ⟨[], rfl, by decide⟩
   | 1, hd => cases hd; exact ⟨[1, 1], rfl, by decide⟩
   | i + 2, hd => cases hd
  obtain ⟨pl, rfl, hpl⟩ := hp
  exact ⟨_, rfl, _, rfl, _, rfl, p, kvs, nU kvs, pl, rfl, g.dp, g.ok, nk, by omega, _, rfl, _, rfl, _, rfl, p, kvs, nU kvs, pl, rfl, g.dp, g.ok, nk, by omega, xv (jB nk) ⟨false, rfl, aT ⟨_, rfl, _, rfl, kvs, rfl, rfl, yp hall, false, rfl, aT ⟨_, rfl⟩⟩⟩⟩
 ·rintro δ ⟨x9, rfl⟩
  exact ⟨_, rfl, _, rfl, (show 0 <= sizeLine by decide), p, kvs, nU kvs, [], rfl, g.dp, g.ok, nk, by decide, _, rfl, _, rfl, (show 0 <= sizeLine by decide), p, kvs, nU kvs, [], rfl, g.dp, g.ok, nk, by decide, xv (jB nk) q⟩
end
/-! ### where things lie -/
def sW (x qual : Str) (st : Stmt) (ps : List Str) : Prop := ∀ (kV doc pm : Value) (an : Option Addr) (cdv ct : Value) (us : List Value), us.length = ps.length -> bindArgs (PySem.W.fnOf x qual (bZ st) (aY st) (aC st) .none kV doc pm an cdv ct) ⟨us, []⟩ = pure (ps.zip us)
structure nQ (K : PySem.W.Frag) (C : Addr) (f : Str) : Prop where
 pg : eP K C
 hd : PySem.W.hasDictIn K C = true
 nf : PySem.W.findIn K (.ref C) f = some none
structure DE (K : PySem.W.Frag) (mg : Str -> Option Value) (x : Str) (C : Addr) (qual : Str) (st : Stmt) (ps : List Str) : Prop where
 ex : ∃ f fd oI, lz K "__init__" qual st f fd /\ gG K C f = true /\ K.lookup f = some oI /\ oI.cls = .type "function" /\ mg x = some (.ref C) /\ PySem.W.keepIn K (.ref C) = true /\ Binds K fd ps []
 g : iI K C
section
variable {w : World} {K : PySem.W.Frag} {h : Heap} {mg : Str -> Option Value} {x m qual : Str} {st : Stmt} {ps : List Str} {f C : Addr} {od an : Option Addr} {sl : Array (Option Value)} {oc kV dc pm cd ct dV : Value}
theorem ba (X : K.In h) (G : h.Ns mainGlobals mg) (a : PySem.W.nsIn K mainGlobals x = some (some (.ref f)) := by k_is) (l : K.lookup f = some ⟨oc, od, .func (PySem.W.fnOf x x (bZ st) (aY st) (aC st) .none kV dc pm an cd ct), sl⟩ := by k_is)
  (c : PySem.W.codeIn K cd x = true := by k_is) (k : PySem.W.keepIn K (.ref f) = true := by k_is) (b : sW x x st ps := by first | exact (fun _ _ _ _ _ _ us hl => match us, hl with | [_], _ => rfl) | exact (fun _ _ _ _ _ _ us hl => match us, hl with | [_, _], _ => rfl) | exact (fun _ _ _ _ _ _ us hl => match us, hl with | [_, _, _], _ => rfl) | exact (fun _ _ _ _ _ _ us hl => match us, hl with | [_, _, _, _], _ => rfl) | exact (fun _ _ _ _ _ _ us hl => match us, hl with | [_, _, _, _, _], _ => rfl)) : Df K mg x st ps := ⟨⟨f, _, iM (st := st) l c k, PySem.W.mg_of X G a, (iM (st := st) l c k).binds b⟩⟩
theorem kz (X : K.In h) (G : h.Ns mainGlobals mg) (hc : PySem.W.nsIn K mainGlobals x = some (some (.ref C)) := by k_is) (mk : PySem.W.makesIn K C = true := by k_is) (ini : PySem.W.findIn K (.ref C) "__init__" = some (some (.ref f)) := by k_is) (fn : PySem.W.isFn K (.ref f) = true := by k_is) (kp : PySem.W.keepIn K (.ref C) = true := by k_is)
  (l : K.lookup f = some ⟨oc, od, .func (PySem.W.fnOf "__init__" qual (bZ st) (aY st) (aC st) .none kV dc pm an cd ct), sl⟩ := by k_is) (c : PySem.W.codeIn K cd qual = true := by k_is) (k : PySem.W.keepIn K (.ref f) = true := by k_is)
  (b : sW "__init__" qual st ps := by first | exact (fun _ _ _ _ _ _ us hl => match us, hl with | [_, _], _ => rfl) | exact (fun _ _ _ _ _ _ us hl => match us, hl with | [_, _, _], _ => rfl) | exact (fun _ _ _ _ _ _ us hl => match us, hl with | [_, _, _, _], _ => rfl)) : Di K mg x C qual st ps [] :=
 ⟨⟨f, _, [], [], ⟨⟨oc, od, .none, kV, dc, pm, an, cd, ct, sl, rfl, l, c⟩, k⟩, ⟨mk, ini, fn, kp⟩, PySem.W.mg_of X G hc, (iM (st := st) l c k).binds b, .nil, fun _ => .nil⟩⟩
def vW (x qual : Str) (st : Stmt) (ps : List Str) : Prop := ∀ (K : PySem.W.Frag) (T : Addr) (ob : Obj) (v : Value) (n : Nat), K.lookup T = some ob -> ob.data = .seq #[v] n -> ∀ (kV doc pm : Value) (an : Option Addr) (cdv ct : Value), Binds K (PySem.W.fnOf x qual (bZ st) (aY st) (aC st) (.ref T) kV doc pm an cdv ct) ps []
theorem wC {Ta : Addr} {tc v : Value} {td : Option Addr} {tn : Nat} {tsl : Array (Option Value)} (X : K.In h) (G : h.Ns mainGlobals mg) (b : vW "__init__" qual st ps) (hc : PySem.W.nsIn K mainGlobals x = some (some (.ref C)) := by k_is) (mk : PySem.W.makesIn K C = true := by k_is) (ini : PySem.W.findIn K (.ref C) "__init__" = some (some (.ref f)) := by k_is)
  (fn : PySem.W.isFn K (.ref f) = true := by k_is) (kp : PySem.W.keepIn K (.ref C) = true := by k_is) (l : K.lookup f = some ⟨oc, od, .func (PySem.W.fnOf "__init__" qual (bZ st) (aY st) (aC st) (.ref Ta) kV dc pm an cd ct), sl⟩ := by k_is) (c : PySem.W.codeIn K cd qual = true := by k_is) (k : PySem.W.keepIn K (.ref f) = true := by k_is)
  (lt : K.lookup Ta = some ⟨tc, td, .seq #[v] tn, tsl⟩ := by k_is) : Di K mg x C qual st ps [] :=
 ⟨⟨f, _, [], [], ⟨⟨oc, od, .ref Ta, kV, dc, pm, an, cd, ct, sl, rfl, l, c⟩, k⟩, ⟨mk, ini, fn, kp⟩, PySem.W.mg_of X G hc, b K Ta _ v tn lt rfl kV dc pm an cd ct, .nil, fun _ => .nil⟩⟩
theorem D8 (X : K.In h) (G : h.Ns mainGlobals mg) (hc : PySem.W.nsIn K mainGlobals x = some (some (.ref C)) := by k_is) (ini : PySem.W.findIn K (.ref C) "__init__" = some (some (.ref f)) := by k_is) (kp : PySem.W.keepIn K (.ref C) = true := by k_is)
  (l : K.lookup f = some ⟨.type "function", od, .func (PySem.W.fnOf "__init__" qual (bZ st) (aY st) (aC st) .none kV dc pm an cd ct), sl⟩ := by k_is) (c : PySem.W.codeIn K cd qual = true := by k_is) (k : PySem.W.keepIn K (.ref f) = true := by k_is)
  (ow : gG K C f = true := by kernel_rfl) (sa : PySem.W.findIn K (.ref C) "__setattr__" = some (some (.builtin "object.__setattr__")) := by k_is) (ov : ((PySem.W.clsIn K C).any fun cd => dP cd.mro) = true := by kernel_rfl) (hd : PySem.W.hasDictIn K C = true := by k_is)
  (b : sW "__init__" qual st ps := by first | exact (fun _ _ _ _ _ _ us hl => match us, hl with | [_, _], _ => rfl) | exact (fun _ _ _ _ _ _ us hl => match us, hl with | [_, _, _], _ => rfl) | exact (fun _ _ _ _ _ _ us hl => match us, hl with | [_, _, _, _, _], _ => rfl)) : DE K mg x C qual st ps :=
 ⟨⟨f, _, _, ⟨⟨.type "function", od, .none, kV, dc, pm, an, cd, ct, sl, rfl, l, c⟩, k⟩, ow, l, rfl, PySem.W.mg_of X G hc, kp, (iM (st := st) l c k).binds b⟩, ⟨sa, ov, hd⟩⟩
theorem D1 {v : Value} {b : Bool} (h : PySem.W.mroIn K C v = some b) : (PySem.W.clsIn K C).isSome = true := by
 unfold PySem.W.mroIn at h
 cases e : PySem.W.clsIn K C with
 | none => rw [e] at h; cases h
 | some _ => rfl
theorem B1 (g1 : PySem.W.findIn K (.ref C) "__getattribute__" = some (some (.builtin "BaseException.__getattribute__")) := by k_is) (g2 : PySem.W.findIn K (.ref C) "__getattr__" = some none := by k_is) (g3 : PySem.W.mroIn K C (.type "BaseException") = some true := by k_is) (ha : PySem.W.findIn K (.ref C) "__class__" = some (some (.builtin "object.__class__")) := by k_is) (hn : PySem.W.specialIn K (.builtin "object.__class__") "__get__" = some (some (.builtin "getset_descriptor.__get__")) := by k_is) (ht : PySem.W.takesIn K (.builtin "object.__class__") = some true := by k_is) (hm : PySem.W.mroIn K C (.type "object") = some true := by k_is) : gB K C := ⟨⟨g1, g2, g3⟩, D1 hm, ha, hn, ht, hm⟩
theorem nu {f : Str} (g1 : PySem.W.findIn K (.ref C) "__getattribute__" = some (some (.builtin "BaseException.__getattribute__")) := by k_is) (g2 : PySem.W.findIn K (.ref C) "__getattr__" = some none := by k_is) (g3 : PySem.W.mroIn K C (.type "BaseException") = some true := by k_is) (hd : PySem.W.hasDictIn K C = true := by k_is) (nf : PySem.W.findIn K (.ref C) f = some none := by k_is) : nQ K C f := ⟨⟨g1, g2, g3⟩, hd, nf⟩
theorem Bq {c : Addr} (h : PySem.W.kitOne K (.ref C) (.ref c) = some true) (ne : C ≠ c) : PySem.W.kitCls K (.ref C) (.ref c) = some true := by
 unfold PySem.W.kitOne at h
 rw [if_neg (fun e => ne (by have := eq_of_beq e; cases this; rfl))] at h
 exact h
theorem fZ (a : PySem.W.plainGet K C Str.empty = true := by k_is) (b : PySem.W.hasDictIn K C = true := by k_is) (c : PySem.W.plainOver K C = true := by k_is) (d : PySem.W.findIn K (.ref C) "__setattr__" = some (some (.builtin "object.__setattr__")) := by k_is)
  (e : PySem.W.findIn K (.ref C) "__class__" = some (some (.builtin "object.__class__")) := by k_is) (f : PySem.W.specialIn K (.builtin "object.__class__") "__get__" = some (some (.builtin "getset_descriptor.__get__")) := by k_is) (g : PySem.W.takesIn K (.builtin "object.__class__") = some true := by k_is) (h : PySem.W.mroIn K C (.type "object") = some true := by k_is) : gC K C := ⟨⟨a, b, c, d⟩, e, f, g, h⟩
def vZ (K : PySem.W.Frag) (C : Addr) : Prop := ∀ f ∈ (["value", "name", "part", "sign", "one", "other", "truth", "first", "head", "rest"] : List Str), cy K C f
theorem fV (h0 : PySem.W.findIn K (.ref C) "value" = some none := by k_is) (h1 : PySem.W.findIn K (.ref C) "name" = some none := by k_is) (h2 : PySem.W.findIn K (.ref C) "part" = some none := by k_is) (h3 : PySem.W.findIn K (.ref C) "sign" = some none := by k_is) (h4 : PySem.W.findIn K (.ref C) "one" = some none := by k_is) (h5 : PySem.W.findIn K (.ref C) "other" = some none := by k_is) (h6 : PySem.W.findIn K (.ref C) "truth" = some none := by k_is) (h7 : PySem.W.findIn K (.ref C) "first" = some none := by k_is) (h8 : PySem.W.findIn K (.ref C) "head" = some none := by k_is) (h9 : PySem.W.findIn K (.ref C) "rest" = some none := by k_is) : vZ K C := by
 unfold vZ
 simp only [List.mem_cons, List.not_mem_nil, or_false, forall_eq_or_imp, forall_eq]
 exact ⟨h0, h1, h2, h3, h4, h5, h6, h7, h8, h9⟩
theorem mn {i : Int} {t : Tok} (X : K.In h) (G : h.Ns mainGlobals mg) (e : PySem.W.nsIn K mainGlobals x = some (some (.int i t))) : GI mg x i := ⟨⟨t, PySem.W.mg_of X G e⟩⟩
theorem EG {y : Str} {t : Tok} (X : K.In h) (G : h.Ns mainGlobals mg) (e : PySem.W.nsIn K mainGlobals x = some (some (.str y t))) : GD K mg x (.str y) := ⟨⟨.str y, .str y t, PySem.W.mg_of X G e, ⟨_, rfl⟩, fun _ => .str y⟩⟩
def Dw (K : PySem.W.Frag) (t : Addr) (ds : List D) : Prop := ∀ H, Dv K H (.ref t) (.tup ds)
theorem bp {t : Addr} {its : Array Value} {n : Nat} (vs : List V) {ds : List D} (l : K.lookup t = some ⟨.type "tuple", od, .seq its n, sl⟩) (z : its.size <= 1000) (v : Vals vs its.toList) (d : ∀ H, ar K H vs ds) : Dw K t ds :=
 fun H => .tup (.inr ⟨_, its, n, l, rfl, rfl, Nat.le_of_lt (vI z), v⟩) (d H)
theorem EH {t : Addr} {ds : List D} (X : K.In h) (G : h.Ns mainGlobals mg) (e : PySem.W.nsIn K mainGlobals x = some (some (.ref t))) (l : Dw K t ds) : GD K mg x (.tup ds) := ⟨⟨.ref t, .ref t, PySem.W.mg_of X G e, rfl, l⟩⟩
theorem BF {s : Addr} {es : Array DictEntry} {n : Nat} {kvs : List (Str × V)} {tab : List (Str × D)} (X : K.In h) (G : h.Ns mainGlobals mg) (e : PySem.W.nsIn K mainGlobals x = some (some (.ref s))) (l : K.lookup s = some ⟨.type "dict", none, .dict es n, #[]⟩) (hk : PySem.W.KeysLit w.params es.toList)
  (he : jd kvs es.toList) (sys : (s == sysModules) = false) (t : Tb K kvs tab) : yj w K mg x s tab := ⟨PySem.W.mg_of X G e, kvs, ⟨⟨es, n, l, hk, he⟩, sys⟩, t⟩
theorem av {y : Str} {t : Tok} {r : Addr} {en : DictEntry} {kvs : List (Str × V)} {es : List DictEntry} (hk : en.key = .str y t) (hv : en.val = .ref r) (q : jd kvs es) : jd ((y, .ref r) :: kvs) (en :: es) := .cons hk hv q
theorem uV (ws : List Str) : ∀ H, ar K H (ws.map V.str) (ws.map D.str) := fun _ => lA ws
structure cP (K : PySem.W.Frag) (C : Addr) (m qual : Str) (st : Stmt) (ps : List Str) : Prop where
 ex : ∃ f fd, qq K m qual st f fd /\ Meth K C m f /\ Binds K fd ps []
theorem aO (a : PySem.W.findIn K (.ref C) m = some (some (.ref f)) := by k_is) (l : K.lookup f = some ⟨oc, od, .func (PySem.W.fnOf m qual (bZ st) (aY st) (aC st) .none kV dc pm an cd ct), sl⟩ := by k_is)
  (c : PySem.W.codeIn K cd qual = true := by k_is) (k : PySem.W.keepIn K (.ref f) = true := by k_is) (n : PySem.W.isFn K (.ref f) = true := by k_is) (b : sW m qual st ps := by first | exact (fun _ _ _ _ _ _ us hl => match us, hl with | [_], _ => rfl) | exact (fun _ _ _ _ _ _ us hl => match us, hl with | [_, _, _], _ => rfl) | exact (fun _ _ _ _ _ _ us hl => match us, hl with | [_, _, _, _], _ => rfl)) : cP K C m qual st ps := ⟨⟨f, _, iM (st := st) l c k, ⟨a, n, k⟩, (iM (st := st) l c k).binds b⟩⟩
theorem cP.dm (d : cP K C m qual st ps) (c : pH K C) : Dm K C m qual st ps := let ⟨f, fd, F, M, b⟩ := d.ex; ⟨⟨f, fd, F, M, c, b⟩⟩
end
/-! ### the exceptions that keep what they are made with -/
section
variable {P : Program} {w : World} {K : PySem.W.Frag} {mg : Str -> Option Value} {base : Heap} {C : Addr} {k : Nat}
theorem Ci {α : Type} {xs : List α} (h : xs.length = 1) : ∃ x, xs = [x] := match xs, h with | [x], _ => ⟨x, rfl⟩
theorem DP {α : Type} {xs : List α} (h : xs.length = 2) : ∃ x y, xs = [x, y] := match xs, h with | [x, y], _ => ⟨x, y, rfl⟩
theorem pf {α : Type} {xs : List α} (h : xs.length = 4) : ∃ x y z u, xs = [x, y, z, u] := match xs, h with | [x, y, z, u], _ => ⟨x, y, z, u, rfl⟩
theorem sV {pr : Array Value -> Prop} {H : Hp} {a d : Addr} {fs : List (Str × V)} (h : d ≠ a) : upd (upd H a (dO pr a C (some d))) d (mR d fs) a = some (dO pr a C (some d)) := by rw [aE (Ne.symm h), aI]
theorem zf (d : DE K mg "NoBeat" C "NoBeat.__init__" cL ["self", "row", "place", "one", "other"]) (n1 : nQ K C "row") (n2 : nQ K C "place") (n3 : nQ K C "one") (n4 : nQ K C "other") : Dg P w K mg base (k + 1) "NoBeat" C ["row", "place", "one", "other"] := by
 obtain ⟨f, fd, oI, F, ow, l, oc, m, kp, b⟩ := d.ex
 refine ⟨⟨f, fd, _, oI, ow, l, oc, Ha (t := Ax (tX K 1 "row") (Ax (tX K 2 "place") (Ax (tX K 3 "one") (tX K 4 "other")))) F iV rfl (fun cdv A outer s H E => dz (AW (x := "self") (p := "row") (j := 1) rfl (Or.inl rfl) rfl (Or.inl rfl)) (dz (AW (x := "self") (p := "place") (j := 2) rfl (Or.inl rfl) rfl (Or.inl rfl)) (dz (AW (x := "self") (p := "one") (j := 3) rfl (Or.inl rfl) rfl (Or.inl rfl)) (om (AW (x := "self") (p := "other") (j := 4) rfl (Or.inl rfl) rfl (Or.inl rfl)))))) ?_, m, kp, b⟩, by decide⟩
 intro pr a vs' H Q hl ha q
 obtain ⟨v, u, y, z, rfl⟩ := pf hl
 refine ⟨pr, a, C, v, rfl, rfl, d.g, n1.nf, .inl ⟨ha, fun x h1 h2 => ⟨pr, a, C, u, rfl, rfl, d.g, n2.nf, .inr ⟨x, _, sV h2, aI, (Nat.le_of_ble_eq_true rfl), ?_⟩⟩⟩⟩
 rw [g8]
 refine ⟨pr, a, C, y, rfl, rfl, d.g, n3.nf, .inr ⟨x, _, sV h2, aI, (Nat.le_of_ble_eq_true rfl), ?_⟩⟩
 rw [g8]
 refine ⟨pr, a, C, z, rfl, rfl, d.g, n4.nf, .inr ⟨x, _, sV h2, aI, (Nat.le_of_ble_eq_true rfl), ?_⟩⟩
 rw [g8]
 exact q x h1 h2
end
theorem ie : vW "__init__" "Before.__init__" bc ["self", "part", "first"] := fun K T ob v n ho hs _ _ _ _ _ _ s us X hl => match us, hl with | [_, _, _], _ => PySem.W.binds_K X rfl ho hs rfl rfl
theorem kJ : vW "__init__" "Held.__init__" b5 ["self", "part", "name", "first"] := fun K T ob v n ho hs _ _ _ _ _ _ s us X hl => match us, hl with | [_, _, _, _], _ => PySem.W.binds_K X rfl ho hs rfl rfl
/-- the law's promise over values -/
def qf (K : PySem.W.Frag) : Sp := fun vs H Q _ => ∃ (q : Addr) (ns : List Int), vs = [.ref q] /\ c_ K H q (ns.map V.int) /\ ns.length <= 63 /\ ∀ H', Q (.bl true) H'
theorem pW {K : PySem.W.Frag} {H : Hp} : ∀ ns : List Int, ar K H (ns.map V.int) (ns.map D.int)
 | [] => .nil
 | n :: ns => .cons (.int n) (pW ns)
section
variable {P : Program} {w : World} {K : PySem.W.Frag} {mg : Str -> Option Value} {base : Heap} {A : bh} {j k : Nat} {x : Str} {ps : List Str}
theorem yi {sx : kU} (c : kn P w K mg base j x ps sx) (h : j <= k) : kn P w K mg base k x ps sx := ⟨let ⟨f, fd, F, r⟩ := c.ex; ⟨f, fd, F.mono h, r⟩, c.ms⟩
theorem Hk {f : Addr} {fd : FuncData} {sp sp' : Sp} (F : bR P w K mg base (mJ P w) k f fd ps sp) (h : ∀ vs H Q E, sp' vs H Q E -> sp vs H Q fun _ _ _ => False) : bR P w K mg base km k f fd ps sp' := by
 refine ⟨fun vs H Q E q => F.len _ _ _ _ (h _ _ _ _ q), fun A outer s H args us vs Q E hr he hb hv q => codeAny_mono (F.run A outer s H args us vs Q _ hr he hb hv (h _ _ _ _ q)) fun r s' z => ?_⟩
 cases r with
 | error e => obtain ⟨_, _, _, _, _, _, _, _, _, _, _, _, _, z⟩ := z; exact z
 | ok fl =>
  cases fl with
  | ret u => exact z
  | next => exact z
  | brk => exact z
  | cont => exact z
theorem qV {sb : Addr} (d : Df K mg "part_of" g6 ["told"]) (c0 : bN P w K mg base 2 "many_within" ["told"] (o_ Pt.ok fun p => .int p.inner.length)) (c1 : bN P w K mg base 1 "has_shape" ["told"] (o_ Pt.ok fun p => .bl (!p.lF)))
  (c2 : bN P w K mg base 15 "plain_by" ["told", "inner"] (sD A 10 true)) (c3 : bN P w K mg base 15 "timed_by" ["told", "inner"] (sD A 10 false))
  (k : l9 P w K mg base 13 "Pair" A.pair (fun ds Q => ∃ (g : Str) (x y : Pt), ds = [.str g, x.d A, y.d A] /\ g ∈ cq /\ (Pt.pair g x y).depth <= 10 /\ iY (.pair g x y) /\ Q [("sign", .str g), ("one", x.d A), ("other", y.d A)]) []) :
  ∀ n, n <= 10 -> bN P w K mg base (n + 15) "part_of" ["told"] (vF A n)
 | 0, _ => Df.never d fun ds Q ⟨p, _, h, _⟩ => absurd p.gr (by omega)
 | n + 1, h => u0 (m := n) (N := 10) (by omega) h d (c0.up (by omega)) (c1.up (by omega)) (qV (sb := sb) d c0 c1 c2 c3 k n (by omega)) (by omega) (c2.up (by omega)) (c3.up (by omega)) k
end
theorem Bi {w : World} {K : PySem.W.Frag} {h : Heap} {mg : Str -> Option Value} {a1 a2 a3 a4 a5 a6 a7 a8 a9 b1 b2 b3 br sa sb : Addr} (X : K.In h) (G : h.Ns mainGlobals mg)
  (e1 : PySem.W.nsIn K mainGlobals "Given" = some (some (.ref a1)))
  (e2 : PySem.W.nsIn K mainGlobals "Named" = some (some (.ref a2)))
  (e3 : PySem.W.nsIn K mainGlobals "Turned" = some (some (.ref a3)))
  (e4 : PySem.W.nsIn K mainGlobals "Pair" = some (some (.ref a4)))
  (e5 : PySem.W.nsIn K mainGlobals "Choice" = some (some (.ref a5)))
  (e6 : PySem.W.nsIn K mainGlobals "Before" = some (some (.ref a6)))
  (e7 : PySem.W.nsIn K mainGlobals "Led" = some (some (.ref a7)))
  (e8 : PySem.W.nsIn K mainGlobals "When" = some (some (.ref a8)))
  (e9 : PySem.W.nsIn K mainGlobals "Held" = some (some (.ref a9)))
  (x1 : PySem.W.nsIn K mainGlobals "NoBeat" = some (some (.ref b1)))
  (x2 : PySem.W.nsIn K mainGlobals "NoKind" = some (some (.ref b2)))
  (x3 : PySem.W.nsIn K mainGlobals "NoPart" = some (some (.ref b3)))
  (xr : PySem.W.nsIn K mainGlobals "RowError" = some (some (.ref br)))
  (nd : [a1, a2, a3, a4, a5, a6, a7, a8, a9].Nodup)
  (o1 : gC K a1)
  (n1 : vZ K a1)
  (m1_inner : cP K a1 "inner" "Part.inner" bT ["self"])
  (m1_size : cP K a1 "size" "Part.size" ai ["self"])
  (m1_depth : cP K a1 "depth" "Part.depth" af ["self"])
  (m1_need_bounds : cP K a1 "need_bounds" "Part.need_bounds" aQ ["self"])
  (m1_beat_by : cP K a1 "beat_by" "Part.beat_by" aW ["self", "beats", "place"])
  (m1_beat_from : cP K a1 "beat_from" "Part.beat_from" aP ["self", "beats", "within", "place"])
  (i1 : Di K mg "Given" a1 "Given.__init__" cV ["self", "value"] [])
  (o2 : gC K a2)
  (n2 : vZ K a2)
  (m2_inner : cP K a2 "inner" "Part.inner" bT ["self"])
  (m2_size : cP K a2 "size" "Part.size" ai ["self"])
  (m2_depth : cP K a2 "depth" "Part.depth" af ["self"])
  (m2_need_bounds : cP K a2 "need_bounds" "Part.need_bounds" aQ ["self"])
  (m2_beat_by : cP K a2 "beat_by" "Part.beat_by" aW ["self", "beats", "place"])
  (m2_beat_from : cP K a2 "beat_from" "Named.beat_from" bg ["self", "beats", "within", "place"])
  (i2 : Di K mg "Named" a2 "Named.__init__" cW ["self", "name"] [])
  (o3 : gC K a3)
  (n3 : vZ K a3)
  (m3_inner : cP K a3 "inner" "Turned.inner" cN ["self"])
  (m3_size : cP K a3 "size" "Part.size" ai ["self"])
  (m3_depth : cP K a3 "depth" "Part.depth" af ["self"])
  (m3_need_bounds : cP K a3 "need_bounds" "Part.need_bounds" aQ ["self"])
  (m3_beat_by : cP K a3 "beat_by" "Part.beat_by" aW ["self", "beats", "place"])
  (m3_beat_from : cP K a3 "beat_from" "Part.beat_from" aP ["self", "beats", "within", "place"])
  (i3 : Di K mg "Turned" a3 "Turned.__init__" cM ["self", "part"] [])
  (o4 : gC K a4)
  (n4 : vZ K a4)
  (m4_inner : cP K a4 "inner" "Pair.inner" dU ["self"])
  (m4_size : cP K a4 "size" "Part.size" ai ["self"])
  (m4_depth : cP K a4 "depth" "Part.depth" af ["self"])
  (m4_need_bounds : cP K a4 "need_bounds" "Part.need_bounds" aQ ["self"])
  (m4_beat_by : cP K a4 "beat_by" "Part.beat_by" aW ["self", "beats", "place"])
  (m4_beat_from : cP K a4 "beat_from" "Part.beat_from" aP ["self", "beats", "within", "place"])
  (i4 : Di K mg "Pair" a4 "Pair.__init__" dB ["self", "sign", "one", "other"] [])
  (o5 : gC K a5)
  (n5 : vZ K a5)
  (m5_inner : cP K a5 "inner" "Choice.inner" cK ["self"])
  (m5_size : cP K a5 "size" "Part.size" ai ["self"])
  (m5_depth : cP K a5 "depth" "Part.depth" af ["self"])
  (m5_need_bounds : cP K a5 "need_bounds" "Part.need_bounds" aQ ["self"])
  (m5_beat_by : cP K a5 "beat_by" "Part.beat_by" aW ["self", "beats", "place"])
  (m5_beat_from : cP K a5 "beat_from" "Part.beat_from" aP ["self", "beats", "within", "place"])
  (i5 : Di K mg "Choice" a5 "Choice.__init__" cJ ["self", "truth", "one", "other"] [])
  (o6 : gC K a6)
  (n6 : vZ K a6)
  (m6_inner : cP K a6 "inner" "Before.inner" cI ["self"])
  (m6_size : cP K a6 "size" "Part.size" ai ["self"])
  (m6_depth : cP K a6 "depth" "Part.depth" af ["self"])
  (m6_need_bounds : cP K a6 "need_bounds" "Part.need_bounds" aQ ["self"])
  (m6_beat_by : cP K a6 "beat_by" "Part.beat_by" aW ["self", "beats", "place"])
  (m6_beat_from : cP K a6 "beat_from" "Part.beat_from" aP ["self", "beats", "within", "place"])
  (i6 : Di K mg "Before" a6 "Before.__init__" bc ["self", "part", "first"] [])
  (o7 : gC K a7)
  (n7 : vZ K a7)
  (m7_inner : cP K a7 "inner" "Led.inner" eF ["self"])
  (m7_size : cP K a7 "size" "Part.size" ai ["self"])
  (m7_depth : cP K a7 "depth" "Part.depth" af ["self"])
  (m7_need_bounds : cP K a7 "need_bounds" "Part.need_bounds" aQ ["self"])
  (m7_beat_by : cP K a7 "beat_by" "Part.beat_by" aW ["self", "beats", "place"])
  (m7_beat_from : cP K a7 "beat_from" "Part.beat_from" aP ["self", "beats", "within", "place"])
  (i7 : Di K mg "Led" a7 "Led.__init__" d4 ["self", "head", "rest"] [])
  (o8 : gC K a8)
  (n8 : vZ K a8)
  (m8_inner : cP K a8 "inner" "When.inner" dW ["self"])
  (m8_size : cP K a8 "size" "Part.size" ai ["self"])
  (m8_depth : cP K a8 "depth" "Part.depth" af ["self"])
  (m8_need_bounds : cP K a8 "need_bounds" "Part.need_bounds" aQ ["self"])
  (m8_beat_by : cP K a8 "beat_by" "Part.beat_by" aW ["self", "beats", "place"])
  (m8_beat_from : cP K a8 "beat_from" "When.beat_from" bw ["self", "beats", "within", "place"])
  (i8 : Di K mg "When" a8 "When.__init__" dC ["self", "part", "name"] [])
  (o9 : gC K a9)
  (n9 : vZ K a9)
  (m9_inner : cP K a9 "inner" "Held.inner" dS ["self"])
  (m9_size : cP K a9 "size" "Part.size" ai ["self"])
  (m9_depth : cP K a9 "depth" "Part.depth" af ["self"])
  (m9_need_bounds : cP K a9 "need_bounds" "Part.need_bounds" aQ ["self"])
  (m9_beat_by : cP K a9 "beat_by" "Part.beat_by" aW ["self", "beats", "place"])
  (m9_beat_from : cP K a9 "beat_from" "Held.beat_from" bu ["self", "beats", "within", "place"])
  (i9 : Di K mg "Held" a9 "Held.__init__" b5 ["self", "part", "name", "first"] [])
  (ty1 : gB K b1)
  (kt11 : PySem.W.kitOne K (.ref b1) (.ref b1) = some true)
  (kt12 : PySem.W.kitOne K (.ref b1) (.ref b2) = some false)
  (kt13 : PySem.W.kitOne K (.ref b1) (.ref b3) = some false)
  (ve1 : PySem.W.kitOne K (.ref b1) (.type "ValueError") = some true)
  (re1 : PySem.W.kitOne K (.ref b1) (.ref br) = some true)
  (ne1 : b1 ≠ br)
  (be : PySem.W.mroIn K br (.type "BaseException") = some true)
  (bm : PySem.W.mroIn K b1 (.type "BaseException") = some true)
  (bt : PySem.W.typeIn K (.ref b1) = some (.type "type"))
  (de : DE K mg "NoBeat" b1 "NoBeat.__init__" cL ["self", "row", "place", "one", "other"])
  (fe_row : nQ K b1 "row")
  (fe_place : nQ K b1 "place")
  (fe_one : nQ K b1 "one")
  (fe_other : nQ K b1 "other")
  (d_has_letters : Df K mg "has_letters" eY ["text"])
  (d_has_word_form : Df K mg "has_word_form" dD ["text"])
  (d_is_word : Df K mg "is_word" jv ["thing"])
  (d_is_name : Df K mg "is_name" ju ["thing"])
  (d_is_number : Df K mg "is_number" gT ["thing"])
  (d_is_value : Df K mg "is_value" iS ["thing"])
  (d_need_name : Df K mg "need_name" gX ["name"])
  (d_need_first : Df K mg "need_first" fi ["first"])
  (d_has_shape : Df K mg "has_shape" gS ["told"])
  (d_many_within : Df K mg "many_within" eZ ["told"])
  (d_plain_by : Df K mg "plain_by" iT ["told", "inner"])
  (d_timed_by : Df K mg "timed_by" iU ["told", "inner"])
  (d_part_of : Df K mg "part_of" g6 ["told"])
  (d__law_cell_at : Df K mg "_law_cell_at" d5 ["_law_script", "_law_k"])
  (d__law_mixed : Df K mg "_law_mixed" ff ["_law_cell", "_law_k"])
  (d__law_names : Df K mg "_law_names" fg ["_law_cell", "_law_many"])
  (d__law_number : Df K mg "_law_number" eX ["_law_mix"])
  (d__law_value : Df K mg "_law_value" fh ["_law_mix", "_law_kind"])
  (d__law_tree : Df K mg "_law_tree" eI ["_law_cell", "_law_names_here", "_law_deep"])
  (d__law_leaf : Df K mg "_law_leaf" gQ ["_law_cell", "_law_names_here", "_law_kind", "_law_beat_here"])
  (d__law_typed : Df K mg "_law_typed" dX ["_law_cell", "_law_names_here", "_law_kind", "_law_beat_here", "_law_deep"])
  (d__law_told : Df K mg "_law_told" gR ["_law_part", "_law_beats", "_law_place"])
  (d_need_beat : Df K mg "need_beat" gW ["beat", "wanted", "place"])
  (d__law_beat : Df K mg "_law_beat" eG ["_law_told_here", "_law_beats", "_law_place"])
  (g_LONGEST_WORD : GI mg "LONGEST_WORD" 8)
  (g_MOST_WORDS : GI mg "MOST_WORDS" 4)
  (g_LOWEST : GI mg "LOWEST" (-128))
  (g_HIGHEST : GI mg "HIGHEST" 127)
  (g_DEEPEST : GI mg "DEEPEST" 10)
  (g_LARGEST : GI mg "LARGEST" 40)
  (g_LETTERS : GD K mg "LETTERS" (.str fU))
  (g_KEPT : GD K mg "KEPT_WORDS" (.tup (j5.map D.str)))
  (k_SHAPES : yj w K mg "SHAPES" sa jX)
  (k_SIGNS : yj w K mg "SIGNS" sb pB)
  (z_isinstance : PySem.W.nsIn K mainGlobals "isinstance" = some none)
  (z_bool : PySem.W.nsIn K mainGlobals "bool" = some none)
  (z_int : PySem.W.nsIn K mainGlobals "int" = some none)
  (z_len : PySem.W.nsIn K mainGlobals "len" = some none)
  (z_all : PySem.W.nsIn K mainGlobals "all" = some none)
  (z_sum : PySem.W.nsIn K mainGlobals "sum" = some none)
  (z_max : PySem.W.nsIn K mainGlobals "max" = some none)
  (z_range : PySem.W.nsIn K mainGlobals "range" = some none)
  (z_ValueError : PySem.W.nsIn K mainGlobals "ValueError" = some none)
  (z_enumerate : PySem.W.nsIn K mainGlobals "enumerate" = some none)
  (z_tuple : PySem.W.nsIn K mainGlobals "tuple" = some none)
  (z_dict : PySem.W.nsIn K mainGlobals "dict" = some none)
  (P : Program) (base : Heap) (f : Addr) (fd : FuncData) (F : qq K "law" "law" gU f fd) : bR P w K mg base km 32 f fd ["_law_script"] (qf K) := by
 have c1 := o1.cl
 have c2 := o2.cl
 have c3 := o3.cl
 have c4 := o4.cl
 have c5 := o5.cl
 have c6 := o6.cl
 have c7 := o7.cl
 have c8 := o8.cl
 have c9 := o9.cl
 have y_isinstance := PySem.W.mg_none_of X G z_isinstance
 have y_bool := PySem.W.mg_none_of X G z_bool
 have y_int := PySem.W.mg_none_of X G z_int
 have y_len := PySem.W.mg_none_of X G z_len
 have y_all := PySem.W.mg_none_of X G z_all
 have y_sum := PySem.W.mg_none_of X G z_sum
 have y_max := PySem.W.mg_none_of X G z_max
 have y_range := PySem.W.mg_none_of X G z_range
 have y_ValueError := PySem.W.mg_none_of X G z_ValueError
 have y_enumerate := PySem.W.mg_none_of X G z_enumerate
 have y_tuple := PySem.W.mg_none_of X G z_tuple
 have y_dict := PySem.W.mg_none_of X G z_dict
 have hA : f_ K (bh.mk a1 a2 a3 a4 a5 a6 a7 a8 a9) := ⟨nd, ?_, ?_⟩
 rotate_left
 ·simp only [List.mem_cons, List.not_mem_nil, or_false, forall_eq_or_imp, forall_eq]
  exact ⟨c1, c2, c3, c4, c5, c6, c7, c8, c9⟩
 ·intro C hC f hf
  simp only [List.mem_cons, List.not_mem_nil, or_false] at hC
  rcases hC with rfl | rfl | rfl | rfl | rfl | rfl | rfl | rfl | rfl
  ·exact n1 f hf
  ·exact n2 f hf
  ·exact n3 f hf
  ·exact n4 f hf
  ·exact n5 f hf
  ·exact n6 f hf
  ·exact n7 f hf
  ·exact n8 f hf
  ·exact n9 f hf
 have D_inner : nP K (bh.mk a1 a2 a3 a4 a5 a6 a7 a8 a9) := ⟨m1_inner.dm c1, m2_inner.dm c2, m3_inner.dm c3, m4_inner.dm c4, m5_inner.dm c5, m6_inner.dm c6, m7_inner.dm c7, m8_inner.dm c8, m9_inner.dm c9⟩
 have D_from : G6 K (bh.mk a1 a2 a3 a4 a5 a6 a7 a8 a9) := ⟨m1_beat_from.dm c1, m2_beat_from.dm c2, m3_beat_from.dm c3, m4_beat_from.dm c4, m5_beat_from.dm c5, m6_beat_from.dm c6, m7_beat_from.dm c7, m8_beat_from.dm c8, m9_beat_from.dm c9⟩
 have D_size : ∀ C, kg (bh.mk a1 a2 a3 a4 a5 a6 a7 a8 a9) C -> Dm K C "size" "Part.size" ai ["self"] := fun C ⟨p, e⟩ => by
  subst e
  cases p
  ·exact m1_size.dm c1
  ·exact m2_size.dm c2
  ·exact m3_size.dm c3
  ·exact m4_size.dm c4
  ·exact m5_size.dm c5
  ·exact m6_size.dm c6
  ·exact m7_size.dm c7
  ·exact m8_size.dm c8
  ·exact m9_size.dm c9
 have D_depth : ∀ C, kg (bh.mk a1 a2 a3 a4 a5 a6 a7 a8 a9) C -> Dm K C "depth" "Part.depth" af ["self"] := fun C ⟨p, e⟩ => by
  subst e
  cases p
  ·exact m1_depth.dm c1
  ·exact m2_depth.dm c2
  ·exact m3_depth.dm c3
  ·exact m4_depth.dm c4
  ·exact m5_depth.dm c5
  ·exact m6_depth.dm c6
  ·exact m7_depth.dm c7
  ·exact m8_depth.dm c8
  ·exact m9_depth.dm c9
 have D_need_bounds : ∀ C, kg (bh.mk a1 a2 a3 a4 a5 a6 a7 a8 a9) C -> Dm K C "need_bounds" "Part.need_bounds" aQ ["self"] := fun C ⟨p, e⟩ => by
  subst e
  cases p
  ·exact m1_need_bounds.dm c1
  ·exact m2_need_bounds.dm c2
  ·exact m3_need_bounds.dm c3
  ·exact m4_need_bounds.dm c4
  ·exact m5_need_bounds.dm c5
  ·exact m6_need_bounds.dm c6
  ·exact m7_need_bounds.dm c7
  ·exact m8_need_bounds.dm c8
  ·exact m9_need_bounds.dm c9
 have D_beat_by : ∀ C, kg (bh.mk a1 a2 a3 a4 a5 a6 a7 a8 a9) C -> Dm K C "beat_by" "Part.beat_by" aW ["self", "beats", "place"] := fun C ⟨p, e⟩ => by
  subst e
  cases p
  ·exact m1_beat_by.dm c1
  ·exact m2_beat_by.dm c2
  ·exact m3_beat_by.dm c3
  ·exact m4_beat_by.dm c4
  ·exact m5_beat_by.dm c5
  ·exact m6_beat_by.dm c6
  ·exact m7_beat_by.dm c7
  ·exact m8_beat_by.dm c8
  ·exact m9_beat_by.dm c9
 have hk := Bq re1 ne1
 have two : PySem.W.kitAny K (.ref b1) [.ref b2, .ref b3] = some false := by unfold PySem.W.kitAny; rw [kt12]; show PySem.W.kitAny K (.ref b1) [.ref b3] = some false; unfold PySem.W.kitAny; rw [kt13]; rfl
 have s1 := gD (P := P) (w := w) (base := base) (j := 0) d_is_number y_isinstance y_bool y_int g_LOWEST g_HIGHEST
 have s2 := dh d_is_value y_isinstance y_bool s1
 have s3 := cC d_need_first s2
 have w1 := eU (P := P) (w := w) (base := base) (j := 0) d_has_letters y_len y_all g_LETTERS
 have w2 := bV d_has_word_form y_len g_LONGEST_WORD w1
 have w3 := jg d_is_word g_KEPT w2
 have w4 := jf d_is_name y_len y_all g_MOST_WORDS w3 (w2.up (by omega))
 have w5 := bj d_need_name w4
 have mSize := yH (P := P) (w := w) (base := base) hA D_inner D_size y_sum 10
 have mDepth := uR (P := P) (w := w) (base := base) hA D_inner D_depth y_max 10
 have mBounds := uK D_need_bounds mDepth mSize g_DEEPEST g_LARGEST
 have k1 := rL (j := 12) (A := (bh.mk a1 a2 a3 a4 a5 a6 a7 a8 a9)) c1 (hA.mH a1 (by simp) "value" (by decide)) i1 (s2.up (by omega))
 have k2 := rM (j := 12) hA i2 (w5.up (by omega))
 have k3 := p8 (j := 12) hA i3 mBounds
 have k4 := uf (j := 12) hA i4 k_SIGNS mBounds
 have k5 := p7 (j := 12) hA i5 mBounds
 have k6 := p6 (j := 12) hA i6 (s3.up (by omega)) mBounds
 have k7 := wk (j := 12) hA i7 mBounds
 have k8 := ug (j := 12) hA i8 (w5.up (by omega)) mBounds
 have k9 := ue (j := 12) hA i9 (w5.up (by omega)) (s3.up (by omega)) mBounds
 have p1 := cj (P := P) (base := base) (j := 0) d_has_shape y_len k_SHAPES
 have p0 := eV d_many_within k_SHAPES p1
 have p2 := iJ (j := 14) d_plain_by (by omega) k1 k2 k3 k5
 have p3 := iK (j := 14) d_timed_by (by omega) k6 k7 k8 k9
 have p4 := qV (sb := sb) d_part_of p0 p1 p2 p3 k4 4 (by omega)
 have l1 := yu (P := P) (w := w) (base := base) (j := 0) d__law_mixed
 have l2 := Bm (P := P) (w := w) (base := base) (j := 0) d__law_cell_at y_len
 have l3 := vk (P := P) (w := w) (base := base) (j := 0) d__law_number
 have l4 := yw d__law_value l3
 have l5 := yv d__law_names y_range l1
 have l6 := qj d__law_tree y_len l1 l3 l4 4
 have l7 := Bn d__law_leaf y_int (l1.up (by omega)) l4
 have l8 := nI d__law_typed y_range l1 l4 l7 4
 have ex : G5 K b1 b2 b3 := ⟨ty1, two, kt11, ve1, fe_row.pg, fe_row.hd, fe_row.nf, fe_place.nf, fe_one.nf, fe_other.nf⟩
 have ke := zf (P := P) (w := w) (base := base) (k := 0) de fe_row fe_place fe_one fe_other
 have v1 := cD (i := 1) (j := 2) (by omega) d_need_beat ke bm bt
 have v2 := Bj (A := (bh.mk a1 a2 a3 a4 a5 a6 a7 a8 a9)) (i := 1) (j := 3) (by omega) hA D_from y_len v1 ke bm bt
 have v3 := vh (P := P) (w := w) (base := base) (A := (bh.mk a1 a2 a3 a4 a5 a6 a7 a8 a9)) (j := 4) D_beat_by y_enumerate (fun n C hC => (jm (P := P) (w := w) (mg := mg) (base := base) (j := 3) hA D_inner n C hC)) v2 4
 have v4 := Bo d__law_told (PySem.W.mg_of X G xr) hk be y_isinstance y_ValueError (PySem.W.mg_of X G x2) (PySem.W.mg_of X G x3) (PySem.W.mg_of X G x1) ex v3
 have v5 := w6 (P := P) (w := w) (base := base) d__law_beat y_isinstance y_int y_tuple y_enumerate 4
 have R := Cg (j := 31) (A := (bh.mk a1 a2 a3 a4 a5 a6 a7 a8 a9)) F y_range y_dict (l1.up (by omega)) (l2.up (by omega)) (l5.up (by omega)) (l6.up (by omega)) (l8.up (by omega)) (p4.up (by omega)) (yi v4 (by omega)) (v5.up (by omega))
 exact Hk R fun vs H Q E ⟨q, ns, e, hS, hl, k⟩ => ⟨[.lst (ns.map D.int)], e ▸ .cons (.lst hS (pW ns)) .nil, ns, rfl, fun v H' dv => by cases dv; exact k H'⟩
theorem all_mk {l : PySem.W.OpenLaw} {w : World} {K : PySem.W.Frag} {h : Heap} {mg : Str -> Option Value} {fa f1 : Addr} (X : K.In h) (G : h.Ns mainGlobals mg) (hfa : mg "law" = some (.ref fa))
  {od1 an1 : Option Addr} {sl1 : Array (Option Value)} {oc1 kV1 dc1 pm1 cd1 ct1 : Value}
  (la : PySem.W.nsIn K mainGlobals "law" = some (some (.ref f1))) (ll : K.lookup f1 = some ⟨oc1, od1, .func (PySem.W.fnOf "law" "law" (bZ gU) (aY gU) (aC gU) .none kV1 dc1 pm1 an1 cd1 ct1), sl1⟩) (lc : PySem.W.codeIn K cd1 "law" = true) (lk : PySem.W.keepIn K (.ref f1) = true)
  (R : ∀ (P : Program) (base : Heap) (f : Addr) (fd : FuncData), qq K "law" "law" gU f fd -> bR P w K mg base km 32 f fd ["_law_script"] (qf K))
  : ∃ fd : FuncData, (∀ (s : Shared) (v : Value), BindsTo s fd ⟨[v], []⟩ [("_law_script", v)]) /\ ∀ base : Heap, K.In base -> base.Ns mainGlobals mg -> bR l.prog w K mg base km 32 fa fd ["_law_script"] (qf K) := by
 have e := hfa.symm.trans (PySem.W.mg_of X G la)
 cases e
 exact ⟨PySem.W.fnOf "law" "law" (bZ gU) (aY gU) (aC gU) .none kV1 dc1 pm1 an1 cd1 ct1, fun s v => .of_eq rfl, fun base _ _ => R _ base _ _ (iM (st := gU) ll lc lk)⟩
theorem walk {l : PySem.W.OpenLaw} {q : Program} {loose : List Str} {XP : (Str -> Option Value) -> Heap -> Prop} {YP : World -> Heap -> Prop} {d : DefRec} {K : Params -> PySem.W.Frag} (hn : l.most = some 63) (hdf : d.params.defaults = [])
  (hY : ∀ (w : World) (h : Heap), YP w h -> (K w.params).In h)
  (F : ∀ (w : World) (mg : Str -> Option Value) (fa : Addr) (h : Heap), (K w.params).In h -> h.Ns mainGlobals mg -> mg d.name = some (.ref fa) ->
   ∃ fd : FuncData, (∀ (s : Shared) (u : Value), BindsTo s fd ⟨[u], []⟩ [("_law_script", u)]) /\ ∀ base : Heap, (K w.params).In base -> base.Ns mainGlobals mg -> bR l.prog w (K w.params) mg base km 32 fa fd ["_law_script"] (qf (K w.params))) :
  PySem.W.WalkO q loose XP YP l.row.toRowW d [] (fun f vs => PySem.call f vs) :=
 L2.A2 (n := 63) (k := 32) (x := "_law_script") (CX := fun _ => km) (sp := fun w => qf (K w.params)) hn (by decide) hdf ⟨rfl, by decide, by decide⟩ hY F (fun _ _ a ns hl _ hS => ⟨a, ns, rfl, hS, hl, fun _ => rfl⟩) fun _ _ _ _ _ z => z
end K06
open PySem PySem.W PyProof.Rows
namespace PySem.W.Fast
def tw10287313826231631857 := 0
def tw10591655949288202650 := 0
def tw10628149073116780313 := 0
def tw10779763646145841457 := 0
def tw10843544774404339613 := 0
def tw10902963452647684956 := 0
def tw10917129247357804323 := 0
def tw11009270708836878676 := 0
def tw11070862859030784171 := 0
def tw11218298301801552292 := 0
def tw11226328264898703475 := 0
def tw11231593186677989752 := 0
def tw11606791851511810936 := 0
def tw11849934549798210869 := 0
def tw11859220680112007127 := 0
def tw11927118186460361327 := 0
def tw11991667078616079456 := 0
def tw11998642552583993155 := 0
def tw12185892197618275805 := 0
def tw12235990374154415160 := 0
def tw12252979000876609256 := 0
def tw12268597341977140233 := 0
def tw12340596021777272473 := 0
def tw12466386642169268147 := 0
def tw12546461263227271376 := 0
def tw12685956918148276954 := 0
def tw12797007623065212328 := 0
def tw12805562676095953586 := 0
def tw1287079981966065311 := 0
def tw12916672285150628441 := 0
def tw13234636651423130807 := 0
def tw13778367592523236531 := 0
def tw13786030881212703712 := 0
def tw1406907128275539612 := 0
def tw14116299951056501385 := 0
def tw14139756124282162618 := 0
def tw14177098798875977346 := 0
def tw14291070681566093873 := 0
def tw14298558735066427960 := 0
def tw14305194719051744496 := 0
def tw143147817266838362 := 0
def tw14422025031670385697 := 0
def tw14436392715267729378 := 0
def tw14573172223229258579 := 0
def tw15022601697113653010 := 0
def tw15263618780759193258 := 0
def tw15442050473826557029 := 0
def tw15443336214198156445 := 0
def tw15634648554123992249 := 0
def tw15699024087051598885 := 0
def tw1570348144315639424 := 0
def tw157049298419477758 := 0
def tw15916137380070896901 := 0
def tw15916711924464000207 := 0
def tw15933488286249140702 := 0
def tw15960428984920085472 := 0
def tw15995202969545722314 := 0
def tw16000950847748328697 := 0
def tw16119491030120083377 := 0
def tw1612272834603346849 := 0
def tw16168285816723288857 := 0
def tw1632977644383409396 := 0
def tw16621225233901951279 := 0
def tw16636965824305834747 := 0
def tw16730396651682887206 := 0
def tw16875448922132877264 := 0
def tw16914393663658431195 := 0
def tw17031338258857305188 := 0
def tw1705817481732826561 := 0
def tw17233963172235187021 := 0
def tw17269982520852957662 := 0
def tw17320495402317630184 := 0
def tw1744964320163740194 := 0
def tw17470436539567515315 := 0
def tw17574977318130194058 := 0
def tw17593935921611862111 := 0
def tw17634074354490062430 := 0
def tw17741812977342526846 := 0
def tw17992932239690747144 := 0
def tw18040255961435521471 := 0
def tw18121318673958247791 := 0
def tw18188703905658962929 := 0
def tw18298634596706754626 := 0
def tw18318969036825945439 := 0
def tw18371646374907101920 := 0
def tw2123052967811404764 := 0
def tw2222603980280630471 := 0
def tw2455958180814055517 := 0
def tw2472394281930383357 := 0
def tw2536828821134420543 := 0
def tw2793181039483882181 := 0
def tw2821171684241446180 := 0
def tw2829599178663890996 := 0
def tw2903680716293625433 := 0
def tw314576376548467425 := 0
def tw3150694556878372033 := 0
def tw3263874628575929998 := 0
def tw3395060515171007793 := 0
def tw3594789752337527512 := 0
def tw3619737866636603424 := 0
def tw3699722823825146341 := 0
def tw3755828575962386235 := 0
def tw3767554746839612609 := 0
def tw3846974016375868542 := 0
def tw3947096489182046516 := 0
def tw425499010528663056 := 0
def tw4565945500053879036 := 0
def tw4633341446399999428 := 0
def tw4721362192130751505 := 0
def tw4812174422590710093 := 0
def tw5182923519479185445 := 0
def tw5319803310691142329 := 0
def tw533685151041857327 := 0
def tw5411987329769851655 := 0
def tw5464283682222342918 := 0
def tw5488162410474536594 := 0
def tw5699951935166875790 := 0
def tw5776601172963784910 := 0
def tw5785413227286598155 := 0
def tw5900855674304852951 := 0
def tw6415139470157911191 := 0
def tw6422351515940776471 := 0
def tw6527387730051284279 := 0
def tw659954261356860590 := 0
def tw6731002211301901034 := 0
def tw698691865826309645 := 0
def tw7034705275061176230 := 0
def tw7042031216489190557 := 0
def tw7061821398227129873 := 0
def tw7105131886827068716 := 0
def tw7272268267526090327 := 0
def tw7296351884400607153 := 0
def tw7400947874641530430 := 0
def tw7502730448632284330 := 0
def tw7534441177256287828 := 0
def tw8056366062482816700 := 0
def tw8058046525086308827 := 0
def tw8297202004795786325 := 0
def tw8459918941224472989 := 0
def tw8551994769710284653 := 0
def tw8742525603908072563 := 0
def tw8855468144931375024 := 0
def tw8899236846615542709 := 0
def tw8972875918972643858 := 0
def tw9008463233016925785 := 0
def tw9092983725064722911 := 0
def tw9475760118336421361 := 0
def tw9964387995758342624 := 0
def tw9972336401277855182 := 0
def tw9974120834483494616 := 0
end PySem.W.Fast
set_option maxRecDepth 100000 in
set_option maxHeartbeats 0 in
theorem PySem.Challenge.cw_runrows_k06_beats_holds : PySem.Challenge.rw_runrows_k06_beats.Holds := by
 w_on; o_law; k_head; (case hw => w_witness2)
 k_fill
 refine K06.walk (l := PySem.Challenge.rw_runrows_k06_beats) rfl rfl (fun w h Y => PySem.W.kIn_of Y) ?F
 case F =>
  intro w mg fa h KX G hmg
  refine' K06.all_mk KX G hmg ?la ?ll ?lc ?lk (K06.Bi KX G ?e1 ?e2 ?e3 ?e4 ?e5 ?e6 ?e7 ?e8 ?e9 ?x1 ?x2 ?x3 ?xr ?nd ?o1 ?n1 ?m1_inner ?m1_size ?m1_depth ?m1_need_bounds ?m1_beat_by ?m1_beat_from ?i1 ?o2 ?n2 ?m2_inner ?m2_size ?m2_depth ?m2_need_bounds ?m2_beat_by ?m2_beat_from ?i2 ?o3 ?n3 ?m3_inner ?m3_size ?m3_depth ?m3_need_bounds ?m3_beat_by ?m3_beat_from ?i3 ?o4 ?n4 ?m4_inner ?m4_size ?m4_depth ?m4_need_bounds ?m4_beat_by ?m4_beat_from ?i4 ?o5 ?n5 ?m5_inner ?m5_size ?m5_depth ?m5_need_bounds ?m5_beat_by ?m5_beat_from ?i5 ?o6 ?n6 ?m6_inner ?m6_size ?m6_depth ?m6_need_bounds ?m6_beat_by ?m6_beat_from ?i6 ?o7 ?n7 ?m7_inner ?m7_size ?m7_depth ?m7_need_bounds ?m7_beat_by ?m7_beat_from ?i7 ?o8 ?n8 ?m8_inner ?m8_size ?m8_depth ?m8_need_bounds ?m8_beat_by ?m8_beat_from ?i8 ?o9 ?n9 ?m9_inner ?m9_size ?m9_depth ?m9_need_bounds ?m9_beat_by ?m9_beat_from ?i9 ?ty1 ?kt11 ?kt12 ?kt13 ?ve1 ?re1 ?ne1 ?be ?bm ?bt ?de ?fe_row ?fe_place ?fe_one ?fe_other ?d_has_letters ?d_has_word_form ?d_is_word ?d_is_name ?d_is_number ?d_is_value ?d_need_name ?d_need_first ?d_has_shape ?d_many_within ?d_plain_by ?d_timed_by ?d_part_of ?d__law_cell_at ?d__law_mixed ?d__law_names ?d__law_number ?d__law_value ?d__law_tree ?d__law_leaf ?d__law_typed ?d__law_told ?d_need_beat ?d__law_beat ?g_LONGEST_WORD ?g_MOST_WORDS ?g_LOWEST ?g_HIGHEST ?g_DEEPEST ?g_LARGEST ?g_LETTERS ?g_KEPT ?k_SHAPES ?k_SIGNS ?z_isinstance ?z_bool ?z_int ?z_len ?z_all ?z_sum ?z_max ?z_range ?z_ValueError ?z_enumerate ?z_tuple ?z_dict)
  (case la => k_is)
  (case ll => k_is)
  (case lc => k_is)
  (case lk => k_is)
  (case e1 => k_is)
  (case e2 => k_is)
  (case e3 => k_is)
  (case e4 => k_is)
  (case e5 => k_is)
  (case e6 => k_is)
  (case e7 => k_is)
  (case e8 => k_is)
  (case e9 => k_is)
  (case x1 => k_is)
  (case x2 => k_is)
  (case x3 => k_is)
  (case xr => k_is)
  (case nd => decide)
  (case o1 => exact K06.fZ)
  (case n1 => exact K06.fV)
  (case m1_inner => exact K06.aO)
  (case m1_size => exact K06.aO)
  (case m1_depth => exact K06.aO)
  (case m1_need_bounds => exact K06.aO)
  (case m1_beat_by => exact K06.aO)
  (case m1_beat_from => exact K06.aO)
  (case i1 => exact K06.kz KX G)
  (case o2 => exact K06.fZ)
  (case n2 => exact K06.fV)
  (case m2_inner => exact K06.aO)
  (case m2_size => exact K06.aO)
  (case m2_depth => exact K06.aO)
  (case m2_need_bounds => exact K06.aO)
  (case m2_beat_by => exact K06.aO)
  (case m2_beat_from => exact K06.aO)
  (case i2 => exact K06.kz KX G)
  (case o3 => exact K06.fZ)
  (case n3 => exact K06.fV)
  (case m3_inner => exact K06.aO)
  (case m3_size => exact K06.aO)
  (case m3_depth => exact K06.aO)
  (case m3_need_bounds => exact K06.aO)
  (case m3_beat_by => exact K06.aO)
  (case m3_beat_from => exact K06.aO)
  (case i3 => exact K06.kz KX G)
  (case o4 => exact K06.fZ)
  (case n4 => exact K06.fV)
  (case m4_inner => exact K06.aO)
  (case m4_size => exact K06.aO)
  (case m4_depth => exact K06.aO)
  (case m4_need_bounds => exact K06.aO)
  (case m4_beat_by => exact K06.aO)
  (case m4_beat_from => exact K06.aO)
  (case i4 => exact K06.kz KX G)
  (case o5 => exact K06.fZ)
  (case n5 => exact K06.fV)
  (case m5_inner => exact K06.aO)
  (case m5_size => exact K06.aO)
  (case m5_depth => exact K06.aO)
  (case m5_need_bounds => exact K06.aO)
  (case m5_beat_by => exact K06.aO)
  (case m5_beat_from => exact K06.aO)
  (case i5 => exact K06.kz KX G)
  (case o6 => exact K06.fZ)
  (case n6 => exact K06.fV)
  (case m6_inner => exact K06.aO)
  (case m6_size => exact K06.aO)
  (case m6_depth => exact K06.aO)
  (case m6_need_bounds => exact K06.aO)
  (case m6_beat_by => exact K06.aO)
  (case m6_beat_from => exact K06.aO)
  (case i6 => exact K06.wC KX G K06.ie)
  (case o7 => exact K06.fZ)
  (case n7 => exact K06.fV)
  (case m7_inner => exact K06.aO)
  (case m7_size => exact K06.aO)
  (case m7_depth => exact K06.aO)
  (case m7_need_bounds => exact K06.aO)
  (case m7_beat_by => exact K06.aO)
  (case m7_beat_from => exact K06.aO)
  (case i7 => exact K06.kz KX G)
  (case o8 => exact K06.fZ)
  (case n8 => exact K06.fV)
  (case m8_inner => exact K06.aO)
  (case m8_size => exact K06.aO)
  (case m8_depth => exact K06.aO)
  (case m8_need_bounds => exact K06.aO)
  (case m8_beat_by => exact K06.aO)
  (case m8_beat_from => exact K06.aO)
  (case i8 => exact K06.kz KX G)
  (case o9 => exact K06.fZ)
  (case n9 => exact K06.fV)
  (case m9_inner => exact K06.aO)
  (case m9_size => exact K06.aO)
  (case m9_depth => exact K06.aO)
  (case m9_need_bounds => exact K06.aO)
  (case m9_beat_by => exact K06.aO)
  (case m9_beat_from => exact K06.aO)
  (case i9 => exact K06.wC KX G K06.kJ)
  (case ty1 => exact K06.B1)
  (case kt11 => kit_is)
  (case kt12 => kit_is)
  (case kt13 => kit_is)
  (case ve1 => kit_is)
  (case re1 => kit_is)
  (case ne1 => decide)
  (case be => k_is)
  (case bm => k_is)
  (case bt => k_is)
  (case de => exact K06.D8 KX G)
  (case fe_row => exact K06.nu)
  (case fe_place => exact K06.nu)
  (case fe_one => exact K06.nu)
  (case fe_other => exact K06.nu)
  (case d_has_letters => exact K06.ba KX G)
  (case d_has_word_form => exact K06.ba KX G)
  (case d_is_word => exact K06.ba KX G)
  (case d_is_name => exact K06.ba KX G)
  (case d_is_number => exact K06.ba KX G)
  (case d_is_value => exact K06.ba KX G)
  (case d_need_name => exact K06.ba KX G)
  (case d_need_first => exact K06.ba KX G)
  (case d_has_shape => exact K06.ba KX G)
  (case d_many_within => exact K06.ba KX G)
  (case d_plain_by => exact K06.ba KX G)
  (case d_timed_by => exact K06.ba KX G)
  (case d_part_of => exact K06.ba KX G)
  (case d__law_cell_at => exact K06.ba KX G)
  (case d__law_mixed => exact K06.ba KX G)
  (case d__law_names => exact K06.ba KX G)
  (case d__law_number => exact K06.ba KX G)
  (case d__law_value => exact K06.ba KX G)
  (case d__law_tree => exact K06.ba KX G)
  (case d__law_leaf => exact K06.ba KX G)
  (case d__law_typed => exact K06.ba KX G)
  (case d__law_told => exact K06.ba KX G)
  (case d_need_beat => exact K06.ba KX G)
  (case d__law_beat => exact K06.ba KX G)
  (case g_LONGEST_WORD => exact K06.mn KX G (by k_is))
  (case g_MOST_WORDS => exact K06.mn KX G (by k_is))
  (case g_LOWEST => exact K06.mn KX G (by k_is))
  (case g_HIGHEST => exact K06.mn KX G (by k_is))
  (case g_DEEPEST => exact K06.mn KX G (by k_is))
  (case g_LARGEST => exact K06.mn KX G (by k_is))
  (case g_LETTERS => exact K06.EG KX G (by k_is))
  (case g_KEPT => refine' K06.EH KX G ?e (K06.bp (K06.j5.map L2.V.str) ?l ?z ?v (K06.uV K06.j5)); (case e => k_is); (case l => k_is); (case z => exact Nat.le_of_ble_eq_true rfl); (case v => exact (.cons ⟨_, rfl⟩ (.cons ⟨_, rfl⟩ (.cons ⟨_, rfl⟩ (.cons ⟨_, rfl⟩ (.cons ⟨_, rfl⟩ (.cons ⟨_, rfl⟩ (.cons ⟨_, rfl⟩ (.cons ⟨_, rfl⟩ (.cons ⟨_, rfl⟩ (.cons ⟨_, rfl⟩ (.cons ⟨_, rfl⟩ (.cons ⟨_, rfl⟩ (.cons ⟨_, rfl⟩ (.cons ⟨_, rfl⟩ (.cons ⟨_, rfl⟩ (.cons ⟨_, rfl⟩ (.cons ⟨_, rfl⟩ (.cons ⟨_, rfl⟩ (.cons ⟨_, rfl⟩ (.nil))))))))))))))))))))))
  (case k_SHAPES => refine' K06.BF KX G ?e ?l ?k ?h ?s ?t; (case e => k_is); (case l => k_is); (case k => k_keys); (case h => exact (K06.av rfl rfl (K06.av rfl rfl (K06.av rfl rfl (K06.av rfl rfl (K06.av rfl rfl (K06.av rfl rfl (K06.av rfl rfl (K06.av rfl rfl (.nil)))))))))); (case s => exact rfl); (case t => refine' (.cons ?q0 (.cons ?q1 (.cons ?q2 (.cons ?q3 (.cons ?q4 (.cons ?q5 (.cons ?q6 (.cons ?q7 (.nil))))))))); (case q0 => refine' K06.bp [(.int 2), (.int 0)] ?l ?z ?v ?d; (case l => k_is); (case z => exact Nat.le_of_ble_eq_true rfl); (case v => exact .cons ⟨_, rfl⟩ (.cons ⟨_, rfl⟩ .nil)); (case d => exact fun _ => .cons (.int _) (.cons (.int _) .nil))); (case q1 => refine' K06.bp [(.int 2), (.int 0)] ?l ?z ?v ?d; (case l => k_is); (case z => exact Nat.le_of_ble_eq_true rfl); (case v => exact .cons ⟨_, rfl⟩ (.cons ⟨_, rfl⟩ .nil)); (case d => exact fun _ => .cons (.int _) (.cons (.int _) .nil))); (case q2 => refine' K06.bp [(.int 2), (.int 1)] ?l ?z ?v ?d; (case l => k_is); (case z => exact Nat.le_of_ble_eq_true rfl); (case v => exact .cons ⟨_, rfl⟩ (.cons ⟨_, rfl⟩ .nil)); (case d => exact fun _ => .cons (.int _) (.cons (.int _) .nil))); (case q3 => refine' K06.bp [(.int 4), (.int 3)] ?l ?z ?v ?d; (case l => k_is); (case z => exact Nat.le_of_ble_eq_true rfl); (case v => exact .cons ⟨_, rfl⟩ (.cons ⟨_, rfl⟩ .nil)); (case d => exact fun _ => .cons (.int _) (.cons (.int _) .nil))); (case q4 => refine' K06.bp [(.int 3), (.int 1)] ?l ?z ?v ?d; (case l => k_is); (case z => exact Nat.le_of_ble_eq_true rfl); (case v => exact .cons ⟨_, rfl⟩ (.cons ⟨_, rfl⟩ .nil)); (case d => exact fun _ => .cons (.int _) (.cons (.int _) .nil))); (case q5 => refine' K06.bp [(.int 3), (.int 2)] ?l ?z ?v ?d; (case l => k_is); (case z => exact Nat.le_of_ble_eq_true rfl); (case v => exact .cons ⟨_, rfl⟩ (.cons ⟨_, rfl⟩ .nil)); (case d => exact fun _ => .cons (.int _) (.cons (.int _) .nil))); (case q6 => refine' K06.bp [(.int 3), (.int 1)] ?l ?z ?v ?d; (case l => k_is); (case z => exact Nat.le_of_ble_eq_true rfl); (case v => exact .cons ⟨_, rfl⟩ (.cons ⟨_, rfl⟩ .nil)); (case d => exact fun _ => .cons (.int _) (.cons (.int _) .nil))); (case q7 => refine' K06.bp [(.int 4), (.int 1)] ?l ?z ?v ?d; (case l => k_is); (case z => exact Nat.le_of_ble_eq_true rfl); (case v => exact .cons ⟨_, rfl⟩ (.cons ⟨_, rfl⟩ .nil)); (case d => exact fun _ => .cons (.int _) (.cons (.int _) .nil)))))
  (case k_SIGNS => refine' K06.BF KX G ?e ?l ?k ?h ?s ?t; (case e => k_is); (case l => k_is); (case k => k_keys); (case h => exact (K06.av rfl rfl (K06.av rfl rfl (K06.av rfl rfl (K06.av rfl rfl (K06.av rfl rfl (K06.av rfl rfl (K06.av rfl rfl (K06.av rfl rfl (.nil)))))))))); (case s => exact rfl); (case t => refine' (.cons ?q0 (.cons ?q1 (.cons ?q2 (.cons ?q3 (.cons ?q4 (.cons ?q5 (.cons ?q6 (.cons ?q7 (.nil))))))))); (case q0 => refine' K06.bp [(.str "number"), (.str "number")] ?l ?z ?v ?d; (case l => k_is); (case z => exact Nat.le_of_ble_eq_true rfl); (case v => exact .cons ⟨_, rfl⟩ (.cons ⟨_, rfl⟩ .nil)); (case d => exact fun _ => .cons (.str _) (.cons (.str _) .nil))); (case q1 => refine' K06.bp [(.str "number"), (.str "number")] ?l ?z ?v ?d; (case l => k_is); (case z => exact Nat.le_of_ble_eq_true rfl); (case v => exact .cons ⟨_, rfl⟩ (.cons ⟨_, rfl⟩ .nil)); (case d => exact fun _ => .cons (.str _) (.cons (.str _) .nil))); (case q2 => refine' K06.bp [(.str "number"), (.str "number")] ?l ?z ?v ?d; (case l => k_is); (case z => exact Nat.le_of_ble_eq_true rfl); (case v => exact .cons ⟨_, rfl⟩ (.cons ⟨_, rfl⟩ .nil)); (case d => exact fun _ => .cons (.str _) (.cons (.str _) .nil))); (case q3 => refine' K06.bp [.aV, (.str "truth")] ?l ?z ?v ?d; (case l => k_is); (case z => exact Nat.le_of_ble_eq_true rfl); (case v => exact .cons rfl (.cons ⟨_, rfl⟩ .nil)); (case d => exact fun _ => .cons .aV (.cons (.str _) .nil))); (case q4 => refine' K06.bp [(.str "number"), (.str "truth")] ?l ?z ?v ?d; (case l => k_is); (case z => exact Nat.le_of_ble_eq_true rfl); (case v => exact .cons ⟨_, rfl⟩ (.cons ⟨_, rfl⟩ .nil)); (case d => exact fun _ => .cons (.str _) (.cons (.str _) .nil))); (case q5 => refine' K06.bp [(.str "number"), (.str "truth")] ?l ?z ?v ?d; (case l => k_is); (case z => exact Nat.le_of_ble_eq_true rfl); (case v => exact .cons ⟨_, rfl⟩ (.cons ⟨_, rfl⟩ .nil)); (case d => exact fun _ => .cons (.str _) (.cons (.str _) .nil))); (case q6 => refine' K06.bp [(.str "truth"), (.str "truth")] ?l ?z ?v ?d; (case l => k_is); (case z => exact Nat.le_of_ble_eq_true rfl); (case v => exact .cons ⟨_, rfl⟩ (.cons ⟨_, rfl⟩ .nil)); (case d => exact fun _ => .cons (.str _) (.cons (.str _) .nil))); (case q7 => refine' K06.bp [(.str "truth"), (.str "truth")] ?l ?z ?v ?d; (case l => k_is); (case z => exact Nat.le_of_ble_eq_true rfl); (case v => exact .cons ⟨_, rfl⟩ (.cons ⟨_, rfl⟩ .nil)); (case d => exact fun _ => .cons (.str _) (.cons (.str _) .nil)))))
  (case z_isinstance => k_is)
  (case z_bool => k_is)
  (case z_int => k_is)
  (case z_len => k_is)
  (case z_all => k_is)
  (case z_sum => k_is)
  (case z_max => k_is)
  (case z_range => k_is)
  (case z_ValueError => k_is)
  (case z_enumerate => k_is)
  (case z_tuple => k_is)
  (case z_dict => k_is)
#print axioms PySem.Challenge.cw_runrows_k06_beats_holds