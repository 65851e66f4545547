import PyProof.Rows.All
import Wide.All
import OpenK.AllK
import Wide.FinOn
import PyProof.EqAt
import PyProof.EqKinds
import PyProof.TupleCall
import KE.BitLaws
import PyProof.SetScanFacts
import PyProof.SetKind
import PyProof.TupleKey
import PyProof.IsRules
import PyProof.DictKinds
import PyProof.DictStraight
import PyProof.Rows.SetFrom
import PyProof.FactsAll.set
import PyProof.DictWalks
import KE.KDictSum
import KE.KSortTup
import PyProof.P3In
import PyProof.WalksMore
import PyProof.IsInstanceT
import PyProof.IsiTupleOf
import PyProof.WalkInts
import KE.KRegrown
import PyProof.TupleOfGen
import KE.KDictLaws
import KE.KDictList
import PyProof.ReprRoads
import PyProof.Rows.NestShow
import KE.KRevSl
import PyProof.ListNew
import KE.KItemsList
import PyProof.ReprLen
import PySem.Challenge.RW_emptybox_k50_rooms_written
set_option Elab.async false
set_option linter.all false
set_option maxRecDepth 100000
namespace L2
open PySem PySem.Spec PyProof.Rows
/-- a key: an int or a str -/
abbrev Key := Sum Int Str
def keyIs : Key → Value → Bool
  | .inl k, v => Value.isInt k v
  | .inr x, v => Value.isStrOf x v
def keyH (w : World) : Key → Int
  | .inl k => hashInt k
  | .inr x => hashStr w x
theorem keyIs_shape : ∀ {k : Key} {v : Value}, keyIs k v = true → (∃ i t, k = Sum.inl i ∧ v = Value.int i t) ∨ (∃ x t, k = Sum.inr x ∧ v = Value.str x t)
  | .inl i, v, h => by
    obtain ⟨t, e⟩ := Value.isInt_shape (k := i) (v := v) h
    exact .inl ⟨i, t, rfl, e⟩
  | .inr x, v, h => by
    obtain ⟨t, e⟩ := Value.isStrOf_shape (x := x) (v := v) h
    exact .inr ⟨x, t, rfl, e⟩
theorem keyIs_int (i : Int) (t : Tok) : keyIs (.inl i) (.int i t) = true := by simp [keyIs, Value.isInt]
theorem keyIs_str (x : Str) (t : Tok) : keyIs (.inr x) (.str x t) = true := by simp [keyIs, Value.isStrOf]
theorem key_ll (a b : Int) : decide ((Sum.inl a : Key) = Sum.inl b) = (a == b) := by
  by_cases e : a = b
  · subst e; simp
  · have h : ¬ (Sum.inl a : Key) = Sum.inl b := fun q => e (Sum.inl.inj q)
    rw [decide_eq_false h]
    exact (beq_eq_false_iff_ne.mpr e).symm
theorem key_rr (a b : Str) : decide ((Sum.inr a : Key) = Sum.inr b) = decide (a = b) := by
  by_cases e : a = b
  · subst e; simp
  · have h : ¬ (Sum.inr a : Key) = Sum.inr b := fun q => e (Sum.inr.inj q)
    rw [decide_eq_false h, decide_eq_false e]
theorem key_lr (a : Int) (b : Str) : decide ((Sum.inl a : Key) = Sum.inr b) = false := decide_eq_false (fun q => nomatch q)
theorem key_rl (a : Str) (b : Int) : decide ((Sum.inr a : Key) = Sum.inl b) = false := decide_eq_false (fun q => nomatch q)
def mixKind (prog : Program) (w : World) : PySem.KeyKind prog w Key where
  is := keyIs
  hash := keyH w
  inj := fun v a b ha hb => by
    rcases keyIs_shape ha with ⟨i, t, rfl, rfl⟩ | ⟨x, t, rfl, rfl⟩
    · rcases keyIs_shape hb with ⟨j, u, rfl, e⟩ | ⟨y, u, rfl, e⟩
      · injection e with e1 _; rw [e1]
      · exact nomatch e
    · rcases keyIs_shape hb with ⟨j, u, rfl, e⟩ | ⟨y, u, rfl, e⟩
      · exact nomatch e
      · injection e with e1 _; rw [e1]
  byValue := fun k v h => by
    rcases keyIs_shape h with ⟨i, t, rfl, rfl⟩ | ⟨x, t, rfl, rfl⟩ <;> rfl
  pyHash := fun hv h => by
    rcases keyIs_shape hv with ⟨i, t, rfl, rfl⟩ | ⟨x, t, rfl, rfl⟩
    · exact wpAny_pyHash_int h
    · exact wpAny_pyHash_str h
  eqBool := fun hu hv h => by
    rcases keyIs_shape hu with ⟨i, t, rfl, rfl⟩ | ⟨x, t, rfl, rfl⟩
    · rcases keyIs_shape hv with ⟨j, u, rfl, rfl⟩ | ⟨y, u, rfl, rfl⟩
      · rw [key_ll] at h; exact wpAny_eqBool_int h
      · rw [key_lr] at h; exact SeqAt.EqAt.int_str i t y u _ _ _ _ h
    · rcases keyIs_shape hv with ⟨j, u, rfl, rfl⟩ | ⟨y, u, rfl, rfl⟩
      · rw [key_rl] at h; exact SeqAt.EqAt.str_int x t j u _ _ _ _ h
      · rw [key_rr] at h; exact wpAny_eqBool_str h
  «strs» := fun k x t v h => by
    rcases keyIs_shape h with ⟨i, u, rfl, e⟩ | ⟨y, u, rfl, e⟩
    · exact nomatch e
    · injection e with e1 _
      subst e1
      cases v <;> rfl
theorem mixKind_is (prog : Program) (w : World) (k : Key) (v : Value) : (mixKind prog w).is k v = keyIs k v := rfl
theorem mixKind_int (prog : Program) (w : World) (i : Int) (t : Tok) : (mixKind prog w).is (.inl i) (.int i t) = true := keyIs_int i t
theorem mixKind_str (prog : Program) (w : World) (x : Str) (t : Tok) : (mixKind prog w).is (.inr x) (.str x t) = true := keyIs_str x t
end L2
namespace L2
open PySem PySem.Spec PyProof.Rows
/-- a value, without the heap -/
inductive V where
  | non | bl (b : Bool) | int (i : Int) | str (x : Str) | byt (b : Array UInt8) | flt (b : UInt64) | ref (a : Addr) | ty (n : String)
  deriving DecidableEq
def RelV : V → Value → Prop
  | .non, u => u = Value.none
  | .bl b, u => u = Value.bool b
  | .int i, u => ∃ t, u = Value.int i t
  | .str x, u => ∃ t, u = Value.str x t
  | .byt b, u => ∃ t, u = Value.bytes b t
  | .flt b, u => ∃ t, u = Value.float b t
  | .ref a, u => u = Value.ref a
  | .ty n, u => u = Value.type n
abbrev Vals : List V → List Value → Prop := Paired RelV
theorem Vals.length {xs : List V} {us : List Value} (r : Vals xs us) : xs.length = us.length := Paired.length r
theorem Vals.get : ∀ {xs : List V} {us : List Value} {i : Nat} {x : V}, Vals xs us → xs[i]? = some x → ∃ u, us[i]? = some u ∧ RelV x u
  | _, _, _, _, .nil, e => by simp at e
  | _, _, 0, _, .cons r _, e => by simp at e; subst e; exact ⟨_, rfl, r⟩
  | _, _, i + 1, x, .cons _ t, e => by
    obtain ⟨u, h1, h2⟩ := Vals.get (i := i) (x := x) t (by simpa using e)
    exact ⟨u, by simpa using h1, h2⟩
theorem Vals.set {x : V} {u : Value} (r : RelV x u) : ∀ {xs : List V} {us : List Value} (i : Nat), Vals xs us → Vals (xs.set i x) (us.set i u)
  | _, _, _, .nil => .nil
  | _, _, 0, .cons _ t => .cons r t
  | _, _, i + 1, .cons q t => .cons q (Vals.set r i t)
theorem Vals.append : ∀ {xs ys : List V} {us ws : List Value}, Vals xs us → Vals ys ws → Vals (xs ++ ys) (us ++ ws)
  | _, _, _, _, .nil, s => s
  | _, _, _, _, .cons r t, s => .cons r (Vals.append t s)
theorem Vals.take : ∀ {xs : List V} {us : List Value} (n : Nat), Vals xs us → Vals (xs.take n) (us.take n)
  | _, _, 0, _ => .nil
  | _, _, _ + 1, .nil => .nil
  | _, _, n + 1, .cons r t => .cons r (Vals.take n t)
theorem Vals.drop : ∀ {xs : List V} {us : List Value} (n : Nat), Vals xs us → Vals (xs.drop n) (us.drop n)
  | _, _, 0, r => r
  | _, _, _ + 1, .nil => .nil
  | _, _, n + 1, .cons _ t => Vals.drop n t
def RelO : Option V → Option Value → Prop
  | some v, some u => RelV v u
  | none, none => True
  | _, _ => False
def KV {κ : Type} : List (κ × V) → List (κ × Value) → Prop := Paired fun (p : κ × V) (q : κ × Value) => p.1 = q.1 ∧ RelV p.2 q.2
/-- a key of a dict (00_mix): an int or a text -/
def kV : Key → V
  | .inl i => .int i
  | .inr x => .str x
/-- what stands at a tracked address -/
inductive HO where
  | lst (xs : List V)
  | tup (xs : List V)
  | dK (kvs : List (Key × V)) | dT (kvs : List (List Key × V))
  | set (S : Int → Bool) (n : Nat)
  | ins (C dx : Addr) (fs : List (Str × V))
  | own (x : Addr)
  | xd (fs : List (Str × V))
  | met (f x : Addr)
  | rng (lo hi : Int)
  | frz (o : Obj) (u : HO)
  | tbl (ps : Array Value)
  | ext (φ : Heap → Prop)
abbrev Hp := Addr → Option HO
def upd (H : Hp) (a : Addr) (o : HO) : Hp := fun b => if b = a then some o else H b
theorem upd_same {H : Hp} {a : Addr} {o : HO} : upd H a o a = some o := by unfold upd; rw [if_pos rfl]
theorem upd_ne {H : Hp} {a b : Addr} {o : HO} (h : b ≠ a) : upd H a o b = H b := by unfold upd; rw [if_neg h]
theorem upd_upd {H : Hp} {a : Addr} {o u : HO} : upd (upd H a o) a u = upd H a u := by
  funext b; unfold upd; split <;> rfl
/-- two objects of different content stand apart -/
theorem ne_of {H : Hp} {a b : Addr} {o u : HO} (h : H a = some o) (h' : H b = some u) (d : o ≠ u) : a ≠ b := by
  intro e; subst e; rw [h] at h'; exact d (Option.some.inj h')
theorem ne_of_none {H : Hp} {a b : Addr} {o : HO} (h : H a = some o) (h' : H b = none) : a ≠ b := by
  intro e; subst e; rw [h] at h'; cases h'
section
variable (P : Program) (w : World)
def ObjOk (H : Hp) (h : Heap) (a : Addr) : HO → Prop
  | .lst xs => xs.length ≤ sizeLine ∧ ∃ (its : List Value) (n : Nat), Vals xs its ∧ h.get? a = some { cls := .type "list", data := .seq its.toArray n }
  | .tup xs => xs.length ≤ sizeLine ∧ ∃ its : List Value, Vals xs its ∧ IsTup h a its.toArray
  | .dK kvs => kvs.length ≤ sizeLine ∧ (a == sysModules) = false ∧ ∃ vs, KV kvs vs ∧ h.DictOf (mixKind P w) a vs
  | .dT kvs => kvs.length ≤ sizeLine ∧ (a == sysModules) = false ∧ ∃ xs : List (List Key × Addr × Value),
      Paired (fun (p : List Key × V) (q : List Key × Addr × Value) => p.1 = q.1 ∧ H q.2.1 = some (.tup (p.1.map kV)) ∧ RelV p.2 q.2.2) kvs xs ∧
      ∃ o es ep, h.get? a = some o ∧ o.ExactDict ∧ o.data = .dict es ep ∧ es.toList = xs.map (entryOfKey (tupleKind (mixKind P w))) ∧ (xs.map (·.1)).Nodup
  | .set S n => h.SetOf (intKind P w) a S n
  | .ins C dx fs => H dx = some (.own a) ∧ fs.length ≤ 1000 ∧ dx ≠ a ∧ h.get? a = some (PySem.W.instObj C dx) ∧
      ∃ mA, h.Ns1 dx mA ∧ (∀ f, RelO (fs.lookup f) (mA f)) ∧ PySem.Within mA (fs.map (·.1))
  | .own _ => ∃ o, h.get? a = some o
  | .xd fs => ∃ mA, h.Ns1 a mA ∧ ∀ f, RelO (fs.lookup f) (mA f)
  | .rng lo hi => ∃ t u v, h.get? a = some { cls := .type "range", data := .fields #[.int lo t, .int hi u, .int 1 v] }
  | .frz o u => h.get? a = some o ∧ ObjOk H h a u
  | .tbl ps => h.get? a = some { cls := .none, data := .fields ps }
  | .met f x => h.get? a = some (PySem.W.methodObj (.ref f) (.ref x))
  | .ext φ => φ h ∧ (∃ o, h.get? a = some o) ∧ ∀ h1 h2 : Heap, φ h1 → (∀ o, h1.get? a = some o → h2.get? a = some o) → φ h2
/-- the abstract heap is held -/
def HOk (H : Hp) (h : Heap) : Prop := ∀ a o, H a = some o → ObjOk P w H h a o
end
section
variable {P : Program} {w : World} {H H' : Hp} {h h' : Heap} {a : Addr} {o : HO}
theorem ObjOk.lt (x : ObjOk P w H h a o) : a < h.objs.size := by
  cases o with
  | lst xs => obtain ⟨_, _, _, _, e⟩ := x; exact Heap.lt_size e
  | tup xs => obtain ⟨_, _, _, p⟩ := x; exact p.lt
  | dK kvs => obtain ⟨_, _, _, _, o, _, _, e, _⟩ := x; exact Heap.lt_size e
  | dT kvs => obtain ⟨_, _, _, _, o, _, _, e, _⟩ := x; exact Heap.lt_size e
  | set S n => obtain ⟨o, _, _, _, e, _⟩ := x; exact Heap.lt_size e
  | ins C dx fs => obtain ⟨_, _, _, e, _⟩ := x; exact Heap.lt_size e
  | own y => obtain ⟨_, e⟩ := x; exact Heap.lt_size e
  | xd fs => obtain ⟨_, ⟨_, _, _, e, _⟩, _⟩ := x; exact Heap.lt_size e
  | rng lo hi => obtain ⟨_, _, _, e⟩ := x; exact Heap.lt_size e
  | frz ob u => obtain ⟨e, _⟩ := x; exact Heap.lt_size e
  | tbl ps => exact Heap.lt_size (show h.get? a = some _ from x)
  | met f y => exact Heap.lt_size (show h.get? a = some _ from x)
  | ext φ => obtain ⟨_, ⟨_, e⟩, _⟩ := x; exact Heap.lt_size e
theorem Paired.mapP {α β : Type} {F G : α → β → Prop} : ∀ {l₁ : List α} {l₂ : List β}, Paired F l₁ l₂ → (∀ a b, F a b → G a b) → Paired G l₁ l₂
  | _, _, .nil, _ => .nil
  | _, _, .cons r t, f => .cons (f _ _ r) (Paired.mapP t f)
/-- what an object's description leans on: its own object, its own dict, the tuples -/
theorem ObjOk.stay (x : ObjOk P w H h a o) (k : ∀ b u, (b = a ∨ H b = some (.own a)) → h.get? b = some u → h'.get? b = some u)
    (ho : ∀ b, H b = some (.own a) → H' b = some (.own a)) (ht : ∀ b xs, H b = some (.tup xs) → H' b = some (.tup xs)) : ObjOk P w H' h' a o := by
  induction o with
  | lst xs => obtain ⟨z, its, n, r, e⟩ := x; exact ⟨z, its, n, r, k _ _ (.inl rfl) e⟩
  | tup xs => obtain ⟨z, its, r, ob, e, c⟩ := x; exact ⟨z, its, r, ob, k _ _ (.inl rfl) e, c⟩
  | dK kvs => obtain ⟨z, y, vs, r, ob, es, ep, e, c⟩ := x; exact ⟨z, y, vs, r, ob, es, ep, k _ _ (.inl rfl) e, c⟩
  | dT kvs =>
    obtain ⟨z, y, xs, r, ob, es, ep, e, c⟩ := x
    exact ⟨z, y, xs, Paired.mapP r fun p q z => ⟨z.1, ht _ _ z.2.1, z.2.2⟩, ob, es, ep, k _ _ (.inl rfl) e, c⟩
  | set S n => obtain ⟨ob, es, ep, t, e, c⟩ := x; exact ⟨ob, es, ep, t, k _ _ (.inl rfl) e, c⟩
  | ins C dx fs =>
    obtain ⟨d, z, ne, e, mA, ⟨od, es, ep, e2, c⟩, r⟩ := x
    exact ⟨ho _ d, z, ne, k _ _ (.inl rfl) e, mA, ⟨od, es, ep, k _ _ (.inr d) e2, c⟩, r⟩
  | own y => obtain ⟨ob, e⟩ := x; exact ⟨ob, k _ _ (.inl rfl) e⟩
  | xd fs => obtain ⟨mA, ⟨od, es, ep, e, c⟩, r⟩ := x; exact ⟨mA, ⟨od, es, ep, k _ _ (.inl rfl) e, c⟩, r⟩
  | rng lo hi => obtain ⟨t, u, v, e⟩ := x; exact ⟨t, u, v, k _ _ (.inl rfl) e⟩
  | frz ob u ih => obtain ⟨e, q⟩ := x; exact ⟨k _ _ (.inl rfl) e, ih q⟩
  | tbl ps =>
    have e : h.get? a = some { cls := .none, data := .fields ps } := x
    show h'.get? a = some { cls := .none, data := .fields ps }
    exact k a _ (.inl rfl) e
  | met f y =>
    have e : h.get? a = some (PySem.W.methodObj (.ref f) (.ref y)) := x
    show h'.get? a = some (PySem.W.methodObj (.ref f) (.ref y))
    exact k a _ (.inl rfl) e
  | ext φ => obtain ⟨p, ⟨o, e⟩, st⟩ := x; exact ⟨st _ _ p fun o q => k _ _ (.inl rfl) q, ⟨o, k _ _ (.inl rfl) e⟩, st⟩
theorem HOk.lt (x : HOk P w H h) (e : H a = some o) : a < h.objs.size := (x a o e).lt
theorem HOk.fresh (x : HOk P w H h) (e : h.objs.size ≤ a) : H a = none := by
  cases q : H a with
  | none => rfl
  | some u => exact absurd (Nat.lt_of_lt_of_le (x.lt q) e) (Nat.lt_irrefl _)
/-- every object of the heap is kept -/
theorem HOk.kept (x : HOk P w H h) (k : ∀ b u, h.get? b = some u → h'.get? b = some u) : HOk P w H h' := fun a o e =>
  (x a o e).stay (fun b u _ q => k b u q) (fun _ q => q) fun _ _ q => q
/-- a new object is laid and tracked -/
theorem HOk.laid (x : HOk P w H h) (k : ∀ b u, h.get? b = some u → h'.get? b = some u) (hp : h.objs.size ≤ a) (new : ObjOk P w (upd H a o) h' a o) : HOk P w (upd H a o) h' := fun b u e => by
  have hn := x.fresh hp
  by_cases hb : b = a
  · subst hb; rw [upd_same] at e; cases e; exact new
  · rw [upd_ne hb] at e
    exact (x b u e).stay (fun c v _ q => k c v q) (fun c q => by rw [upd_ne (ne_of_none q hn)]; exact q) fun c xs q => by rw [upd_ne (ne_of_none q hn)]; exact q
end
/-- what may be read as u: it is u, or a known u -/
def Rd (H : Hp) (a : Addr) (u : HO) : Prop := H a = some u ∨ ∃ o, H a = some (.frz o u)
theorem Rd.ok {P : Program} {w : World} {H : Hp} {h : Heap} {a : Addr} {u : HO} (r : Rd H a u) (x : HOk P w H h) : ObjOk P w H h a u := by
  rcases r with r | ⟨o, r⟩
  · exact x a u r
  · obtain ⟨_, q⟩ := x a _ r
    exact q
/-- what may be written -/
def Mut : Option HO → Prop
  | some (.lst _) => True
  | some (.dK _) => True
  | some (.dT _) => True
  | some (.set _ _) => True
  | some (.ins _ _ _) => True
  | some (.ext _) => True
  | _ => False
section
variable {P : Program} {w : World} {H : Hp} {h h' : Heap} {x e : Addr} {o' : HO}
/-- the object at e is changed: x itself, or the dict of the instance x -/
theorem HOk.write (ok : HOk P w H h) (mu : Mut (H x)) (he : e = x ∨ H e = some (.own x)) (k : ∀ b u, b ≠ e → h.get? b = some u → h'.get? b = some u) (heo : ∃ u, h'.get? e = some u)
    (new : ObjOk P w (upd H x o') h' x o') : HOk P w (upd H x o') h' := fun b u q => by
  have nown : ∀ c y, H c = some (.own y) → c ≠ x := fun c y r z => by subst z; rw [r] at mu; exact mu
  have ntup : ∀ c xs, H c = some (.tup xs) → c ≠ x := fun c xs r z => by subst z; rw [r] at mu; exact mu
  by_cases hb : b = x
  · subst hb; rw [upd_same] at q; cases q; exact new
  · rw [upd_ne hb] at q
    by_cases hbe : b = e
    · have q' : H b = some (.own x) := by
        rcases he with z | z
        · exact absurd (hbe.trans z) hb
        · rw [hbe]; exact z
      rw [q] at q'; cases q'
      obtain ⟨v, hv⟩ := heo
      exact ⟨v, by rw [hbe]; exact hv⟩
    · refine (ok b u q).stay (fun c v hc r => k c v ?_ r) (fun c r => by rw [upd_ne (nown c b r)]; exact r) fun c xs r => by rw [upd_ne (ntup c xs r)]; exact r
      rcases hc with rfl | hc
      · exact hbe
      · rintro rfl
        rcases he with z | z
        · exact nown c b hc z
        · rw [hc] at z; cases z; exact hb rfl
end
structure Un (fs ex : List Addr) (H H' : Hp) (h h' : Heap) : Prop where
  keep : ∀ b o, h.get? b = some o → H b = none → b ∉ fs → b ∉ ex → h'.get? b = some o
  slot : ∀ b o, h.get? b = some o → H b = none → b ∈ fs → b ∉ ex → ∃ sl, h'.get? b = some { o with slots := sl }
  free : ∀ b o, h.get? b = some o → H b = none → b ∉ ex → H' b = none
  there : ∀ b o, h.get? b = some o → b ∉ ex → ∃ o', h'.get? b = some o'
  tups : ∀ b xs, H b = some (.tup xs) → H' b = some (.tup xs)
  frzs : ∀ b o u, H b = some (.frz o u) → H' b = some (.frz o u)
  tbls : ∀ b ps, H b = some (.tbl ps) → ∃ more, H' b = some (.tbl (ps ++ more))
section
variable {fs fs' ex ex' : List Addr} {H H1 H2 : Hp} {h h1 h2 h' : Heap} {a x e : Addr} {o : HO}
theorem Un.any (u : Un fs ex H H1 h h1) {b : Addr} {ob : Obj} (q : h.get? b = some ob) (n : H b = none) (hx : b ∉ ex) : ∃ sl, h1.get? b = some { ob with slots := sl } := by
  by_cases hb : b ∈ fs
  · exact u.slot b ob q n hb hx
  · exact ⟨ob.slots, u.keep b ob q n hb hx⟩
theorem Un.kept (k : ∀ b u, h.get? b = some u → h'.get? b = some u) : Un fs ex H H h h' :=
  ⟨fun b ob q _ _ _ => k b ob q, fun b ob q _ _ _ => ⟨ob.slots, k b ob q⟩, fun _ _ _ n _ => n, fun b ob q _ => ⟨ob, k b ob q⟩, fun _ _ q => q, fun _ _ _ q => q, fun _ ps q => ⟨#[], by rw [q]; simp⟩⟩
theorem Un.refl : Un fs ex H H h h := Un.kept fun _ _ q => q
theorem Un.laid (k : ∀ b u, h.get? b = some u → h'.get? b = some u) (hp : h.objs.size ≤ a) (hn : H a = none) : Un fs ex H (upd H a o) h h' where
  keep := fun b u q _ _ _ => k b u q
  slot := fun b u q _ _ _ => ⟨u.slots, k b u q⟩
  free := fun b u q n _ => by rw [upd_ne (Nat.ne_of_lt (Nat.lt_of_lt_of_le (Heap.lt_size q) hp))]; exact n
  there := fun b u q _ => ⟨u, k b u q⟩
  tups := fun b xs q => by rw [upd_ne (ne_of_none q hn)]; exact q
  frzs := fun b u xs q => by rw [upd_ne (ne_of_none q hn)]; exact q
  tbls := fun b ps q => ⟨#[], by rw [upd_ne (ne_of_none q hn), q]; simp⟩
theorem Un.write (mu : Mut (H x)) (he : e = x ∨ H e = some (.own x)) (k : ∀ b u, b ≠ e → h.get? b = some u → h'.get? b = some u) (heo : ∃ u, h'.get? e = some u) : Un fs ex H (upd H x o) h h' := by
  have hx : ∀ b, H b = none → b ≠ x := fun b n z => by subst z; rw [n] at mu; exact mu
  have hb : ∀ b, H b = none → b ≠ e := fun b n z => by
    subst z
    rcases he with r | r
    · exact hx b n r
    · rw [n] at r; cases r
  have hm : ∀ b u, H b = some u → ¬ Mut (some u) → b ≠ x := fun b u q nm z => by subst z; rw [q] at mu; exact nm mu
  refine ⟨fun b u q n _ _ => k b u (hb b n) q, fun b u q n _ _ => ⟨u.slots, k b u (hb b n) q⟩, fun b u q n _ => by rw [upd_ne (hx b n)]; exact n, fun b u q _ => ?_,
    fun b xs q => by rw [upd_ne (hm b _ q fun z => z)]; exact q, fun b u xs q => by rw [upd_ne (hm b _ q fun z => z)]; exact q, fun b ps q => ⟨#[], by rw [upd_ne (hm b _ q fun z => z), q]; simp⟩⟩
  by_cases hbe : b = e
  · subst hbe; exact heo
  · exact ⟨u, k b u hbe q⟩
end
def trk (h : Heap) (H : Hp) : List Addr := (List.range h.objs.size).filter fun a => (H a).isSome
def hidT (h : Heap) (H : Hp) : Heap := PySem.W.hideAll h (trk h H)
theorem hidT_size (h : Heap) (H : Hp) : (hidT h H).objs.size = h.objs.size := PySem.W.hideAll_size _ _
theorem hidT_get {h : Heap} {H : Hp} {b : Addr} {o : Obj} (e : h.get? b = some o) (n : H b = none) : (hidT h H).get? b = some o :=
  PySem.W.hideAll_get _ e fun hm => by
    have q : (H b).isSome = true := (List.mem_filter.mp hm).2
    rw [n] at q; simp at q
theorem of_hidT {h : Heap} {H : Hp} {b : Addr} {o : Obj} (e : (hidT h H).get? b = some o) : h.get? b = some o ∧ H b = none := by
  have e' : h.get? b = some o := PySem.W.of_hideAll (trk h H) e
  refine ⟨e', ?_⟩
  cases q : H b with
  | none => rfl
  | some x =>
    have hm : b ∈ trk h H := List.mem_filter.mpr ⟨List.mem_range.mpr (Heap.lt_size e'), by simp [q]⟩
    have z : (hidT h H).get? b = none := PySem.W.hideAll_none (trk h H) hm
    rw [z] at e; cases e
def allNews (g h : Heap) (L : Addr) : List (Addr × Obj) := (List.range h.objs.size).filterMap fun a => if a = L ∨ (g.get? a).isSome = true then none else (h.get? a).map fun o => (a, o)
def rest (g h : Heap) (L d : Addr) : List (Addr × Obj) := (allNews g h L).filter fun p => decide (p.1 ≠ d)
end L2
namespace L2
open PySem PySem.Spec PyProof.Rows
/-- the module's facts, over the base: the heap at the law's entry without what is tracked there -/
structure Mod (K : PySem.W.Frag) (mg : Str → Option Value) (base : Heap) : Prop where
  kin : K.In base
  glob : base.Ns mainGlobals mg
  blt : ∃ mb, base.Ns builtinsNs mb ∧ ∀ x : Str, x ≠ "__name__" → mb x = bootBuiltins x
  nolimit : base.NoLimit
/-- the context: a def's body (or a comprehension's block) running. base: fixed through the whole law; s₀, H₀: the entry; outer: the frames whose slots others may change (a def's callers); stack: all frames that run;
   ex: iterators that were made ahead of the entry and are walked here (a comprehension's); fn: the names whose cells were made at the entry (a def: all; a comprehension's block: its own); calm: not within an except suite; pn: pins that every state bears; xe: what is wanted of an exception that leaves the code -/
structure Cx where
  prog : Program
  w : World
  K : PySem.W.Frag
  mg : Str → Option Value
  base : Heap
  A : Around
  N : List Str
  s_0 : Shared
  H_0 : Hp
  env : Env
  outer : List Env
  stack : List Env
  ex : List Addr
  fn : Str → Bool
  calm : Bool
  pn : List (Addr × Obj)
  xe : Value → Shared → Prop
/-- the callers' frames -/
def frs (l : List Env) : List Addr := l.filterMap (·.frame)
abbrev Cx.fs (X : Cx) : List Addr := frs X.outer
def Vis (sc : Scope) (x : Str) : Prop := sc.names.lookup x = some .local ∨ sc.names.lookup x = some .cell ∨ sc.names.lookup x = some .free
def Loc (sc : Scope) (x : Str) : Prop := sc.names.lookup x = some .local ∨ sc.names.lookup x = some .cell
def Look (env : Env) (h : Heap) (m : Str → Option Value) (x : Str) (u : Value) : Prop :=
  (env.kindOf x = some .local ∧ m x = some u) ∨ ((env.kindOf x = some .cell ∨ env.kindOf x = some .free) ∧ ∃ c, env.cells.lookup x = some c ∧ h.IsCell c (some u))
structure Cx.Ok (X : Cx) : Prop where
  mod : Mod X.K X.mg X.base
  kind : X.env.scope.kind = .function
  glob : X.env.globals = mainGlobals
  blt : X.env.builtins = builtinsNs
  above : X.s_0.heap.objs.size ≤ X.env.locals
  inj : ∀ x y c, X.env.cells.lookup x = some c → X.env.cells.lookup y = some c → x = y
  has : ∀ x, (X.env.kindOf x = some .cell ∨ X.env.kindOf x = some .free) → ∃ c, X.env.cells.lookup x = some c
  cab : ∀ x c, X.fn x = true → X.env.cells.lookup x = some c → X.s_0.heap.objs.size ≤ c
  hd : X.calm = true → X.A.handled = none
  frames : X.A.frames = some X.stack
  stk : X.stack = X.outer ∨ (X.stack = X.env :: X.outer ∧ X.env.frame = some X.env.locals)
  exf : ∀ b ∈ X.ex, b ≠ X.env.locals ∧ ∀ x c, X.env.cells.lookup x = some c → c ≠ b
  bs : ∀ b o, X.base.get? b = some o → X.s_0.heap.get? b = some o ∧ X.H_0 b = none
  bsz : X.base.objs.size ≤ X.s_0.heap.objs.size
  noex : ∀ b o, X.base.get? b = some o → b ∉ X.ex
  exfs : ∀ b ∈ X.ex, b ∉ X.fs
  funs : X.s_0.heap.FunFrames X.base X.outer
  frf : ∀ b ∈ X.fs, X.H_0 b = none
structure Inv (X : Cx) (pins : List (Addr × Obj)) (σ : List (Option V)) (H : Hp) (s : Shared) : Prop where
  ok : X.Ok
  os : s.os = X.s_0.os
  bare : AllBare s.gens
  base : Un X.fs X.ex X.H_0 H X.s_0.heap s.heap
  loc : ∃ m, s.heap.Ns X.env.locals m ∧ ∀ (i : Nat) (x : Str) (v : V), X.N[i]? = some x → σ[i]? = some (some v) → Vis X.env.scope x → ∃ u, RelV v u ∧ Look X.env s.heap m x u
  cell : ∀ x c, X.env.cells.lookup x = some c → ∃ v, s.heap.IsCell c v
  free : H X.env.locals = none
  freeC : ∀ x c, X.env.cells.lookup x = some c → H c = none
  pin : ∀ p ∈ X.pn ++ pins, s.heap.get? p.1 = some p.2 ∧ H p.1 = none ∧ p.1 ≠ X.env.locals ∧ p.1 ∉ X.fs ∧ ∀ v, p.2.data ≠ .cell v
  hok : HOk X.prog X.w H s.heap
  len : σ.length = X.N.length
section
variable {X : Cx} {pins : List (Addr × Obj)} {σ : List (Option V)} {H H' : Hp} {s : Shared} {h' : Heap}
theorem Cx.Ok.nofr (ok : X.Ok) {b : Addr} {o : Obj} (e : X.base.get? b = some o) : b ∉ X.fs := fun hb => by
  have := (ok.funs.mem hb).1
  rw [e] at this; cases this
theorem Inv.bs (I : Inv X pins σ H s) : ∀ b o, X.base.get? b = some o → s.heap.get? b = some o ∧ H b = none := fun b o e =>
  ⟨I.base.keep b o (I.ok.bs b o e).1 (I.ok.bs b o e).2 (I.ok.nofr e) (I.ok.noex b o e), I.base.free b o (I.ok.bs b o e).1 (I.ok.bs b o e).2 (I.ok.noex b o e)⟩
theorem Inv.bk (I : Inv X pins σ H s) : ∀ b o, X.base.get? b = some o → s.heap.get? b = some o := fun b o e => (I.bs b o e).1
theorem Inv.mod (I : Inv X pins σ H s) : Mod X.K X.mg X.base := I.ok.mod
theorem Inv.kIn (I : Inv X pins σ H s) : X.K.In s.heap := I.ok.mod.kin.keeps I.bk
theorem Inv.nolimit (I : Inv X pins σ H s) : s.heap.NoLimit := I.ok.mod.nolimit.keeps I.bk
/-- the frame over the base: for OpenK's rules (K.In X.base is I.mod.kin) -/
theorem Inv.fr (I : Inv X pins σ H s) : ∃ m, Fr X.base X.env.locals s.heap m :=
  let ⟨m, hn, _⟩ := I.loc
  ⟨m, hn, I.bk, Nat.le_trans I.ok.bsz I.ok.above⟩
theorem Inv.lt (I : Inv X pins σ H s) : X.env.locals < s.heap.objs.size := let ⟨_, hn, _⟩ := I.loc; hn.lt
theorem Inv.sz (I : Inv X pins σ H s) : X.s_0.heap.objs.size ≤ s.heap.objs.size := Nat.le_trans I.ok.above (Nat.le_of_lt I.lt)
theorem Inv.nofs (I : Inv X pins σ H s) {a : Addr} (h : s.heap.objs.size ≤ a) : a ∉ X.fs := fun hb => by
  obtain ⟨_, o, ho, _⟩ := I.ok.funs.mem hb
  exact absurd (Nat.lt_of_lt_of_le (Heap.lt_size ho) (Nat.le_trans I.sz h)) (Nat.lt_irrefl _)
theorem Inv.cne (I : Inv X pins σ H s) : ∀ x c, X.env.cells.lookup x = some c → c ≠ X.env.locals := fun x c e z => by
  obtain ⟨v, o, ho, hd⟩ := I.cell x c e
  obtain ⟨m, ⟨o', es, ep, ho', hd', _⟩, _⟩ := I.loc
  rw [z, ho'] at ho; cases ho; rw [hd'] at hd; cases hd
theorem Inv.funs (I : Inv X pins σ H s) : s.heap.FunFrames X.base X.outer := by
  have all : ∀ (l : List Env), (∀ b ∈ frs l, b ∈ X.fs) → X.s_0.heap.FunFrames X.base l → s.heap.FunFrames X.base l := by
    intro l
    induction l with
    | nil => intro _ _; trivial
    | cons env r ih =>
      intro hs hl
      obtain ⟨hk, ⟨L, o, hf, hn, ho, hd⟩, hr⟩ := hl
      have hL : L ∈ X.fs := hs L (by unfold frs; rw [List.filterMap_cons, hf]; exact List.mem_cons_self)
      obtain ⟨sl, e⟩ := I.base.slot L o ho (I.ok.frf L hL) hL fun z => I.ok.exfs L z hL
      exact ⟨hk, ⟨L, _, hf, hn, e, hd⟩, ih (fun b hb => hs b (by unfold frs; rw [List.filterMap_cons, hf]; exact List.mem_cons_of_mem _ hb)) hr⟩
  exact all X.outer (fun _ hb => hb) I.ok.funs
/-- the frames that run, for a call -/
theorem Inv.stack (I : Inv X pins σ H s) : s.heap.FunFrames X.base X.stack := by
  rcases I.ok.stk with e | ⟨e, hf⟩
  · rw [e]; exact I.funs
  · rw [e]
    obtain ⟨m, hn, _⟩ := I.loc
    refine .cons (by rw [I.ok.kind]; decide) hf hn ?_ I.funs
    exact Heap.get?_none_of_le (Nat.le_trans I.ok.bsz I.ok.above)
theorem Inv.stkSub (I : Inv X pins σ H s) : ∀ b ∈ frs X.stack, b ∈ X.env.locals :: X.fs := fun b hb => by
  rcases I.ok.stk with e | ⟨e, hf⟩
  · rw [e] at hb; exact List.mem_cons_of_mem _ hb
  · rw [e] at hb
    unfold frs at hb
    rw [List.filterMap_cons, hf] at hb
    exact hb
theorem Inv.stkFree (I : Inv X pins σ H s) : ∀ b ∈ frs X.stack, H b = none := fun b hb => by
  rcases List.mem_cons.mp (I.stkSub b hb) with e | hb
  · rw [e]; exact I.free
  · obtain ⟨_, o, ho, _⟩ := I.ok.funs.mem hb
    exact I.base.free b o ho (I.ok.frf b hb) fun z => I.ok.exfs b z hb
/-- THE STEP: the untracked objects but the frame and the records at ch are kept (the callers' frames up to slots), the frame's map is kept, the new abstract heap is held -/
theorem Inv.step {g' : Array GenState} {t' : Nat} {d' : Drawn} {ch : List Addr} (I : Inv X pins σ H s)
    (hch : ∀ b ∈ ch, (b ∈ X.ex ∨ X.s_0.heap.objs.size ≤ b) ∧ b ≠ X.env.locals ∧ (∀ x c, X.env.cells.lookup x = some c → c ≠ b) ∧ ∀ p ∈ X.pn ++ pins, p.1 ≠ b)
    (keep : ∀ b o, b ≠ X.env.locals → b ∉ X.fs → b ∉ ch → s.heap.get? b = some o → H b = none → h'.get? b = some o)
    (slot : ∀ b o, b ≠ X.env.locals → b ∈ X.fs → b ∉ ch → s.heap.get? b = some o → H b = none → ∃ sl, h'.get? b = some { o with slots := sl }) (free : ∀ b o, b ∉ ch → s.heap.get? b = some o → H b = none → H' b = none)
    (there : ∀ b o, b ∉ ch → s.heap.get? b = some o → ∃ o', h'.get? b = some o')
    (tups : ∀ b xs, H b = some (.tup xs) → H' b = some (.tup xs)) (frzs : ∀ b o u, H b = some (.frz o u) → H' b = some (.frz o u)) (tbls : ∀ b ps, H b = some (.tbl ps) → ∃ more, H' b = some (.tbl (ps ++ more)))
    (ns : ∀ m, s.heap.Ns X.env.locals m → h'.Ns X.env.locals m) (hok : HOk X.prog X.w H' h') (hg : AllBare g') :
    Inv X pins σ H' { s with heap := h', gens := g', drawn := d', toks := t' } := by
  have neL : ∀ b o, X.s_0.heap.get? b = some o → b ≠ X.env.locals := fun b o e => Nat.ne_of_lt (Nat.lt_of_lt_of_le (Heap.lt_size e) I.ok.above)
  have neC : ∀ b o, X.s_0.heap.get? b = some o → b ∉ X.ex → b ∉ ch := fun b o e hx hb => by
    rcases (hch b hb).1 with z | z
    · exact hx z
    · exact absurd (Nat.lt_of_lt_of_le (Heap.lt_size e) z) (Nat.lt_irrefl _)
  have cellK : ∀ x c, X.env.cells.lookup x = some c → ∀ v, s.heap.IsCell c v → h'.IsCell c v := fun x c e v ⟨o, ho, hd⟩ => by
    have nch : c ∉ ch := fun z => (hch c z).2.2.1 x c e rfl
    by_cases hc : c ∈ X.fs
    · obtain ⟨sl, q⟩ := slot c o (I.cne x c e) hc nch ho (I.freeC x c e)
      exact ⟨_, q, hd⟩
    · exact ⟨o, keep c o (I.cne x c e) hc nch ho (I.freeC x c e), hd⟩
  refine ⟨I.ok, I.os, hg, ⟨fun b o e n hb hx => ?_, fun b o e n hb hx => ?_, fun b o e n hx => ?_, fun b o e hx => ?_, fun b xs e => tups b xs (I.base.tups b xs e), fun b o xs e => frzs b o xs (I.base.frzs b o xs e), fun b ps e => ?_⟩, ?_, fun x c e => ?_, ?_, fun x c e => ?_, fun p hp => ?_, hok, I.len⟩
  · exact keep b o (neL b o e) hb (neC b o e hx) (I.base.keep b o e n hb hx) (I.base.free b o e n hx)
  · obtain ⟨sl, e1⟩ := I.base.slot b o e n hb hx
    obtain ⟨sl', e2⟩ := slot b _ (neL b o e) hb (neC b o e hx) e1 (I.base.free b o e n hx)
    exact ⟨sl', e2⟩
  · obtain ⟨o', e1⟩ := I.base.there b o e hx
    exact free b o' (neC b o e hx) e1 (I.base.free b o e n hx)
  · obtain ⟨o', e1⟩ := I.base.there b o e hx
    exact there b o' (neC b o e hx) e1
  · obtain ⟨m1, e1⟩ := I.base.tbls b ps e
    obtain ⟨m2, e2⟩ := tbls b _ e1
    exact ⟨m1 ++ m2, by rw [e2, Array.append_assoc]⟩
  · obtain ⟨m, hn, hl⟩ := I.loc
    refine ⟨m, ns m hn, fun i x v e1 e2 e3 => ?_⟩
    obtain ⟨u, r, l⟩ := hl i x v e1 e2 e3
    refine ⟨u, r, ?_⟩
    rcases l with l | ⟨k, c, e, z⟩
    · exact .inl l
    · exact .inr ⟨k, c, e, cellK x c e _ z⟩
  · obtain ⟨v, z⟩ := I.cell x c e
    exact ⟨v, cellK x c e v z⟩
  · obtain ⟨m, ⟨o, _, _, ho, _⟩, _⟩ := I.loc
    exact free _ o (fun z => (hch _ z).2.1 rfl) ho I.free
  · obtain ⟨v, o, ho, hd⟩ := I.cell x c e
    exact free c o (fun z => (hch c z).2.2.1 x c e rfl) ho (I.freeC x c e)
  · obtain ⟨e, n, ne, nf, d⟩ := I.pin p hp
    have nch : p.1 ∉ ch := fun z => (hch p.1 z).2.2.2 p hp rfl
    exact ⟨keep p.1 p.2 ne nf nch e n, free p.1 p.2 nch e n, ne, nf, d⟩
/-- .. where the frame's own object is kept too -/
theorem Inv.un {t' : Nat} (I : Inv X pins σ H s) (u : Un X.fs [] H H' s.heap h') (hok : HOk X.prog X.w H' h') : Inv X pins σ H' { s with heap := h', toks := t' } := by
  obtain ⟨m, ⟨o, es, ep, ho, r⟩, _⟩ := id I.loc
  obtain ⟨sl, hL⟩ := u.any ho I.free (by simp)
  exact I.step (g' := s.gens) (d' := s.drawn) (ch := []) (fun _ z => nomatch z) (fun b o _ hb _ e n => u.keep b o e n hb (by simp)) (fun b o _ hb _ e n => u.slot b o e n hb (by simp)) (fun b o _ e n => u.free b o e n (by simp)) (fun b o _ e => u.there b o e (by simp)) u.tups u.frzs u.tbls (fun m' hm => by
    obtain ⟨o', es', ep', ho', r'⟩ := hm
    rw [ho] at ho'; cases ho'
    exact ⟨_, es', ep', hL, r'⟩) hok I.bare
/-- behind a call (or a comprehension's block): the slots of this frame may have changed too, the records at ch may have turned -/
theorem Inv.call {g' : Array GenState} {t' : Nat} {d' : Drawn} {ch : List Addr} (I : Inv X pins σ H s) (u : Un (frs X.stack) ch H H' s.heap h') (hok : HOk X.prog X.w H' h') (hg : AllBare g')
    (hch : ∀ b ∈ ch, (b ∈ X.ex ∨ X.s_0.heap.objs.size ≤ b) ∧ b ≠ X.env.locals ∧ (∀ x c, X.env.cells.lookup x = some c → c ≠ b) ∧ ∀ p ∈ X.pn ++ pins, p.1 ≠ b) :
    Inv X pins σ H' { s with heap := h', gens := g', drawn := d', toks := t' } := by
  obtain ⟨m, ⟨o, es, ep, ho, r⟩, _⟩ := id I.loc
  obtain ⟨sl, hL⟩ := u.any ho I.free fun z => (hch _ z).2.1 rfl
  exact I.step (ch := ch) hch (fun b o hL hb hc e n => u.keep b o e n (fun z => (List.mem_cons.mp (I.stkSub b z)).elim hL hb) hc) (fun b o _ _ hc e n => u.any e n hc) (fun b o hc e n => u.free b o e n hc) (fun b o hc e => u.there b o e hc) u.tups u.frzs u.tbls (fun m' hm => by
    obtain ⟨o', es', ep', ho', r'⟩ := hm
    rw [ho] at ho'; cases ho'
    exact ⟨_, es', ep', hL, r'⟩) hok hg
/-- an untracked record of ours (an iterator) has turned -/
theorem Inv.turned {t' : Nat} {it : Addr} (I : Inv X pins σ H s) (k : ∀ b o, b ≠ it → s.heap.get? b = some o → h'.get? b = some o) (hn : H it = none) (hL : it ≠ X.env.locals)
    (h1 : it ∈ X.ex ∨ X.s_0.heap.objs.size ≤ it) (h2 : ∀ x c, X.env.cells.lookup x = some c → c ≠ it) (h3 : ∀ p ∈ X.pn ++ pins, p.1 ≠ it) : Inv X pins σ H { s with heap := h', toks := t' } := by
  have nit : ∀ b u, H b = some u → b ≠ it := fun b u e z => by rw [z, hn] at e; cases e
  refine I.step (g' := s.gens) (d' := s.drawn) (ch := [it]) (fun b hb => ?_) (fun b o _ _ hc e _ => k b o (fun z => hc (by simp [z])) e) (fun b o _ _ hc e _ => ⟨o.slots, k b o (fun z => hc (by simp [z])) e⟩) (fun _ _ _ _ n => n)
    (fun b o hc e => ⟨o, k b o (fun z => hc (by simp [z])) e⟩) (fun _ _ e => e) (fun _ _ _ e => e) (fun b ps e => ⟨#[], by rw [e]; simp⟩) (fun m hm => ?_) (fun b u e => ?_) I.bare
  · have e : b = it := by simpa using hb
    subst e
    exact ⟨h1, hL, h2, h3⟩
  · obtain ⟨o, es, ep, ho, r⟩ := hm
    exact ⟨o, es, ep, k _ o (Ne.symm hL) ho, r⟩
  · refine (I.hok b u e).stay (fun c v hc q => k c v ?_ q) (fun _ q => q) fun _ _ q => q
    rcases hc with z | z
    · rw [z]; exact nit b u e
    · exact nit c _ z
theorem Inv.tok (I : Inv X pins σ H s) (t : Nat) : Inv X pins σ H { s with toks := t } := I.un (h' := s.heap) (t' := t) Un.refl I.hok
/-- all objects kept -/
theorem Inv.kept {t' : Nat} (I : Inv X pins σ H s) (k : ∀ b u, s.heap.get? b = some u → h'.get? b = some u) : Inv X pins σ H { s with heap := h', toks := t' } := I.un (Un.kept k) (I.hok.kept k)
/-- a new object laid and tracked -/
theorem Inv.laid {a : Addr} {o : HO} {t' : Nat} (I : Inv X pins σ H s) (k : ∀ b u, s.heap.get? b = some u → h'.get? b = some u) (hp : s.heap.objs.size ≤ a) (new : ObjOk X.prog X.w (upd H a o) h' a o) :
    Inv X pins σ (upd H a o) { s with heap := h', toks := t' } := I.un (Un.laid k hp (I.hok.fresh hp)) (I.hok.laid k hp new)
/-- an object written -/
theorem Inv.write {x e : Addr} {o : HO} {t' : Nat} (I : Inv X pins σ H s) (mu : Mut (H x)) (he : e = x ∨ H e = some (.own x)) (k : ∀ b u, b ≠ e → s.heap.get? b = some u → h'.get? b = some u) (heo : ∃ u, h'.get? e = some u)
    (new : ObjOk X.prog X.w (upd H x o) h' x o) : Inv X pins σ (upd H x o) { s with heap := h', toks := t' } := I.un (Un.write mu he k heo) (I.hok.write mu he k heo new)
/-- forgetting slots, pins -/
theorem Inv.weak {σ' : List (Option V)} (I : Inv X pins σ H s) (hl : σ'.length = σ.length) (w : ∀ (i : Nat) v, σ'[i]? = some (some v) → σ[i]? = some (some v)) : Inv X pins σ' H s :=
  ⟨I.ok, I.os, I.bare, I.base, let ⟨m, hn, hl'⟩ := I.loc; ⟨m, hn, fun i x v e1 e2 e3 => hl' i x v e1 (w i v e2) e3⟩, I.cell, I.free, I.freeC, I.pin, I.hok, hl.trans I.len⟩
theorem Inv.pins_of {pins' : List (Addr × Obj)} (I : Inv X pins σ H s) (h : ∀ p ∈ pins', s.heap.get? p.1 = some p.2 ∧ H p.1 = none ∧ p.1 ≠ X.env.locals ∧ p.1 ∉ X.fs ∧ ∀ v, p.2.data ≠ .cell v) : Inv X pins' σ H s :=
  ⟨I.ok, I.os, I.bare, I.base, I.loc, I.cell, I.free, I.freeC, fun p hp => (List.mem_append.mp hp).elim (fun z => I.pin p (List.mem_append_left _ z)) (h p), I.hok, I.len⟩
theorem nodup_ix {N : List Str} (hN : N.Nodup) {i j : Nat} {x : Str} (a : N[i]? = some x) (b : N[j]? = some x) : i = j := by
  obtain ⟨h1, e1⟩ := List.getElem?_eq_some_iff.mp a
  obtain ⟨h2, e2⟩ := List.getElem?_eq_some_iff.mp b
  exact (List.getElem_inj hN).mp (e1.trans e2.symm)
/-- a name is stored; what changed -/
theorem store_ok2 {M : Model} {A : Around} {E : Value → Shared → Prop} {i : Nat} {x : Str} {v : V} {u : Value} {Q : Unit → Shared → Prop} (I : Inv X pins σ H s) (hN : X.N.Nodup) (hi : X.N[i]? = some x) (hx : Loc X.env.scope x) (r : RelV v u)
    (h : ∀ s', Inv X pins (σ.set i (some v)) H s' → (∃ a, Heap.SameBut a s.heap s'.heap ∧ (a = X.env.locals ∨ X.env.cells.lookup x = some a)) → Q () s') (hf : X.fn x = true ∨ X.env.scope.names.lookup x = some .local := by first | exact .inl rfl | exact .inr rfl | assumption) : wpAny M A (storeName X.env x u) Q E s := by
  obtain ⟨m, hn, hl⟩ := id I.loc
  have hcls : (X.env.scope.kind == .class || (X.env.scope.kind == .module && X.env.locals != X.env.globals)) = false := by rw [I.ok.kind]; rfl
  have hiσ : i < σ.length := by rw [I.len]; exact (List.getElem?_eq_some_iff.mp hi).1
  have cne := I.cne
  have tracked : ∀ {a : Addr} {h' : Heap}, (∃ o, s.heap.get? a = some o ∧ H a = none) → Heap.SameBut a s.heap h' → HOk X.prog X.w H h' := fun {a h'} ha hs b ob e => by
    obtain ⟨_, _, hfree⟩ := ha
    refine (I.hok b ob e).stay (fun c w' hc q => (hs.2 c ?_).trans q) (fun _ q => q) fun _ _ q => q
    rintro rfl
    rcases hc with rfl | hc
    · rw [hfree] at e; cases e
    · rw [hfree] at hc; cases hc
  rcases hx with hk | hk
  · refine wpAny_storeName_local hk hn (fun h' hn' hs => ?_) hcls
    obtain ⟨oL, _, _, hoL, _⟩ := id hn
    refine h _ ⟨I.ok, I.os, I.bare, ⟨fun b o e n hb hx => ?_, fun b o e n hb hx => ?_, I.base.free, fun b o e hx => ?_, I.base.tups, I.base.frzs, I.base.tbls⟩, ⟨_, hn', fun j y v' e1 e2 e3 => ?_⟩, fun y c e => ?_, I.free, I.freeC, fun p hp => ?_, tracked ⟨oL, hoL, I.free⟩ hs, by simpa using I.len⟩ ⟨_, hs, .inl rfl⟩
    · exact (hs.2 b (Nat.ne_of_lt (Nat.lt_of_lt_of_le (Heap.lt_size e) I.ok.above))).trans (I.base.keep b o e n hb hx)
    · obtain ⟨sl, e1⟩ := I.base.slot b o e n hb hx
      exact ⟨sl, (hs.2 b (Nat.ne_of_lt (Nat.lt_of_lt_of_le (Heap.lt_size e) I.ok.above))).trans e1⟩
    · obtain ⟨o', e1⟩ := I.base.there b o e hx
      exact ⟨o', (hs.2 b (Nat.ne_of_lt (Nat.lt_of_lt_of_le (Heap.lt_size e) I.ok.above))).trans e1⟩
    · by_cases hj : j = i
      · subst hj
        rw [hi] at e1; cases e1
        rw [List.getElem?_set_self hiσ] at e2
        cases e2
        exact ⟨u, r, .inl ⟨hk, by simp⟩⟩
      · rw [List.getElem?_set_ne (Ne.symm hj)] at e2
        obtain ⟨u', r', q⟩ := hl j y v' e1 e2 e3
        refine ⟨u', r', ?_⟩
        rcases q with ⟨k, e⟩ | ⟨k, c, e, z⟩
        · refine .inl ⟨k, ?_⟩
          have : y ≠ x := fun e => hj (nodup_ix hN e1 (e ▸ hi))
          simp [this, e]
        · exact .inr ⟨k, c, e, z.sameBut hs (cne y c e)⟩
    · obtain ⟨w', z⟩ := I.cell y c e
      exact ⟨w', z.sameBut hs (cne y c e)⟩
    · obtain ⟨e, n, ne, nf, d⟩ := I.pin p hp
      exact ⟨(hs.2 p.1 ne).trans e, n, ne, nf, d⟩
  · have hfn : X.fn x = true := by
      rcases hf with z | z
      · exact z
      · rw [z] at hk; cases hk
    obtain ⟨c, hc⟩ := I.ok.has x (.inl hk)
    obtain ⟨w', z⟩ := I.cell x c hc
    refine wpAny_storeName_cell I.ok.kind hk hc z (fun h' hc' hs => ?_)
    obtain ⟨oc, hoc, hocd⟩ := id z
    refine h { s with heap := h' } ⟨I.ok, I.os, I.bare, ⟨fun b o e n hb hx => ?_, fun b o e n hb hx => ?_, I.base.free, fun b o e hx => ?_, I.base.tups, I.base.frzs, I.base.tbls⟩, ⟨m, hn.sameBut hs (Ne.symm (cne x c hc)), fun j y v' e1 e2 e3 => ?_⟩, fun y c' e => ?_, I.free, I.freeC, fun p hp => ?_, tracked ⟨oc, hoc, I.freeC x c hc⟩ hs, by simpa using I.len⟩ ⟨c, hs, .inr hc⟩
    · exact (hs.2 b (Nat.ne_of_lt (Nat.lt_of_lt_of_le (Heap.lt_size e) (I.ok.cab x c hfn hc)))).trans (I.base.keep b o e n hb hx)
    · obtain ⟨sl, e1⟩ := I.base.slot b o e n hb hx
      exact ⟨sl, (hs.2 b (Nat.ne_of_lt (Nat.lt_of_lt_of_le (Heap.lt_size e) (I.ok.cab x c hfn hc)))).trans e1⟩
    · obtain ⟨o', e1⟩ := I.base.there b o e hx
      exact ⟨o', (hs.2 b (Nat.ne_of_lt (Nat.lt_of_lt_of_le (Heap.lt_size e) (I.ok.cab x c hfn hc)))).trans e1⟩
    · by_cases hj : j = i
      · subst hj
        rw [hi] at e1; cases e1
        rw [List.getElem?_set_self hiσ] at e2
        cases e2
        exact ⟨u, r, .inr ⟨.inl hk, c, hc, hc'⟩⟩
      · rw [List.getElem?_set_ne (Ne.symm hj)] at e2
        obtain ⟨u', r', q⟩ := hl j y v' e1 e2 e3
        refine ⟨u', r', ?_⟩
        rcases q with q | ⟨k, c', e, z'⟩
        · exact .inl q
        · refine .inr ⟨k, c', e, z'.sameBut hs ?_⟩
          rintro rfl
          exact hj (nodup_ix hN e1 (I.ok.inj _ _ _ e hc ▸ hi))
    · by_cases hcc : c' = c
      · subst hcc; exact ⟨_, hc'⟩
      · obtain ⟨w2, z2⟩ := I.cell y c' e
        exact ⟨w2, z2.sameBut hs hcc⟩
    · obtain ⟨e, n, ne, nf, d⟩ := I.pin p hp
      refine ⟨(hs.2 p.1 ?_).trans e, n, ne, nf, d⟩
      intro q
      rw [q, hoc] at e
      have q' : oc = p.2 := Option.some.inj e
      exact d w' (by rw [← q']; exact hocd)
theorem store_ok {M : Model} {A : Around} {E : Value → Shared → Prop} {i : Nat} {x : Str} {v : V} {u : Value} {Q : Unit → Shared → Prop} (I : Inv X pins σ H s) (hN : X.N.Nodup) (hi : X.N[i]? = some x) (hx : Loc X.env.scope x) (r : RelV v u)
    (h : ∀ s', Inv X pins (σ.set i (some v)) H s' → Q () s') (hf : X.fn x = true ∨ X.env.scope.names.lookup x = some .local := by first | exact .inl rfl | exact .inr rfl | assumption) : wpAny M A (storeName X.env x u) Q E s :=
  store_ok2 I hN hi hx r (fun s' I' _ => h s' I') hf
/-- behind a call or a block, the state as it is -/
theorem Inv.call' {s' : Shared} {ch : List Addr} (I : Inv X pins σ H s) (ho : s'.os = s.os) (u : Un (frs X.stack) ch H H' s.heap s'.heap) (hok : HOk X.prog X.w H' s'.heap) (hg : AllBare s'.gens)
    (hch : ∀ b ∈ ch, (b ∈ X.ex ∨ X.s_0.heap.objs.size ≤ b) ∧ b ≠ X.env.locals ∧ (∀ x c, X.env.cells.lookup x = some c → c ≠ b) ∧ ∀ p ∈ X.pn ++ pins, p.1 ≠ b) : Inv X pins σ H' s' := by
  obtain ⟨h', g', d', t', o'⟩ := s'
  have e : o' = s.os := ho
  subst e
  exact I.call (g' := g') (t' := t') (d' := d') u hok hg hch
end
/-- an exception: its class, its own dict's address (where it has one), the abstract heap behind it -/
abbrev XK := Value → Option Addr → Hp → Prop
abbrev St := List (Option V)
abbrev VK := V → Hp → Prop
/-- an expression's reading; a test's; an argument list's -/
abbrev TE := St → Hp → VK → Prop
abbrev TT := St → Hp → (Bool → Hp → Prop) → Prop
abbrev TA := St → Hp → (List V → Hp → Prop) → Prop
/-- what is wanted behind a statement -/
structure Ends where
  nx : St → Hp → Prop
  rt : VK
  bk : St → Hp → Prop := fun _ _ => False
  ct : St → Hp → Prop := fun _ _ => False
abbrev TS := Ends → St → Hp → Prop
def EP (X : Cx) (pins : List (Addr × Obj)) (σ : St) (Q : VK) (u : Value) (s' : Shared) : Prop := ∃ v H', Inv X pins σ H' s' ∧ RelV v u ∧ Q v H'
def TP (X : Cx) (pins : List (Addr × Obj)) (σ : St) (Q : Bool → Hp → Prop) (b : Bool) (s' : Shared) : Prop := ∃ H', Inv X pins σ H' s' ∧ Q b H'
def AP (X : Cx) (pins : List (Addr × Obj)) (σ : St) (Q : List V → Hp → Prop) (us : List Value) (s' : Shared) : Prop := ∃ vs H', Inv X pins σ H' s' ∧ Vals vs us ∧ Q vs H'
def SP (X : Cx) (pins : List (Addr × Obj)) (D : Ends) (f : Flow) (s' : Shared) : Prop :=
  match f with
  | .next => ∃ σ' H', Inv X pins σ' H' s' ∧ D.nx σ' H'
  | .brk => ∃ σ' H', Inv X pins σ' H' s' ∧ D.bk σ' H'
  | .cont => ∃ σ' H', Inv X pins σ' H' s' ∧ D.ct σ' H'
  | .ret u => ∃ v σ' H', Inv X pins σ' H' s' ∧ RelV v u ∧ D.rt v H'
def PE (X : Cx) (e : Expr) (t : TE) : Prop :=
  ∀ (pins : List (Addr × Obj)) (s : Shared) (σ : St) (H : Hp) (Q : VK), Inv X pins σ H s → t σ H Q → wpAny (model X.prog X.w) X.A (eval e X.env) (EP X pins σ Q) X.xe s
def PT (X : Cx) (e : Expr) (t : TT) : Prop :=
  ∀ (pins : List (Addr × Obj)) (s : Shared) (σ : St) (H : Hp) (Q : Bool → Hp → Prop), Inv X pins σ H s → t σ H Q → wpAny (model X.prog X.w) X.A (isTrue e X.env (eval e X.env)) (TP X pins σ Q) X.xe s
/-- a test whatever its 'whole' is (and, or) -/
def PW (X : Cx) (e : Expr) (t : TT) : Prop :=
  ∀ (whole : Sem Value) (pins : List (Addr × Obj)) (s : Shared) (σ : St) (H : Hp) (Q : Bool → Hp → Prop), Inv X pins σ H s → t σ H Q → wpAny (model X.prog X.w) X.A (isTrue e X.env whole) (TP X pins σ Q) X.xe s
theorem PW.pt {X : Cx} {e : Expr} {t : TT} (h : PW X e t) : PT X e t := h _
/-- an argument list (no star), from the left -/
def PA (X : Cx) (es : List Expr) (t : TA) : Prop :=
  ∀ (pos : Pos) (pins : List (Addr × Obj)) (s : Shared) (σ : St) (H : Hp) (Q : List V → Hp → Prop), Inv X pins σ H s → t σ H Q → wpAny (model X.prog X.w) X.A (spliced (backTo pos (starEach es X.env))) (AP X pins σ Q) X.xe s
def PS (X : Cx) (st : Stmt) (t : TS) : Prop :=
  ∀ (pins : List (Addr × Obj)) (s : Shared) (σ : St) (H : Hp) (D : Ends), Inv X pins σ H s → t D σ H → wpAny (model X.prog X.w) X.A (exec st X.env) (SP X pins D) X.xe s
def PSs (X : Cx) (st : List Stmt) (t : TS) : Prop :=
  ∀ (pins : List (Addr × Obj)) (s : Shared) (σ : St) (H : Hp) (D : Ends), Inv X pins σ H s → t D σ H → wpAny (model X.prog X.w) X.A (execs st X.env) (SP X pins D) X.xe s
/-- weaken the end -/
theorem thn {α : Type} {t : Sem α} {Q Q' : α → Shared → Prop} {M : Model} {A : Around} {E : Value → Shared → Prop} {s : Shared} (h : wpAny M A t Q E s) (hQ : ∀ a s, Q a s → Q' a s) : wpAny M A t Q' E s := wpAny_mono h hQ fun _ _ x => x
end L2
namespace L2
open PySem PySem.Spec PyProof.Rows
section
variable {X : Cx}
/-- two expressions in a row -/
theorem bin {a b : Expr} {ta tb : TE} (ha : PE X a ta) (hb : PE X b tb) {pins : List (Addr × Obj)} {s : Shared} {σ : St} {H : Hp} {R : V → V → Hp → Prop} (I : Inv X pins σ H s) (h : ta σ H fun x H1 => tb σ H1 fun y H2 => R x y H2)
    {α : Type} {Q : α → Shared → Prop} {f : Value → Value → Sem α}
    (hf : ∀ v u s2 x y H2, Inv X pins σ H2 s2 → RelV x v → RelV y u → R x y H2 → wpAny (model X.prog X.w) X.A (f v u) Q X.xe s2) :
    wpAny (model X.prog X.w) X.A (eval a X.env) (fun v s₁ => wpAny (model X.prog X.w) X.A (eval b X.env) (fun u s₂ => wpAny (model X.prog X.w) X.A (f v u) Q X.xe s₂) X.xe s₁) X.xe s := by
  refine thn (ha pins s σ H _ I h) fun v s1 ⟨x, H1, I1, r1, q1⟩ => ?_
  refine thn (hb pins s1 σ H1 _ I1 q1) fun u s2 ⟨y, H2, I2, r2, q2⟩ => ?_
  exact hf v u s2 x y H2 I2 r1 r2 q2
def tVar (i : Nat) : TE := fun σ H Q => ∃ v, σ[i]? = some (some v) ∧ Q v H
def tC (v : V) : TE := fun _ H Q => Q v H
theorem pe_var {i : Nat} {x : Str} {pos : Pos} (hN : X.N[i]? = some x) (hv : Vis X.env.scope x) (hd : (x == ("__debug__" : Str)) = false := by decide) (hcd : (x == ("__classdict__" : Str)) = false := by decide) : PE X (.Name x pos) (tVar i) := by
  intro pins s σ H Q I h
  obtain ⟨v, e, h⟩ := h
  obtain ⟨m, hn, hl⟩ := I.loc
  obtain ⟨u, r, l⟩ := hl i x v hN e hv
  have fin : EP X pins σ Q u s := ⟨v, H, I, r, h⟩
  rcases l with ⟨hk, hm⟩ | ⟨hk, c, hc, hcell⟩
  · exact wpAny_Name (wpAny_loadName_local I.ok.kind hk hn hm fin) hd
  · rcases hk with hk | hk
    · exact wpAny_Name (wpAny_loadName_cell I.ok.kind hk hc hcell fin) hd
    · exact wpAny_Name (wpAny_loadName_free I.ok.kind hk hc hcell fin hcd) hd
theorem pe_int {i j pos} : PE X (.Constant (.int i) j pos) (tC (.int i)) := fun _ _ _ H _ I h => wpAny_Constant_int ⟨.int i, H, I.tok _, ⟨_, rfl⟩, h⟩
theorem pe_bl {b j pos} : PE X (.Constant (.bool b) j pos) (tC (.bl b)) := fun _ _ _ H _ I h => Constant_bool ⟨.bl b, H, I, rfl, h⟩
theorem pe_str {x j pos} : PE X (.Constant (.str x) j pos) (tC (.str x)) := fun _ _ _ H _ I h => Calls.Constant_str ⟨.str x, H, I.tok _, ⟨_, rfl⟩, h⟩
/-- a global name of the def -/
def Gl (X : Cx) (x : Str) : Prop := X.env.kindOf x = some .globalImplicit
theorem ld_glob {E : Value → Shared → Prop} {pins : List (Addr × Obj)} {s : Shared} {σ : St} {H : Hp} {x : Str} {u : Value} {pos : Pos} {Q : Value → Shared → Prop} (I : Inv X pins σ H s) (hg : Gl X x) (hm : X.mg x = some u) (h : Q u s)
    (hd : (x == ("__debug__" : Str)) = false := by decide) : wpAny (model X.prog X.w) X.A (eval (.Name x pos) X.env) Q E s :=
  Calls.Name_function_global I.ok.kind hg (Calls.loadGlobal_global (by rw [I.ok.glob]; exact I.mod.glob.keeps I.bk) hm h) hd
theorem ld_blt {E : Value → Shared → Prop} {pins : List (Addr × Obj)} {s : Shared} {σ : St} {H : Hp} {x : Str} {u : Value} {pos : Pos} {Q : Value → Shared → Prop} (I : Inv X pins σ H s) (hg : Gl X x) (hm : X.mg x = none) (hv : bootBuiltins x = some u) (h : Q u s)
    (hn : x ≠ "__name__" := by decide) (hd : (x == ("__debug__" : Str)) = false := by decide) : wpAny (model X.prog X.w) X.A (eval (.Name x pos) X.env) Q E s := by
  obtain ⟨mb, h1, h2⟩ := I.mod.blt
  exact Calls.Name_function_global I.ok.kind hg (Calls.loadGlobal_builtin (by rw [I.ok.glob]; exact I.mod.glob.keeps I.bk) hm (by rw [I.ok.blt]; exact h1.keeps I.bk) ((h2 x hn).trans hv) h) hd
theorem pe_bltn {x : Str} {v : V} {u : Value} {pos : Pos} (hg : Gl X x) (hm : X.mg x = none) (hv : bootBuiltins x = some u) (r : RelV v u) (hn : x ≠ "__name__" := by decide) (hd : (x == ("__debug__" : Str)) = false := by decide) : PE X (.Name x pos) (tC v) :=
  fun _ _ _ H _ I h => ld_blt I hg hm hv ⟨v, H, I, r, h⟩ hn hd
variable {a b : Expr} {ta tb : TE} {pos : Pos}
variable {tA tB' : TT} {rest : List Expr}
def tAnd (t u : TT) : TT := fun σ H Q => t σ H fun c H1 => if c = true then u σ H1 Q else Q false H1
def tOr (t u : TT) : TT := fun σ H Q => t σ H fun c H1 => if c = true then Q true H1 else u σ H1 Q
def tNot (t : TT) : TT := fun σ H Q => t σ H fun c H1 => Q (!c) H1
theorem pw_and1 (ha : PT X a tA) : PW X (.BoolOp .And [a] pos) tA := by
  intro wh pins s σ H Q I h
  refine isTrue_and (thn (ha pins s σ H Q I h) fun c s1 e => ?_)
  cases c with
  | true => exact isTrue_and_nil e
  | false => exact e
theorem pw_or1 (ha : PT X a tA) : PW X (.BoolOp .Or [a] pos) tA := by
  intro wh pins s σ H Q I h
  refine isTrue_or (thn (ha pins s σ H Q I h) fun c s1 e => ?_)
  cases c with
  | false => exact isTrue_or_nil e
  | true => exact e
theorem pw_and (ha : PT X a tA) (hb : PW X (.BoolOp .And (b :: rest) pos) tB') : PW X (.BoolOp .And (a :: b :: rest) pos) (tAnd tA tB') := by
  intro wh pins s σ H Q I h
  refine isTrue_and (thn (ha pins s σ H _ I h) fun c s1 ⟨H1, I1, q1⟩ => ?_)
  cases c with
  | true => exact hb wh pins s1 σ H1 Q I1 q1
  | false => exact ⟨H1, I1, q1⟩
theorem pw_or (ha : PT X a tA) (hb : PW X (.BoolOp .Or (b :: rest) pos) tB') : PW X (.BoolOp .Or (a :: b :: rest) pos) (tOr tA tB') := by
  intro wh pins s σ H Q I h
  refine isTrue_or (thn (ha pins s σ H _ I h) fun c s1 ⟨H1, I1, q1⟩ => ?_)
  cases c with
  | true => exact ⟨H1, I1, q1⟩
  | false => exact hb wh pins s1 σ H1 Q I1 q1
theorem pt_not (ha : PT X a tA) : PT X (.UnaryOp .Not a pos) (tNot tA) := by
  intro pins s σ H Q I h
  exact isTrue_not (ha pins s σ H (fun c H1 => Q (!c) H1) I h)
end
end L2
namespace L2
open PySem PySem.Spec PyProof.Rows
def SqL (K : PySem.W.Frag) (H : Hp) (a : Addr) (xs : List V) : Prop :=
  Rd H a (.lst xs) ∨
    ∃ (o : Obj) (its : Array Value) (n : Nat), K.lookup a = some o ∧ o.cls = .type "list" ∧ o.dict = none ∧ o.data = .seq its n ∧ its.size ≤ sizeLine ∧ Vals xs its.toList
def SqT (K : PySem.W.Frag) (H : Hp) (a : Addr) (xs : List V) : Prop :=
  Rd H a (.tup xs) ∨
    ∃ (o : Obj) (its : Array Value) (n : Nat), K.lookup a = some o ∧ o.cls = .type "tuple" ∧ o.data = .seq its n ∧ its.size ≤ sizeLine ∧ Vals xs its.toList
def absV : Value → Option V
  | .none => some .non
  | .bool b => some (.bl b)
  | .int i _ => some (.int i)
  | .str x _ => some (.str x)
  | .bytes b _ => some (.byt b)
  | .float b _ => some (.flt b)
  | .ref a => some (.ref a)
  | .type n => some (.ty n)
  | _ => none
theorem RelV.abs {x : V} {u : Value} (r : RelV x u) : absV u = some x := by
  cases x with
  | non => cases r; rfl
  | bl _ => cases r; rfl
  | int _ => obtain ⟨t, rfl⟩ := r; rfl
  | str _ => obtain ⟨t, rfl⟩ := r; rfl
  | byt _ => obtain ⟨t, rfl⟩ := r; rfl
  | flt _ => obtain ⟨t, rfl⟩ := r; rfl
  | ref _ => cases r; rfl
  | ty _ => cases r; rfl
theorem RelV.inj {x y : V} {u : Value} (r : RelV x u) (q : RelV y u) : x = y := Option.some.inj (r.abs.symm.trans q.abs)
theorem Vals.inj : ∀ {xs ys : List V} {us : List Value}, Vals xs us → Vals ys us → xs = ys
  | _, _, _, .nil, .nil => rfl
  | _, _, _, .cons r t, .cons r' t' => by rw [r.inj r', Vals.inj t t']
section
variable {X : Cx} {pins : List (Addr × Obj)} {σ : St} {H : Hp} {s : Shared} {a : Addr} {xs ys : List V}
theorem SqL.of {K : PySem.W.Frag} (h : H a = some (.lst xs)) : SqL K H a xs := .inl (.inl h)
theorem SqT.of {K : PySem.W.Frag} (h : H a = some (.tup xs)) : SqT K H a xs := .inl (.inl h)
theorem Inv.list (I : Inv X pins σ H s) (h : SqL X.K H a xs) : ∃ its : List Value, Vals xs its ∧ PlainL s.heap a its.toArray ∧ xs.length ≤ sizeLine := by
  rcases h with h | ⟨o, its, n, hk, hc, hd, hs, hz, r⟩
  · obtain ⟨z, its, n, r, e⟩ := h.ok I.hok
    exact ⟨its, r, ⟨_, n, e, rfl, rfl, rfl⟩, z⟩
  · refine ⟨its.toList, r, ⟨o, n, I.kIn a o hk, hc, hd, by simpa using hs⟩, ?_⟩
    have e := r.length
    simp only [Array.length_toList] at e
    omega
theorem Inv.tuple (I : Inv X pins σ H s) (h : SqT X.K H a xs) : ∃ its : List Value, Vals xs its ∧ IsTup s.heap a its.toArray ∧ xs.length ≤ sizeLine := by
  rcases h with h | ⟨o, its, n, hk, hc, hs, hz, r⟩
  · obtain ⟨z, its, r, p⟩ := h.ok I.hok
    exact ⟨its, r, p, z⟩
  · refine ⟨its.toList, r, ⟨o, I.kIn a o hk, hc, n, by simpa using hs⟩, ?_⟩
    have e := r.length
    simp only [Array.length_toList] at e
    omega
theorem Inv.list_inj (I : Inv X pins σ H s) (h : SqL X.K H a xs) (h' : SqL X.K H a ys) : xs = ys := by
  obtain ⟨its, r, ⟨o, n, e, _, _, d⟩, _⟩ := I.list h
  obtain ⟨its', r', ⟨o', n', e', _, _, d'⟩, _⟩ := I.list h'
  rw [e] at e'; cases e'
  rw [d] at d'
  injection d' with d1 _
  have : its = its' := by simpa using congrArg Array.toList d1
  subst this
  exact r.inj r'
theorem Inv.tuple_inj (I : Inv X pins σ H s) (h : SqT X.K H a xs) (h' : SqT X.K H a ys) : xs = ys := by
  obtain ⟨its, r, ⟨o, e, _, n, d⟩, _⟩ := I.tuple h
  obtain ⟨its', r', ⟨o', e', _, n', d'⟩, _⟩ := I.tuple h'
  rw [e] at e'; cases e'
  rw [d] at d'
  injection d' with d1 _
  have : its = its' := by simpa using congrArg Array.toList d1
  subst this
  exact r.inj r'
end
abbrev Cx.wish (X : Cx) (E : Value → Shared → Prop) : Cx := { X with xe := E }
/-- no exception leaves -/
abbrev Cx.nox (X : Cx) : Cx := X.wish fun _ _ => False
theorem Cx.Ok.wish {X : Cx} (ok : X.Ok) (E : Value → Shared → Prop) : (X.wish E).Ok :=
  ⟨ok.mod, ok.kind, ok.glob, ok.blt, ok.above, ok.inj, ok.has, ok.cab, ok.hd, ok.frames, ok.stk, ok.exf, ok.bs, ok.bsz, ok.noex, ok.exfs, ok.funs, ok.frf⟩
theorem Cx.Ok.unwish {X : Cx} {E : Value → Shared → Prop} (ok : (X.wish E).Ok) : X.Ok :=
  ⟨ok.mod, ok.kind, ok.glob, ok.blt, ok.above, ok.inj, ok.has, ok.cab, ok.hd, ok.frames, ok.stk, ok.exf, ok.bs, ok.bsz, ok.noex, ok.exfs, ok.funs, ok.frf⟩
section
variable {X : Cx} {pins : List (Addr × Obj)} {σ : St} {H : Hp} {s : Shared} {E : Value → Shared → Prop}
theorem Inv.wish (I : Inv X pins σ H s) (E : Value → Shared → Prop) : Inv (X.wish E) pins σ H s := ⟨I.ok.wish E, I.os, I.bare, I.base, I.loc, I.cell, I.free, I.freeC, I.pin, I.hok, I.len⟩
theorem Inv.unwish (I : Inv (X.wish E) pins σ H s) : Inv X pins σ H s := ⟨I.ok.unwish, I.os, I.bare, I.base, I.loc, I.cell, I.free, I.freeC, I.pin, I.hok, I.len⟩
theorem SP.unwish {D : Ends} {f : Flow} {s' : Shared} (h : SP (X.wish E) pins D f s') : SP X pins D f s' := by
  cases f with
  | next => obtain ⟨σ', H', I, q⟩ := h; exact ⟨σ', H', I.unwish, q⟩
  | brk => obtain ⟨σ', H', I, q⟩ := h; exact ⟨σ', H', I.unwish, q⟩
  | cont => obtain ⟨σ', H', I, q⟩ := h; exact ⟨σ', H', I.unwish, q⟩
  | ret u => obtain ⟨v, σ', H', I, r, q⟩ := h; exact ⟨v, σ', H', I.unwish, r, q⟩
theorem PSs.nox {st : List Stmt} {t : TS} (h : PSs X.nox st t) : PSs X st t := fun pins s σ H D I hw =>
  wpAny_mono (h pins s σ H D (I.wish _) hw) (fun _ _ q => q.unwish) fun _ _ z => False.elim z
end
section
variable {X : Cx} {st : Stmt} {rest : List Stmt} {t u : TS} {e : Expr} {te : TE} {pos : Pos}
def tNext : TS := fun D σ H => D.nx σ H
def tSeq (t u : TS) : TS := fun D σ H => t { D with nx := u D } σ H
theorem pss_nil : PSs X [] tNext := fun _ _ σ H _ I h => wpAny_execs_nil ⟨σ, H, I, h⟩
theorem pss_cons (h1 : PS X st t) (h2 : PSs X rest u) : PSs X (st :: rest) (tSeq t u) := by
  intro pins s σ H D I h
  refine wpAny_execs_cons (thn (h1 pins s σ H { D with nx := u D } I h) fun f s1 q => ?_)
  cases f with
  | next =>
    obtain ⟨σ', H', I', q⟩ := q
    exact h2 pins s1 σ' H' D I' q
  | ret v => exact q
  | brk => exact q
  | cont => exact q
theorem pss_one (h1 : PS X st t) : PSs X [st] t := by
  intro pins s σ H D I h
  refine wpAny_execs_cons (thn (h1 pins s σ H D I h) fun f s1 q => ?_)
  cases f with
  | next => exact wpAny_execs_nil q
  | ret v => exact q
  | brk => exact q
  | cont => exact q
/-- in a def's body nothing is shown -/
theorem Inv.quiet {pins : List (Addr × Obj)} {σ : St} {H : Hp} {s : Shared} (I : Inv X pins σ H s) : interactive X.env = false := by simp [interactive, I.ok.kind]
/-- an expression whose value is dropped -/
def tDrop (te : TE) : TS := fun D σ H => te σ H fun _ H1 => D.nx σ H1
theorem ps_expr (he : PE X e te) (hs : swapsWith e none pos.line X.env = pure false := by rfl) : PS X (.Expr e pos) (tDrop te) := by
  intro pins s σ H D I h
  exact wpAny_Expr_any (thn (he pins s σ H _ I h) fun v s1 ⟨x, H1, I1, r1, q1⟩ => ⟨σ, H1, I1, q1⟩) I.quiet hs
def tRet (te : TE) : TS := fun D σ H => te σ H D.rt
theorem ps_ret (he : PE X e te) : PS X (.Return (some e) pos) (tRet te) := by
  intro pins s σ H D I h
  exact wpAny_Return_some (thn (he pins s σ H _ I h) fun v s1 ⟨x, H1, I1, r1, q1⟩ => ⟨x, σ, H1, I1, r1, q1⟩)
def tIfS (c : TT) (t u : TS) : TS := fun D σ H => c σ H fun b H1 => if b = true then t D σ H1 else u D σ H1
theorem ps_if {c : Expr} {a b : List Stmt} {tc : TT} (hc : PT X c tc) (ha : PSs X a t) (hb : PSs X b u) : PS X (.If c a b pos) (tIfS tc t u) := by
  intro pins s σ H D I h
  refine wpAny_If (thn (hc pins s σ H _ I h) fun d s1 ⟨H1, I1, q1⟩ => ?_)
  cases d with
  | true => exact ha pins s1 σ H1 D I1 q1
  | false => exact hb pins s1 σ H1 D I1 q1
end
abbrev TG := V → St → Hp → (St → Hp → Prop) → Prop
abbrev TGs := List V → St → Hp → (St → Hp → Prop) → Prop
def PG (X : Cx) (target : Expr) (t : TG) : Prop :=
  ∀ (pins : List (Addr × Obj)) (s : Shared) (σ : St) (H : Hp) (v : V) (u : Value) (Q : St → Hp → Prop), Inv X pins σ H s → RelV v u → t v σ H Q →
    wpAny (model X.prog X.w) X.A (assign target X.env u) (fun _ s' => ∃ σ' H', Inv X pins σ' H' s' ∧ Q σ' H') X.xe s
/-- several targets, one after another -/
def PGs (X : Cx) (ts : List Expr) (t : TGs) : Prop :=
  ∀ (pins : List (Addr × Obj)) (s : Shared) (σ : St) (H : Hp) (vs : List V) (us : List Value) (Q : St → Hp → Prop), Inv X pins σ H s → Vals vs us → t vs σ H Q →
    wpAny (model X.prog X.w) X.A (assignInOrder ((assignEach ts X.env).map (·.2)) us) (fun _ s' => ∃ σ' H', Inv X pins σ' H' s' ∧ Q σ' H') X.xe s
/-- o[i] = v, by values -/
abbrev TSet := V → V → V → Hp → (Hp → Prop) → Prop
def PSet (X : Cx) (t : TSet) : Prop :=
  ∀ (pins : List (Addr × Obj)) (s : Shared) (σ : St) (H : Hp) (o i v : V) (ov iv u : Value) (Q : Hp → Prop), Inv X pins σ H s → RelV o ov → RelV i iv → RelV v u → t o i v H Q →
    wpAny (model X.prog X.w) X.A (setItem ov iv u) (fun _ s' => ∃ H', Inv X pins σ H' s' ∧ Q H') X.xe s
section
variable {X : Cx} {pos : Pos}
def gName (i : Nat) : TG := fun v σ H Q => Q (σ.set i (some v)) H
theorem pg_name {i : Nat} {x : Str} (hN : X.N.Nodup) (hi : X.N[i]? = some x) (hx : Loc X.env.scope x) (hf : X.fn x = true ∨ X.env.scope.names.lookup x = some .local := by first | exact .inl rfl | exact .inr rfl | assumption) : PG X (.Name x pos) (gName i) := by
  intro pins s σ H v u Q I r h
  exact wpAny_assign_Name (store_ok I hN hi hx r (fun s' I' => ⟨_, H, I', h⟩) hf)
def gNil : TGs := fun vs σ H Q => vs = [] ∧ Q σ H
def gCons (t : TG) (u : TGs) : TGs := fun vs σ H Q => ∃ v r, vs = v :: r ∧ t v σ H fun σ' H' => u r σ' H' Q
theorem pgs_nil : PGs X [] gNil := by
  intro pins s σ H vs us Q I r h
  obtain ⟨e, h⟩ := h
  subst e
  cases r
  exact assignInOrder_nil ⟨σ, H, I, h⟩
theorem pgs_cons {e : Expr} {es : List Expr} {t : TG} {u : TGs} (h1 : PG X e t) (h2 : PGs X es u)
    (hs : (assignEach (e :: es) X.env).map (·.2) = assign e X.env :: (assignEach es X.env).map (·.2) := by rfl) : PGs X (e :: es) (gCons t u) := by
  intro pins s σ H vs us Q I r h
  obtain ⟨v, vr, e1, h⟩ := h
  subst e1
  cases r with
  | cons r rr =>
    rw [hs]
    refine assignInOrder_cons (thn (h1 pins s σ H _ _ _ I r h) fun _ s1 ⟨σ1, H1, I1, q1⟩ => ?_)
    exact h2 pins s1 σ1 H1 _ _ Q I1 rr q1
/-- (a, b, ..) = a tuple of that length -/
def gTup (K : PySem.W.Frag) (n : Nat) (t : TGs) : TG := fun v σ H Q => ∃ a xs, v = .ref a ∧ SqT K H a xs ∧ xs.length = n ∧ t xs σ H Q
theorem pg_tup {es : List Expr} {k : Nat} {t : TGs} {n : Nat} (hc : X.calm = true) (h : PGs X es t)
    (hn : (assignEach es X.env).length = n := by rfl) (hst : (assignEach es X.env).findIdx? (·.1) = none := by rfl) : PG X (.Tuple es k pos) (gTup X.K n t) := by
  intro pins s σ H v u Q I r hw
  obtain ⟨a, xs, e1, hq, hl, hw⟩ := hw
  subst e1
  cases r
  obtain ⟨its, rv, ht, hz⟩ := I.tuple hq
  refine assign_Tuple_tuple (I.ok.hd hc) ht (by simp [hn, ← hl, rv.length]) hst fun h' hx => ?_
  have I1 : Inv X pins σ H { s with heap := h' } := I.kept (t' := s.toks) fun b o e => hx b o (Nat.ne_of_lt (Heap.lt_size e)) e
  exact h pins _ σ H xs _ Q I1 (by simpa using rv) hw
/-- o[i] = .. -/
def gSub (to ti : TE) (t : TSet) : TG := fun v σ H Q => to σ H fun o H1 => ti σ H1 fun i H2 => t o i v H2 fun H3 => Q σ H3
theorem pg_sub {o i : Expr} {to ti : TE} {t : TSet} (ho : PE X o to) (hi : PE X i ti) (hs : PSet X t)
    (ha : ∀ v, assign (.Subscript o i pos) X.env v = (do
      let ov ← holding [v] (eval o X.env)
      let iv ← holding [v, ov] (eval i X.env)
      standAt pos
      holding [v, ov, iv] (setItem ov iv v)
      release [v, ov, iv] []) := by intro _; rfl) : PG X (.Subscript o i pos) (gSub to ti t) := by
  intro pins s σ H v u Q I r h
  rw [ha]
  refine wpAny_bind (wpAny_holding (thn (ho pins s σ H _ I h) fun ov s1 ⟨x, H1, I1, r1, q1⟩ => ?_))
  refine wpAny_bind (wpAny_holding (thn (hi pins s1 σ H1 _ I1 q1) fun iv s2 ⟨y, H2, I2, r2, q2⟩ => ?_))
  refine wpAny_bind (wpAny_standAt (wpAny_bind (wpAny_holding (thn (hs pins s2 σ H2 x y v ov iv u _ I2 r1 r2 r q2) fun _ s3 ⟨H3, I3, q3⟩ => ?_))))
  exact wpAny_release ⟨σ, H3, I3, q3⟩
/-- target = value -/
def tAsg (te : TE) (g : TG) : TS := fun D σ H => te σ H fun x H1 => g x σ H1 D.nx
theorem ps_asg {tg e : Expr} {te : TE} {g : TG} (he : PE X e te) (hg : PG X tg g) (hs : swapsWithSole [tg] e pos.line X.env = pure false := by rfl) (hw : swappedStores [tg] e X.env = pure none := by rfl)
    (h1 : (assignEach [tg] X.env).map (·.2) = [assign tg X.env] := by rfl) : PS X (.Assign [tg] e pos) (tAsg te g) := by
  intro pins s σ H D I h
  refine wpAny_Assign_stores (thn (he pins s σ H _ I h) fun v s1 ⟨x, H1, I1, r1, q1⟩ => ?_) hs hw
  rw [h1]
  exact thn (hg pins s1 σ H1 x v _ I1 r1 q1) fun _ s2 q => q
/-- name = value -/
theorem ps_set {i : Nat} {x : Str} {e : Expr} {te : TE} {pos' : Pos} (hN : X.N.Nodup) (hi : X.N[i]? = some x) (hx : Loc X.env.scope x) (he : PE X e te) (hs : swapsWith e (some (.Name x pos')) pos.line X.env = pure false := by rfl) (hf : X.fn x = true ∨ X.env.scope.names.lookup x = some .local := by first | exact .inl rfl | exact .inr rfl | assumption) :
    PS X (.Assign [.Name x pos'] e pos) (tAsg te (gName i)) := by
  intro pins s σ H D I h
  refine wpAny_Assign_Name (thn (he pins s σ H _ I h) fun v s1 ⟨y, H1, I1, r1, q1⟩ => ?_) hs
  exact store_ok I1 hN hi hx r1 (fun s2 I2 => ⟨_, H1, I2, q1⟩) hf
/-- a, b = x, y with plain local names: stored from the right; the pair itself is not tracked (the opening rows as in PyProof/Rows/TupAssign.lean:23) -/
def tPar (i j : Nat) (ta : TA) : TS := fun D σ H => ta σ H fun vs H1 => ∃ v w, vs = [v, w] ∧ D.nx ((σ.set i (some v)).set j (some w)) H1
theorem ps_par {i j : Nat} {x y : Str} {a b : Expr} {ta : TA} {px py pt : Pos} {kt k2 pt2} (hc : X.calm = true) (hN : X.N.Nodup) (hi : X.N[i]? = some x) (hj : X.N[j]? = some y) (hij : i ≠ j)
    (hx : X.env.scope.names.lookup x = some .local) (hy : X.env.scope.names.lookup y = some .local) (ha : PA X [a, b] ta)
    (hw : swappedStores [.Tuple [.Name x px, .Name y py] kt pt] (.Tuple [a, b] k2 pt2) X.env = pure (some [x, y]))
    (hs : swapsWithSole [.Tuple [.Name x px, .Name y py] kt pt] (.Tuple [a, b] k2 pt2) pos.line X.env = pure false := by rfl) :
    PS X (.Assign [.Tuple [.Name x px, .Name y py] kt pt] (.Tuple [a, b] k2 pt2) pos) (tPar i j ta) := by
  intro pins s σ H D I h
  rw [exec_Assign_arm]
  refine wpAny_bind (wpAny_standAt ?_)
  rw [hs]
  refine wpAny_bind (wpAny_pure ?_)
  rw [if_neg (by decide)]
  refine wpAny_bind (Tuple_ (thn (ha _ pins s σ H _ I h) fun us s1 ⟨vs, H1, I1, r1, q1⟩ => ?_))
  obtain ⟨v, w, e1, q1⟩ := q1
  subst e1
  obtain ⟨u1, u2, rfl, rv, rw'⟩ : ∃ u1 u2, us = [u1, u2] ∧ RelV v u1 ∧ RelV w u2 := by
    cases r1 with
    | cons p q =>
      cases q with
      | cons p' q' =>
        cases q'
        exact ⟨_, _, rfl, p, p'⟩
  refine wpAny_newObj_type ?_ (by show 2 ≤ sizeLine; decide)
  have I2 : Inv X pins σ H1 { s1 with heap := s1.heap.push { cls := .type "tuple", data := .seq [u1, u2].toArray } } := I1.kept (t' := s1.toks) fun b o e => Heap.get?_push_of_some _ e
  rw [hw]
  refine wpAny_bind (wpAny_pure ?_)
  show wpAny (model X.prog X.w) X.A (do rule "assign.swapped-stores"; let items ← unpackItems (.ref s1.heap.objs.size) 2 none; assignInOrder [fun v => bindName X.env y v, fun v => bindName X.env x v] items.reverse; pure Flow.next) _ _ _
  refine wpAny_bind (wpAny_rule (wpAny_bind (unpackItems_tuple (items := #[u1, u2]) (I.ok.hd hc) (IsTup.new s1.heap _) fun h' hx' => ?_)))
  have I3 := I2.kept (h' := h') (t' := s1.toks) fun b o e => hx' b o (Nat.ne_of_lt (Heap.lt_size e)) e
  show wpAny _ _ (assignInOrder [fun v => bindName X.env y v, fun v => bindName X.env x v] [u2, u1] >>= fun _ => pure Flow.next) _ _ _
  refine wpAny_bind (assignInOrder_cons (wpAny_bindName (store_ok I3 hN hj (.inl hy) rw' (fun s2 I4 => ?_) (.inr hy))))
  refine assignInOrder_cons (wpAny_bindName (store_ok I4 hN hi (.inl hx) rv (fun s3 I5 => assignInOrder_nil (wpAny_pure ?_)) (.inr hx)))
  rw [List.set_comm _ _ (Ne.symm hij)] at I5
  exact ⟨_, H1, I5, q1⟩
end
section
variable {X : Cx} {pos : Pos}
end
/-- at turn i: it yields x (the heap may grow), or it stops -/
structure It where
  go : Nat → Hp → Prop
  yld : Nat → Hp → V → Hp → Prop
  stop : Nat → Hp → Prop
/-- the iterator's own objects may turn: they are not the frame's, not pinned, younger than the entry (or a comprehension's own) -/
def FpOk (X : Cx) (pins : List (Addr × Obj)) (H : Hp) (b : Addr) : Prop :=
  H b = none ∧ b ≠ X.env.locals ∧ b ∉ X.fs ∧ (b ∈ X.ex ∨ X.s_0.heap.objs.size ≤ b) ∧ (∀ x c, X.env.cells.lookup x = some c → c ≠ b) ∧ ∀ p ∈ X.pn ++ pins, p.1 ≠ b
theorem Inv.fpOk {X : Cx} {pins : List (Addr × Obj)} {σ : St} {H H' : Hp} {s : Shared} {b : Addr} (I : Inv X pins σ H s) (hb : s.heap.objs.size ≤ b) (hn : H' b = none) : FpOk X pins H' b := by
  refine ⟨hn, Nat.ne_of_gt (Nat.lt_of_lt_of_le I.lt hb), I.nofs hb, .inr (Nat.le_trans I.sz hb), fun x c e z => ?_, fun p hp z => ?_⟩
  · obtain ⟨v, q⟩ := I.cell x c e
    exact absurd (Nat.lt_of_lt_of_le q.lt (by rw [z]; exact hb)) (Nat.lt_irrefl _)
  · exact absurd (Nat.lt_of_lt_of_le (Heap.lt_size (I.pin p hp).1) (by rw [z]; exact hb)) (Nat.lt_irrefl _)
structure Turn (P : Program) (w : World) (K : PySem.W.Frag) (tg : Expr) (J : It) (fp : List Addr) (it : Addr) (tn : Nat → Heap → Prop) : Prop where
  mem : it ∈ fp
  obj : ∀ i h, tn i h → ∀ b ∈ fp, ∃ o, h.get? b = some o ∧ ∀ v, o.data ≠ .cell v
  keep : ∀ i h h', tn i h → (∀ b ∈ fp, ∀ o, h.get? b = some o → h'.get? b = some o) → tn i h'
  item : ∀ (X : Cx), X.prog = P → X.w = w → X.K = K → X.calm = true → ∀ (i : Nat) (pins : List (Addr × Obj)) (s : Shared) (σ : St) (H : Hp) (E : Value → Shared → Prop), Inv X pins σ H s → (∀ b ∈ fp, FpOk X pins H b) → tn i s.heap → J.go i H →
    wpAny (model P w) X.A (pyNext (.ref it)) (fun r s1 => ∃ u, r = some u ∧
      wpAny (model P w) X.A (letOwnedTupleGo tg (.ref it) u) (fun _ s2 => ∃ x H', Inv X pins σ H' s2 ∧ RelV x u ∧ J.yld i H x H' ∧ tn (i + 1) s2.heap ∧ ∀ b ∈ fp, H' b = none) E s1) E s
  done : ∀ (X : Cx), X.prog = P → X.w = w → X.K = K → X.calm = true → ∀ (i : Nat) (pins : List (Addr × Obj)) (s : Shared) (σ : St) (H : Hp) (E : Value → Shared → Prop), Inv X pins σ H s → (∀ b ∈ fp, FpOk X pins H b) → tn i s.heap → J.stop i H →
    wpAny (model P w) X.A (pyNext (.ref it)) (fun r s1 => r = none ∧ Inv X pins σ H s1) E s
  self : ∀ (A : Around) (i : Nat) (s : Shared) (Q : Value → Shared → Prop) (E : Value → Shared → Prop), tn i s.heap → Q (.ref it) s → wpAny (model P w) A (pyIter (.ref it)) Q E s
abbrev TI := St → Hp → (It → Hp → Prop) → Prop
/-- an iterator has come -/
def PIE (X : Cx) (pins : List (Addr × Obj)) (σ : St) (tg : Expr) (R : It → Hp → Prop) (itv : Value) (s2 : Shared) : Prop :=
  ∃ (it : Addr) (fp : List Addr) (tn : Nat → Heap → Prop) (J : It) (H' : Hp), itv = .ref it ∧ Inv X pins σ H' s2 ∧ Turn X.prog X.w X.K tg J fp it tn ∧ tn 0 s2.heap ∧ (∀ b ∈ fp, FpOk X pins H' b) ∧ R J H'
def PI (X : Cx) (tg iter : Expr) (wi : TI) : Prop :=
  ∀ (pins : List (Addr × Obj)) (s : Shared) (σ : St) (H : Hp) (R : It → Hp → Prop), Inv X pins σ H s → wi σ H R →
    wpAny (model X.prog X.w) X.A (eval iter X.env) (fun v s1 => wpAny (model X.prog X.w) X.A (pyIter v) (PIE X pins σ tg R) X.xe s1) X.xe s
/-- the step ahead of the store is nothing for an iterator that keeps no tuple -/
theorem go_of {M : Model} {A : Around} {E : Value → Shared → Prop} {s : Shared} {tg : Expr} {it : Addr} {u : Value} {o : Obj} {n : String} {vs : Array Value} {Q : Unit → Shared → Prop} (ho : s.heap.get? it = some o) (hc : o.cls = .type n) (hd : o.data = .fields vs)
    (hn : ["enumerate", "zip", "dict_itemiterator", "dict_reverseitemiterator", "odict_iterator", "itertools.zip_longest", "itertools.pairwise"].contains n = false) (hQ : Q () s) : wpAny M A (letOwnedTupleGo tg (.ref it) u) Q E s := by
  unfold letOwnedTupleGo
  cases tg <;> first
    | exact wpAny_pure hQ
    | (cases u <;> first
        | exact wpAny_pure hQ
        | (refine wpAny_bind (wpAny_load ho ?_)
           rw [hc, hd]
           show wpAny M A (if (["enumerate", "zip", "dict_itemiterator", "dict_reverseitemiterator", "odict_iterator", "itertools.zip_longest", "itertools.pairwise"].contains n && vs[0]? == some (rawInt _)) = true then _ else _) Q E s
           rw [if_neg (by intro h; rw [hn, Bool.false_and] at h; cases h)]
           exact wpAny_pure hQ))
/-- the list at a, as it stands at each turn (a loop may append to it) -/
def Itl (K : PySem.W.Frag) (a : Addr) : It :=
  ⟨fun i H => ∃ xs x, SqL K H a xs ∧ xs[i]? = some x, fun i H x H' => H' = H ∧ ∀ xs, SqL K H a xs → xs[i]? = some x, fun i H => ∃ xs, SqL K H a xs ∧ xs.length ≤ i⟩
def Itt (K : PySem.W.Frag) (a : Addr) : It :=
  ⟨fun i H => ∃ xs x, SqT K H a xs ∧ xs[i]? = some x, fun i H x H' => H' = H ∧ ∀ xs, SqT K H a xs → xs[i]? = some x, fun i H => ∃ xs, SqT K H a xs ∧ xs.length ≤ i⟩
/-- lo, lo + 1, .. (n of them) -/
def Itr (lo : Int) (n : Nat) : It := ⟨fun i _ => i < n, fun i H x H' => H' = H ∧ x = .int (lo + i), fun i _ => n ≤ i⟩
theorem turn_list {P : Program} {w : World} {K : PySem.W.Frag} {tg : Expr} (a it : Addr) : Turn P w K tg (Itl K a) [it] it (fun i h => h.IsListIter it a i) where
  mem := by simp
  obj := fun i h st b hb => by
    have e : b = it := by simpa using hb
    subst e
    obtain ⟨o, e, c, d⟩ := st
    exact ⟨o, e, fun v z => by rw [d] at z; cases z⟩
  keep := fun i h h' st k => st.at fun o e => k it (by simp) o e
  item := by
    intro X hP hw hK hc i pins s σ H E I hf st hg
    subst hP hw hK
    obtain ⟨xs, x, hq, hx⟩ := hg
    obtain ⟨its, rv, p, hz⟩ := I.list hq
    obtain ⟨u, hu, ru⟩ := rv.get hx
    obtain ⟨f0, f1, f2, f3, f4, f5⟩ := hf it (by simp)
    refine wpAny_pyNext_list_item st p.isList (x := u) (by simpa using hu) fun h' st' sb => ?_
    have I1 : Inv X pins σ H { s with heap := h' } := I.turned (t' := s.toks) (fun b o hb e => (sb.2 b hb).trans e) f0 f1 f3 f4 f5
    obtain ⟨o, e, c, d⟩ := id st'
    exact ⟨u, rfl, go_of (s := { s with heap := h' }) e c d (by decide) ⟨x, H, I1, ru, ⟨rfl, fun ys hy => by rw [I.list_inj hy hq]; exact hx⟩, st', fun b hb => (hf b hb).1⟩⟩
  done := by
    intro X hP hw hK hc i pins s σ H E I hf st hg
    subst hP hw hK
    obtain ⟨xs, hq, hx⟩ := hg
    obtain ⟨its, rv, p, hz⟩ := I.list hq
    obtain ⟨f0, f1, f2, f3, f4, f5⟩ := hf it (by simp)
    have hl := rv.length
    exact wpAny_pyNext_list_end (I.ok.hd hc) st p.isList (by simp; omega) fun h' eb => ⟨rfl, I.turned (t' := s.toks) (fun b o hb e => eb b o hb e) f0 f1 f3 f4 f5⟩
  self := fun _ _ _ _ _ st h => wpAny_pyIter_listiter st h
theorem turn_tuple {P : Program} {w : World} {K : PySem.W.Frag} {tg : Expr} (a it : Addr) : Turn P w K tg (Itt K a) [it] it (fun i h => h.IsTupleIter it a i) where
  mem := by simp
  obj := fun i h st b hb => by
    have e : b = it := by simpa using hb
    subst e
    obtain ⟨o, e, c, d⟩ := st
    exact ⟨o, e, fun v z => by rw [d] at z; cases z⟩
  keep := fun i h h' st k => st.at fun o e => k it (by simp) o e
  item := by
    intro X hP hw hK hc i pins s σ H E I hf st hg
    subst hP hw hK
    obtain ⟨xs, x, hq, hx⟩ := hg
    obtain ⟨its, rv, p, hz⟩ := I.tuple hq
    obtain ⟨u, hu, ru⟩ := rv.get hx
    obtain ⟨f0, f1, f2, f3, f4, f5⟩ := hf it (by simp)
    refine wpAny_pyNext_tuple_item st (show s.heap.IsTuple a its.toArray from p) (x := u) (by simpa using hu) fun h' st' sb => ?_
    have I1 : Inv X pins σ H { s with heap := h' } := I.turned (t' := s.toks) (fun b o hb e => (sb.2 b hb).trans e) f0 f1 f3 f4 f5
    obtain ⟨o, e, c, d⟩ := id st'
    exact ⟨u, rfl, go_of (s := { s with heap := h' }) e c d (by decide) ⟨x, H, I1, ru, ⟨rfl, fun ys hy => by rw [I.tuple_inj hy hq]; exact hx⟩, st', fun b hb => (hf b hb).1⟩⟩
  done := by
    intro X hP hw hK hc i pins s σ H E I hf st hg
    subst hP hw hK
    obtain ⟨xs, hq, hx⟩ := hg
    obtain ⟨its, rv, p, hz⟩ := I.tuple hq
    obtain ⟨f0, f1, f2, f3, f4, f5⟩ := hf it (by simp)
    have hl := rv.length
    exact wpAny_pyNext_tuple_end (I.ok.hd hc) st (show s.heap.IsTuple a its.toArray from p) (by simp; omega) fun h' eb => ⟨rfl, I.turned (t' := s.toks) (fun b o hb e => eb b o hb e) f0 f1 f3 f4 f5⟩
  self := fun _ _ _ _ _ st h => wpAny_pyIter_tupleiter st h
theorem turn_range {P : Program} {w : World} {K : PySem.W.Frag} {tg : Expr} (it : Addr) (lo : Int) (n : Nat) : Turn P w K tg (Itr lo n) [it] it (fun i h => IsRangeIter h it (lo + (i : Nat) * 1) ((n : Int) - (i : Nat)) 1) where
  mem := by simp
  obj := fun i h st b hb => by
    have e : b = it := by simpa using hb
    subst e
    exact ⟨_, st, fun v z => by
      have z' : Data.fields _ = Data.cell v := z
      cases z'⟩
  keep := fun i h h' st k => k it (by simp) _ st
  item := by
    intro X hP hw hK hc i pins s σ H E I hf st hg
    subst hP hw hK
    obtain ⟨f0, f1, f2, f3, f4, f5⟩ := hf it (by simp)
    have W := Walks.range (prog := X.prog) (w := X.w) (I.ok.hd hc) it lo 1 n
    refine W.item i s _ _ hg st fun v h' tk hv st' kk => ?_
    obtain ⟨t, rfl⟩ := hv
    have I1 : Inv X pins σ H { s with heap := h', toks := tk } := I.turned (fun b o hb e => kk b o (by simpa using hb) e) f0 f1 f3 f4 f5
    refine ⟨_, rfl, go_of (s := { s with heap := h', toks := tk }) (n := "range_iterator") st' rfl rfl (by decide) ⟨.int (lo + i), H, I1, ⟨t, ?_⟩, ⟨rfl, rfl⟩, st', fun b hb => (hf b hb).1⟩⟩
    rw [Int.mul_one]
  done := by
    intro X hP hw hK hc i pins s σ H E I hf st hg
    subst hP hw hK
    obtain ⟨f0, f1, f2, f3, f4, f5⟩ := hf it (by simp)
    exact wpAny_pyNext_range_end (I.ok.hd hc) st (by have : n ≤ i := hg; omega) fun h' eb => ⟨rfl, I.turned (t' := s.toks) (fun b o hb e => eb b o hb e) f0 f1 f3 f4 f5⟩
  self := fun _ _ _ _ _ st h => wpAny_pyIter_rangeiter st h
end L2
namespace L2
open PySem PySem.Spec PyProof.Rows
section
variable {X : Cx} {tg : Expr}
/-- a range object just made, walked -/
theorem range_it {pins : List (Addr × Obj)} {σ : St} {H : Hp} {s : Shared} {R : It → Hp → Prop} {E : Value → Shared → Prop} {lo hi : Int} {t u v : Tok} {tk : Nat} (I : Inv X pins σ H s) (h1 : -(2 ^ 62) ≤ lo) (h2 : lo < 2 ^ 62) (h3 : -(2 ^ 62) ≤ hi) (h4 : hi < 2 ^ 62)
    (q : R (Itr lo (hi - lo).toNat) H) : wpAny (model X.prog X.w) X.A (pyIter (.ref s.heap.objs.size)) (PIE X pins σ tg R) E { s with heap := s.heap.push { cls := .type "range", data := .fields #[.int lo t, .int hi u, .int 1 v] }, toks := tk } := by
  refine wpAny_pyIter_range (IsRange.new ..) (small_one h1 h2 h3 h4) ?_
  have I1 : Inv X pins σ H { s with heap := s.heap.push { cls := .type "range", data := .fields #[.int lo t, .int hi u, .int 1 v] }, toks := tk } := I.kept fun b o e => Heap.get?_push_of_some _ e
  refine ⟨(s.heap.push { cls := .type "range", data := .fields #[.int lo t, .int hi u, .int 1 v] }).objs.size, [(s.heap.push { cls := .type "range", data := .fields #[.int lo t, .int hi u, .int 1 v] }).objs.size], _, _, H, rfl,
    I1.kept (t' := tk) fun b o e => Heap.get?_push_of_some _ e, turn_range _ lo (hi - lo).toNat, ?_, fun b hb => ?_, q⟩
  · have e1 : lo + ((0 : Nat) : Int) * 1 = lo := by simp
    have e2 : (((hi - lo).toNat : Nat) : Int) - ((0 : Nat) : Int) = Builtin.Range.rangeSize lo hi 1 := by rw [rangeSize_one]; split <;> omega
    show IsRangeIter _ _ (lo + ((0 : Nat) : Int) * 1) ((((hi - lo).toNat : Nat) : Int) - ((0 : Nat) : Int)) 1
    rw [e1, e2]
    exact Heap.get?_push_size _ rfl
  · have e : b = (s.heap.push { cls := .type "range", data := .fields #[.int lo t, .int hi u, .int 1 v] }).objs.size := by simpa using hb
    subst e
    exact I1.fpOk (Nat.le_refl _) (I1.hok.fresh (Nat.le_refl _))
def iRng1 (ta : TA) : TI := fun σ H R => ta σ H fun vs H1 => ∃ j : Int, vs = [.int j] ∧ -(2 ^ 62) ≤ j ∧ j < 2 ^ 62 ∧ R (Itr 0 j.toNat) H1
theorem pi_range1 {a : Expr} {ta : TA} {p pos : Pos} (hg : Gl X "range") (hm : X.mg "range" = none) (ha : PA X [a] ta) (hs : starEach [a] X.env = [(false, eval a X.env)] := by rfl) : PI X tg (.Call (.Name "range" p) [a] [] pos) (iRng1 ta) := by
  intro pins s σ H R I h
  refine Call_ (ld_blt I hg hm boot_range (PyProof.Rows.callWith_type1 (thn (ha pos pins s σ H _ I h) fun us s1 ⟨vs, H1, I1, r1, q1⟩ => ?_) hs rfl))
  obtain ⟨j, e, q1, q2, q⟩ := q1
  subst e
  cases r1 with
  | cons r rr =>
    cases rr
    obtain ⟨t, rfl⟩ := r
    exact call_range_1 (range_it I1 (by omega) (by omega) q1 q2 (by simpa using q))
/-- W: the invariant by the turn and a measure; N: what the body is to reach -/
def tFor (wi : TI) (g : TG) (tb : TS) : TS := fun D σ H => wi σ H fun J H1 => ∃ W : Nat → Nat → St → Hp → Prop, (∃ m, W 0 m σ H1) ∧ ∀ i m σ H, W i m σ H →
  (J.stop i H ∧ D.nx σ H) ∨ (J.go i H ∧ ∃ N : St → Hp → Prop, (∀ σ' H', N σ' H' → ∃ m', m' < m ∧ W (i + 1) m' σ' H') ∧ ∀ x H', J.yld i H x H' → g x σ H' fun σ2 H2 => tb { D with nx := N, ct := N, bk := D.nx } σ2 H2)
/-- the records at fp as they stand -/
def pinsAt (fp : List Addr) (h : Heap) : List (Addr × Obj) := fp.filterMap fun b => (h.get? b).map fun o => (b, o)
theorem mem_pinsAt {fp : List Addr} {h : Heap} {b : Addr} {o : Obj} (hb : b ∈ fp) (e : h.get? b = some o) : (b, o) ∈ pinsAt fp h := List.mem_filterMap.mpr ⟨b, hb, by rw [e]; rfl⟩
theorem of_pinsAt {fp : List Addr} {h : Heap} {p : Addr × Obj} (hp : p ∈ pinsAt fp h) : p.1 ∈ fp ∧ h.get? p.1 = some p.2 := by
  obtain ⟨b, hb, e⟩ := List.mem_filterMap.mp hp
  cases q : h.get? b with
  | none => rw [q] at e; cases e
  | some o =>
    rw [q] at e
    have e' : (b, o) = p := Option.some.inj e
    subst e'
    exact ⟨hb, q⟩
theorem Inv.pinned {pins : List (Addr × Obj)} {σ : St} {H : Hp} {s : Shared} {fp : List Addr} (I : Inv X pins σ H s) (hf : ∀ b ∈ fp, FpOk X pins H b) (ho : ∀ b ∈ fp, ∃ o, s.heap.get? b = some o ∧ ∀ v, o.data ≠ .cell v) : Inv X (pins ++ pinsAt fp s.heap) σ H s :=
  I.pins_of fun p hp => (List.mem_append.mp hp).elim (fun z => I.pin p (List.mem_append_right _ z)) fun z => by
    obtain ⟨hb, e⟩ := of_pinsAt z
    obtain ⟨f0, f1, f2, _⟩ := hf p.1 hb
    obtain ⟨o, e', d⟩ := ho p.1 hb
    rw [e] at e'; cases e'
    exact ⟨e, f0, f1, f2, d⟩
theorem Inv.unpinned {pins pl : List (Addr × Obj)} {σ : St} {H : Hp} {s : Shared} (I : Inv X (pins ++ pl) σ H s) : Inv X pins σ H s := I.pins_of fun p hp => I.pin p (List.mem_append_right _ (List.mem_append_left _ hp))
theorem ps_for {iter : Expr} {body : List Stmt} {wi : TI} {g : TG} {tb : TS} {pos : Pos} (hp : PassesOwn (model X.prog X.w) X.A X.env X.xe) (hc : X.calm = true) (hi : PI X tg iter wi) (hg : PG X tg g) (hb : PSs X body tb)
    (hs : ∀ x, foldedSetIterable iter X.env x = pure x := by intro _; rfl) : PS X (.For tg iter body [] pos) (tFor wi g tb) := by
  intro pins s σ H D I h
  refine wpAny_For (thn (hi pins s σ H _ I h) fun v s1 h1 => thn h1 fun itv s2 h2 => ?_) hs
  obtain ⟨it, fp, tn, J, H2, e, I2, T, st2, f2, W, ⟨m0, w0⟩, turn⟩ := h2
  subst e
  have stat : ∀ {H' : Hp}, (∀ b ∈ fp, H' b = none) → ∀ b ∈ fp, FpOk X pins H' b := fun hn b hb => ⟨hn b hb, (f2 b hb).2⟩
  refine codeAny_forLoop_any (fun n s' => ∃ i σ' H', Inv X pins σ' H' s' ∧ tn i s'.heap ∧ (∀ b ∈ fp, H' b = none) ∧ W i n σ' H') ?_ m0 ⟨0, σ, H2, I2, st2, fun b hb => (f2 b hb).1, w0⟩
  rintro n s3 ⟨i, σ3, H3, I3, st3, fr3, w3⟩
  rcases turn i n σ3 H3 w3 with ⟨stop, qn⟩ | ⟨go, N, hN, step⟩
  · refine wpAny_passesOwn hp (thn (T.done X rfl rfl rfl hc i pins s3 σ3 H3 X.xe I3 (stat fr3) st3 stop) fun r s4 ⟨hr, I4⟩ => ?_)
    subst hr
    exact wpAny_execs_nil ⟨σ3, H3, I4, qn⟩
  · refine wpAny_passesOwn hp (thn (T.item X rfl rfl rfl hc i pins s3 σ3 H3 X.xe I3 (stat fr3) st3 go) fun r s4 ⟨u, hr, h4⟩ => ?_)
    subst hr
    refine wpAny_passesOwn hp (thn h4 fun _ s5 ⟨x, H5, I5, r5, y5, st5, fr5⟩ => ?_)
    have I5' := I5.pinned (stat fr5) (T.obj _ _ st5)
    refine wpAny_passesOwn hp (thn (hg _ s5 σ3 H5 x u _ I5' r5 (step x H5 y5)) fun _ s6 ⟨σ6, H6, I6, q6⟩ => ?_)
    refine wpAny_passesOwn hp (thn (hb _ s6 σ6 H6 _ I6 q6) fun f s7 q7 => ?_)
    have again : ∀ {σ7 : St} {H7 : Hp}, Inv X (pins ++ pinsAt fp s5.heap) σ7 H7 s7 → N σ7 H7 → ∃ m, m < n ∧ ∃ i σ' H', Inv X pins σ' H' s7 ∧ tn i s7.heap ∧ (∀ b ∈ fp, H' b = none) ∧ W i m σ' H' := fun {σ7 H7} I7 n7 => by
      obtain ⟨m', hm, w7⟩ := hN σ7 H7 n7
      refine ⟨m', hm, i + 1, σ7, H7, I7.unpinned, T.keep _ _ _ st5 fun b hb o e => (I7.pin (b, o) (List.mem_append_right _ (List.mem_append_right _ (mem_pinsAt hb e)))).1, fun b hb => ?_, w7⟩
      obtain ⟨o, e, d⟩ := T.obj _ _ st5 b hb
      exact (I7.pin (b, o) (List.mem_append_right _ (List.mem_append_right _ (mem_pinsAt hb e)))).2.1
    cases f with
    | next => obtain ⟨σ7, H7, I7, n7⟩ := q7; exact again I7 n7
    | cont => obtain ⟨σ7, H7, I7, n7⟩ := q7; exact again I7 n7
    | brk => obtain ⟨σ7, H7, I7, q7⟩ := q7; exact ⟨σ7, H7, I7.unpinned, q7⟩
    | ret v => obtain ⟨x7, σ7, H7, I7, r7, q7⟩ := q7; exact ⟨x7, σ7, H7, I7.unpinned, r7, q7⟩
end
end L2
namespace L2
open PySem PySem.Spec PyProof.Rows
abbrev R2 := V → V → Hp → VK → Prop
/-- a two-place operation on values: f is binaryOp op, inplaceOp op or compareOp op -/
def OpR (X : Cx) (f : Value → Value → Sem Value) (r : R2) : Prop :=
  ∀ (pins : List (Addr × Obj)) (s : Shared) (σ : St) (H : Hp) (x y : V) (v u : Value) (Q : VK), Inv X pins σ H s → RelV x v → RelV y u → r x y H Q →
    wpAny (model X.prog X.w) X.A (f v u) (EP X pins σ Q) X.xe s
/-- a call of a value that is known (a builtin, a type) with values -/
def CallR (X : Cx) (f : Value) (r : List V → Hp → VK → Prop) : Prop :=
  ∀ (pins : List (Addr × Obj)) (s : Shared) (σ : St) (H : Hp) (xs : List V) (us : List Value) (Q : VK), Inv X pins σ H s → Vals xs us → r xs H Q →
    wpAny (model X.prog X.w) X.A (call f us) (EP X pins σ Q) X.xe s
/-- a value's truth -/
def TruR (X : Cx) (r : V → Hp → (Bool → Hp → Prop) → Prop) : Prop :=
  ∀ (pins : List (Addr × Obj)) (s : Shared) (σ : St) (H : Hp) (x : V) (v : Value) (Q : Bool → Hp → Prop), Inv X pins σ H s → RelV x v → r x H Q →
    wpAny (model X.prog X.w) X.A (truthy v) (TP X pins σ Q) X.xe s
def tOp (r : R2) (ta tb : TE) : TE := fun σ H Q => ta σ H fun x H1 => tb σ H1 fun y H2 => r x y H2 Q
/-- ints in, under C, and a value out -/
def rI (C : Int → Int → Prop) (g : Int → Int → V) : R2 := fun x y H Q => ∃ i j, x = .int i ∧ y = .int j ∧ C i j ∧ Q (g i j) H
def rI0 (g : Int → Int → V) : R2 := fun x y H Q => ∃ i j, x = .int i ∧ y = .int j ∧ Q (g i j) H
section
variable {X : Cx} {a b c : Expr} {ta tb tc : TE} {pos : Pos}
theorem binT (ha : PE X a ta) (hb : PE X b tb) {pins : List (Addr × Obj)} {s : Shared} {σ : St} {H : Hp} {R : V → V → Hp → Prop} (I : Inv X pins σ H s)
    (h : ta σ H fun x H1 => tb σ H1 fun y H2 => R x y H2) {Q : Value → Shared → Prop} {f : Value → Value → Sem Value}
    (hf : ∀ v u s2 x y H2, Inv X pins σ H2 s2 → RelV x v → RelV y u → R x y H2 → wpAny (model X.prog X.w) X.A (f v u) Q X.xe s2) :
    wpAny (model X.prog X.w) X.A (eval a X.env) (fun v s₁ => wpAny (model X.prog X.w) X.A (eval b X.env) (fun u s₂ => wpAny (model X.prog X.w) X.A (f v u) Q X.xe s₂) X.xe s₁) X.xe s := by
  refine thn (ha pins s σ H _ I h) fun v s1 ⟨x, H1, I1, r1, q1⟩ => ?_
  refine thn (hb pins s1 σ H1 _ I1 q1) fun u s2 ⟨y, H2, I2, r2, q2⟩ => ?_
  exact hf v u s2 x y H2 I2 r1 r2 q2
theorem pe_op {op : Operator} {r : R2} (ho : OpR X (binaryOp op) r) (ha : PE X a ta) (hb : PE X b tb) : PE X (.BinOp a op b pos) (tOp r ta tb) := by
  intro pins s σ H Q I h
  exact wpAny_BinOp (binT ha hb I h fun v u s2 x y H2 I2 rx ry q => ho pins s2 σ H2 x y v u Q I2 rx ry q)
theorem opI {f : Value → Value → Sem Value} {C : Int → Int → Prop} {g : Int → Int → Int}
    (rule : ∀ (i j : Int) (t u : Tok) (s : Shared) (Q : Value → Shared → Prop) (E : Value → Shared → Prop), C i j → Q (.int (g i j) s.toks) { s with toks := s.toks + 1 } → wpAny (model X.prog X.w) X.A (f (.int i t) (.int j u)) Q E s) :
    OpR X f (rI C fun i j => .int (g i j)) := by
  intro pins s σ H x y v u Q I rx ry h
  obtain ⟨i, j, rfl, rfl, hc, q⟩ := h
  obtain ⟨t, rfl⟩ := rx
  obtain ⟨t', rfl⟩ := ry
  exact rule i j t t' s _ _ hc ⟨.int (g i j), H, I.tok _, ⟨_, rfl⟩, q⟩
theorem opI0 {f : Value → Value → Sem Value} {g : Int → Int → Int}
    (rule : ∀ (i j : Int) (t u : Tok) (s : Shared) (Q : Value → Shared → Prop) (E : Value → Shared → Prop), Q (.int (g i j) s.toks) { s with toks := s.toks + 1 } → wpAny (model X.prog X.w) X.A (f (.int i t) (.int j u)) Q E s) :
    OpR X f (rI0 fun i j => .int (g i j)) := by
  intro pins s σ H x y v u Q I rx ry h
  obtain ⟨i, j, rfl, rfl, q⟩ := h
  obtain ⟨t, rfl⟩ := rx
  obtain ⟨t', rfl⟩ := ry
  exact rule i j t t' s _ _ ⟨.int (g i j), H, I.tok _, ⟨_, rfl⟩, q⟩
theorem opB0 {f : Value → Value → Sem Value} {g : Int → Int → Bool}
    (rule : ∀ (i j : Int) (t u : Tok) (s : Shared) (Q : Value → Shared → Prop) (E : Value → Shared → Prop), Q (.bool (g i j)) s → wpAny (model X.prog X.w) X.A (f (.int i t) (.int j u)) Q E s) :
    OpR X f (rI0 fun i j => .bl (g i j)) := by
  intro pins s σ H x y v u Q I rx ry h
  obtain ⟨i, j, rfl, rfl, q⟩ := h
  obtain ⟨t, rfl⟩ := rx
  obtain ⟨t', rfl⟩ := ry
  exact rule i j t t' s _ _ ⟨.bl (g i j), H, I, rfl, q⟩
def CDiv (i j : Int) : Prop := 0 < j ∧ j < 1073741824
def CPow (i j : Int) : Prop := 0 ≤ j ∧ j ≤ 1000000 ∧ i.natAbs < 2 ^ 64
def CMul (i j : Int) : Prop := (-(2 ^ 64) < i ∧ i < 2 ^ 64) ∨ (-(2 ^ 64) < j ∧ j < 2 ^ 64)
theorem CMul.ok {i j : Int} (h : CMul i j) : IntMulOk i j := by
  rcases h with ⟨h1, h2⟩ | ⟨h1, h2⟩
  · exact .of_left (intBits_le_64 h1 h2)
  · exact .of_right (intBits_le_64 h1 h2)
theorem op_add : OpR X (binaryOp .Add) (rI0 fun i j => .int (i + j)) := opI0 fun _ _ _ _ _ _ _ q => add_int q
theorem op_sub : OpR X (binaryOp .Sub) (rI0 fun i j => .int (i - j)) := opI0 fun _ _ _ _ _ _ _ q => sub_int q
theorem op_mul : OpR X (binaryOp .Mult) (rI CMul fun i j => .int (i * j)) := opI fun _ _ _ _ _ _ _ hc q => mul_int q hc.ok
/-- // by a positive divisor -/
theorem op_fdiv : OpR X (binaryOp .FloorDiv) (rI CDiv fun i j => .int (i / j)) := opI fun i j _ _ _ _ _ hc q => by
  have h1 : (0 : Int) < j := hc.1
  have h2 : j < 1073741824 := hc.2
  exact floordiv_int (by omega) (by rw [Int.fdiv_eq_ediv_of_nonneg i (by omega)]; exact q) (.inl (PyProof.noPylong_small (by omega)))
/-- % by a positive divisor of any size -/
theorem op_mod : OpR X (binaryOp .Mod) (rI (fun _ j => 0 < j) fun i j => .int (i % j)) := opI fun i j _ _ _ _ _ hc q => by
  have h1 : (0 : Int) < j := hc
  exact mod_int' (by omega) (by rw [Int.fmod_eq_emod_of_nonneg i (by omega)]; exact q)
theorem op_pow : OpR X (binaryOp .Pow) (rI CPow fun i j => .int (i ^ j.toNat)) := opI fun _ _ _ _ _ _ _ hc q => pow_int_small hc.1 hc.2.1 hc.2.2 q
end
/-- the scalars that == tells apart as data does -/
def scal : V → V → Bool
  | .non, .non => true | .non, .int _ => true | .int _, .non => true | .non, .bl _ => true | .bl _, .non => true | .non, .str _ => true | .str _, .non => true
  | .int _, .int _ => true | .bl _, .bl _ => true | .str _, .str _ => true | .byt _, .byt _ => true
  | .int _, .str _ => true | .str _, .int _ => true | .bl _, .str _ => true | .str _, .bl _ => true
  | _, _ => false
def rEq : R2 := fun x y H Q => scal x y = true ∧ Q (.bl (decide (x = y))) H
def rNe : R2 := fun x y H Q => scal x y = true ∧ Q (.bl (!decide (x = y))) H
theorem dec_int {i j : Int} : decide (V.int i = V.int j) = (i == j) := by
  rw [Bool.eq_iff_iff]
  simp
theorem dec_bl {i j : Bool} : decide (V.bl i = V.bl j) = (i == j) := by
  rw [Bool.eq_iff_iff]
  simp
theorem dec_str {i j : Str} : decide (V.str i = V.str j) = (i == j) := by
  rw [Bool.eq_iff_iff]
  simp
theorem dec_byt {i j : Array UInt8} : decide (V.byt i = V.byt j) = (i.toList == j.toList) := by
  rw [Bool.eq_iff_iff]
  cases i
  cases j
  simp
section
variable {X : Cx} {a b c : Expr} {ta tb tc : TE} {pos : Pos}
theorem fin_bl {pins : List (Addr × Obj)} {σ : St} {H : Hp} {s : Shared} {Q : VK} {k k' : Bool} (I : Inv X pins σ H s) (q : Q (.bl k) H) (e : k = k') : EP X pins σ Q (.bool k') s := by
  subst e
  exact ⟨.bl k, H, I, rfl, q⟩
theorem op_eq : OpR X (compareOp .Eq) rEq := by
  intro pins s σ H x y v u Q I rx ry h
  obtain ⟨hs, q⟩ := h
  cases x with
  | non =>
    cases rx
    cases y with
    | non => cases ry; exact PySem.EqNone.eq_none_none (fin_bl I q (by simp))
    | bl j => cases ry; exact PySem.EqNone.eq_none_bool (fin_bl I q (by simp))
    | int j => obtain ⟨t', rfl⟩ := ry; exact PySem.EqNone.eq_none_int (fin_bl I q (by simp))
    | str j => obtain ⟨t', rfl⟩ := ry; exact PySem.EqNone.eq_none_str (fin_bl I q (by simp))
    | _ => exact absurd (show false = true from hs) Bool.false_ne_true
  | bl i =>
    cases rx
    cases y with
    | non => cases ry; exact PySem.EqNone.eq_bool_none (fin_bl I q (by simp))
    | bl j => cases ry; exact eq_bool (fin_bl I q dec_bl)
    | str j => obtain ⟨t', rfl⟩ := ry; exact PySem.EqMixed.eq_bool_str (fin_bl I q (by simp))
    | _ => exact absurd (show false = true from hs) Bool.false_ne_true
  | int i =>
    obtain ⟨t, rfl⟩ := rx
    cases y with
    | non => cases ry; exact PySem.EqNone.eq_int_none (fin_bl I q (by simp))
    | int j => obtain ⟨t', rfl⟩ := ry; exact eq_int (fin_bl I q dec_int)
    | str j => obtain ⟨t', rfl⟩ := ry; exact PySem.EqMixed.eq_int_str (fin_bl I q (by simp))
    | _ => exact absurd (show false = true from hs) Bool.false_ne_true
  | str i =>
    obtain ⟨t, rfl⟩ := rx
    cases y with
    | non => cases ry; exact PySem.EqNone.eq_str_none (fin_bl I q (by simp))
    | bl j => cases ry; exact PySem.EqMixed.eq_str_bool (fin_bl I q (by simp))
    | int j => obtain ⟨t', rfl⟩ := ry; exact PySem.EqMixed.eq_str_int (fin_bl I q (by simp))
    | str j => obtain ⟨t', rfl⟩ := ry; exact eq_str (fin_bl I q dec_str)
    | _ => exact absurd (show false = true from hs) Bool.false_ne_true
  | byt i =>
    obtain ⟨t, rfl⟩ := rx
    cases y with
    | byt j => obtain ⟨t', rfl⟩ := ry; exact PySem.W.eq_bytes (fin_bl I q dec_byt)
    | _ => exact absurd (show false = true from hs) Bool.false_ne_true
  | _ => cases y <;> exact absurd (show false = true from hs) Bool.false_ne_true
theorem op_ne : OpR X (compareOp .NotEq) rNe := by
  intro pins s σ H x y v u Q I rx ry h
  obtain ⟨hs, q⟩ := h
  cases x with
  | non =>
    cases rx
    cases y with
    | non => cases ry; exact PySem.EqNone.ne_none_none (fin_bl I q (by simp))
    | bl j => cases ry; exact PySem.EqNone.ne_none_bool (fin_bl I q (by simp))
    | int j => obtain ⟨t', rfl⟩ := ry; exact PySem.EqNone.ne_none_int (fin_bl I q (by simp))
    | str j => obtain ⟨t', rfl⟩ := ry; exact PySem.EqNone.ne_none_str (fin_bl I q (by simp))
    | _ => exact absurd (show false = true from hs) Bool.false_ne_true
  | bl i =>
    cases rx
    cases y with
    | non => cases ry; exact PySem.EqNone.ne_bool_none (fin_bl I q (by simp))
    | bl j => cases ry; exact ne_bool (fin_bl I q (congrArg not dec_bl))
    | str j => obtain ⟨t', rfl⟩ := ry; exact PySem.EqMixed.ne_bool_str (fin_bl I q (by simp))
    | _ => exact absurd (show false = true from hs) Bool.false_ne_true
  | int i =>
    obtain ⟨t, rfl⟩ := rx
    cases y with
    | non => cases ry; exact PySem.EqNone.ne_int_none (fin_bl I q (by simp))
    | int j => obtain ⟨t', rfl⟩ := ry; exact ne_int (fin_bl I q (congrArg not dec_int))
    | str j => obtain ⟨t', rfl⟩ := ry; exact PySem.EqMixed.ne_int_str (fin_bl I q (by simp))
    | _ => exact absurd (show false = true from hs) Bool.false_ne_true
  | str i =>
    obtain ⟨t, rfl⟩ := rx
    cases y with
    | non => cases ry; exact PySem.EqNone.ne_str_none (fin_bl I q (by simp))
    | bl j => cases ry; exact PySem.EqMixed.ne_str_bool (fin_bl I q (by simp))
    | int j => obtain ⟨t', rfl⟩ := ry; exact PySem.EqMixed.ne_str_int (fin_bl I q (by simp))
    | str j => obtain ⟨t', rfl⟩ := ry; exact ne_str (fin_bl I q (congrArg not dec_str))
    | _ => exact absurd (show false = true from hs) Bool.false_ne_true
  | byt i =>
    obtain ⟨t, rfl⟩ := rx
    cases y with
    | byt j => obtain ⟨t', rfl⟩ := ry; exact PySem.W.ne_bytes (fin_bl I q (congrArg not dec_byt))
    | _ => exact absurd (show false = true from hs) Bool.false_ne_true
  | _ => cases y <;> exact absurd (show false = true from hs) Bool.false_ne_true
theorem op_lt : OpR X (compareOp .Lt) (rI0 fun i j => .bl (decide (i < j))) := opB0 fun _ _ _ _ _ _ _ q => lt_int q
theorem op_gt : OpR X (compareOp .Gt) (rI0 fun i j => .bl (decide (j < i))) := opB0 fun _ _ _ _ _ _ _ q => gt_int q
theorem op_ge : OpR X (compareOp .GtE) (rI0 fun i j => .bl (decide (j ≤ i))) := opB0 fun _ _ _ _ _ _ _ q => ge_int q
theorem nomark (b : Expr) {op : CmpOp} (h : op ≠ .In := by decide) (h2 : op ≠ .NotIn := by decide) : behindInMarks op b = false := by
  have e1 : (op == CmpOp.In) = false := by cases op <;> first | rfl | exact absurd rfl h
  have e2 : (op == CmpOp.NotIn) = false := by cases op <;> first | rfl | exact absurd rfl h2
  cases b <;> simp [behindInMarks, e1, e2]
/-- a comparison as a value; hm: nomark b, or (for in, not in) by with_unfolding_all rfl -/
theorem pe_cmpR {op : CmpOp} {r : R2} (ho : OpR X (compareOp op) r) (ha : PE X a ta) (hb : PE X b tb) (hm : behindInMarks op b = false) : PE X (.Compare a [op] [b] pos) (tOp r ta tb) := by
  intro pins s σ H Q I h
  exact wpAny_Compare1 (binT ha hb I h fun v u s2 x y H2 I2 rx ry q => ho pins s2 σ H2 x y v u Q I2 rx ry q) hm
/-- a reading of a value as a test -/
def tTest (t : TE) : TT := fun σ H Q => t σ H fun x H' => ∃ k, x = .bl k ∧ Q k H'
theorem pt_cmpR {op : CmpOp} {r : R2} (ho : OpR X (compareOp op) r) (ha : PE X a ta) (hb : PE X b tb) (hm : behindInMarks op b = false) : PT X (.Compare a [op] [b] pos) (tTest (tOp r ta tb)) := by
  intro pins s σ H Q I h
  refine wpAny_isTrue_Compare1 (thn (ha pins s σ H _ I h) fun v s1 ⟨x, H1, I1, r1, q1⟩ => thn (hb pins s1 σ H1 _ I1 q1) fun u s2 ⟨y, H2, I2, r2, q2⟩ =>
    thn (ho pins s2 σ H2 x y v u _ I2 r1 r2 q2) fun c s3 ⟨z, H3, I3, r3, k, e, q3⟩ => ?_) hm
  subst e
  cases r3
  exact wpAny_truthy_bool ⟨H3, I3, q3⟩
/-- a value's truth by the abstract heap -/
def TruV (K : PySem.W.Frag) (x : V) (H : Hp) (k : Bool) : Prop :=
  match x with
  | .non => k = false
  | .bl b => k = b
  | .int i => k = (i != 0)
  | .str y => y.length ≤ sizeLine ∧ k = ((y.length : Int) != 0)
  | .byt y => y.size ≤ sizeLine ∧ k = ((y.size : Int) != 0)
  | .ref p => (∃ xs, SqL K H p xs ∧ k = !xs.isEmpty) ∨ (∃ xs, SqT K H p xs ∧ k = !xs.isEmpty) ∨ ∃ kvs, H p = some (.dK kvs) ∧ k = !kvs.isEmpty
  | _ => False
theorem isEmpty_kv {κ : Type} {kvs : List (κ × V)} {vs : List (κ × Value)} (r : KV kvs vs) : (!vs.isEmpty) = !kvs.isEmpty := by
  cases r <;> rfl
theorem isEmpty_of {xs : List V} {its : List Value} (r : Vals xs its) : (!its.toArray.isEmpty) = !xs.isEmpty := by
  cases r <;> simp
theorem line63 : (sizeLine : Nat) < 2 ^ 63 := by rw [sizeLine_eq]; decide
theorem tru_ok : TruR X (fun x H Q => ∃ k, TruV X.K x H k ∧ Q k H) := by
  intro pins s σ H x v Q I rx h
  obtain ⟨k, e, q⟩ := h
  have hl := line63
  have hs : sizeLine = 16777216 := sizeLine_eq
  cases x with
  | non =>
    cases rx
    have e' : k = false := e
    subst e'
    exact truthy_none ⟨H, I, q⟩
  | bl b =>
    cases rx
    have e' : k = b := e
    subst e'
    exact wpAny_truthy_bool ⟨H, I, q⟩
  | int i =>
    obtain ⟨t, rfl⟩ := rx
    have e' : k = (i != 0) := e
    subst e'
    exact PySem.P.truthy_int ⟨H, I, q⟩
  | str y =>
    obtain ⟨t, rfl⟩ := rx
    obtain ⟨hy, e'⟩ : y.length ≤ sizeLine ∧ k = ((y.length : Int) != 0) := e
    subst e'
    exact PySem.P.truthy_str (by omega) ⟨H, I.tok _, q⟩
  | byt y =>
    obtain ⟨t, rfl⟩ := rx
    obtain ⟨hy, e'⟩ : y.size ≤ sizeLine ∧ k = ((y.size : Int) != 0) := e
    subst e'
    exact PySem.W.truthy_bytes (by omega) ⟨H, I.tok _, q⟩
  | ref p =>
    cases rx
    have e' : (∃ xs, SqL X.K H p xs ∧ k = !xs.isEmpty) ∨ (∃ xs, SqT X.K H p xs ∧ k = !xs.isEmpty) ∨ ∃ kvs, H p = some (.dK kvs) ∧ k = !kvs.isEmpty := e
    rcases e' with ⟨xs, hx, e'⟩ | ⟨xs, hx, e'⟩ | ⟨kvs, hx, e'⟩
    · subst e'
      obtain ⟨its, r, pl, hz⟩ := I.list hx
      have hlen := r.length
      exact wpAny_truthy_list pl.isList (by simp only [List.size_toArray]; omega) ⟨H, I.tok _, by rw [isEmpty_of r]; exact q⟩
    · subst e'
      obtain ⟨its, r, pl, hz⟩ := I.tuple hx
      have hlen := r.length
      exact truthy_tuple pl (by simp only [List.size_toArray]; omega) ⟨H, I.tok _, by rw [isEmpty_of r]; exact q⟩
    · subst e'
      obtain ⟨hz, hS, vs, r, m⟩ : kvs.length ≤ sizeLine ∧ (p == sysModules) = false ∧ ∃ vs, KV kvs vs ∧ s.heap.DictOf (mixKind X.prog X.w) p vs := I.hok p _ hx
      have hlen : kvs.length = vs.length := Paired.length r
      exact wpAny_truthy_dict hS m (by omega) ⟨H, I.tok _, by rw [isEmpty_kv r]; exact q⟩
  | _ => exact (show False from e).elim
/-- any expression whose test is its value's truth (a name, a call, a subscript, a field ..: he by fun _ => rfl) -/
theorem pt_truth (ha : PE X a ta) (he : ∀ whole, isTrue a X.env whole = (do let v ← whole; standAt a.pos; holding [v] (truthy v))) :
    PT X a (fun σ H Q => ta σ H fun x H' => ∃ k, TruV X.K x H' k ∧ Q k H') := by
  intro pins s σ H Q I h
  exact isTrue_plain (thn (ha pins s σ H _ I h) fun v s1 ⟨x, H1, I1, r1, q1⟩ => tru_ok pins s1 σ H1 x v Q I1 r1 q1) (he _)
theorem op_add_str : OpR X (binaryOp .Add) (fun x y H Q => ∃ i j, x = .str i ∧ y = .str j ∧ i.length + j.length ≤ sizeLine ∧ Q (.str (i ++ j)) H) := by
  intro pins s σ H x y v u Q I rx ry h
  obtain ⟨i, j, rfl, rfl, hz, q⟩ := h
  obtain ⟨t, rfl⟩ := rx
  obtain ⟨t', rfl⟩ := ry
  exact add_str (fun t' tk => ⟨.str (i ++ j), H, I.tok _, ⟨_, rfl⟩, q⟩) hz
theorem vals1 {x : V} {us : List Value} (r : Vals [x] us) : ∃ u, us = [u] ∧ RelV x u := by
  cases r with
  | cons r1 r2 => cases r2; exact ⟨_, rfl, r1⟩
theorem vals2 {x y : V} {us : List Value} (r : Vals [x, y] us) : ∃ u w', us = [u, w'] ∧ RelV x u ∧ RelV y w' := by
  cases r with
  | cons r1 r2 =>
    cases r2 with
    | cons r3 r4 => cases r4; exact ⟨_, _, rfl, r1, r3⟩
theorem call_abs : CallR X (.builtin "abs") (fun xs H Q => ∃ i, xs = [.int i] ∧ Q (.int (if i < 0 then -i else i)) H) := by
  intro pins s σ H xs us Q I r h
  obtain ⟨i, rfl, q⟩ := h
  obtain ⟨u, rfl, t, rfl⟩ := vals1 r
  exact call_abs_int fun u tk => ⟨.int (if i < 0 then -i else i), H, I.tok _, ⟨_, rfl⟩, q⟩
theorem call_max2 (hc : X.calm = true) : CallR X (.builtin "max") (fun xs H Q => ∃ i j, xs = [.int i, .int j] ∧ Q (.int (if j > i then j else i)) H) := by
  intro pins s σ H xs us Q I r h
  obtain ⟨i, j, rfl, q⟩ := h
  obtain ⟨u, w', rfl, ⟨t, rfl⟩, ⟨t', rfl⟩⟩ := vals2 r
  refine max_two_ints (I.ok.hd hc) fun h' tk k => ⟨_, H, I.kept k, ?_, q⟩
  by_cases hj : j > i
  · rw [if_pos hj, if_pos hj]; exact ⟨_, rfl⟩
  · rw [if_neg hj, if_neg hj]; exact ⟨_, rfl⟩
theorem call_min2 (hc : X.calm = true) : CallR X (.builtin "min") (fun xs H Q => ∃ i j, xs = [.int i, .int j] ∧ Q (.int (if j < i then j else i)) H) := by
  intro pins s σ H xs us Q I r h
  obtain ⟨i, j, rfl, q⟩ := h
  obtain ⟨u, w', rfl, ⟨t, rfl⟩, ⟨t', rfl⟩⟩ := vals2 r
  refine min_two_ints (I.ok.hd hc) fun h' tk k => ⟨_, H, I.kept k, ?_, q⟩
  by_cases hj : j < i
  · rw [if_pos hj, if_pos hj]; exact ⟨_, rfl⟩
  · rw [if_neg hj, if_neg hj]; exact ⟨_, rfl⟩
theorem call_int1 : CallR X (.type "int") (fun xs H Q => (∃ i, xs = [.int i] ∧ Q (.int i) H) ∨ ∃ k, xs = [.bl k] ∧ Q (.int (if k then 1 else 0)) H) := by
  intro pins s σ H xs us Q I r h
  rcases h with ⟨i, rfl, q⟩ | ⟨k, rfl, q⟩
  · obtain ⟨u, rfl, t, rfl⟩ := vals1 r
    exact call_int_int ⟨.int i, H, I, ⟨_, rfl⟩, q⟩
  · obtain ⟨u, rfl, r1⟩ := vals1 r
    cases r1
    exact call_int_bool ⟨.int (if k then 1 else 0), H, I.tok _, ⟨_, rfl⟩, q⟩
theorem call_str_int : CallR X (.type "str") (fun xs H Q => ∃ i, xs = [.int i] ∧ i.natAbs.log2 < 1920 ∧ Q (.str (toString i)) H) := by
  intro pins s σ H xs us Q I r h
  obtain ⟨i, rfl, hz, q⟩ := h
  obtain ⟨u, rfl, t, rfl⟩ := vals1 r
  exact PySem.P.str_of_int hz ⟨.str _, H, I.tok _, ⟨_, rfl⟩, q⟩
/-- len of a str, a bytes, a list, a tuple -/
def LenV (K : PySem.W.Frag) (x : V) (H : Hp) (n : Nat) : Prop :=
  match x with
  | .str y => y.length ≤ sizeLine ∧ n = y.length
  | .byt y => y.size ≤ sizeLine ∧ n = y.size
  | .ref p => (∃ xs, SqL K H p xs ∧ n = xs.length) ∨ ∃ xs, SqT K H p xs ∧ n = xs.length
  | _ => False
theorem call_len : CallR X (.builtin "len") (fun xs H Q => ∃ x n, xs = [x] ∧ LenV X.K x H n ∧ Q (.int n) H) := by
  intro pins s σ H xs us Q I r h
  obtain ⟨x, n, rfl, e, q⟩ := h
  obtain ⟨u, rfl, rx⟩ := vals1 r
  have hl := line63
  have hs : sizeLine = 16777216 := sizeLine_eq
  cases x with
  | str y =>
    obtain ⟨t, rfl⟩ := rx
    obtain ⟨hy, e'⟩ : y.length ≤ sizeLine ∧ n = y.length := e
    subst e'
    exact len_str (by omega) ⟨.int _, H, I.tok _, ⟨_, rfl⟩, q⟩
  | byt y =>
    obtain ⟨t, rfl⟩ := rx
    obtain ⟨hy, e'⟩ : y.size ≤ sizeLine ∧ n = y.size := e
    subst e'
    exact PySem.W.len_bytes (by omega) ⟨.int _, H, I.tok _, ⟨_, rfl⟩, q⟩
  | ref p =>
    cases rx
    have e' : (∃ xs, SqL X.K H p xs ∧ n = xs.length) ∨ ∃ xs, SqT X.K H p xs ∧ n = xs.length := e
    rcases e' with ⟨xs, hx, e'⟩ | ⟨xs, hx, e'⟩
    · subst e'
      obtain ⟨its, r', pl, hz⟩ := I.list hx
      have hlen := r'.length
      exact Calls.call_len_list pl.isList (by simp only [List.size_toArray]; omega) ⟨.int xs.length, H, I.tok _, ⟨_, by simp only [List.size_toArray]; rw [hlen]⟩, q⟩
    · subst e'
      obtain ⟨its, r', pl, hz⟩ := I.tuple hx
      have hlen := r'.length
      exact len_tuple pl (by simp only [List.size_toArray]; omega) ⟨.int xs.length, H, I.tok _, ⟨_, by simp only [List.size_toArray]; rw [hlen]⟩, q⟩
  | _ => exact (show False from e).elim
end
end L2
namespace L2
open PySem PySem.Spec PyProof.Rows
section
variable {prog : Program} {w : World} {A : Around} {E : Value → Shared → Prop} {s : Shared} {K : PySem.W.Frag} {x dx C f : Addr} {mA : Str → Option Value} {name : Str} {v : Value}
end
section
variable {P : Program} {w : World} {H H' : Hp} {h h' : Heap} {a C dx : Addr} {fs fs' : List (Str × V)}
end
section
variable {X : Cx} {pins : List (Addr × Obj)} {σ : St} {H : Hp} {s : Shared} {a C dx : Addr} {fs : List (Str × V)} {f : Str} {v : V} {A : Around} {E : Value → Shared → Prop}
end
section
variable {X : Cx} {o e value : Expr} {f : Str} {pos pos' tpos : Pos} {ta tv : TE}
end
section
variable {X : Cx} {pins : List (Addr × Obj)} {σ : St} {H : Hp} {s : Shared} {A : Around} {E : Value → Shared → Prop} {Q : Value → Shared → Prop} {c : Value} {b : Bool}
end
end L2
namespace L2
open PySem PySem.Spec PyProof.Rows
structure Room (k : Nat) (A : Around) : Prop where
  hd : A.handled = none
  dp : A.depth + 3 * k + 5 < recursionLimit
  un : A.units + 16 * k + 200 < cLine
  gd : A.guards = some []
theorem Room.mono {j k : Nat} {A : Around} (r : Room k A) (h : j ≤ k) : Room j A := ⟨r.hd, by have := r.dp; omega, by have := r.un; omega, r.gd⟩
theorem Room.deeper {k : Nat} {A : Around} (r : Room (k + 1) A) (env : Env) : Room k (A.deeper env) :=
  ⟨r.hd, by have := r.dp; show A.depth + 1 + 3 * k + 5 < _; omega, by have := r.un; show A.units + 3 + 16 * k + 200 < _; omega, r.gd⟩
theorem make_depth {A : Around} {C : Addr} {us : List Value} {kw : List (Str × Value)} : (A.under (.builtin "type.__call__" ⟨.ref C :: us, kw⟩)).depth = A.depth + 1 := by
  first | rfl | simp [Around.under, Code.weight, Code.isCreation, Code.isGuard, Code.isCaller, Code.frames, Code.isFrame, guardIds]
theorem make_units {A : Around} {C : Addr} {us : List Value} {kw : List (Str × Value)} : (A.under (.builtin "type.__call__" ⟨.ref C :: us, kw⟩)).units = A.units + 1 := by
  first | rfl | simp [Around.under, Code.cUnits, Code.frames, Code.isFrame]
theorem Room.depth {k : Nat} {A : Around} (r : Room k A) : A.depth < recursionLimit := by have := r.dp; omega
theorem Room.units {k : Nat} {A : Around} (r : Room k A) : A.units + 64 < cLine := by have := r.un; omega
theorem Room.units0 {k : Nat} {A : Around} (r : Room k A) : A.units < cLine := by have := r.un; omega
def tNil : TA := fun _ H Q => Q [] H
def tCons (ta : TE) (tr : TA) : TA := fun σ H Q => ta σ H fun x H1 => tr σ H1 fun xs H2 => Q (x :: xs) H2
section
variable {X : Cx} {e : Expr} {es : List Expr} {te : TE} {t : TA} {pos : Pos}
theorem pa_nil : PA X [] tNil := fun _ _ _ _ H Q I h => Calls.spliced_nil ⟨[], H, I, .nil, h⟩
theorem pa_cons (ha : PE X e te) (hr : PA X es t) (hs : starEach (e :: es) X.env = (false, eval e X.env) :: starEach es X.env := by rfl) : PA X (e :: es) (tCons te t) := by
  intro pos pins s σ H Q I h
  rw [hs]
  show wpAny _ _ (spliced ((false, eval e X.env) :: backTo pos (starEach es X.env))) _ _ s
  refine Calls.spliced_cons (thn (ha pins s σ H _ I h) fun u s1 ⟨x, H1, I1, r1, q1⟩ => ?_)
  exact thn (hr pos pins s1 σ H1 _ I1 q1) fun us s2 ⟨xs, H2, I2, r2, q2⟩ => ⟨x :: xs, H2, I2, .cons r1 r2, q2⟩
/-- a tuple, a list of written items -/
def tTup (t : TA) : TE := fun σ H Q => t σ H fun xs H1 => xs.length ≤ sizeLine ∧ ∀ p, H1 p = none → Q (.ref p) (upd H1 p (.tup xs))
def tLst (t : TA) : TE := fun σ H Q => t σ H fun xs H1 => xs.length ≤ sizeLine ∧ ∀ p, H1 p = none → Q (.ref p) (upd H1 p (.lst xs))
theorem pe_tup {x1} (h : PA X es t) : PE X (.Tuple es x1 pos) (tTup t) := by
  intro pins s σ H Q I hq
  refine wpAny_Tuple_spliced (thn (h pos pins s σ H _ I hq) fun us s1 ⟨xs, H1, I1, r, z, q⟩ => ⟨by rw [← r.length]; exact z, ?_⟩)
  have hf : H1 s1.heap.objs.size = none := I1.hok.fresh (Nat.le_refl _)
  refine ⟨.ref s1.heap.objs.size, upd H1 s1.heap.objs.size (.tup xs), I1.laid (t' := s1.toks) (fun b u e => Heap.get?_push_of_some _ e) (Nat.le_refl _) ?_, rfl, q _ hf⟩
  exact ⟨z, us, r, ⟨_, Heap.get?_push_size _ rfl, rfl, _, rfl⟩⟩
theorem pe_lst (h : PA X es t) : PE X (.List es pos) (tLst t) := by
  intro pins s σ H Q I hq
  refine wpAny_List_spliced (thn (h pos pins s σ H _ I hq) fun us s1 ⟨xs, H1, I1, r, z, q⟩ => ⟨by rw [← r.length]; exact z, ?_⟩)
  have hf : H1 s1.heap.objs.size = none := I1.hok.fresh (Nat.le_refl _)
  refine ⟨.ref s1.heap.objs.size, upd H1 s1.heap.objs.size (.lst xs), I1.laid (t' := s1.toks) (fun b u e => Heap.get?_push_of_some _ e) (Nat.le_refl _) ?_, rfl, q _ hf⟩
  exact ⟨z, us, 0, r, Heap.get?_push_size _ rfl⟩
end
/-- a def's promise: the bound arguments in the parameters' order, the heap, the wanted end, the wanted exception -/
abbrev Sp := List V → Hp → VK → XK → Prop
/-- how an exception lies behind a call (file 08 gives it): the callers' frames, abstract heap and state ahead of the call, the wish, the exception, the state -/
abbrev CXT := List Env → Hp → Shared → XK → Value → Shared → Prop
/-- the state at a call -/
structure Env0 (P : Program) (w : World) (K : PySem.W.Frag) (mg : Str → Option Value) (base : Heap) (A : Around) (outer : List Env) (s : Shared) (H : Hp) : Prop where
  frames : A.frames = some outer
  mod : Mod K mg base
  bs : ∀ b o, base.get? b = some o → s.heap.get? b = some o ∧ H b = none
  bsz : base.objs.size ≤ s.heap.objs.size
  funs : s.heap.FunFrames base outer
  frf : ∀ b ∈ frs outer, H b = none
  hok : HOk P w H s.heap
  bare : AllBare s.gens
/-- a call's end -/
def CE (outer : List Env) (P : Program) (w : World) (H : Hp) (s : Shared) (Q : VK) (u : Value) (s' : Shared) : Prop :=
  ∃ v H', s'.os = s.os ∧ AllBare s'.gens ∧ Un (frs outer) [] H H' s.heap s'.heap ∧ HOk P w H' s'.heap ∧ RelV v u ∧ Q v H'
def CR (CX : CXT) (outer : List Env) (P : Program) (w : World) (H : Hp) (s : Shared) (Q : VK) (E : XK) (r : Result) (s' : Shared) : Prop :=
  match r with
  | .ok (.ret u) => CE outer P w H s Q u s'
  | .ok _ => False
  | .error e => CX outer H s E e s'
structure FnOk (P : Program) (w : World) (K : PySem.W.Frag) (mg : Str → Option Value) (base : Heap) (CX : CXT) (k : Nat) (f : Addr) (fd : FuncData) (ps : List Str) (sp : Sp) : Prop where
  len : ∀ vs H Q E, sp vs H Q E → vs.length = ps.length
  run : ∀ (A : Around) (outer : List Env) (s : Shared) (H : Hp) (args : Args) (us : List Value) (vs : List V) (Q : VK) (E : XK), Room k A → Env0 P w K mg base A outer s H → BindsTo s fd args (ps.zip us) → Vals vs us → sp vs H Q E →
    codeAny (model P w) A (.call (.ref f) args) (CR CX outer P w H s Q E) s
/-- a weaker promise -/
theorem FnOk.imp {P : Program} {w : World} {K : PySem.W.Frag} {mg : Str → Option Value} {base : Heap} {CX : CXT} {k : Nat} {f : Addr} {fd : FuncData} {ps : List Str} {sp sp' : Sp} (F : FnOk P w K mg base CX k f fd ps sp)
    (h : ∀ vs H Q E, sp' vs H Q E → sp vs H Q E) : FnOk P w K mg base CX k f fd ps sp' :=
  ⟨fun vs H Q E q => F.len vs H Q E (h _ _ _ _ q), fun A outer s H args us vs Q E hr he hb hv hs => F.run A outer s H args us vs Q E hr he hb hv (h _ _ _ _ hs)⟩
section
variable {X : Cx} {pins : List (Addr × Obj)} {σ : St} {H : Hp} {s s' : Shared}
/-- from a body: what a callee wants -/
theorem Inv.env0 (I : Inv X pins σ H s) : Env0 X.prog X.w X.K X.mg X.base X.A X.stack s H :=
  ⟨I.ok.frames, I.ok.mod, I.bs, Nat.le_trans I.ok.bsz I.sz, I.stack, I.stkFree, I.hok, I.bare⟩
/-- behind a call -/
theorem Inv.after {Q : VK} {u : Value} (I : Inv X pins σ H s) (h : CE X.stack X.prog X.w H s Q u s') : EP X pins σ Q u s' := by
  obtain ⟨v, H', os, bare, un, hok, r, q⟩ := h
  obtain ⟨hh, g, d, t, os'⟩ := s'
  obtain rfl : os' = s.os := os
  exact ⟨v, H', I.call (h' := hh) (g' := g) (d' := d) (t' := t) (ch := []) un hok bare (fun b z => absurd z (by simp)), r, q⟩
end
/-- f(..): the written arguments, then the defaults dvs; E: what is wanted of an exception -/
def tCall (sp : Sp) (dvs : List V) (E : XK) (t : TA) : TE := fun σ H Q => t σ H fun vs H1 => sp (vs ++ dvs) H1 Q E
/-- how the parameters are bound: us the positional arguments, kw the keywords' values by name, ds the defaults that fill up -/
def Binds (K : PySem.W.Frag) (fd : FuncData) (ps : List Str) (ds : List Value) : Prop :=
  ∀ (s : Shared) (us : List Value), K.In s.heap → (us ++ ds).length = ps.length → BindsTo s fd ⟨us, []⟩ (ps.zip (us ++ ds))
/-- every parameter is given -/
theorem Binds.all {K : PySem.W.Frag} {fd : FuncData} {ps : List Str} (h : ∀ us : List Value, us.length = ps.length → bindArgs fd ⟨us, []⟩ = pure (ps.zip us)) : Binds K fd ps [] := fun s us _ hl => by
  rw [List.append_nil] at hl ⊢
  exact .of_eq (h us hl)
/-- an exception of a callee reaches what this body wants of exceptions -/
def Passes (CX : CXT) (X : Cx) (E : XK) : Prop := ∀ (pins : List (Addr × Obj)) (σ : St) (H : Hp) (s : Shared) (e : Value) (s' : Shared), Inv X pins σ H s → CX X.stack H s E e s' → X.xe e s'
section
variable {X : Cx} {CX : CXT} {k : Nat} {f C : Addr} {fd : FuncData} {ps : List Str} {sp : Sp} {dvs : List V} {ds : List Value} {E : XK} {x m : Str} {p pos apos : Pos} {e o : Expr} {es : List Expr} {ta : TE} {t : TA}
/-- the callee runs -/
theorem run_fn {pins : List (Addr × Obj)} {σ : St} {H : Hp} {s : Shared} {Q : VK} {us : List Value} {vs : List V} (F : FnOk X.prog X.w X.K X.mg X.base CX k f fd ps sp) (hr : Room k X.A) (hb : Binds X.K fd ps ds) (hd : Vals dvs ds) (hx : Passes CX X E)
    (I : Inv X pins σ H s) (r : Vals vs us) (h : sp (vs ++ dvs) H Q E) : wpAny (model X.prog X.w) X.A (call (.ref f) us) (EP X pins σ Q) X.xe s := by
  have r2 : Vals (vs ++ dvs) (us ++ ds) := r.append hd
  have hl : (us ++ ds).length = ps.length := by rw [← r2.length]; exact F.len _ _ _ _ h
  refine wpAny_call (codeAny_mono (F.run X.A X.stack s H ⟨us, []⟩ (us ++ ds) (vs ++ dvs) Q E hr I.env0 (hb s us I.kIn hl) r2 h) fun r s' hq => ?_)
  cases r with
  | error e => exact hx pins σ H s e s' I hq
  | ok fl =>
    cases fl with
    | ret u => exact I.after hq
    | next => exact False.elim hq
    | brk => exact False.elim hq
    | cont => exact False.elim hq
theorem pe_call (F : FnOk X.prog X.w X.K X.mg X.base CX k f fd ps sp) (hr : Room k X.A) (hg : Gl X x) (hm : X.mg x = some (.ref f)) (hk : PySem.W.keepIn X.K (.ref f) = true) (hb : Binds X.K fd ps ds) (hd : Vals dvs ds) (hx : Passes CX X E)
    (ha : PA X (e :: es) t) (hdb : (x == ("__debug__" : Str)) = false := by decide) (he : starEach (e :: es) X.env = (false, eval e X.env) :: starEach es X.env := by rfl) (hpl : (backTo pos (starEach es X.env)).any (·.1) = false := by rfl) :
    PE X (.Call (.Name x p) (e :: es) [] pos) (tCall sp dvs E t) := by
  intro pins s σ H Q I h
  refine wpAny_Call_Name_kw (ld_glob I hg hm ?_ hdb)
  refine PySem.W.callWith_K (h₀ := X.base) I.ok.mod.kin hk (thn (ha pos pins s σ H _ I h) fun us s1 ⟨vs, H1, I1, r, q⟩ => ⟨I1.kIn, ?_⟩) he hpl
  exact run_fn F hr hb hd hx I1 r q
end
section
variable {X : Cx} {CX : CXT} {k : Nat} {f C : Addr} {fd : FuncData} {ps ks : List Str} {sp : Sp} {E : XK} {x m : Str} {p pos apos kpos : Pos} {e o : Expr} {es : List Expr} {kws : List Keyword} {te ta : TE} {t tk : TA} {nm : Option Str}
variable {g : List Value → List Value → List Value} {gV : List V → List V → List V}
end
/-- names: the parameters first -/
structure FnScope (N P : List Str) (sc : Scope) : Prop where
  kind : sc.kind = .function
  co : sc.isCoroutine = false
  gen : sc.isGenerator = false
  nd : N.Nodup
  pre : N.take P.length = P
  par : ∀ x ∈ P, sc.names.lookup x = some .local ∨ sc.names.lookup x = some .cell
  nofree : ∀ y ∈ sc.names, y.2 ≠ .free
theorem bindL_out {kindOf : Str → Option NameKind} {x : Str} : ∀ {binds : List (Str × Value)} {m : Str → Option Value}, (∀ v, (x, v) ∉ binds) → bindL kindOf binds m x = m x
  | [], _, _ => rfl
  | (n, v) :: r, m, h => by
    unfold bindL
    rw [bindL_out fun w hw => h w (List.mem_cons_of_mem _ hw)]
    split
    · have : x ≠ n := by rintro rfl; exact h v List.mem_cons_self
      simp [this]
    · rfl
theorem bindC_out {kindOf : Str → Option NameKind} {x : Str} : ∀ {binds : List (Str × Value)} {m : Str → Option Value}, (∀ v, (x, v) ∉ binds) → bindC kindOf binds m x = m x
  | [], _, _ => rfl
  | (n, v) :: r, m, h => by
    unfold bindC
    rw [bindC_out fun w hw => h w (List.mem_cons_of_mem _ hw)]
    split
    · rfl
    · have : x ≠ n := by rintro rfl; exact h v List.mem_cons_self
      simp [this]
theorem bindL_get {kindOf : Str → Option NameKind} {x : Str} {v : Value} : ∀ {P : List Str} {vs : List Value} {i : Nat} {m : Str → Option Value}, P.Nodup → P[i]? = some x → vs[i]? = some v → kindOf x = some .local →
    bindL kindOf (P.zip vs) m x = some v
  | [], _, _, _, _, h, _, _ => by simp at h
  | _ :: _, [], _, _, _, _, h, _ => by simp at h
  | p :: P, w :: vs, 0, m, nd, h1, h2, hk => by
    simp at h1 h2; subst h1; subst h2
    show bindL kindOf ((p, w) :: P.zip vs) m p = _
    unfold bindL
    rw [bindL_out fun v hv => (List.nodup_cons.mp nd).1 (List.of_mem_zip hv).1, if_pos hk]
    simp
  | p :: P, w :: vs, i + 1, m, nd, h1, h2, hk => by
    show bindL kindOf ((p, w) :: P.zip vs) m x = _
    unfold bindL
    exact bindL_get (i := i) (List.nodup_cons.mp nd).2 (by simpa using h1) (by simpa using h2) hk
theorem bindC_get {kindOf : Str → Option NameKind} {x : Str} {v : Value} : ∀ {P : List Str} {vs : List Value} {i : Nat} {m : Str → Option Value}, P.Nodup → P[i]? = some x → vs[i]? = some v → kindOf x ≠ some .local →
    bindC kindOf (P.zip vs) m x = some v
  | [], _, _, _, _, h, _, _ => by simp at h
  | _ :: _, [], _, _, _, _, h, _ => by simp at h
  | p :: P, w :: vs, 0, m, nd, h1, h2, hk => by
    simp at h1 h2; subst h1; subst h2
    show bindC kindOf ((p, w) :: P.zip vs) m p = _
    unfold bindC
    rw [bindC_out fun v hv => (List.nodup_cons.mp nd).1 (List.of_mem_zip hv).1, if_neg hk]
    simp
  | p :: P, w :: vs, i + 1, m, nd, h1, h2, hk => by
    show bindC kindOf ((p, w) :: P.zip vs) m x = _
    unfold bindC
    exact bindC_get (i := i) (List.nodup_cons.mp nd).2 (by simpa using h1) (by simpa using h2) hk
/-- the names' values at the entry -/
def start (N : List Str) (vs : List V) : St := vs.map some ++ List.replicate (N.length - vs.length) none
/-- the context of a def's body, at its entry; an exception leaves the frame, then lies as CX says -/
def cxOf (CX : CXT) (P : Program) (w : World) (K : PySem.W.Frag) (mg : Str → Option Value) (base : Heap) (N : List Str) (qual : Str) (scope : Scope) (f : Addr) (cd : Value) (A : Around) (outer : List Env) (s : Shared) (H : Hp) (E : XK) : Cx where
  prog := P
  w := w
  K := K
  mg := mg
  base := base
  A := A.deeper (envOfC qual scope s.heap.objs.size f cd)
  N := N
  s_0 := s
  H_0 := H
  env := envOfC qual scope s.heap.objs.size f cd
  outer := outer
  stack := envOfC qual scope s.heap.objs.size f cd :: outer
  ex := []
  calm := true
  fn := fun _ => true
  pn := []
  xe := fun e s' => wpAny (model P w) (A.deeper (envOfC qual scope s.heap.objs.size f cd)) (leaving (envOfC qual scope s.heap.objs.size f cd) e) (fun _ s'' => CX outer H s E e s'') (fun e' s'' => CX outer H s E e' s'') s'
theorem cell_has {sc : Scope} {n : Nat} {x : Str} (h : sc.names.lookup x = some .cell) : ∃ c, (cellsFrom n sc.names []).lookup x = some c := by
  have q := PySem.W.cellsFrom_some sc.names n [] (.inl h)
  exact Option.isSome_iff_exists.mp q
theorem inv_start {CX : CXT} {P : Program} {w : World} {K : PySem.W.Frag} {mg : Str → Option Value} {base : Heap} {N ps : List Str} {qual : Str} {scope : Scope} {f : Addr} {cd : Value} {A : Around} {outer : List Env} {s s1 : Shared} {H : Hp} {E : XK} {us : List Value} {vs : List V}
    (S : FnScope N ps scope) (hd : A.handled = none) (e0 : Env0 P w K mg base A outer s H) (hl : vs.length = ps.length) (r : Vals vs us)
    (x : InCallC s s.heap.objs.size (bindL (envOfC qual scope s.heap.objs.size f cd).kindOf (ps.zip us) fun _ => none) (cellsFrom (s.heap.objs.size + 1) scope.names []) (bindC (envOfC qual scope s.heap.objs.size f cd).kindOf (ps.zip us) fun _ => none) s1) :
    Inv (cxOf CX P w K mg base N qual scope f cd A outer s H E) [] (start N vs) H s1 := by
  have hpl : ps.length ≤ N.length := by have := congrArg List.length S.pre; rw [List.length_take] at this; omega
  obtain ⟨h1, tk, rfl, hk⟩ := x.done
  have noA : ∀ b : Addr, b ∉ (cxOf CX P w K mg base N qual scope f cd A outer s H E).ex := fun b z => absurd (show b ∈ ([] : List Addr) from z) (by simp)
  refine ⟨⟨e0.mod, S.kind, rfl, rfl, Nat.le_refl _, fun y z c h1 h2 => ?_, fun y hy => ?_, fun y c _ h => ?_, fun _ => hd, Around.frames_deeper e0.frames, .inr ⟨rfl, rfl⟩, fun b z => absurd z (noA b), e0.bs, e0.bsz, fun b _ _ => noA b, fun b z => absurd z (noA b), e0.funs, e0.frf⟩,
    rfl, e0.bare, Un.kept hk, ⟨_, x.toInCall.ns, fun i y v h1 h2 h3 => ?_⟩, fun y c h => ⟨_, x.cell y c h⟩, e0.hok.fresh (Nat.le_refl _), fun y c h => ?_, fun p hp => absurd (show p ∈ ([] : List (Addr × Obj)) from hp) (by simp), e0.hok.kept hk, ?_⟩
  · exact name_of_addr x.apart (PySem.mem_of_lookup h1) (PySem.mem_of_lookup h2)
  · have hy : scope.names.lookup y = some .cell ∨ scope.names.lookup y = some .free := hy
    rcases hy with hy | hy
    · exact cell_has hy
    · exact absurd rfl (S.nofree _ (PySem.mem_of_lookup hy))
  · exact Nat.le_of_lt (x.above y c (PySem.mem_of_lookup h))
  · have hi : i < vs.length := by
      unfold start at h2
      by_cases hi : i < vs.length
      · exact hi
      · rw [List.getElem?_append_right (by simpa using hi)] at h2
        rw [List.getElem?_replicate] at h2
        split at h2 <;> cases h2
    have ha : vs[i]? = some v := by
      unfold start at h2
      rw [List.getElem?_append_left (by simpa using hi), List.getElem?_map] at h2
      cases e : vs[i]? with
      | none => rw [e] at h2; cases h2
      | some a => rw [e] at h2; cases h2; rfl
    obtain ⟨u, hu, rv⟩ := r.get ha
    have hp : ps[i]? = some y := by
      rw [← S.pre, List.getElem?_take_of_lt (by omega)]; exact h1
    have ndP : ps.Nodup := by rw [← S.pre]; exact S.nd.sublist (List.take_sublist _ _)
    refine ⟨u, rv, ?_⟩
    rcases S.par y (List.mem_of_getElem? hp) with k | k
    · exact .inl ⟨k, bindL_get ndP hp hu k⟩
    · obtain ⟨c, e⟩ := cell_has (n := s.heap.objs.size + 1) k
      refine .inr ⟨.inl k, c, e, ?_⟩
      have q := x.cell y c e
      rw [bindC_get ndP hp hu (by show scope.names.lookup y ≠ _; rw [k]; decide)] at q
      exact q
  · exact e0.hok.fresh (Nat.le_of_lt (x.above y c (PySem.mem_of_lookup h)))
  · unfold start
    show _ = N.length
    rw [List.length_append, List.length_map, List.length_replicate]
    omega
/-- THE RULE: a def (or a method) of the text, by its body. The body's reading t is chosen for each entry; it is run at the parameters' values -/
theorem fn_of {CX : CXT} {P : Program} {w : World} {K : PySem.W.Frag} {mg : Str → Option Value} {base : Heap} {k : Nat} {f : Addr} {name qual : Str} {params : Arguments} {body : List Stmt} {scope : Scope} {dV kV doc pm cdv ct oc : Value} {an od : Option Addr}
    {osl : Array (Option Value)} {N ps : List Str} {sp : Sp} (lk : K.lookup f = some ⟨oc, od, .func (PySem.W.fnOf name qual params body scope dV kV doc pm an cdv ct), osl⟩) (hcd : PySem.W.codeIn K cdv qual = true) (S : FnScope N ps scope)
    (len : ∀ vs H Q E, sp vs H Q E → vs.length = ps.length)
    (hbody : ∀ (A : Around) (outer : List Env) (s : Shared) (H : Hp) (vs : List V) (Q : VK) (E : XK), Room k (A.deeper (envOfC qual scope s.heap.objs.size f cdv)) → sp vs H Q E →
      ∃ t, PSs (cxOf CX P w K mg base N qual scope f cdv A outer s H E) body t ∧ t { nx := fun _ H' => Q .non H', rt := Q } (start N vs) H) :
    FnOk P w K mg base CX (k + 1) f (PySem.W.fnOf name qual params body scope dV kV doc pm an cdv ct) ps sp := by
  refine ⟨len, fun A outer s H args us vs Q E hr e0 hb r hsp => ?_⟩
  have hl := len _ _ _ _ hsp
  have KX : K.In s.heap := e0.mod.kin.keeps fun b o e => (e0.bs b o e).1
  have lim : s.heap.NoLimit := e0.mod.nolimit.keeps fun b o e => (e0.bs b o e).1
  have hkind : ∀ y ∈ ps.zip us, scope.names.lookup y.1 = some .local ∨ (scope.names.lookup y.1 = some .cell ∧ ((cellsFrom (s.heap.objs.size + 1) scope.names []).lookup y.1).isSome = true) := fun ⟨n, v⟩ hy => by
    rcases S.par n (List.of_mem_zip hy).1 with q | q
    · exact .inl q
    · exact .inr ⟨q, PySem.W.cellsFrom_some _ _ _ (.inl q)⟩
  refine codeAny_call_function hr.depth (KX _ _ lk) rfl S.co S.gen rfl (PySem.W.codeRec_of KX hcd) (hb _ _ _ _ ?_)
  refine wpAny_newFunctionEnv_cells S.kind hkind fun env he s1 x => ?_
  subst he
  refine ⟨lim.keeps x.toInCall.keep, codeAny_func ?_⟩
  obtain ⟨t, ht, hq⟩ := hbody A outer s H vs Q E (hr.deeper _) hsp
  have I : Inv (cxOf CX P w K mg base N qual scope f cdv A outer s H E) [] (start N vs) H s1 := inv_start S hr.hd e0 hl r x
  refine wpAny_mono (ht [] s1 (start N vs) H _ I hq) (fun fl s' hs => ?_) fun e s' hs => hs
  have fin : ∀ {σ' : St} {H' : Hp} {v : V} {u : Value}, Inv (cxOf CX P w K mg base N qual scope f cdv A outer s H E) [] σ' H' s' → RelV v u → Q v H' → CE outer P w H s Q u s' :=
    fun {σ' H' v u} J rv q => ⟨v, H', J.os, J.bare, J.base, J.hok, rv, q⟩
  cases fl with
  | ret u =>
    obtain ⟨v, σ', H', J, rv, q⟩ := hs
    exact fin J rv q
  | next =>
    obtain ⟨σ', H', J, q⟩ := hs
    exact fin (v := V.non) (u := Value.none) J rfl q
  | brk =>
    obtain ⟨_, _, _, q⟩ := hs
    exact False.elim q
  | cont =>
    obtain ⟨_, _, _, q⟩ := hs
    exact False.elim q
end L2
namespace L2
open PySem PySem.Spec PyProof.Rows
section
variable {X : Cx} {x : Str} {p pos : Pos} {e : Expr} {es : List Expr} {t : TA} {id T : String} {r : List V → Hp → VK → Prop}
def tCB (r : List V → Hp → VK → Prop) (t : TA) : TE := fun σ H Q => t σ H fun vs H1 => r vs H1 Q
/-- f(e, ..), f a built-in function -/
theorem pe_callB (hc : CallR X (.builtin id) r) (hg : Gl X x) (hm : X.mg x = none) (hv : bootBuiltins x = some (.builtin id)) (ha : PA X (e :: es) t) (hn : x ≠ "__name__" := by decide) (hdb : (x == ("__debug__" : Str)) = false := by decide)
    (he : starEach (e :: es) X.env = (false, eval e X.env) :: starEach es X.env := by rfl) (hpl : (backTo pos (starEach es X.env)).any (·.1) = false := by rfl) : PE X (.Call (.Name x p) (e :: es) [] pos) (tCB r t) := by
  intro pins s σ H Q I h
  refine wpAny_Call_Name_kw (ld_blt I hg hm hv ?_ hn hdb)
  exact PyProof.Rows.callWith_builtin1 (thn (ha pos pins s σ H _ I h) fun us s1 ⟨vs, H1, I1, r1, q1⟩ => hc pins s1 σ H1 vs us Q I1 r1 q1) he hpl
/-- T(e, ..), T a built-in type -/
theorem pe_callTy (hc : CallR X (.type T) r) (hg : Gl X x) (hm : X.mg x = none) (hv : bootBuiltins x = some (.type T)) (ha : PA X (e :: es) t) (hn : x ≠ "__name__" := by decide) (hdb : (x == ("__debug__" : Str)) = false := by decide)
    (he : starEach (e :: es) X.env = (false, eval e X.env) :: starEach es X.env := by rfl) (hpl : (backTo pos (starEach es X.env)).any (·.1) = false := by rfl) : PE X (.Call (.Name x p) (e :: es) [] pos) (tCB r t) := by
  intro pins s σ H Q I h
  refine wpAny_Call_Name_kw (ld_blt I hg hm hv ?_ hn hdb)
  exact PyProof.Rows.callWith_type1 (thn (ha pos pins s σ H _ I h) fun us s1 ⟨vs, H1, I1, r1, q1⟩ => hc pins s1 σ H1 vs us Q I1 r1 q1) he hpl
end
end L2
namespace HT
open PySem PyProof.Rows
/-- t < u of tuples of ints -/
def lexLt : List Int → List Int → Bool
  | [], [] => false
  | [], _ :: _ => true
  | _ :: _, [] => false
  | x :: xs, y :: ys => if x = y then lexLt xs ys else decide (x < y)
theorem lexLt_cons (x y : Int) (xs ys : List Int) : lexLt (x :: xs) (y :: ys) = if x = y then lexLt xs ys else decide (x < y) := rfl
theorem lexLt_nil_nil : lexLt [] [] = false := rfl
theorem lexLt_nil_cons (y : Int) (ys : List Int) : lexLt [] (y :: ys) = true := rfl
theorem lexLt_cons_nil (x : Int) (xs : List Int) : lexLt (x :: xs) [] = false := rfl
theorem eqAt_int (A : Around) (s : Shared) (a : Int) (t : Tok) (c : Int) (u : Tok) : ∃ e, SeqAt.EqAt A s (.int a t) (.int c u) e ∧ (e = true ↔ a = c) :=
  ⟨(a == c), SeqAt.EqAt.int_int a t c u, by simp⟩
theorem rcLt_int (A : Around) (s : Shared) (a : Int) (t : Tok) (c : Int) (u : Tok) (prog : Program) (w : World) (E : Value → Shared → Prop) (Q : Value → Shared → Prop) (h : Q (.bool (decide (a < c))) s) :
    wpAny (model prog w) A (richCompare .Lt (.int a t) (.int c u)) Q E s :=
  (PyProof.Rows.lt_int h : wpAny (model prog w) A (compareOp .Lt (.int a t) (.int c u)) Q E s)
section
open PySem.SeqAt
open PySem.AutoSeq1 (wpAny_loadPart')
open PySem.MeetsSeq PySem.MeetsSeq2 PySem.MeetsSeq3
theorem tuple_lt_ints (l b : Addr) (items items2 : Array Value) (n n2 : Nat) (dd dd2 : Option Addr) (sl sl2 : Array (Option Value)) (ns ms : List Int) (hi : IntsAre items.toList ns) (hj : IntsAre items2.toList ms) :
    Meets (Builtin.«tuple.__lt__» ⟨[.ref l, .ref b], []⟩)
      (fun _ R s => s.heap.get? l = some { cls := .type "tuple", dict := dd, data := .seq items n, slots := sl } ∧ s.heap.get? b = some { cls := .type "tuple", dict := dd2, data := .seq items2 n2, slots := sl2 } ∧
        R (.ok (.ret (.bool (lexLt ns ms)))) s) :=
  .of_wp fun prog w A R s h => by
    obtain ⟨hp, g, d, tk, os⟩ := s; obtain ⟨hl, hb, h⟩ := h
    have f2 := AutoSeq1.sub_tuple_tuple
    have z1 : items.size = ns.length := by rw [← hi.length]; simp
    have z2 : items2.size = ms.length := by rw [← hj.length]; simp
    wp_walk using wpAny_loadPart' hl, wpAny_loadPart' hb, wpAny_forIn_list _ (fun rest b s' => b.1 = none ∧ s' = ⟨hp, g, d, tk, os⟩ ∧ ∃ (vs ws : List Value) (ns' ms' : List Int), rest = vs.zip ws ∧
      IntsAre vs ns' ∧ IntsAre ws ms' ∧ ns'.length + items2.size = ms'.length + items.size ∧ R (.ok (.ret (.bool (lexLt ns' ms')))) ⟨hp, g, d, tk, os⟩) _
    case turn =>
      rintro ⟨y, x⟩ rest b s' ⟨hb', rfl, vs, ws, ns', ms', hz, hvi, hwi, hlen, hR⟩
      cases hvi with
      | nil => rw [List.zip_nil_left] at hz; cases hz
      | cons a t hvi' =>
        cases hwi with
        | nil => rw [List.zip_nil_right] at hz; cases hz
        | cons c u hwi' =>
          rw [List.zip_cons_cons] at hz
          injection hz with hyx hrest
          injection hyx with hy hx
          subst hy hx
          rw [lexLt_cons] at hR
          simp only [List.length_cons] at hlen
          obtain ⟨e, he, hiff⟩ := eqAt_int A.in1 ⟨hp, g, d, tk, os⟩ a t c u
          refine wpAny_bind (he prog w _ _ ?_)
          cases e with
          | true =>
            rw [if_pos (hiff.mp rfl)] at hR
            wp_walk
            exact ⟨rfl, rfl, _, _, _, _, hrest, hvi', hwi', by omega, hR⟩
          | false =>
            rw [if_neg (fun q => absurd (hiff.mpr q) Bool.false_ne_true)] at hR
            have hri := rcLt_int A.in1 ⟨hp, g, d, tk, os⟩ a t c u prog w
            wp_walk using hri
            exact ⟨_, rfl, by simpa using hR⟩
    case fin =>
      rintro ⟨b1, b2⟩ s' ⟨hb', rfl, vs, ws, ns', ms', hz, hvi, hwi, hlen, hR⟩
      simp only at hb'
      subst hb'
      have hv : lexLt ns' ms' = decide (items.size < items2.size) := by
        cases hvi with
        | nil =>
          cases hwi with
          | nil =>
            simp only [List.length_nil] at hlen
            rw [lexLt_nil_nil]
            exact (decide_eq_false (by omega)).symm
          | cons c u hw =>
            simp only [List.length_nil, List.length_cons] at hlen
            rw [lexLt_nil_cons]
            exact (decide_eq_true (by omega)).symm
        | cons a t hv =>
          cases hwi with
          | nil =>
            simp only [List.length_nil, List.length_cons] at hlen
            rw [lexLt_cons_nil]
            exact (decide_eq_false (by omega)).symm
          | cons c u hw =>
            rw [List.zip_cons_cons] at hz
            cases hz
      rw [hv] at hR
      wp_walk
      exact ⟨_, rfl, by simpa [Builtin.Tuple.tupleCompareSizes] using hR⟩
    case h =>
      exact ⟨rfl, rfl, items.toList, items2.toList, ns, ms, rfl, hi, hj, by omega, h⟩
end
section
variable {prog : Program} {w : World} {A : Around} {E : Value → Shared → Prop} {s : Shared}
theorem lt_tupInts {l b : Addr} {items items2 : Array Value} {ns ms : List Int} {Q : Value → Shared → Prop} (hl : IsTup s.heap l items) (hb : IsTup s.heap b items2) (hi : IntsAre items.toList ns) (hj : IntsAre items2.toList ms)
    (hu : A.units < cLine) (h : Q (.bool (lexLt ns ms)) s) : wpAny (model prog w) A (compareOp .Lt (.ref l) (.ref b)) Q E s := by
  obtain ⟨⟨cls, dd, data, sl⟩, ho, hc, n, hd⟩ := id hl
  obtain ⟨⟨cls2, dd2, data2, sl2⟩, ho2, hc2, n2, hd2⟩ := id hb
  simp only at hc hd hc2 hd2
  subst hc hd hc2 hd2
  exact richCompare_meets_room (op := .Lt) ⟨_, ho, rfl⟩ ⟨_, ho2, rfl⟩ PySem.F.slot_tuple_lt PySem.F.entry_tuple_lt (PySem.F.args_tuple_lt_2 _ _) (tuple_lt_ints l b items items2 n n2 dd dd2 sl sl2 ns ms hi hj)
    ⟨ho, ho2, show Value.bool (lexLt ns ms) ≠ Value.notImplemented ∧ Q (.bool (lexLt ns ms)) s from ⟨(fun x => nomatch x), h⟩⟩ hu
/-- t + u, t not empty -/
theorem cat_tup {t b : Addr} {vs ws : List Value} {Q : Value → Shared → Prop} (ht : IsTup s.heap t vs.toArray) (hb : IsTup s.heap b ws.toArray) (hv : vs ≠ [])
    (h1 : ws = [] → Q (.ref t) s) (h2 : ws ≠ [] → Q (.ref s.heap.objs.size) { s with heap := s.heap.push { cls := .type "tuple", data := .seq (vs ++ ws).toArray } })
    (hsz : vs.length + ws.length ≤ sizeLine) : wpAny (model prog w) A (binaryOp .Add (.ref t) (.ref b)) Q E s := by
  obtain ⟨⟨cls, dd, data, sl⟩, ho, hc, n, hd⟩ := id ht
  obtain ⟨⟨cls2, dd2, data2, sl2⟩, ho2, hc2, n2, hd2⟩ := id hb
  simp only at hc hd hc2 hd2
  subst hc hd hc2 hd2
  have e : vs.toArray ++ ws.toArray = (vs ++ ws).toArray := by simp
  by_cases hw : ws = []
  · exact concat_meets ⟨_, ho, rfl⟩ ⟨_, ho2, rfl⟩ noFill_tuple_add seq_tuple_add PySem.F.slot_tuple_add PySem.F.entry_tuple_add (PySem.F.args_tuple_add_2 _ _)
      (tuple_addW1 t b vs.toArray ws.toArray n n2 dd dd2 sl sl2 (by simpa using hv) (by simp [hw])) ⟨ho, ho2, h1 hw⟩
  · refine concat_meets ⟨_, ho, rfl⟩ ⟨_, ho2, rfl⟩ noFill_tuple_add seq_tuple_add PySem.F.slot_tuple_add PySem.F.entry_tuple_add (PySem.F.args_tuple_add_2 _ _)
      (tuple_addW2 t b vs.toArray ws.toArray n n2 dd dd2 sl sl2 (by simpa using hv) (by simpa using hw) (by rw [List.size_toArray, List.size_toArray]; exact hsz)) ⟨ho, ho2, ?_⟩
    rw [e]
    exact h2 hw
/-- a slice's bound as a place among n (d where it is left out) -/
def sIx (n d : Nat) : Option Int → Nat
  | none => d
  | some v => if v < 0 then (v + (n : Int)).toNat else min v.toNat n
theorem sIx_none (n d : Nat) : sIx n d none = d := rfl
theorem sIx_nat (n d k : Nat) : sIx n d (some (k : Int)) = min k n := by
  show (if (k : Int) < 0 then ((k : Int) + (n : Int)).toNat else min (k : Int).toNat n) = min k n
  rw [if_neg (by omega), Int.toNat_natCast]
theorem sIx_le (n d : Nat) (hd : d ≤ n) (o : Option Int) : sIx n d o ≤ n := by
  cases o with
  | none => exact hd
  | some v =>
    show (if v < 0 then (v + (n : Int)).toNat else min v.toNat n) ≤ n
    by_cases hv : v < 0
    · rw [if_pos hv]; omega
    · rw [if_neg hv]; exact Nat.min_le_right _ _
theorem clip_eq (v : Int) (n d : Nat) : (if v < 0 then max (v + (n : Int)) 0 else min v (n : Int)) = ((sIx n d (some v) : Nat) : Int) := by
  show (if v < 0 then max (v + (n : Int)) 0 else min v (n : Int)) = (((if v < 0 then (v + (n : Int)).toNat else min v.toNat n) : Nat) : Int)
  by_cases hv : v < 0
  · simp only [if_pos hv]; omega
  · simp only [if_neg hv]; omega
theorem adjust_gen (lo hi : Option Int) (n : Nat) : Builtin.Slice.sliceAdjust lo hi 1 (n : Int) = (((sIx n 0 lo : Nat) : Int), ((sIx n n hi : Nat) : Int)) := by
  have h1 : ¬ ((1 : Int) < 0) := by omega
  unfold Builtin.Slice.sliceAdjust
  simp only [h1, if_false]
  refine Prod.ext ?_ ?_
  · cases lo with
    | none => rfl
    | some v => exact clip_eq v n 0
  · cases hi with
    | none => rfl
    | some v => exact clip_eq v n n
theorem places_gen (i j : Nat) : Builtin.Slice.slicePlaces (i : Int) (j : Int) 1 = j - i := by
  unfold Builtin.Slice.slicePlaces
  have h1 : (1 : Int) > 0 := by omega
  simp only [h1, if_true, Int.ediv_one]
  split <;> omega
theorem slicePart_ {v : Value} {o : Option Int} {Q : Option Int → Shared → Prop} (p : IsPart v o) (h : Q o s) : wpAny (model prog w) A (Builtin.Slice.slicePartIndex v) Q E s := by
  cases p with
  | none => exact slicePart_none h
  | int i t => exact slicePart_int h
theorem sliceApplied_gen {sl : Addr} {vl vu : Value} {lo hi : Option Int} {n : Nat} {Q : Int × Int × Nat → Shared → Prop} (hs : s.heap.IsSliceOf sl vl vu .none) (pl : IsPart vl lo) (pu : IsPart vu hi)
    (h : Q (((sIx n 0 lo : Nat) : Int), 1, sIx n n hi - sIx n 0 lo) s) : wpAny (model prog w) A (Builtin.Slice.sliceApplied (.ref sl) (pure (n : Int))) Q E s := by
  obtain ⟨os, hos, hcs, hds⟩ := id hs
  unfold Builtin.Slice.sliceApplied Builtin.Slice.sliceFields
  refine wpAny_bind (wpAny_bind (wpAny_field hos hds (x := vl) rfl (wpAny_bind (wpAny_field hos hds (x := vu) rfl (wpAny_bind (wpAny_field hos hds (x := .none) rfl (wpAny_pure ?_)))))))
  refine wpAny_bind (slicePart_none ?_)
  show wpAny _ _ (if ((1 : Int) == 0) = true then _ else _) _ _ s
  rw [if_neg (by decide)]
  refine wpAny_bind (slicePart_ pl (wpAny_bind (slicePart_ pu (wpAny_bind (wpAny_pure ?_)))))
  show wpAny _ _ (match Builtin.Slice.sliceAdjust lo hi 1 (n : Int) with | (lo, hi) => pure (lo, (1 : Int), Builtin.Slice.slicePlaces lo hi 1)) _ _ s
  rw [adjust_gen lo hi n]
  show wpAny _ _ (pure (((sIx n 0 lo : Nat) : Int), (1 : Int), Builtin.Slice.slicePlaces ((sIx n 0 lo : Nat) : Int) ((sIx n n hi : Nat) : Int) 1)) _ _ s
  rw [places_gen]
  exact wpAny_pure h
theorem pick_gen (xs : Array Value) (i k : Nat) : ((List.range k).filterMap fun (m : Nat) => xs[((i : Int) + (m : Int) * 1).toNat]?).toArray = ((xs.toList.drop i).take k).toArray := by
  have e : (fun (m : Nat) => xs[((i : Int) + (m : Int) * 1).toNat]?) = fun m => xs[i + m]? := by
    funext m
    have : ((i : Int) + (m : Int) * 1).toNat = i + m := by omega
    rw [this]
  rw [e]
  have := pick_run xs i k
  rw [List.filterMap_map] at this
  have e2 : ((fun x => xs[x]?) ∘ fun x => i + x) = fun m => xs[i + m]? := rfl
  rw [e2] at this
  rw [this]
theorem getItem_tuple_cut {t sl : Addr} {items : Array Value} {vl vu : Value} {lo hi : Option Int} {Q : Value → Shared → Prop} (ht : IsTup s.heap t items) (hs : s.heap.IsSliceOf sl vl vu .none) (pl : IsPart vl lo) (pu : IsPart vu hi)
    (hw : ¬ (sIx items.size 0 lo = 0 ∧ sIx items.size items.size hi = items.size))
    (h : Q (.ref s.heap.objs.size) { s with heap := s.heap.push { cls := .type "tuple", data := .seq ((items.toList.drop (sIx items.size 0 lo)).take (sIx items.size items.size hi - sIx items.size 0 lo)).toArray } })
    (hsz : items.size ≤ sizeLine) : wpAny (model prog w) A (getItem (.ref t) (.ref sl)) Q E s := by
  have htake : sizeOk (.seq ((items.toList.drop (sIx items.size 0 lo)).take (sIx items.size items.size hi - sIx items.size 0 lo)).toArray) := by
    show ((items.toList.drop (sIx items.size 0 lo)).take (sIx items.size items.size hi - sIx items.size 0 lo)).toArray.size ≤ sizeLine
    rw [List.size_toArray, List.length_take, List.length_drop, Array.length_toList]
    omega
  have hj : sIx items.size items.size hi ≤ items.size := sIx_le _ _ (Nat.le_refl _) hi
  obtain ⟨os, hos, hcs, hds⟩ := id hs
  have hTs : s.TypeIs (.ref sl) "slice" := ⟨os, hos, hcs⟩
  unfold getItem
  try with_reducible refine wpAny_holding ?_
  first | refine wpAny_bind (wpAny_pure ?_) | skip
  refine wpAny_bind (wpAny_sequenceKey ht.typeIs (by decide) ?_)
  refine wpAny_bind (wpAny_callSpecial?_slot (name := Str.ofString "__getitem__") ht.typeIs PyProof.Rows.slot_tuple_getitem
    (wpAny_call_entry PyProof.Rows.slot_tuple_getitem ht.typeIs entry_tuple_getitem ?_ (args_tuple_getitem _ _)))
  show wpAny _ _ (Builtin.Tuple.tupleItemsOf (.ref t) >>= _) _ _ s
  refine wpAny_bind (tupleItemsOf_ ht ?_)
  refine wpAny_bind (wpAny_typeOf hTs ?_)
  rw [if_pos (by decide)]
  refine wpAny_bind (sliceApplied_gen hs pl pu ?_)
  have hno : ¬ ((((sIx items.size 0 lo : Nat) : Int) == 0 && (1 : Int) == 1 && (sIx items.size items.size hi - sIx items.size 0 lo) == items.size) = true) := by
    intro q
    rw [Bool.and_eq_true, Bool.and_eq_true] at q
    have q1 : ((sIx items.size 0 lo : Nat) : Int) = 0 := eq_of_beq q.1.1
    have q2 : sIx items.size items.size hi - sIx items.size 0 lo = items.size := eq_of_beq q.2
    exact hw ⟨by omega, by omega⟩
  show wpAny _ _ (if (((sIx items.size 0 lo : Nat) : Int) == 0 && (1 : Int) == 1 && (sIx items.size items.size hi - sIx items.size 0 lo) == items.size) = true then _ else _) _ _ s
  rw [if_neg hno, pick_gen]
  first
    | exact wpAny_bind (m := Builtin.Tuple.tupleExact _) (wpAny_newObj_type (wpAny_pure ⟨_, rfl, wpAny_pure h⟩) htake)
    | exact wpAny_bind (m := Builtin.Tuple.tupleExact _) (wpAny_newObj_type (wpAny_bind (wpAny_pure (wpAny_pure ⟨_, rfl, wpAny_pure h⟩))) htake)
    | exact wpAny_bind (wpAny_bind (m := Builtin.Tuple.tupleExact _) (wpAny_newObj_type (wpAny_pure (wpAny_pure ⟨_, rfl, wpAny_pure h⟩)) htake))
    | exact wpAny_bind (wpAny_bind (m := Builtin.Tuple.tupleExact _) (wpAny_newObj_type (wpAny_pure ⟨_, rfl, wpAny_pure h⟩) htake))
end
end HT
namespace L2
open PySem PySem.Spec PyProof.Rows
abbrev TO := St → Hp → (Option Int → Hp → Prop) → Prop
/-- a slice's part (left out, or an int) -/
def PO (X : Cx) (e : Option Expr) (t : TO) : Prop :=
  ∀ (pins : List (Addr × Obj)) (s : Shared) (σ : St) (H : Hp) (Q : Option Int → Hp → Prop), Inv X pins σ H s → t σ H Q →
    wpAny (model X.prog X.w) X.A (evalPart e X.env) (fun u s' => ∃ o H', Inv X pins σ H' s' ∧ IsPart u o ∧ Q o H') X.xe s
def tNoPart : TO := fun _ H Q => Q none H
def tPart (t : TE) : TO := fun σ H Q => t σ H fun x H1 => ∃ i, x = .int i ∧ Q (some i) H1
theorem intsAre_of {ns : List Int} : ∀ {us : List Value}, Vals (ns.map V.int) us → IntsAre us ns := by
  induction ns with
  | nil => intro us r; rw [List.map_nil] at r; cases r; exact .nil
  | cons n ns ih =>
    intro us r
    rw [List.map_cons] at r
    cases r with
    | cons r1 r2 =>
      obtain ⟨t, e⟩ := r1
      subst e
      exact .cons n t (ih r2)
section
variable {X : Cx} {e : Expr} {te : TE} {lo hi : Option Expr} {tl th : TO} {pos p2 : Pos}
theorem po_none : PO X none tNoPart := by
  intro pins s σ H Q I h
  rw [evalPart_none]
  exact wpAny_pure ⟨none, H, I, .none, h⟩
theorem po_some (h : PE X e te) : PO X (some e) (tPart te) := by
  intro pins s σ H Q I hw
  rw [evalPart_some]
  refine thn (h pins s σ H _ I hw) fun u s1 ⟨x, H1, I1, r1, q1⟩ => ?_
  obtain ⟨i, rfl, q⟩ := q1
  obtain ⟨t, rfl⟩ := r1
  exact ⟨some i, H1, I1, .int i t, q⟩
/-- what a slice of a value is, by values: the slice object stands at sl -/
def SlR (X : Cx) (r : V → Option Int → Option Int → Hp → VK → Prop) : Prop :=
  ∀ (pins : List (Addr × Obj)) (s : Shared) (σ : St) (H : Hp) (x : V) (v vl vu : Value) (lo hi : Option Int) (sl : Addr) (Q : VK), Inv X pins σ H s → RelV x v → s.heap.IsSliceOf sl vl vu .none → IsPart vl lo → IsPart vu hi → r x lo hi H Q →
    ∃ T id, typeLookup (.type T) "__getitem__" = pure (some (.builtin id)) ∧ s.TypeIs v T ∧ wpAny (model X.prog X.w) X.A (getItem v (.ref sl)) (EP X pins σ Q) X.xe s
theorem SlR.or {r r' : V → Option Int → Option Int → Hp → VK → Prop} (h : SlR X r) (h' : SlR X r') : SlR X (fun x lo hi H Q => r x lo hi H Q ∨ r' x lo hi H Q) := by
  intro pins s σ H x v vl vu lo hi sl Q I rx hs pl pu q
  rcases q with q | q
  · exact h pins s σ H x v vl vu lo hi sl Q I rx hs pl pu q
  · exact h' pins s σ H x v vl vu lo hi sl Q I rx hs pl pu q
def tSl (r : V → Option Int → Option Int → Hp → VK → Prop) (te : TE) (tl th : TO) : TE := fun σ H Q => te σ H fun x H1 => tl σ H1 fun l H2 => th σ H2 fun u H3 => r x l u H3 Q
/-- a[lo:hi], any a -/
theorem pe_slice {r : V → Option Int → Option Int → Hp → VK → Prop} (hr : SlR X r) (he : PE X e te) (hl : PO X lo tl) (hu : PO X hi th) : PE X (.Subscript e (.Slice lo hi none p2) pos) (tSl r te tl th) := by
  intro pins s σ H Q I h
  refine Subscript_ (thn (he pins s σ H _ I h) fun v s1 ⟨x, H1, I1, r1, q1⟩ => ?_)
  refine wpAny_Slice (thn (hl pins s1 σ H1 _ I1 q1) fun vl s2 ⟨l, H2, I2, pl, q2⟩ => thn (hu pins s2 σ H2 _ I2 q2) fun vu s3 ⟨u, H3, I3, pu, q3⟩ => ?_)
  rw [evalPart_none]
  refine wpAny_pure ?_
  have I4 : Inv X pins σ H3 { s3 with heap := s3.heap.push { cls := .type "slice", data := .fields #[vl, vu, .none] } } := I3.kept (t' := s3.toks) fun b ob q => Heap.get?_push_of_some _ q
  obtain ⟨T, id, hT, ht, hg⟩ := hr pins { s3 with heap := s3.heap.push { cls := .type "slice", data := .fields #[vl, vu, .none] } } σ H3 x v vl vu l u s3.heap.objs.size Q I4 r1 (Heap.IsSliceOf.new ..) pl pu q3
  show wpAny (model X.prog X.w) X.A (subscriptTail e (.Slice lo hi none p2) v (.ref s3.heap.objs.size)) (EP X pins σ Q) X.xe { s3 with heap := s3.heap.push { cls := .type "slice", data := .fields #[vl, vu, .none] } }
  exact tail_any (ops := [.ref s3.heap.objs.size, v]) ht hT hg (by with_unfolding_all rfl)
/-- the items of xs[lo:hi] -/
def cutV (xs : List V) (lo hi : Option Int) : List V := (xs.drop (HT.sIx xs.length 0 lo)).take (HT.sIx xs.length xs.length hi - HT.sIx xs.length 0 lo)
theorem cutV_length (xs : List V) (lo hi : Option Int) : (cutV xs lo hi).length ≤ xs.length := by
  unfold cutV
  rw [List.length_take, List.length_drop]
  omega
/-- t[lo:hi], not the whole of it (the whole would be t itself) -/
def rSlT (K : PySem.W.Frag) : V → Option Int → Option Int → Hp → VK → Prop := fun x lo hi H Q => ∃ a xs, x = .ref a ∧ SqT K H a xs ∧
  ¬ (HT.sIx xs.length 0 lo = 0 ∧ HT.sIx xs.length xs.length hi = xs.length) ∧ ∀ p, H p = none → Q (.ref p) (upd H p (.tup (cutV xs lo hi)))
theorem sl_tup : SlR X (rSlT X.K) := by
  intro pins s σ H x v vl vu lo hi sl Q I rx hs pl pu h
  obtain ⟨a, xs, rfl, hx, hw, q⟩ := h
  cases rx
  obtain ⟨its, r, ht, hz⟩ := I.tuple hx
  have hlen : its.toArray.size = xs.length := by rw [List.size_toArray]; exact r.length.symm
  refine ⟨"tuple", _, PyProof.Rows.slot_tuple_getitem.lookup, ht.typeIs, ?_⟩
  refine HT.getItem_tuple_cut ht hs pl pu (by rw [hlen]; exact hw) ?_ (by rw [hlen]; exact hz)
  rw [hlen]
  refine ⟨.ref s.heap.objs.size, _, I.laid (t' := s.toks) (o := .tup (cutV xs lo hi)) (fun b ob q => Heap.get?_push_of_some _ q) (Nat.le_refl _) ?_, rfl, q _ (I.hok.fresh (Nat.le_refl _))⟩
  exact ⟨Nat.le_trans (cutV_length xs lo hi) hz, _, (r.drop (HT.sIx xs.length 0 lo)).take (HT.sIx xs.length xs.length hi - HT.sIx xs.length 0 lo), IsTup.new _ _⟩
def rLtT (K : PySem.W.Frag) : R2 := fun x y H Q => ∃ a b ns ms, x = .ref a ∧ y = .ref b ∧ SqT K H a (ns.map V.int) ∧ SqT K H b (ms.map V.int) ∧ Q (.bl (HT.lexLt ns ms)) H
theorem op_ltT (hu : X.A.units < cLine) : OpR X (compareOp .Lt) (rLtT X.K) := by
  intro pins s σ H x y v u Q I rx ry h
  obtain ⟨a, b, ns, ms, rfl, rfl, ha, hb, q⟩ := h
  cases rx
  cases ry
  obtain ⟨its, r1, p1, _⟩ := I.tuple ha
  obtain ⟨its2, r2, p2, _⟩ := I.tuple hb
  have i1 : IntsAre its.toArray.toList ns := intsAre_of r1
  have i2 : IntsAre its2.toArray.toList ms := intsAre_of r2
  exact HT.lt_tupInts p1 p2 i1 i2 hu ⟨.bl (HT.lexLt ns ms), H, I, rfl, q⟩
/-- t + u, t not empty: u empty gives t itself -/
def rCatT (K : PySem.W.Frag) : R2 := fun x y H Q => ∃ a b xs ys, x = .ref a ∧ y = .ref b ∧ SqT K H a xs ∧ SqT K H b ys ∧ xs ≠ [] ∧ xs.length + ys.length ≤ sizeLine ∧
  (ys = [] → Q (.ref a) H) ∧ (ys ≠ [] → ∀ p, H p = none → Q (.ref p) (upd H p (.tup (xs ++ ys))))
theorem Vals.nil_iff {xs : List V} {us : List Value} (r : Vals xs us) : us = [] ↔ xs = [] := by
  cases r with
  | nil => simp
  | cons _ _ => simp
theorem op_catT : OpR X (binaryOp .Add) (rCatT X.K) := by
  intro pins s σ H x y v u Q I rx ry h
  obtain ⟨a, b, xs, ys, rfl, rfl, ha, hb, hx, hz, q1, q2⟩ := h
  cases rx
  cases ry
  obtain ⟨its, r1, p1, _⟩ := I.tuple ha
  obtain ⟨its2, r2, p2, _⟩ := I.tuple hb
  refine HT.cat_tup p1 p2 (fun z => hx (r1.nil_iff.mp z)) (fun z => ⟨.ref a, H, I, rfl, q1 (r2.nil_iff.mp z)⟩) (fun z => ?_) (by rw [← r1.length, ← r2.length]; exact hz)
  refine ⟨.ref s.heap.objs.size, _, I.laid (t' := s.toks) (o := .tup (xs ++ ys)) (fun b ob q => Heap.get?_push_of_some _ q) (Nat.le_refl _) ?_, rfl, q2 (fun w => z (r2.nil_iff.mpr w)) _ (I.hok.fresh (Nat.le_refl _))⟩
  exact ⟨by rw [List.length_append]; exact hz, _, r1.append r2, IsTup.new _ _⟩
end
end L2
namespace L2
open PySem PySem.Spec PyProof.Rows
/-- the place that an index of any sign means -/
def ixN (n : Nat) (i : Int) : Option Nat := if 0 ≤ i then (if i < n then some i.toNat else none) else if -(n : Int) ≤ i then some (i + n).toNat else none
def atI {α : Type} (xs : List α) (i : Int) : Option α := (ixN xs.length i).bind fun j => xs[j]?
theorem ixN_seq {n : Nat} {i : Int} {j : Nat} (h : ixN n i = some j) : seqIndex? i n = some j ∧ j < n ∧ -(n : Int) ≤ i ∧ i < n := by
  unfold ixN at h
  by_cases h0 : 0 ≤ i
  · rw [if_pos h0] at h
    by_cases h1 : i < n
    · rw [if_pos h1] at h
      have e : i.toNat = j := Option.some.inj h
      exact ⟨by rw [seqIndex_of h0 h1, e], by omega, by omega, h1⟩
    · rw [if_neg h1] at h; cases h
  · rw [if_neg h0] at h
    by_cases h1 : -(n : Int) ≤ i
    · rw [if_pos h1] at h
      have e : (i + n).toNat = j := Option.some.inj h
      exact ⟨by rw [seqIndex_neg (by omega) h1, e], by omega, h1, by omega⟩
    · rw [if_neg h1] at h; cases h
theorem atI_get {α : Type} {xs : List α} {i : Int} {v : α} (h : atI xs i = some v) : ∃ j, seqIndex? i xs.length = some j ∧ xs[j]? = some v ∧ j < xs.length ∧ -(xs.length : Int) ≤ i ∧ i < xs.length := by
  unfold atI at h
  cases e : ixN xs.length i with
  | none => rw [e] at h; cases h
  | some j =>
    rw [e] at h
    obtain ⟨h1, h2, h3, h4⟩ := ixN_seq e
    exact ⟨j, h1, h, h2, h3, h4⟩
/-- what stands as an index of a plain subscript -/
def PlainIx (b : Expr) : Prop := ∀ o i, subscripted b false o i = operate [o, i] (getItem o i)
/-- a subscript by values -/
def IxR (X : Cx) (r : R2) : Prop :=
  ∀ (value slice : Expr) (pins : List (Addr × Obj)) (s : Shared) (σ : St) (H : Hp) (x y : V) (v u : Value) (Q : VK), Inv X pins σ H s → RelV x v → RelV y u → r x y H Q →
    subscripted slice false v u = operate [v, u] (getItem v u) → wpAny (model X.prog X.w) X.A (subscriptTail value slice v u) (EP X pins σ Q) X.xe s
/-- a call of a builtin's method by values: the receiver, the arguments -/
def MtR (X : Cx) (id : String) (r : V → List V → Hp → VK → Prop) : Prop :=
  ∀ (pins : List (Addr × Obj)) (s : Shared) (σ : St) (H : Hp) (x : V) (xs : List V) (v : Value) (us : List Value) (Q : VK), Inv X pins σ H s → RelV x v → Vals xs us → r x xs H Q →
    wpAny (model X.prog X.w) X.A (call (.builtin id) (v :: us)) (EP X pins σ Q) X.xe s
section
variable {X : Cx} {a b : Expr} {ta tb : TE} {pos : Pos}
/-- a[b] -/
theorem pe_ix {r : R2} (hr : IxR X r) (ha : PE X a ta) (hb : PE X b tb) (hs : PlainIx b) : PE X (.Subscript a b pos) (tOp r ta tb) := by
  intro pins s σ H Q I h
  exact Subscript_ (binT ha hb I h fun v u s2 x y H2 I2 rx ry q => hr a b pins s2 σ H2 x y v u Q I2 rx ry q (hs _ _))
def rIxL (K : PySem.W.Frag) : R2 := fun x y H Q => ∃ p xs i v, x = .ref p ∧ y = .int i ∧ SqL K H p xs ∧ atI xs i = some v ∧ Q v H
def rIxT (K : PySem.W.Frag) : R2 := fun x y H Q => ∃ p xs i v, x = .ref p ∧ y = .int i ∧ SqT K H p xs ∧ atI xs i = some v ∧ Q v H
theorem ix_list : IxR X (rIxL X.K) := by
  intro value slice pins s σ H x y v u Q I rx ry h hs
  obtain ⟨p, xs, i, z, rfl, rfl, hq, he, q⟩ := h
  cases rx
  obtain ⟨t, rfl⟩ := ry
  obtain ⟨its, r, pl, hz⟩ := I.list hq
  obtain ⟨j, h1, h2, h3, h4, h5⟩ := atI_get he
  obtain ⟨w, ew, rw'⟩ := r.get h2
  have hl := r.length
  have hn := line63
  have fin : EP X pins σ Q w s := ⟨z, H, I, rw', q⟩
  by_cases h0 : 0 ≤ i
  · have hj : i.toNat = j := by
      rw [seqIndex_of h0 h5] at h1
      exact Option.some.inj h1
    exact item_listR pl.isList h0 (by omega) (by rw [hj]; simpa using ew) fin hs
  · have hj : (i + (its.toArray.size : Int)).toNat = j := by
      rw [seqIndex_neg (by omega) h4] at h1
      rw [List.size_toArray, ← hl]
      exact Option.some.inj h1
    exact subscriptTail_builtinR (x := w) pl.isList.typeIs slot_list_getitem.lookup
      (wpAny_getItem_list_neg (Q := fun r s' => r = w ∧ EP X pins σ Q r s') pl.isList (by omega) (by rw [List.size_toArray] <;> omega) (by omega) (by rw [hj]; simpa using ew) ⟨rfl, fin⟩) hs
theorem ix_tup : IxR X (rIxT X.K) := by
  intro value slice pins s σ H x y v u Q I rx ry h hs
  obtain ⟨p, xs, i, z, rfl, rfl, hq, he, q⟩ := h
  cases rx
  obtain ⟨t, rfl⟩ := ry
  obtain ⟨its, r, pl, hz⟩ := I.tuple hq
  obtain ⟨j, h1, h2, h3, h4, h5⟩ := atI_get he
  obtain ⟨w, ew, rw'⟩ := r.get h2
  have hl := r.length
  have hn := line63
  have fin : EP X pins σ Q w s := ⟨z, H, I, rw', q⟩
  exact subscriptTail_builtinR (x := w) pl.typeIs slot_tuple_getitem.lookup
    (getItem_tuple (j := j) (Q := fun r s' => r = w ∧ EP X pins σ Q r s') pl (by omega) (by omega) (by rw [List.size_toArray, ← hl]; exact h1) (by simpa using ew) ⟨rfl, fin⟩) hs
/-- the list's object behind a store -/
theorem mapSeq_set (its : List Value) (n j : Nat) (u : Value) : Obj.mapSeq (·.setIfInBounds j u) { cls := .type "list", data := .seq its.toArray n } = { cls := .type "list", data := .seq (its.set j u).toArray n } := by
  simp [Obj.mapSeq]
theorem Inv.lst {pins : List (Addr × Obj)} {σ : St} {H : Hp} {s : Shared} {p : Addr} {xs : List V} (I : Inv X pins σ H s) (h : H p = some (.lst xs)) :
    ∃ (its : List Value) (n : Nat), Vals xs its ∧ s.heap.get? p = some { cls := .type "list", data := .seq its.toArray n } ∧ xs.length ≤ sizeLine := by
  obtain ⟨z, its, n, r, e⟩ := I.hok p _ h
  exact ⟨its, n, r, e, z⟩
/-- the list at p is written by an update of its object -/
theorem Inv.lstUpd {pins : List (Addr × Obj)} {σ : St} {H : Hp} {s : Shared} {p : Addr} {xs ys : List V} {its its' : List Value} {n n' : Nat} {f : Obj → Obj} (I : Inv X pins σ H s) (h : H p = some (.lst xs))
    (ho : s.heap.get? p = some { cls := .type "list", data := .seq its.toArray n }) (hf : f { cls := .type "list", data := .seq its.toArray n } = { cls := .type "list", data := .seq its'.toArray n' }) (r : Vals ys its') (hz : ys.length ≤ sizeLine) (t : Nat) :
    Inv X pins σ (upd H p (.lst ys)) { s with heap := s.heap.update p f, toks := t } := by
  have e : (s.heap.update p f).get? p = some { cls := .type "list", data := .seq its'.toArray n' } := by
    rw [Heap.get?_update_self f ho (by rw [hf] <;> rfl), hf]
  refine I.write (x := p) (e := p) (by rw [h]; trivial) (.inl rfl) (fun b u hb q => (Heap.get?_update_other _ _ (Ne.symm hb)).trans q) ⟨_, e⟩ ?_
  exact ⟨hz, its', n', r, e⟩
def rSetL : V → V → V → Hp → (Hp → Prop) → Prop := fun o i v H Q => ∃ p xs k j, o = .ref p ∧ i = .int k ∧ H p = some (.lst xs) ∧ ixN xs.length k = some j ∧ Q (upd H p (.lst (xs.set j v)))
theorem set_list : PSet X rSetL := by
  intro pins s σ H o i v ov iv u Q I ro ri rv h
  obtain ⟨p, xs, k, j, rfl, rfl, hp, hj, q⟩ := h
  cases ro
  obtain ⟨t, rfl⟩ := ri
  obtain ⟨its, n, r, ho, hz⟩ := I.lst hp
  obtain ⟨h1, h2, h3, h4⟩ := ixN_seq hj
  have hl := r.length
  have hn := line63
  have I' : Inv X pins σ (upd H p (.lst (xs.set j v))) { s with heap := s.heap.update p (Obj.mapSeq (·.setIfInBounds j u)) } :=
    I.lstUpd hp ho (mapSeq_set its n j u) (r.set rv j) (by rw [List.length_set]; exact hz) s.toks
  by_cases h0 : 0 ≤ k
  · have hk : k.toNat = j := by
      rw [seqIndex_of h0 h4] at h1
      exact Option.some.inj h1
    exact PySem.W.ki_setAt ho h0 (by omega) (by rw [List.size_toArray, ← hl]; exact h4) (by rw [hk]; exact ⟨_, I', q⟩)
  · have hk : (k + (its.toArray.size : Int)).toNat = j := by
      rw [seqIndex_neg (by omega) h3] at h1
      rw [List.size_toArray, ← hl]
      exact Option.some.inj h1
    exact PySem.W.ki_setBack ho (by omega) (by rw [List.size_toArray, ← hl]; exact h3) (by omega) (by rw [hk]; exact ⟨_, I', q⟩)
theorem slice_bounds (lo hi : Option Int) (n : Nat) : (sliceBounds lo hi none n).1 = ((HT.sIx n 0 lo : Nat) : Int) ∧ (sliceBounds lo hi none n).2.1 = ((HT.sIx n n hi : Nat) : Int) ∧ (sliceBounds lo hi none n).2.2 = 1 := by
  refine ⟨?_, ?_, rfl⟩
  · cases lo with
    | none => simp [sliceBounds, HT.sIx]
    | some i =>
      simp only [sliceBounds, HT.sIx, Option.getD_none, show (1 : Int) > 0 by decide, if_true]
      by_cases h : i < 0
      · simp only [h, if_true] <;> omega
      · simp only [h, if_false] <;> omega
  · cases hi with
    | none => simp [sliceBounds, HT.sIx]
    | some i =>
      simp only [sliceBounds, HT.sIx, Option.getD_none, show (1 : Int) > 0 by decide, if_true]
      by_cases h : i < 0
      · simp only [h, if_true] <;> omega
      · simp only [h, if_false] <;> omega
theorem slicePick_cut (its : List Value) (lo hi : Option Int) : slicePick its.toArray lo hi none = ((its.drop (HT.sIx its.length 0 lo)).take (HT.sIx its.length its.length hi - HT.sIx its.length 0 lo)).toArray := by
  obtain ⟨h1, h2, h3⟩ := slice_bounds lo hi its.toArray.size
  unfold slicePick
  rw [h1, h2, h3]
  simp only [sliceRange_one, pick_run, List.size_toArray] <;> rfl
/-- xs[lo:hi] of a list: a new list -/
def rSlL (K : PySem.W.Frag) : V → Option Int → Option Int → Hp → VK → Prop := fun x lo hi H Q => ∃ a xs, x = .ref a ∧ SqL K H a xs ∧ ∀ p, H p = none → Q (.ref p) (upd H p (.lst (cutV xs lo hi)))
theorem sl_list : SlR X (rSlL X.K) := by
  intro pins s σ H x v vl vu lo hi sl Q I rx hs pl pu h
  obtain ⟨a, xs, rfl, hx, q⟩ := h
  cases rx
  obtain ⟨its, r, ht, hz⟩ := I.list hx
  have hlen := r.length
  refine ⟨"list", _, slot_list_getitem.lookup, ht.isList.typeIs, ?_⟩
  refine wpAny_getItem_list_slice ht.isList hs pl pu .none (by simp) ?_ (by rw [List.size_toArray] <;> omega)
  rw [slicePick_cut, ← hlen]
  refine ⟨.ref s.heap.objs.size, _, I.laid (t' := s.toks) (o := .lst (cutV xs lo hi)) (fun b ob q => Heap.get?_push_of_some _ q) (Nat.le_refl _) ?_, rfl, q _ (I.hok.fresh (Nat.le_refl _))⟩
  exact ⟨Nat.le_trans (cutV_length xs lo hi) hz, _, 0, (r.drop (HT.sIx xs.length 0 lo)).take (HT.sIx xs.length xs.length hi - HT.sIx xs.length 0 lo), Heap.get?_push_size _ rfl⟩
theorem CallR.or {f : Value} {r r' : List V → Hp → VK → Prop} (h : CallR X f r) (h' : CallR X f r') : CallR X f (fun xs H Q => r xs H Q ∨ r' xs H Q) := by
  intro pins s σ H xs us Q I rs q
  rcases q with q | q
  · exact h pins s σ H xs us Q I rs q
  · exact h' pins s σ H xs us Q I rs q
theorem call_tuple_of : CallR X (.type "tuple") (fun xs H Q => ∃ p ys, xs = [.ref p] ∧ ((SqL X.K H p ys ∧ ∀ l, H l = none → Q (.ref l) (upd H l (.tup ys))) ∨ (SqT X.K H p ys ∧ Q (.ref p) H))) := by
  intro pins s σ H xs us Q I r h
  obtain ⟨p, ys, rfl, h⟩ := h
  obtain ⟨u, rfl, rx⟩ := vals1 r
  cases rx
  rcases h with ⟨hq, q⟩ | ⟨hq, q⟩
  · obtain ⟨its, r', pl, hz⟩ := I.list hq
    have hlen := r'.length
    refine call_tuple_list pl.isList (fun h' kp => ?_) (by simp only [List.size_toArray] <;> omega)
    have I1 : Inv X pins σ H { s with heap := h' } := I.kept (t' := s.toks) kp
    have I2 : Inv X pins σ (upd H h'.objs.size (.tup ys)) { s with heap := h'.push { cls := .type "tuple", data := .seq its.toArray } } :=
      I1.laid (t' := s.toks) (fun b o e => Heap.get?_push_of_some _ e) (Nat.le_refl _) (show ObjOk X.prog X.w _ _ _ (.tup ys) from ⟨hz, its, r', IsTup.new _ _⟩)
    exact ⟨.ref h'.objs.size, _, I2, rfl, q _ (I1.hok.fresh (Nat.le_refl _))⟩
  · obtain ⟨its, r', pl, hz⟩ := I.tuple hq
    exact call_tuple_same pl ⟨.ref p, H, I, rfl, q⟩
/-- the value is of that builtin type -/
def tyV (K : PySem.W.Frag) (T : String) (x : V) (H : Hp) : Prop := match x with
  | .str _ => T = "str"
  | .int _ => T = "int"
  | .ref p => (T = "list" ∧ ∃ xs, SqL K H p xs) ∨ (T = "tuple" ∧ ∃ o, K.lookup p = some o ∧ o.cls = .type "tuple" ∧ o.dict = none) ∨
      (T = "dict" ∧ ((∃ kvs, H p = some (.dK kvs)) ∨ ∃ kvs, H p = some (.dT kvs))) ∨ (T = "set" ∧ ∃ S n, H p = some (.set S n))
  | _ => False
theorem tyV_is {pins : List (Addr × Obj)} {σ : St} {H : Hp} {s : Shared} {T : String} {x : V} {v : Value} (I : Inv X pins σ H s) (r : RelV x v) (ty : tyV X.K T x H) :
    s.TypeIs v T ∧ ∀ a, v = .ref a → ∃ ob, s.heap.get? a = some ob ∧ ob.dict = none := by
  cases x with
  | str z =>
    obtain ⟨t, rfl⟩ := r
    cases (show T = "str" from ty)
    exact ⟨typeIs_str s z t, fun _ e => nomatch e⟩
  | int i =>
    obtain ⟨t, rfl⟩ := r
    cases (show T = "int" from ty)
    exact ⟨typeIs_int s i t, fun _ e => nomatch e⟩
  | ref p =>
    cases r
    rcases ty with ⟨rfl, xs, hq⟩ | ⟨rfl, o, hk, hc, hd⟩ | ⟨rfl, hk⟩ | ⟨rfl, S, n, hk⟩
    · obtain ⟨its, _, pl, _⟩ := I.list hq
      refine ⟨pl.isList.typeIs, fun a e => ?_⟩
      cases e
      obtain ⟨o, n, e, c, hd, _⟩ := pl
      exact ⟨o, e, hd⟩
    · refine ⟨⟨o, I.kIn p o hk, hc⟩, fun a e => ?_⟩
      cases e
      exact ⟨o, I.kIn _ o hk, hd⟩
    · have z : ∃ o, s.heap.get? p = some o ∧ o.ExactDict := by
        rcases hk with ⟨kvs, hk⟩ | ⟨kvs, hk⟩
        · obtain ⟨_, _, _, _, o, _, _, e, ex, _⟩ := I.hok p _ hk
          exact ⟨o, e, ex⟩
        · obtain ⟨_, _, _, _, o, _, _, e, ex, _⟩ := I.hok p _ hk
          exact ⟨o, e, ex⟩
      obtain ⟨o, e, ex⟩ := z
      refine ⟨⟨o, e, ex.1⟩, fun a e2 => ?_⟩
      cases e2
      exact ⟨o, e, ex.2.1⟩
    · obtain ⟨o, _, _, _, e, ex, _⟩ := I.hok p _ hk
      refine ⟨⟨o, e, ex.1⟩, fun a e2 => ?_⟩
      cases e2
      exact ⟨o, e, ex.2.1⟩
  | _ => exact False.elim ty
def tBM (K : PySem.W.Frag) (T : String) (r : V → List V → Hp → VK → Prop) (to : TE) (t : TA) : TE := fun σ H Q => to σ H fun x H1 => tyV K T x H1 ∧ t σ H1 fun xs H2 => r x xs H2 Q
variable {o e : Expr} {es : List Expr} {to : TE} {t : TA} {name : Str} {apos cpos : Pos} {T id : String} {r : V → List V → Hp → VK → Prop}
theorem pe_bm (pa : PlainAttrs T) (slot : Slot T name id) (hty : typeOf (.builtin id) = pure (.type "method_descriptor")) (hm : MtR X id r) (ho : PE X o to) (ha : PA X (e :: es) t)
    (hbase : attributeBase o name X.env (eval o X.env) = eval o X.env := by rfl)
    (hfew : ((backTo cpos (starEach (e :: es) X.env)).all (fun x => !x.1) && (backToKw cpos (keywordEach [] X.env)).all (fun x => x.1.isSome)
      && decide ((e :: es).length + ([] : List Keyword).length + (if ([] : List Keyword).isEmpty then 0 else 1) < 30)) = true := by rfl)
    (hline : (apos.endLine == cpos.line) = true := by rfl) (hs : starEach (e :: es) X.env = (false, eval e X.env) :: starEach es X.env := by rfl) (hplain : (backTo cpos (starEach es X.env)).any (·.1) = false := by rfl) :
    PE X (.Call (.Attribute o name apos) (e :: es) [] cpos) (tBM X.K T r to t) := by
  intro pins s σ H Q I h
  refine wpAny_Call_method_late hbase hfew hline rfl (thn (ho pins s σ H _ I h) fun v s1 ⟨x, H1, I1, r1, ty, q1⟩ => ?_)
  obtain ⟨h1, h2⟩ := tyV_is I1 r1 ty
  refine ⟨T, id, pa, slot, hty, h1, h2, ?_⟩
  have hA := ha cpos pins s1 σ H1 _ I1 q1
  rw [hs] at hA ⊢
  refine Calls.callWith_builtin (by show (false || (backTo cpos (starEach es X.env)).any (·.1)) = false; rw [hplain] <;> rfl) (Calls.evalArgs_plain ?_)
  exact thn hA fun us s2 ⟨vs, H2, I2, r2, q2⟩ => hm pins s2 σ H2 x vs v us Q I2 r1 r2 q2
/- xs.append(e), list.index on a module's tuple .. are MtR facts of 06m -/
end
end L2
namespace L2
open PySem PySem.Spec PyProof.Rows
def MtM (X : Cx) (id : String) (r : V → List V → Hp → VK → Prop) : Prop :=
  ∀ (pins : List (Addr × Obj)) (s : Shared) (σ : St) (H : Hp) (x : V) (xs : List V) (v : Value) (us : List Value) (Q : VK), Inv X pins σ H s → RelV x v → Vals xs us → r x xs H Q →
    wpAny (model X.prog X.w) X.A (call (.builtin id) (v :: us)) (EP X pins σ Q) X.xe s
theorem Vals.one : ∀ {x : V} {us : List Value}, Vals [x] us → ∃ u, us = [u] ∧ RelV x u
  | _, _, .cons r .nil => ⟨_, rfl, r⟩
theorem Vals.rep {xs : List V} {us : List Value} (h : Vals xs us) : ∀ k : Nat, Vals (List.replicate k xs).flatten (List.replicate k us).flatten
  | 0 => .nil
  | k + 1 => by
    rw [List.replicate_succ, List.replicate_succ, List.flatten_cons, List.flatten_cons]
    exact Vals.append h (Vals.rep h k)
theorem foldl_rep (its : List Value) : ∀ (k : Nat) (acc : List Value),
    List.foldl (fun x1 x2 => x1 ++ x2) acc.toArray (List.replicate k its.toArray) = (acc ++ (List.replicate k its).flatten).toArray
  | 0, acc => by simp
  | k + 1, acc => by
    have e : acc.toArray ++ its.toArray = (acc ++ its).toArray := by simp
    have e2 : (acc ++ its) ++ (List.replicate k its).flatten = acc ++ (List.replicate (k + 1) its).flatten := by
      rw [List.replicate_succ, List.flatten_cons, List.append_assoc]
    rw [← e2, ← foldl_rep its k (acc ++ its), ← e, List.replicate_succ, List.foldl_cons]
section
variable {X : Cx} {pins : List (Addr × Obj)} {σ : St} {H : Hp} {s : Shared} {l b : Addr} {xs ys zs : List V}
theorem Inv.lset {its its' : List Value} {n : Nat} {f : Array Value → Array Value} {t' : Nat} (I : Inv X pins σ H s) (hH : H l = some (.lst xs))
    (e : s.heap.get? l = some { cls := .type "list", data := .seq its.toArray n }) (hf : f its.toArray = its'.toArray) (hv : Vals ys its') (hz : ys.length ≤ sizeLine) :
    Inv X pins σ (upd H l (.lst ys)) { s with heap := s.heap.update l (Obj.mapSeq f), toks := t' } := by
  have q := PySem.IsL.update e f
  rw [hf] at q
  refine I.write (x := l) (e := l) (by rw [hH]; exact trivial) (.inl rfl) (fun b' u hb hu => (Heap.get?_update_other s.heap (Obj.mapSeq f) (Ne.symm hb)).trans hu) ⟨_, q⟩ ?_
  exact ⟨hz, its', _, hv, q⟩
theorem Inv.lnew {its : List Value} {t' : Nat} (I : Inv X pins σ H s) (hv : Vals ys its) (hz : ys.length ≤ sizeLine) :
    Inv X pins σ (upd H s.heap.objs.size (.lst ys)) { s with heap := s.heap.push { cls := .type "list", data := .seq its.toArray }, toks := t' } :=
  I.laid (fun _ _ q => Heap.get?_push_of_some _ q) (Nat.le_refl _) ⟨hz, its, 0, hv, Heap.get?_push_size _ rfl⟩
theorem Inv.fresh (I : Inv X pins σ H s) : H s.heap.objs.size = none := I.hok.fresh (Nat.le_refl _)
theorem Inv.lstM (I : Inv X pins σ H s) (hH : H l = some (.lst xs)) : xs.length ≤ sizeLine ∧ ∃ (its : List Value) (n : Nat), Vals xs its ∧ xs.length = its.length ∧ s.heap.get? l = some { cls := .type "list", data := .seq its.toArray n } := by
  obtain ⟨z, its, n, r, e⟩ := I.hok l _ hH
  exact ⟨z, its, n, r, r.length, e⟩
theorem notLongL {n : Nat} (h : n ≤ sizeLine) : Builtin.List.listTooLong n = false := by
  unfold Builtin.List.listTooLong
  exact decide_eq_false (by omega)
end
section
variable {X : Cx}
def rAppend : V → List V → Hp → VK → Prop := fun x vs H Q => ∃ l xs y, x = .ref l ∧ vs = [y] ∧ H l = some (.lst xs) ∧ xs.length < sizeLine ∧ Q .non (upd H l (.lst (xs ++ [y])))
theorem mt_append : MtM X "list.append" rAppend := by
  intro pins s σ H x vs v us Q I rx rv h
  obtain ⟨l, xs, y, rfl, rfl, hH, hz, q⟩ := h
  cases rx
  obtain ⟨u, rfl, ru⟩ := rv.one
  obtain ⟨z, its, n, r, hl, e⟩ := I.lstM hH
  refine call_meets F.slot_list_append ⟨_, e, rfl⟩ F.entry_list_append (F.args_list_append_2 _ _) (PySem.list_append l its.toArray n u (by rw [List.size_toArray]; omega)) ⟨e, ?_⟩
  refine ⟨.non, _, I.lset (its' := its ++ [u]) hH e (by simp) (r.append (.cons ru .nil)) ?_, rfl, q⟩
  rw [List.length_append, List.length_singleton]
  omega
theorem len_rep {α : Type} (xs : List α) (k : Nat) : (List.replicate k xs).flatten.length = k * xs.length := by
  induction k with
  | zero => simp
  | succ k ih => rw [List.replicate_succ, List.flatten_cons, List.length_append, ih, Nat.succ_mul, Nat.add_comm]
end
section
variable {prog : Program} {w : World} {A : Around} {E : Value → Shared → Prop} {s : Shared}
end
section
variable {X : Cx}
end
end L2
namespace L2
open PySem PySem.Spec PyProof.Rows
theorem vals_of_ints : ∀ {us : List Value} {ns : List Int}, IntsAre us ns → Vals (ns.map V.int) us
  | _, _, .nil => by rw [List.map_nil]; exact Paired.nil
  | _, _, .cons n t h => by rw [List.map_cons]; exact Paired.cons (show RelV (V.int n) (Value.int n t) from ⟨t, rfl⟩) (vals_of_ints h)
theorem Vals.ref1 {a : Addr} {us : List Value} (r : Vals [V.ref a] us) : us = [Value.ref a] := by
  cases r with
  | cons r t =>
    cases t
    cases r
    rfl
section
variable {prog : Program} {w : World} {A : Around} {E : Value → Shared → Prop} {s : Shared} {l : Addr} {its : List Value} {ns : List Int} {Q : Value → Shared → Prop}
end
section
variable {X : Cx}
theorem small64 {n : Nat} (h : n < 64) : n ≤ sizeLine := by rw [sizeLine_eq]; omega
end
section
variable {X : Cx}
end
section
variable {X : Cx}
end
section
variable {X : Cx}
end
mutual
inductive Dp (K : PySem.W.Frag) (H : Hp) : V → PyData → Prop
  | non : Dp K H .non .none
  | bl (b : Bool) : Dp K H (.bl b) (.bool b)
  | int (i : Int) : Dp K H (.int i) (.int i)
  | str (x : Str) : Dp K H (.str x) (.str x)
  | lst {a : Addr} {xs : List V} {ds : List PyData} : SqL K H a xs → DpAll K H xs ds → Dp K H (.ref a) (.list ds)
  | tup {a : Addr} {xs : List V} {ds : List PyData} : SqT K H a xs → DpAll K H xs ds → Dp K H (.ref a) (.tuple ds)
inductive DpAll (K : PySem.W.Frag) (H : Hp) : List V → List PyData → Prop
  | nil : DpAll K H [] []
  | cons {v : V} {vs : List V} {d : PyData} {ds : List PyData} : Dp K H v d → DpAll K H vs ds → DpAll K H (v :: vs) (d :: ds)
end
section
variable {X : Cx} {pins : List (Addr × Obj)} {σ : St} {H : Hp} {s : Shared}
mutual
theorem Dp.reads (I : Inv X pins σ H s) : ∀ (d : PyData) (v : V) (u : Value), Dp X.K H v d → RelV v u → ∃ as, Reads s.heap u d as
  | .none, _, _, h, r => by
    cases h
    cases r
    exact ⟨_, Reads.none⟩
  | .bool b, _, _, h, r => by
    cases h
    cases r
    exact ⟨_, Reads.bool b⟩
  | .int i, _, _, h, r => by
    cases h
    obtain ⟨t, rfl⟩ := r
    exact ⟨_, Reads.int i t⟩
  | .str x, _, _, h, r => by
    cases h
    obtain ⟨t, rfl⟩ := r
    exact ⟨_, Reads.str x t⟩
  | .list ds, _, _, h, r => by
    cases h with
    | lst hs ha =>
      cases r
      obtain ⟨its, rv, ⟨o, n, ho, hc, _, hd⟩, _⟩ := I.list hs
      obtain ⟨as, hr⟩ := Dp.readsAll I ds _ its ha rv
      exact ⟨_, Reads.list ho hc hd hr⟩
  | .tuple ds, _, _, h, r => by
    cases h with
    | tup hs ha =>
      cases r
      obtain ⟨its, rv, ⟨o, ho, hc, n, hd⟩, _⟩ := I.tuple hs
      obtain ⟨as, hr⟩ := Dp.readsAll I ds _ its ha rv
      exact ⟨_, Reads.tuple ho hc hd hr⟩
  | .dict _, _, _, h, _ => by cases h
theorem Dp.readsAll (I : Inv X pins σ H s) : ∀ (ds : List PyData) (vs : List V) (us : List Value), DpAll X.K H vs ds → Vals vs us → ∃ as, ReadsAll s.heap us ds as
  | [], _, _, h, r => by
    cases h
    cases r
    exact ⟨_, ReadsAll.nil⟩
  | d :: ds, _, _, h, r => by
    cases h with
    | cons h1 h2 =>
      cases r with
      | cons r1 r2 =>
        obtain ⟨as, q1⟩ := Dp.reads I d _ _ h1 r1
        obtain ⟨bs, q2⟩ := Dp.readsAll I ds _ _ h2 r2
        exact ⟨_, ReadsAll.cons q1 q2⟩
end
end
section
variable {X : Cx}
def rEqD (K : PySem.W.Frag) : R2 := fun x y H Q => ∃ d e, Dp K H x d ∧ Dp K H y e ∧ SeqAt.shaped d = true ∧ SeqAt.shaped e = true ∧ Q (.bl (PyData.eqv d e)) H
def rNeD (K : PySem.W.Frag) : R2 := fun x y H Q => ∃ d e, Dp K H x d ∧ Dp K H y e ∧ SeqAt.shaped d = true ∧ SeqAt.shaped e = true ∧ Q (.bl (!PyData.eqv d e)) H
theorem op_eqD (hu : X.A.units + 64 < cLine) : OpR X (compareOp .Eq) (rEqD X.K) := by
  intro pins s σ H x y v u Q I rx ry h
  obtain ⟨d, e, hd, he, sd, se, q⟩ := h
  obtain ⟨as, r1⟩ := Dp.reads I d x v hd rx
  obtain ⟨bs, r2⟩ := Dp.reads I e y u he ry
  exact SeqAt.compareEq_shaped r1 r2 sd se hu ⟨.bl _, H, I, rfl, q⟩
theorem op_neD (hu : X.A.units + 64 < cLine) : OpR X (compareOp .NotEq) (rNeD X.K) := by
  intro pins s σ H x y v u Q I rx ry h
  obtain ⟨d, e, hd, he, sd, se, q⟩ := h
  obtain ⟨as, r1⟩ := Dp.reads I d x v hd rx
  obtain ⟨bs, r2⟩ := Dp.reads I e y u he ry
  exact SeqAt.compareNe_shaped r1 r2 sd se hu ⟨.bl _, H, I, rfl, q⟩
end
end L2
namespace L2
open PySem PySem.Spec PyProof.Rows
abbrev CellAt (h : Heap) (c : Addr) (v : Option Value) : Prop := h.IsCell c v
def relS (scope sc : Scope) : Scope :=
  { scope with names := scope.names.map fun (n, k) => if (k == .free && sc.kind == .function && sc.names.lookup n == some .cell) then (n, .cell) else (n, k) }
def cloFrom (cells : List (Str × Addr)) : List (Str × NameKind) → List (Str × Addr) → List (Str × Addr)
  | [], acc => acc
  | (n, k) :: r, acc => if k == .free then cloFrom cells r ((n, (cells.lookup n).getD 0) :: acc) else cloFrom cells r acc
theorem closure_loop (env : Env) (f : Str × NameKind → List (Str × Addr) → Sem (ForInStep (List (Str × Addr))))
    (hf : ∀ n k c, f (n, k) c = if k == .free then (do let a ← cellOf env n; pure (.yield ((n, a) :: c))) else pure (.yield c)) :
    ∀ (names : List (Str × NameKind)) (acc : List (Str × Addr)), (∀ y ∈ names, y.2 = .free → ∃ c, env.cells.lookup y.1 = some c) → forIn names acc f = pure (cloFrom env.cells names acc)
  | [], acc, _ => by rw [List.forIn_nil]; rfl
  | (n, k) :: r, acc, h => by
    rw [List.forIn_cons, hf]
    have ih := fun acc => closure_loop env f hf r acc fun y hy => h y (List.mem_cons_of_mem _ hy)
    unfold cloFrom
    by_cases hk : (k == NameKind.free) = true
    · rw [if_pos hk, if_pos hk]
      obtain ⟨c, hc⟩ := h (n, k) List.mem_cons_self (by simpa using hk)
      have e : cellOf env n = pure c := by unfold cellOf; rw [hc]
      rw [e]
      have e2 : (env.cells.lookup n).getD 0 = c := by rw [hc]; rfl
      rw [e2]
      exact ih _
    · rw [if_neg hk, if_neg hk]
      exact ih _
theorem closure_ok {scope : Scope} {env : Env} (h : ∀ y ∈ scope.names, y.2 = .free → ∃ c, env.cells.lookup y.1 = some c) : closureFor scope env = pure (cloFrom env.cells scope.names []) := by
  simp only [closureFor]
  rw [closure_loop env _ (fun n k c => rfl) scope.names [] h]
  rfl
theorem mem_lookup {α : Type} : ∀ {l : List (Str × α)} {n : Str} {c : α}, (n, c) ∈ l → ∃ c', l.lookup n = some c'
  | (k, v) :: r, n, c, h => by
    rw [List.lookup_cons]
    cases hb : n == k with
    | true => exact ⟨_, rfl⟩
    | false =>
      rcases List.mem_cons.mp h with e | h
      · cases e; simp at hb
      · exact mem_lookup h
theorem cloFrom_mem {cells : List (Str × Addr)} : ∀ {names : List (Str × NameKind)} {acc : List (Str × Addr)} {n : Str} {c : Addr}, (n, c) ∈ cloFrom cells names acc → (n, c) ∈ acc ∨ ((n, .free) ∈ names ∧ c = (cells.lookup n).getD 0)
  | [], _, _, _, h => .inl h
  | (m, k) :: r, acc, n, c, h => by
    unfold cloFrom at h
    split at h
    · rename_i hk
      have hk : k = .free := by simpa using hk
      rcases cloFrom_mem h with h | ⟨h1, h2⟩
      · rcases List.mem_cons.mp h with e | h
        · cases e; exact .inr ⟨hk ▸ List.mem_cons_self, rfl⟩
        · exact .inl h
      · exact .inr ⟨List.mem_cons_of_mem _ h1, h2⟩
    · rcases cloFrom_mem h with h | ⟨h1, h2⟩
      · exact .inl h
      · exact .inr ⟨List.mem_cons_of_mem _ h1, h2⟩
theorem cloFrom_acc {cells : List (Str × Addr)} : ∀ {names : List (Str × NameKind)} {acc : List (Str × Addr)} {p : Str × Addr}, p ∈ acc → p ∈ cloFrom cells names acc
  | [], _, _, h => h
  | (m, k) :: r, acc, p, h => by
    unfold cloFrom
    split
    · exact cloFrom_acc (List.mem_cons_of_mem _ h)
    · exact cloFrom_acc h
theorem cloFrom_has {cells : List (Str × Addr)} : ∀ {names : List (Str × NameKind)} {acc : List (Str × Addr)} {n : Str}, (n, .free) ∈ names → (n, (cells.lookup n).getD 0) ∈ cloFrom cells names acc
  | (m, k) :: r, acc, n, h => by
    unfold cloFrom
    rcases List.mem_cons.mp h with e | h
    · cases e
      exact cloFrom_acc List.mem_cons_self
    · split
      · exact cloFrom_has h
      · exact cloFrom_has h
theorem cells_mem : ∀ {names : List (Str × NameKind)} {h : Heap} {acc : List (Str × Addr)} {x : Str} {c : Addr}, (x, c) ∈ cellsFrom h.objs.size names acc →
    (x, c) ∈ acc ∨ ((x, .cell) ∈ names ∧ h.objs.size ≤ c ∧ CellAt (pushCells h names) c none)
  | [], _, _, _, _, h => .inl h
  | (n, k) :: r, h, acc, x, c, hm => by
    unfold cellsFrom at hm
    unfold pushCells
    split at hm
    · rename_i hk
      rw [if_pos hk]
      have hk : k = .cell := by simpa using hk
      rw [← Heap.size_push h { cls := .type "cell", data := .cell none }] at hm
      rcases cells_mem hm with hm | ⟨h1, h2, h3⟩
      · rcases List.mem_cons.mp hm with e | hm
        · cases e
          exact .inr ⟨hk ▸ List.mem_cons_self, Nat.le_refl _, _, pushCells_keeps r _ _ _ (Heap.get?_push_size _ rfl), rfl⟩
        · exact .inl hm
      · rw [Heap.size_push] at h2
        exact .inr ⟨List.mem_cons_of_mem _ h1, Nat.le_of_succ_le h2, h3⟩
    · rename_i hk
      rw [if_neg hk]
      rcases cells_mem hm with hm | ⟨h1, h2, h3⟩
      · exact .inl hm
      · exact .inr ⟨List.mem_cons_of_mem _ h1, h2, h3⟩
theorem cells_acc : ∀ {names : List (Str × NameKind)} {n : Nat} {acc : List (Str × Addr)} {p : Str × Addr}, p ∈ acc → p ∈ cellsFrom n names acc
  | [], _, _, _, h => h
  | (m, k) :: r, n, acc, p, h => by
    unfold cellsFrom
    split
    · exact cells_acc (List.mem_cons_of_mem _ h)
    · exact cells_acc h
theorem cells_has : ∀ {names : List (Str × NameKind)} {n : Nat} {acc : List (Str × Addr)} {x : Str}, (x, .cell) ∈ names → ∃ c, (x, c) ∈ cellsFrom n names acc
  | (m, k) :: r, n, acc, x, h => by
    unfold cellsFrom
    rcases List.mem_cons.mp h with e | h
    · cases e
      exact ⟨n, cells_acc List.mem_cons_self⟩
    · split
      · exact cells_has h
      · exact cells_has h
theorem cells_inj : ∀ {names : List (Str × NameKind)} {h : Heap} {acc : List (Str × Addr)} {x y : Str} {c : Addr}, (∀ p ∈ acc, p.2 < h.objs.size) → (∀ x y c, (x, c) ∈ acc → (y, c) ∈ acc → x = y) →
    (x, c) ∈ cellsFrom h.objs.size names acc → (y, c) ∈ cellsFrom h.objs.size names acc → x = y
  | [], _, _, _, _, _, _, hi, h1, h2 => hi _ _ _ h1 h2
  | (n, k) :: r, h, acc, x, y, c, hl, hi, h1, h2 => by
    unfold cellsFrom at h1 h2
    split at h1
    · rename_i hk
      rw [if_pos hk] at h2
      rw [← Heap.size_push h { cls := .type "cell", data := .cell none }] at h1 h2
      refine cells_inj (h := h.push _) (fun p hp => ?_) (fun x y c a b => ?_) h1 h2
      · rw [Heap.size_push]
        rcases List.mem_cons.mp hp with rfl | hp
        · exact Nat.lt_succ_self _
        · exact Nat.lt_succ_of_lt (hl p hp)
      · rcases List.mem_cons.mp a with e | a <;> rcases List.mem_cons.mp b with e' | b
        · cases e; cases e'; rfl
        · cases e; exact absurd (hl _ b) (Nat.lt_irrefl _)
        · cases e'; exact absurd (hl _ a) (Nat.lt_irrefl _)
        · exact hi _ _ _ a b
    · rename_i hk
      rw [if_neg hk] at h2
      exact cells_inj hl hi h1 h2
theorem newEnv_comp {M : Model} {A : Around} {E : Value → Shared → Prop} {s : Shared} {scope : Scope} {globals : Addr} {closure : List (Str × Addr)} {qual : Str} {func : Option Addr} {code : Value} {around : Env} {builtins : Addr} {Q : Env → Shared → Prop}
    (h : Q (newEnv scope s.heap.objs.size globals (cellsFrom (s.heap.objs.size + 1) scope.names closure) qual func code (some around) builtins)
      { s with heap := pushCells (s.heap.push { cls := .type "dict", data := .dict #[] }) scope.names }) :
    wpAny M A (newFunctionEnv scope globals closure [] qual func code (some around) builtins) Q E s := by
  simp only [newFunctionEnv, Option.isSome_some, if_true]
  refine wpAny_bind (wpAny_alloc ?_)
  refine wpAny_bind (wpAny_layCells _ (fun n k c => rfl) scope.names closure _ _ ?_)
  rw [show ({ s with heap := s.heap.push { cls := .type "dict", data := .dict #[] } } : Shared).heap.objs.size = s.heap.objs.size + 1 from Heap.size_push ..]
  rw [List.forIn_nil]
  exact wpAny_bind (wpAny_pure (wpAny_pure h))
/-- every name of the written scope, in the scope that runs -/
theorem lookup_relS {sc : Scope} : ∀ {names : List (Str × NameKind)} {x : Str} {k : NameKind},
    (names.map fun (n, k) => if (k == NameKind.free && sc.kind == .function && sc.names.lookup n == some .cell) then (n, NameKind.cell) else (n, k)).lookup x = some k →
    ∃ k', names.lookup x = some k' ∧ (k = k' ∨ (k' = .free ∧ k = .cell))
  | [], _, _, h => by simp at h
  | (n, k₀) :: r, x, k, h => by
    have ih := @lookup_relS sc r x k
    have h' : List.lookup x ((if (k₀ == NameKind.free && sc.kind == .function && sc.names.lookup n == some .cell) = true then (n, NameKind.cell) else (n, k₀)) :: (r.map _)) = some k := h
    cases hx : x == n with
    | true =>
      simp only [List.lookup_cons, hx]
      by_cases hc : (k₀ == NameKind.free && sc.kind == .function && sc.names.lookup n == some .cell) = true
      · rw [if_pos hc] at h'
        simp only [List.lookup_cons, hx] at h'
        cases h'
        simp only [Bool.and_eq_true, beq_iff_eq] at hc
        exact ⟨k₀, rfl, .inr ⟨hc.1.1, rfl⟩⟩
      · rw [if_neg hc] at h'
        simp only [List.lookup_cons, hx] at h'
        cases h'
        exact ⟨_, rfl, .inl rfl⟩
    | false =>
      simp only [List.lookup_cons, hx]
      by_cases hc : (k₀ == NameKind.free && sc.kind == .function && sc.names.lookup n == some .cell) = true
      · rw [if_pos hc] at h'
        simp only [List.lookup_cons, hx] at h'
        exact ih h'
      · rw [if_neg hc] at h'
        simp only [List.lookup_cons, hx] at h'
        exact ih h'
/-- the names of a comprehension's block: its own (with their places in N), or captured -/
structure BlkOk (N : List Str) (sc scope : Scope) (own : List (Str × Nat)) : Prop where
  kind : scope.kind = .function
  uniq : ∀ y ∈ scope.names, scope.names.lookup y.1 = some y.2
  ix : ∀ p ∈ own, N[p.2]? = some p.1
  free : ∀ y ∈ scope.names, y.2 = .free → sc.names.lookup y.1 = some .cell ∨ sc.names.lookup y.1 = some .free
  own : ∀ y ∈ scope.names, y.2 = .local ∨ y.2 = .cell → y.1 ∈ own.map (·.1) ∨ y.1 ∉ N
/-- the slots of the block's own names forgotten -/
def wipe (σ : St) : List Nat → St
  | [] => σ
  | v :: vs => (wipe σ vs).set v none
theorem wipe_length (σ : St) : ∀ vs : List Nat, (wipe σ vs).length = σ.length
  | [] => rfl
  | v :: vs => by unfold wipe; rw [List.length_set, wipe_length σ vs]
theorem wipe_some {σ : St} {i : Nat} {x : V} : ∀ {vs : List Nat}, (wipe σ vs)[i]? = some (some x) → σ[i]? = some (some x) ∧ i ∉ vs
  | [], h => ⟨h, by simp⟩
  | v :: vs, h => by
    unfold wipe at h
    by_cases hi : v = i
    · subst hi
      by_cases hv : v < (wipe σ vs).length
      · rw [List.getElem?_set_self hv] at h; cases h
      · rw [List.getElem?_eq_none (by simpa using hv)] at h; cases h
    · rw [List.getElem?_set_ne hi] at h
      obtain ⟨h1, h2⟩ := wipe_some h
      exact ⟨h1, by simp only [List.mem_cons, not_or]; exact ⟨fun e => hi e.symm, h2⟩⟩
/-- the context of a block that starts at s, its iterator's objects at fp -/
abbrev Cx.blk (X : Cx) (s : Shared) (H : Hp) (scope : Scope) (cenv : Env) (fp : List Addr) : Cx := { X with s_0 := s, H_0 := H, env := cenv, outer := X.stack, ex := fp, fn := fun x => scope.names.lookup x == some .cell, pn := [], xe := fun _ _ => False }
section
variable {X : Cx} {pins : List (Addr × Obj)} {σ : St} {H : Hp} {s : Shared}
theorem block_start {scope : Scope} {own : List (Str × Nat)} {fp : List Addr} (I : Inv X pins σ H s) (ok : BlkOk X.N X.env.scope scope own) (hN : X.N.Nodup) (hfp : ∀ b ∈ fp, FpOk X pins H b ∧ b < s.heap.objs.size) :
    Inv (X.blk s H scope (compEnvC scope (cellsFrom (s.heap.objs.size + 1) scope.names (cloFrom X.env.cells scope.names [])) s.heap.objs.size X.env) fp) [] (wipe σ (own.map (·.2))) H { s with heap := pushCells (s.heap.push { cls := .type "dict", data := .dict #[] }) scope.names } := by
  have hfree : ∀ y ∈ scope.names, y.2 = .free → ∃ c, X.env.cells.lookup y.1 = some c := fun y hy e => by
    rcases ok.free y hy e with k | k
    · exact I.ok.has _ (.inl k)
    · exact I.ok.has _ (.inr k)
  generalize hcenv : compEnvC scope (cellsFrom (s.heap.objs.size + 1) scope.names (cloFrom X.env.cells scope.names [])) s.heap.objs.size X.env = cenv
  have kp : ∀ b o, s.heap.get? b = some o → (pushCells (s.heap.push { cls := .type "dict", data := .dict #[] }) scope.names).get? b = some o := fun b o e => pushCells_keeps _ _ _ _ (Heap.get?_push_of_some _ e)
  have hL : cenv.locals = s.heap.objs.size := by rw [← hcenv]; rfl
  have hcl : cenv.cells = cellsFrom (s.heap.objs.size + 1) scope.names (cloFrom X.env.cells scope.names []) := by rw [← hcenv]; rfl
  have hsc : cenv.scope = relS scope X.env.scope := by rw [← hcenv]; rfl
  rw [← Heap.size_push s.heap { cls := .type "dict", data := .dict #[] }] at hcl
  have cm : ∀ {y c}, (y, c) ∈ cloFrom X.env.cells scope.names [] → X.env.cells.lookup y = some c ∧ c < s.heap.objs.size := fun {y c} hm => by
    rcases cloFrom_mem hm with hm | ⟨h1, rfl⟩
    · cases hm
    · obtain ⟨c, hc⟩ := hfree _ h1 rfl
      rw [hc]
      obtain ⟨w, z⟩ := I.cell _ _ hc
      exact ⟨rfl, z.lt⟩
  have mem : ∀ {y c}, cenv.cells.lookup y = some c → (X.env.cells.lookup y = some c ∧ c < s.heap.objs.size) ∨ (s.heap.objs.size + 1 ≤ c ∧ CellAt (pushCells (s.heap.push { cls := .type "dict", data := .dict #[] }) scope.names) c none) := fun {y c} e => by
    rw [hcl] at e
    rcases cells_mem (PySem.mem_of_lookup e) with hm | ⟨_, h2, h3⟩
    · exact .inl (cm hm)
    · rw [Heap.size_push] at h2; exact .inr ⟨h2, h3⟩
  have look : ∀ {y}, scope.names.lookup y = some .free → ∃ c, cenv.cells.lookup y = some c ∧ X.env.cells.lookup y = some c := fun {y} hl => by
    have hy : (y, NameKind.free) ∈ scope.names := PySem.mem_of_lookup hl
    obtain ⟨c', e'⟩ := mem_lookup (cells_acc (names := scope.names) (n := (s.heap.push { cls := .type "dict", data := .dict #[] }).objs.size) (cloFrom_has (cells := X.env.cells) (acc := []) hy))
    rw [← hcl] at e'
    refine ⟨c', e', ?_⟩
    rw [hcl] at e'
    rcases cells_mem (PySem.mem_of_lookup e') with hm | ⟨h1, _, _⟩
    · exact (cm hm).1
    · have := ok.uniq _ h1
      rw [hl] at this; cases this
  have okB : (X.blk s H scope cenv fp).Ok := by
    refine ⟨I.ok.mod, by show cenv.scope.kind = _; rw [hsc]; exact ok.kind, by show cenv.globals = _; rw [← hcenv]; exact I.ok.glob, by show cenv.builtins = _; rw [← hcenv]; exact I.ok.blt, by show s.heap.objs.size ≤ cenv.locals; rw [hL]; exact Nat.le_refl _,
      fun y z c e1 e2 => ?_, fun y hy => ?_, fun y c z e => ?_, I.ok.hd, I.ok.frames, .inl rfl, fun b hb => ⟨?_, fun y c e z => ?_⟩, I.bs, Nat.le_trans I.ok.bsz I.sz, fun b o e hb => ?_, fun b hb z => ?_, I.stack, I.stkFree⟩
    · have e1 : cenv.cells.lookup y = some c := e1
      have e2 : cenv.cells.lookup z = some c := e2
      rw [hcl] at e1 e2
      refine cells_inj (fun p hp => ?_) (fun y z c a b => I.ok.inj y z c (cm a).1 (cm b).1) (PySem.mem_of_lookup e1) (PySem.mem_of_lookup e2)
      rw [Heap.size_push]
      exact Nat.lt_succ_of_lt (cm (y := p.1) (c := p.2) hp).2
    · show ∃ c, cenv.cells.lookup y = some c
      have key : ∀ k, cenv.kindOf y = some k → (k = .cell ∨ k = .free) → ∃ c, cenv.cells.lookup y = some c := fun k hk hk' => by
        unfold Env.kindOf at hk
        rw [hsc] at hk
        obtain ⟨k', e, r⟩ := lookup_relS hk
        have : k' = .cell ∨ k' = .free := by
          rcases r with rfl | ⟨rfl, _⟩
          · exact hk'
          · exact .inr rfl
        rcases this with rfl | rfl
        · obtain ⟨c, hm⟩ := cells_has (n := (s.heap.push { cls := .type "dict", data := .dict #[] }).objs.size) (acc := cloFrom X.env.cells scope.names []) (PySem.mem_of_lookup e)
          obtain ⟨c', e'⟩ := mem_lookup hm
          exact ⟨c', by rw [hcl]; exact e'⟩
        · obtain ⟨c, h1, _⟩ := look e
          exact ⟨c, h1⟩
      rcases hy with hy | hy
      · exact key _ hy (.inl rfl)
      · exact key _ hy (.inr rfl)
    · have z : (scope.names.lookup y == some NameKind.cell) = true := z
      have z : scope.names.lookup y = some .cell := by simpa using z
      have e : cenv.cells.lookup y = some c := e
      rw [hcl] at e
      rcases cells_mem (PySem.mem_of_lookup e) with hm | ⟨_, h2, _⟩
      · rcases cloFrom_mem hm with hm | ⟨h1, _⟩
        · cases hm
        · have q := ok.uniq _ h1
          rw [z] at q; cases q
      · rw [Heap.size_push] at h2
        exact Nat.le_of_succ_le h2
    · show b ≠ cenv.locals
      rw [hL]; exact Nat.ne_of_lt (hfp b hb).2
    · have e : cenv.cells.lookup y = some c := e
      rcases mem e with ⟨h1, _⟩ | ⟨h1, _⟩
      · exact (hfp b hb).1.2.2.2.2.1 y c h1 z
      · have h2 : s.heap.objs.size + 1 ≤ b := by rw [← z]; exact h1
        exact absurd (Nat.lt_of_lt_of_le (hfp b hb).2 (Nat.le_of_succ_le h2)) (Nat.lt_irrefl _)
    · rcases (hfp b hb).1.2.2.2.1 with z | z
      · exact I.ok.noex b o e z
      · exact absurd (Nat.lt_of_lt_of_le (Heap.lt_size e) (Nat.le_trans I.ok.bsz z)) (Nat.lt_irrefl _)
    · rcases List.mem_cons.mp (I.stkSub b z) with z | z
      · exact (hfp b hb).1.2.1 z
      · exact (hfp b hb).1.2.2.1 z
  refine ⟨okB, rfl, I.bare, Un.kept kp, ⟨fun _ => none, ?_, fun i y av e1 e2 e3 => ?_⟩, fun y c e => ?_, ?_, fun y c e => ?_, fun p hp => ?_, I.hok.kept kp, by rw [wipe_length]; exact I.len⟩
  · show Heap.Ns _ cenv.locals _
    rw [hL]
    exact Heap.Ns.keeps (Heap.Ns.new ..) fun b o e => pushCells_keeps _ _ _ _ e
  · obtain ⟨e2, hne⟩ := wipe_some e2
    have hfr : scope.names.lookup y = some .free ∧ (cenv.kindOf y = some .cell ∨ cenv.kindOf y = some .free) := by
      have key : ∀ k, cenv.scope.names.lookup y = some k → k = .local ∨ k = .cell ∨ k = .free → scope.names.lookup y = some .free ∧ (cenv.kindOf y = some .cell ∨ cenv.kindOf y = some .free) := fun k hk hk' => by
        have hk0 := hk
        rw [hsc] at hk
        obtain ⟨k', e, r⟩ := lookup_relS hk
        have no : ¬ (k' = .local ∨ k' = .cell) := fun hh => by
          rcases ok.own _ (PySem.mem_of_lookup e) hh with e' | e'
          · obtain ⟨p, hp, hpy⟩ := List.mem_map.mp e'
            have e3 := ok.ix p hp
            have : p.1 = y := hpy
            rw [this] at e3
            exact hne (List.mem_map.mpr ⟨p, hp, nodup_ix hN e3 e1⟩)
          · exact e' (List.mem_of_getElem? e1)
        rcases r with rfl | ⟨rfl, rfl⟩
        · rcases hk' with rfl | rfl | rfl
          · exact absurd (.inl rfl) no
          · exact absurd (.inr rfl) no
          · exact ⟨e, .inr hk0⟩
        · exact ⟨e, .inl hk0⟩
      have e3 : Vis cenv.scope y := e3
      rcases e3 with e3 | e3 | e3
      · exact key _ e3 (.inl rfl)
      · exact key _ e3 (.inr (.inl rfl))
      · exact key _ e3 (.inr (.inr rfl))
    obtain ⟨m, hn, hl⟩ := I.loc
    have hvis : Vis X.env.scope y := (ok.free _ (PySem.mem_of_lookup hfr.1) rfl).elim (fun k => .inr (.inl k)) (fun k => .inr (.inr k))
    obtain ⟨w, r, q⟩ := hl i y av e1 e2 hvis
    refine ⟨w, r, .inr ⟨hfr.2, ?_⟩⟩
    obtain ⟨c, h1, h2⟩ := look hfr.1
    rcases q with ⟨k, _⟩ | ⟨_, c', e', z⟩
    · have k : X.env.scope.names.lookup y = some .local := k
      rcases ok.free _ (PySem.mem_of_lookup hfr.1) rfl with k' | k' <;> rw [show X.env.scope.names.lookup y = _ from k'] at k <;> cases k
    · rw [h2] at e'; cases e'
      exact ⟨c, h1, z.keeps kp⟩
  · have e : cenv.cells.lookup y = some c := e
    rcases mem e with ⟨h1, _⟩ | ⟨_, z⟩
    · obtain ⟨w, z⟩ := I.cell y c h1
      exact ⟨w, z.keeps kp⟩
    · exact ⟨_, z⟩
  · show H cenv.locals = none
    rw [hL]; exact I.hok.fresh (Nat.le_refl _)
  · have e : cenv.cells.lookup y = some c := e
    rcases mem e with ⟨h1, _⟩ | ⟨h1, _⟩
    · exact I.freeC y c h1
    · exact I.hok.fresh (Nat.le_of_succ_le h1)
  · exact absurd (show p ∈ ([] : List (Addr × Obj)) ++ [] from hp) (by simp)
/-- an item appended to a tracked list -/
theorem app_ok {E : Value → Shared → Prop} {D : Addr} {xs : List V} {y : V} {v : Value} {Q : Value → Shared → Prop} (I : Inv X pins σ H s) (hD : H D = some (.lst xs)) (hz : xs.length < sizeLine) (r : RelV y v)
    (h : ∀ s', Inv X pins σ (upd H D (.lst (xs ++ [y]))) s' → Q .none s') : wpAny (model X.prog X.w) X.A (call (.builtin "list.append") [.ref D, v]) Q E s := by
  obtain ⟨hz', its, n, ri, e⟩ := I.hok D _ hD
  have hl := ri.length
  refine append_at (hsz := by rw [List.size_toArray]; omega) e fun h' sb ho' => ?_
  refine h { s with heap := h' } (I.write (t' := s.toks) (by rw [hD]; trivial) (.inl rfl) (fun b u hb q => (sb.2 b hb).trans q) ⟨_, ho'⟩ ⟨by rw [List.length_append]; exact hz, its ++ [v], n + 1, ri.append (.cons r .nil), ?_⟩)
  rw [ho']
  simp
/-- a clause's tests -/
def PTs (X : Cx) (ifs : List Expr) (t : TT) : Prop :=
  ∀ (pins : List (Addr × Obj)) (s : Shared) (σ : St) (H : Hp) (Q : Bool → Hp → Prop), Inv X pins σ H s → t σ H Q →
    wpAny (model X.prog X.w) X.A (forIn ifs true fun c r => if r = true then do let ok ← isTrue c X.env (eval c X.env); pure (ForInStep.yield ok) else pure (ForInStep.yield r)) (TP X pins σ Q) X.xe s
def tYes : TT := fun _ H Q => Q true H
theorem pts_nil : PTs X [] tYes := fun _ _ _ H _ I h => wpAny_tests_nil ⟨H, I, h⟩
end
theorem thnF {α : Type} {t : Sem α} {Q Q' : α → Shared → Prop} {M : Model} {A : Around} {E : Value → Shared → Prop} {s : Shared} (h : wpAny M A t Q (fun _ _ => False) s) (hQ : ∀ a s, Q a s → Q' a s) : wpAny M A t Q' E s := wpAny_mono h hQ fun _ _ z => False.elim z
/-- the loop of a list comprehension's block, the target of any form (codeAny_compLoop_tests asks a target that no tuple goes to; statement and proof follow it, PyProof/CompMap.lean:41-61, with the step letOwnedTupleGo kept) -/
theorem compLoop_any {prog : Program} {w : World} {A : Around} {R : Result → Shared → Prop} {s : Shared} {elt target iter : Expr} {ifs : List Expr} {scope : Scope} {pos : Pos} {it acc : Value} {env : Env} (I : Nat → Shared → Prop)
    (turn : ∀ n s, I n s → wpAny (model prog w) A (pyNext it) (fun r s₁ => match r with
      | none => R (.ok .next) s₁
      | some v => wpAny (model prog w) A (letOwnedTupleGo target it v) (fun _ s₁' => wpAny (model prog w) A (assign target env v) (fun _ s₂ =>
          wpAny (model prog w) A (forIn ifs true fun c r => if r = true then do let ok ← isTrue c env (eval c env); pure (ForInStep.yield ok) else pure (ForInStep.yield r)) (fun ok s₃ =>
            if ok = true then wpAny (model prog w) A (eval elt env) (fun x s₄ =>
              wpAny (model prog w) A (call (.builtin "list.append") [acc, x]) (fun _ s₅ => ∃ m, m < n ∧ I m s₅) (notedBy (model prog w) A env fun e s' => R (.error e) s') s₄) (notedBy (model prog w) A env fun e s' => R (.error e) s') s₃
            else ∃ m, m < n ∧ I m s₃) (notedBy (model prog w) A env fun e s' => R (.error e) s') s₂) (notedBy (model prog w) A env fun e s' => R (.error e) s') s₁') (notedBy (model prog w) A env fun e s' => R (.error e) s') s₁) (notedBy (model prog w) A env fun e s' => R (.error e) s') s)
    (n : Nat) (h : I n s) :
    codeAny (model prog w) A (.compLoop (.ListComp elt [⟨target, iter, ifs, 0⟩] scope pos) 0 it acc env) R s := by
  refine codeAny_loop rfl I (fun n s hI => ?_) n h
  show wpAny _ A ((compTurn (.ListComp elt [⟨target, iter, ifs, 0⟩] scope pos) 0 it acc env).onRaise (fun x => do noteFrame x env; theTreesLotGoes x)) _ _ s
  refine wpAny_noted ?_
  rw [compTurn_list]
  refine wpAny_bind (wpAny_standAt (wpAny_bind (wpAny_mono (turn n s hI) (fun r s₁ h₁ => ?_) fun _ _ h' => h')))
  cases r with
  | none => exact wpAny_pure h₁
  | some v =>
    refine wpAny_bind (wpAny_mono h₁ (fun _ s₁' h₁' => ?_) fun _ _ h' => h')
    refine wpAny_bind (wpAny_mono h₁' (fun _ s₂ h₂ => wpAny_bind (wpAny_mono h₂ (fun ok s₃ h₃ => ?_) fun _ _ h' => h')) fun _ _ h' => h')
    cases ok with
    | false => exact wpAny_pure ⟨rfl, h₃⟩
    | true =>
      exact wpAny_bind (wpAny_bind (wpAny_mono h₃ (fun x s₄ h₄ => wpAny_bind (wpAny_mono h₄ (fun _ s₅ h₅ => wpAny_pure (wpAny_pure ⟨rfl, h₅⟩)) fun _ _ h' => h')) fun _ _ h' => h'))
section
variable {X : Cx}
/-- [elt for target in iter if ..]: D the new list; W by the turn and a measure, Nx what a turn is to reach -/
def tLc (wi : TI) (g : TG) (tt : TT) (te : TE) (vs : List Nat) : TE := fun σ H Q => wi σ H fun J H1 => ∀ D, H1 D = none → ∃ W : Nat → Nat → Hp → Prop, (∃ m, W 0 m (upd H1 D (.lst []))) ∧ ∀ i m H, W i m H →
  (J.stop i H ∧ Q (.ref D) H) ∨ (J.go i H ∧ ∃ Nx : Hp → Prop, (∀ H', Nx H' → ∃ m', m' < m ∧ W (i + 1) m' H') ∧ ∀ x H', J.yld i H x H' → g x (wipe σ vs) H' fun σ2 H2 => wipe σ2 vs = wipe σ vs ∧ tt σ2 H2 fun b H3 =>
    if b = true then te σ2 H3 fun y H4 => ∃ acc, H4 D = some (.lst acc) ∧ acc.length < sizeLine ∧ Nx (upd H4 D (.lst (acc ++ [y]))) else Nx H3)
theorem lc_core {pins : List (Addr × Obj)} {s : Shared} {σ : St} {H : Hp} {Q : VK} {elt tg iter : Expr} {ifs : List Expr} {scope : Scope} {own : List (Str × Nat)} {pos pos' : Pos} {wi : TI} {g : TG} {tt : TT} {te : TE} {use : Option (Value → Sem Unit)} {Qf : Value → Shared → Prop}
    (hc : X.calm = true) (hN : X.N.Nodup) (I : Inv X pins σ H s) (hi : PI X tg iter wi) (ok : BlkOk X.N X.env.scope scope own)
    (hg : ∀ (s : Shared) (H : Hp) (C : Addr) (cl : List (Str × Addr)) (fp : List Addr), PG (X.blk s H scope (compEnvC scope cl C X.env) fp) tg g) (ht : ∀ (s : Shared) (H : Hp) (C : Addr) (cl : List (Str × Addr)) (fp : List Addr), PTs (X.blk s H scope (compEnvC scope cl C X.env) fp) ifs tt)
    (he : ∀ (s : Shared) (H : Hp) (C : Addr) (cl : List (Str × Addr)) (fp : List Addr), PE (X.blk s H scope (compEnvC scope cl C X.env) fp) elt te) (hs : ∀ x, foldedSetIterable iter X.env x = pure x)
    (h : tLc wi g tt te (own.map (·.2)) σ H Q)
    (hRR : ∀ D C s' m H', Inv X pins σ H' s' → Q (.ref D) H' → s'.heap.Ns C m → FpOk X pins H' C → compPost (model X.prog X.w) X.A X.xe use Qf (.ref D) C (.ok .next) s') :
    wpAny (model X.prog X.w) X.A (comprehension (.ListComp elt [⟨tg, iter, ifs, 0⟩] scope pos) scope X.env pos' (newList []) false (eval iter X.env) use) Qf X.xe s := by
  have hfree : ∀ y ∈ scope.names, y.2 = .free → ∃ c, X.env.cells.lookup y.1 = some c := fun y hy e => by
    rcases ok.free y hy e with k | k
    · exact I.ok.has _ (.inl k)
    · exact I.ok.has _ (.inr k)
  refine wpAny_comprehension_free (use := use) rfl hs (closure_ok hfree) ok.kind (fun y hy e => by rw [ok.uniq y hy, e])
    (thn (hi pins s σ H _ I h) fun xv s1 hx => thn hx fun itv s2 h2 => ?_)
  obtain ⟨it, fp, tn, J, H2, e, I2, T, st2, f2, q⟩ := h2
  subst e
  refine wpAny_newObj_type (newEnv_comp ?_) (by show 0 ≤ sizeLine; decide)
  generalize hD : s2.heap.objs.size = D
  have hDn : H2 D = none := I2.hok.fresh (Nat.le_of_eq hD)
  obtain ⟨W, ⟨m0, w0⟩, turn⟩ := q D hDn
  generalize hs3 : ({ s2 with heap := s2.heap.push { cls := .type "list", data := .seq ([] : List Value).toArray } } : Shared) = s3
  have I3 : Inv X pins σ (upd H2 D (.lst [])) s3 := by
    rw [← hs3]
    refine I2.laid (t' := s2.toks) (fun b o e => Heap.get?_push_of_some _ e) (Nat.le_of_eq hD) ⟨Nat.zero_le _, [], 0, .nil, ?_⟩
    rw [← hD]
    exact Heap.get?_push_size _ rfl
  have h3 : s3.heap = s2.heap.push { cls := .type "list", data := .seq ([] : List Value).toArray } := by rw [← hs3]
  have sz : ∀ b ∈ fp, b < s2.heap.objs.size := fun b hb => by
    obtain ⟨o, e, _⟩ := T.obj _ _ st2 b hb
    exact Heap.lt_size e
  have f3 : ∀ b ∈ fp, FpOk X pins (upd H2 D (.lst [])) b ∧ b < s3.heap.objs.size := fun b hb => by
    have hlt := sz b hb
    refine ⟨⟨?_, (f2 b hb).2⟩, by rw [h3, Heap.size_push]; exact Nat.lt_succ_of_lt hlt⟩
    rw [upd_ne (by rw [← hD]; exact Nat.ne_of_lt hlt)]
    exact (f2 b hb).1
  have st3 : tn 0 s3.heap := T.keep _ _ _ st2 fun b _ o e => by rw [h3]; exact Heap.get?_push_of_some _ e
  have I4 := block_start I3 ok hN f3
  have pg := hg s3 (upd H2 D (.lst [])) s3.heap.objs.size (cellsFrom (s3.heap.objs.size + 1) scope.names (cloFrom X.env.cells scope.names [])) fp
  have pt := ht s3 (upd H2 D (.lst [])) s3.heap.objs.size (cellsFrom (s3.heap.objs.size + 1) scope.names (cloFrom X.env.cells scope.names [])) fp
  have pe := he s3 (upd H2 D (.lst [])) s3.heap.objs.size (cellsFrom (s3.heap.objs.size + 1) scope.names (cloFrom X.env.cells scope.names [])) fp
  show codeAny _ _ (.compStart (.ListComp elt [⟨tg, iter, ifs, 0⟩] scope pos) 0 (.ref it) (.ref D) (compEnvC scope (cellsFrom (s3.heap.objs.size + 1) scope.names (cloFrom X.env.cells scope.names [])) s3.heap.objs.size X.env)) (compPost (model X.prog X.w) X.A X.xe use Qf (.ref D) s3.heap.objs.size) { s3 with heap := pushCells (s3.heap.push { cls := .type "dict", data := .dict #[] }) scope.names }
  have nfp : ∀ b ∈ fp, (upd H2 D (.lst [])) b = none := fun b hb => (f3 b hb).1.1
  generalize hce : compEnvC scope (cellsFrom (s3.heap.objs.size + 1) scope.names (cloFrom X.env.cells scope.names [])) s3.heap.objs.size X.env = ce at I4 pg pt pe ⊢
  have cL : ce.locals = s3.heap.objs.size := by subst hce; rfl
  generalize hH3 : upd H2 D (.lst []) = H3 at I3 I4 pg pt pe w0 nfp f3
  generalize hs4 : ({ s3 with heap := pushCells (s3.heap.push { cls := .type "dict", data := .dict #[] }) scope.names } : Shared) = s4 at I4 ⊢
  have st4 : tn 0 s4.heap := T.keep _ _ _ st3 fun b _ o e => by rw [← hs4]; exact pushCells_keeps _ _ _ _ (Heap.get?_push_of_some _ e)
  have stat : ∀ {σ' : St} {H' : Hp} {s' : Shared}, Inv (X.blk s3 H3 scope ce fp) [] σ' H' s' → (∀ b ∈ fp, H' b = none) → ∀ b ∈ fp, FpOk (X.blk s3 H3 scope ce fp) [] H' b := fun {σ' H' s'} I' hn b hb =>
    ⟨hn b hb, (I'.ok.exf b hb).1, I'.ok.exfs b hb, .inl hb, fun x c e => (I'.ok.exf b hb).2 x c e, fun p hp => absurd (show p ∈ ([] : List (Addr × Obj)) ++ [] from hp) (by simp)⟩
  have loop : codeAny (model X.prog X.w) X.A (.compLoop (.ListComp elt [⟨tg, iter, ifs, 0⟩] scope pos) 0 (.ref it) (.ref D) ce) (compPost (model X.prog X.w) X.A X.xe use Qf (.ref D) s3.heap.objs.size) s4 := by
    refine compLoop_any (fun n s' => ∃ i H', Inv (X.blk s3 H3 scope ce fp) [] (wipe σ (own.map (·.2))) H' s' ∧ tn i s'.heap ∧ (∀ b ∈ fp, H' b = none) ∧ W i n H') ?_ m0 ⟨0, H3, I4, st4, nfp, w0⟩
    rintro n s5 ⟨i, H5, I5, st5, n5, w5⟩
    rcases turn i n H5 w5 with ⟨stop, qq⟩ | ⟨go, Nx, hNx, step⟩
    · have td := T.done (X.blk s3 H3 scope ce fp) rfl rfl rfl hc i [] s5 _ H5 (fun _ _ => False) I5 (stat I5 n5) st5 stop
      refine thnF td fun r s6 ⟨hr, I6⟩ => ?_
      subst hr
      have I7 : Inv X pins σ H5 s6 := I3.call' (ch := fp) I6.os I6.base I6.hok I6.bare fun b hb => ⟨(f3 b hb).1.2.2.2.1, (f3 b hb).1.2.1, (f3 b hb).1.2.2.2.2.1, (f3 b hb).1.2.2.2.2.2⟩
      have nC : H5 s3.heap.objs.size = none := by
        have z : H5 ce.locals = none := I6.free
        rw [cL] at z
        exact z
      obtain ⟨m, hn, _⟩ := I6.loc
      have hn : s6.heap.Ns ce.locals m := hn
      rw [cL] at hn
      exact hRR D s3.heap.objs.size s6 m H5 I7 qq hn (I3.fpOk (Nat.le_refl _) nC)
    · have ti := T.item (X.blk s3 H3 scope ce fp) rfl rfl rfl hc i [] s5 _ H5 (fun _ _ => False) I5 (stat I5 n5) st5 go
      refine thnF ti fun r s6 ⟨u, hr, h6⟩ => ?_
      subst hr
      refine thnF h6 fun _ s7 ⟨x, H7, I7, r7, y7, st7, n7⟩ => ?_
      have I7' := I7.pinned (stat I7 n7) (T.obj _ _ st7)
      refine thnF (pg _ s7 _ H7 x u _ I7' r7 (step x H7 y7)) fun _ s8 ⟨σ8, H8, I8, hw8, q8⟩ => ?_
      refine thnF (pt _ s8 σ8 H8 _ I8 q8) fun b s9 ⟨H9, I9, q9⟩ => ?_
      have fin : ∀ {s' : Shared} {H' : Hp}, Inv (X.blk s3 H3 scope ce fp) ([] ++ pinsAt fp s7.heap) σ8 H' s' → Nx H' → ∃ m, m < n ∧ ∃ i H', Inv (X.blk s3 H3 scope ce fp) [] (wipe σ (own.map (·.2))) H' s' ∧ tn i s'.heap ∧ (∀ b ∈ fp, H' b = none) ∧ W i m H' := fun {s' H'} I' nx => by
        obtain ⟨m', hm, w'⟩ := hNx H' nx
        have pin' : ∀ b ∈ fp, ∀ o, s7.heap.get? b = some o → s'.heap.get? b = some o ∧ H' b = none := fun b hb o e =>
          let z := I'.pin (b, o) (List.mem_append_right _ (List.mem_append_right _ (mem_pinsAt hb e)))
          ⟨z.1, z.2.1⟩
        have hl : (wipe σ (own.map (·.2))).length = σ8.length := by rw [← hw8, wipe_length]
        refine ⟨m', hm, i + 1, H', (I'.unpinned (pins := [])).weak hl (fun j v e => ?_), T.keep _ _ _ st7 fun b hb o e => (pin' b hb o e).1, fun b hb => ?_, w'⟩
        · rw [← hw8] at e
          exact (wipe_some e).1
        · obtain ⟨o, e, _⟩ := T.obj _ _ st7 b hb
          exact (pin' b hb o e).2
      cases b with
      | false =>
        simp only [Bool.false_eq_true, if_false] at q9 ⊢
        exact fin I9 q9
      | true =>
        simp only [if_true] at q9 ⊢
        refine thnF (pe _ s9 σ8 H9 _ I9 q9) fun z s10 ⟨yv, H10, I10, r10, acc, hD10, hz10, nx⟩ => ?_
        exact app_ok (X := X.blk s3 H3 scope ce fp) I10 hD10 hz10 r10 fun s11 I11 => fin I11 nx
  exact codeAny_compStart_list loop (T.self X.A 0 _ _ _ st4 loop)
/-- as a value -/
theorem pe_lc {elt tg iter : Expr} {ifs : List Expr} {scope : Scope} {own : List (Str × Nat)} {pos : Pos} {wi : TI} {g : TG} {tt : TT} {te : TE} (hc : X.calm = true) (hN : X.N.Nodup) (hi : PI X tg iter wi) (ok : BlkOk X.N X.env.scope scope own)
    (hg : ∀ (s : Shared) (H : Hp) (C : Addr) (cl : List (Str × Addr)) (fp : List Addr), PG (X.blk s H scope (compEnvC scope cl C X.env) fp) tg g) (ht : ∀ (s : Shared) (H : Hp) (C : Addr) (cl : List (Str × Addr)) (fp : List Addr), PTs (X.blk s H scope (compEnvC scope cl C X.env) fp) ifs tt)
    (he : ∀ (s : Shared) (H : Hp) (C : Addr) (cl : List (Str × Addr)) (fp : List Addr), PE (X.blk s H scope (compEnvC scope cl C X.env) fp) elt te) (hs : ∀ x, foldedSetIterable iter X.env x = pure x := by intro _; rfl) :
    PE X (.ListComp elt [⟨tg, iter, ifs, 0⟩] scope pos) (tLc wi g tt te (own.map (·.2))) := by
  intro pins s σ H Q I h
  rw [eval_ListComp]
  refine lc_core hc hN I hi ok hg ht he hs h fun D C s' m H' I' q hn f => ⟨m, hn, fun h'' sb => ?_⟩
  obtain ⟨f0, f1, f2, f3, f4, f5⟩ := f
  exact ⟨.ref D, H', I'.turned (t' := s'.toks) (fun b o hb e => (sb.2 b hb).trans e) f0 f1 f3 f4 f5, rfl, q⟩
/-- name = [..] on one line, the name a local -/
theorem ps_setLc {i : Nat} {y : Str} {py : Pos} {elt tg iter : Expr} {ifs : List Expr} {scope : Scope} {own : List (Str × Nat)} {pos spos : Pos} {wi : TI} {g : TG} {tt : TT} {te : TE} (hc : X.calm = true) (hN : X.N.Nodup) (hy : X.N[i]? = some y) (hyl : X.env.scope.names.lookup y = some .local)
    (hsw : swapsWith (.ListComp elt [⟨tg, iter, ifs, 0⟩] scope pos) (some (.Name y py)) spos.line X.env = pure true) (hi : PI X tg iter wi) (ok : BlkOk X.N X.env.scope scope own)
    (hg : ∀ (s : Shared) (H : Hp) (C : Addr) (cl : List (Str × Addr)) (fp : List Addr), PG (X.blk s H scope (compEnvC scope cl C X.env) fp) tg g) (ht : ∀ (s : Shared) (H : Hp) (C : Addr) (cl : List (Str × Addr)) (fp : List Addr), PTs (X.blk s H scope (compEnvC scope cl C X.env) fp) ifs tt)
    (he : ∀ (s : Shared) (H : Hp) (C : Addr) (cl : List (Str × Addr)) (fp : List Addr), PE (X.blk s H scope (compEnvC scope cl C X.env) fp) elt te) (hs : ∀ x, foldedSetIterable iter X.env x = pure x := by intro _; rfl) :
    PS X (.Assign [.Name y py] (.ListComp elt [⟨tg, iter, ifs, 0⟩] scope pos) spos) (tAsg (tLc wi g tt te (own.map (·.2))) (gName i)) := by
  intro pins s σ H D I h
  rw [exec_Assign_Name_used _ _ _ _ hsw]
  refine wpAny_bind (wpAny_standAt (wpAny_bind ?_))
  show wpAny _ X.A (do let _ ← comprehension (.ListComp elt [⟨tg, iter, ifs, 0⟩] scope pos) scope X.env (firstIterPos [⟨tg, iter, ifs, 0⟩] pos) (newList []) false (eval iter X.env) (some (assign (.Name y py) X.env))) _ _ s
  have h : tLc wi g tt te (own.map (·.2)) σ H (fun x H1 => gName i x σ H1 D.nx) := h
  refine wpAny_bind (thn (lc_core (Qf := fun _ s' => SP X pins D .next s') hc hN I hi ok hg ht he hs h fun L C s' m H' I' q hn f => ?_) fun _ s' hq => wpAny_pure (wpAny_pure hq))
  show wpAny _ _ (assign (.Name y py) X.env (.ref L)) _ _ _
  refine wpAny_assign_Name (store_ok2 (v := V.ref L) I' hN hy (.inl hyl) rfl (fun s2 I2 ⟨a, sb, ha⟩ => ?_) (.inr hyl))
  obtain ⟨f0, f1, f2, f3, f4, f5⟩ := f
  have haC : C ≠ a := by
    rcases ha with z | z
    · rw [z]; exact f1
    · exact fun e => f4 y a z e.symm
  refine ⟨m, hn.sameBut sb haC, fun h3 sb3 => ?_⟩
  exact ⟨_, H', I2.turned (t' := s2.toks) (fun b o hb e => (sb3.2 b hb).trans e) f0 f1 f3 f4 f5, q⟩
theorem sw_true {elt : Expr} {gs : List Comprehension} {scope : Scope} {pos py : Pos} {y : Str} {l : Nat} {env : Env} (hk : env.scope.kind = .function) (hy : env.scope.names.lookup y = some .local) (hl : (py.line == pos.line) = true)
    (ha : (scope.names.any fun (n, k) => n == y && (k == .local || k == .cell)) = false) : swapsWith (.ListComp elt gs scope pos) (some (.Name y py)) l env = pure true := by
  have ky : env.kindOf y = some .local := hy
  have hb : env.blockKind = .function := by unfold Env.blockKind; rw [hk]; rfl
  unfold swapsWith
  simp only [hb, ky, ha, Expr.pos, hl]
  rfl
end
def blkC (N : List Str) (sc scope : Scope) (own : List (Str × Nat)) : Bool :=
  (match scope.kind with | .function => true | _ => false) && (scope.names.all fun y => decide (scope.names.lookup y.1 = some y.2)) && (own.all fun p => decide (N[p.2]? = some p.1)) &&
    (scope.names.all fun y => match y.2 with
      | .free => (match sc.names.lookup y.1 with | some .cell => true | some .free => true | _ => false)
      | .local => decide (y.1 ∈ own.map (·.1)) || decide (y.1 ∉ N)
      | .cell => decide (y.1 ∈ own.map (·.1)) || decide (y.1 ∉ N)
      | _ => true)
theorem blkOk_by {N : List Str} {sc scope : Scope} {own : List (Str × Nat)} (h : blkC N sc scope own = true) : BlkOk N sc scope own := by
  unfold blkC at h
  simp only [Bool.and_eq_true, List.all_eq_true, decide_eq_true_eq] at h
  obtain ⟨⟨⟨h1, h2⟩, h3⟩, h4⟩ := h
  refine ⟨?_, h2, h3, fun y hy e => ?_, fun y hy e => ?_⟩
  · split at h1
    · assumption
    · cases h1
  · have q := h4 y hy
    simp only [e] at q
    split at q <;> first | exact .inl (by assumption) | exact .inr (by assumption) | cases q
  · have q := h4 y hy
    rcases e with e | e <;> (simp only [e, Bool.or_eq_true, decide_eq_true_eq] at q; exact q)
end L2
namespace L2
open PySem PySem.Spec PyProof.Rows
theorem compTurn2_out (elt t0 i0 t1 i1 : Expr) (ifs0 ifs1 : List Expr) (scope : Scope) (pos : Pos) (it acc : Value) (env : Env) :
    compTurn (.ListComp elt [⟨t0, i0, ifs0, 0⟩, ⟨t1, i1, ifs1, 0⟩] scope pos) 0 it acc env = (do
      standAt i0.pos
      match ← pyNext it with
      | none => pure (.done .next)
      | some v =>
        letOwnedTupleGo t0 it v
        assign t0 env v
        let mut ok := true
        for c in ifs0 do
          if ok then ok ← isTrue c env (eval c env)
        if ok then
          let x ← eval i1 env
          standAt i1.pos
          let x ← foldedSetIterable i1 env x
          let _ ← runOwn (.compStart (.ListComp elt [⟨t0, i0, ifs0, 0⟩, ⟨t1, i1, ifs1, 0⟩] scope pos) 1 (← holding [x] (pyIter x)) acc env) env
        again (.compLoop (.ListComp elt [⟨t0, i0, ifs0, 0⟩, ⟨t1, i1, ifs1, 0⟩] scope pos) 0 it acc env)) := by rfl
theorem compTurn2_in (elt t0 i0 t1 i1 : Expr) (ifs0 ifs1 : List Expr) (scope : Scope) (pos : Pos) (it acc : Value) (env : Env) :
    compTurn (.ListComp elt [⟨t0, i0, ifs0, 0⟩, ⟨t1, i1, ifs1, 0⟩] scope pos) 1 it acc env = (do
      standAt i1.pos
      match ← pyNext it with
      | none => pure (.done .next)
      | some v =>
        letOwnedTupleGo t1 it v
        assign t1 env v
        let mut ok := true
        for c in ifs1 do
          if ok then ok ← isTrue c env (eval c env)
        if ok then
          (do let _ ← call (.builtin "list.append") [acc, ← eval elt env])
        again (.compLoop (.ListComp elt [⟨t0, i0, ifs0, 0⟩, ⟨t1, i1, ifs1, 0⟩] scope pos) 1 it acc env)) := by rfl
section
variable {prog : Program} {w : World} {A : Around} {R : Result → Shared → Prop} {s : Shared} {elt t0 i0 t1 i1 : Expr} {ifs0 ifs1 : List Expr} {scope : Scope} {pos : Pos} {it acc : Value} {env : Env}
end
section
variable {X : Cx}
end
end L2
namespace L2
open PySem PySem.Spec PyProof.Rows
section
variable {κ : Type} [DecidableEq κ]
end
theorem kV_is {P : Program} {w : World} {k : Key} {u : Value} (r : RelV (kV k) u) : (mixKind P w).is k u = true := by
  cases k with
  | inl i => obtain ⟨t, e⟩ := (show ∃ t, u = Value.int i t from r); subst e; exact mixKind_int P w i t
  | inr x => obtain ⟨t, e⟩ := (show ∃ t, u = Value.str x t from r); subst e; exact mixKind_str P w x t
section
variable {P : Program} {w : World} {H : Hp} {h : Heap} {a : Addr}
end
section
variable {X : Cx} {pins : List (Addr × Obj)} {σ : St} {H : Hp} {s : Shared} {a : Addr} {y v : V} {u r : Value} {o : Option V} {A : Around} {E : Value → Shared → Prop}
end
section
variable {X : Cx} {pins : List (Addr × Obj)} {σ : St} {H : Hp} {s : Shared} {a : Addr} {kvs : List (Key × V)} {k : Key} {u : Value} {A : Around} {E : Value → Shared → Prop}
end
section
variable {X : Cx} {o i e value : Expr} {pos pos' tpos : Pos} {td ty tv : TE}
end
section
variable {X : Cx} {pos : Pos}
end
section
variable {X : Cx} {pins : List (Addr × Obj)} {σ : St} {H : Hp} {s : Shared} {a : Addr} {y d : V} {u r : Value} {o : Option V} {A : Around} {E : Value → Shared → Prop}
end
section
variable {X : Cx} {o e f : Expr} {apos cpos : Pos} {td ty tx : TE}
end
section
variable {X : Cx} {pins : List (Addr × Obj)} {σ : St} {H : Hp} {s : Shared} {a : Addr} {kvs : List (Key × V)} {A : Around} {E : Value → Shared → Prop}
end
section
variable {X : Cx} {pins : List (Addr × Obj)} {σ : St} {H : Hp} {s : Shared} {a : Addr} {y : V} {u : Value} {A : Around} {E : Value → Shared → Prop}
end
end L2
namespace L2
open PySem PySem.Spec PyProof.Rows
theorem ud_entry : entryFor table "dict.update.loop" = some Builtin.«dict.update.loop» := entryFor_of_tree (by kernel_rfl)
theorem ud_plain : plainId "dict.update.loop" = true := by decide +kernel
section
variable {prog : Program} {w : World} {A : Around} {E : Value → Shared → Prop}
/-- the walk over the pairs -/
theorem upd_loop {R : Result → Shared → Prop} {S I l : Addr} {items : Array Value} {res : Value} (hh : A.handled = none) (hlI : l ≠ I) (hSI : S ≠ I) (hSl : S ≠ l) :
    ∀ (rest : List (Key × Value)) (i : Nat) (acc : List (Key × Value)) (ix : Int) (t : Tok) (s : Shared), items.size = i + rest.length → acc.length + rest.length ≤ sizeLine →
      (∀ (j : Nat) (q : Key × Value), rest[j]? = some q → ∃ (b : Addr) (u : Value), items[i + j]? = some (.ref b) ∧ b ≠ S ∧ b ≠ I ∧ IsTup s.heap b #[u, q.2] ∧ keyIs q.1 u = true) →
      s.heap.IsListIter I l i → s.heap.IsList l items → s.heap.DictOf (mixKind prog w) S acc →
      (∀ h' tk, h'.DictOf (mixKind prog w) S (merged acc rest) → (∀ b o, b ≠ S → b ≠ I → s.heap.get? b = some o → h'.get? b = some o) → R (.ok (.ret res)) { s with heap := h', toks := tk }) →
      codeAny (model prog w) A (.builtin "dict.update.loop" ⟨[.ref S, .ref I, .int ix t, res], []⟩) R s
  | [], i, acc, ix, t, s, hsz, hln, ht, hit, hl, hm, hR => by
    refine codeAny_builtin ud_entry ?_
    rw [Around.under_plainId ud_plain _]
    show wpAny _ A.in1 (pyNext (.ref I) >>= _) _ _ s
    refine wpAny_bind (wpAny_pyNext_list_end (A := A.in1) hh hit hl (by first | exact Array.getElem?_eq_none (Nat.le_of_eq hsz) | (simp at hsz; simp; omega)) fun h' he => ?_)
    show wpAny _ A.in1 (Builtin.Dict.addKeywords S [] >>= _) _ _ _
    refine wpAny_bind (wpAny_pure (wpAny_pure ?_))
    exact hR h' s.toks (hm.extBut he hSI) fun b o _ hb e => he b o hb e
  | q :: rest, i, acc, ix, t, s, hsz, hln, ht, hit, hl, hm, hR => by
    obtain ⟨b, u, hb, hbS, hbI, htup, hk⟩ := ht 0 q rfl
    rw [List.length_cons] at hsz hln
    refine codeAny_builtin ud_entry ?_
    rw [Around.under_plainId ud_plain _]
    show wpAny _ A.in1 (pyNext (.ref I) >>= _) _ _ s
    refine wpAny_bind (wpAny_pyNext_list_item (x := .ref b) hit hl (by simpa using hb) fun h1 hit1 hs1 => ?_)
    have ht1 : IsTup h1 b #[u, q.2] := htup.extBut hs1.extBut hbI
    have hl1 : h1.IsList l items := hl.extBut hs1.extBut hlI
    have hm1 : h1.DictOf (mixKind prog w) S acc := hm.extBut hs1.extBut hSI
    obtain ⟨o, ho, hc, n, hd⟩ := id ht1
    show wpAny _ A.in1 (holding [Value.ref b] _ >>= _) _ _ _
    refine wpAny_bind (wpAny_holding ?_)
    refine wpAny_bind (wpAny_tryCatch ?_)
    unfold Builtin.Dict.pairItems
    refine wpAny_bind (wpAny_typeOf (T := "tuple") ⟨o, ho, hc⟩ ?_)
    rw [if_pos (by first | decide | rfl | simp)]
    refine wpAny_bind (wpAny_seqItems ho hd (wpAny_pure ?_))
    show wpAny _ A.in1 (holding [u, q.2] (dictSet S u q.2)) _ _ _
    refine wpAny_holding (wpAny_dictSet_pairs (knd := mixKind prog w) (k := q.1) hk hm1 (fun h2 hm2 hs2 => ?_) (by omega))
    refine wpAny_pure ⟨plainId_quiet ud_plain _, upd_loop (items := items) hh hlI hSI hSl rest (i + 1) (stored acc q.1 q.2) (ix + 1) 0 _ (show items.size = i + 1 + rest.length by omega) ?_ (fun j q' e => ?_) ?_ ?_ hm2 fun h' tk hd' k => ?_⟩
    · have z := stored_length_le acc q.1 q.2
      omega
    · obtain ⟨b', u', hb', hbS', hbI', htup', hk'⟩ := ht (j + 1) q' (by simpa using e)
      refine ⟨b', u', ?_, hbS', hbI', (htup'.extBut hs1.extBut hbI').extBut hs2.extBut hbS', hk'⟩
      rw [show i + 1 + j = i + (j + 1) by omega]
      exact hb'
    · exact hit1.at fun o' e => hs2.extBut I o' (Ne.symm hSI) e
    · exact hl1.extBut hs2.extBut (Ne.symm hSl)
    · exact hR h' tk hd' fun c oc h3 h4 e => k c oc h3 h4 (hs2.extBut c oc h3 (hs1.extBut c oc h4 e))
end
section
variable {X : Cx}
theorem pairs_of {pins : List (Addr × Obj)} {σ : St} {H : Hp} {s : Shared} (I : Inv X pins σ H s) : ∀ {ps : List Addr} {kvs : List (Key × V)}, Paired (fun p kv => SqT X.K H p [kV kv.1, kv.2]) ps kvs →
    ∃ prs : List (Key × Value), KV kvs prs ∧ prs.length = ps.length ∧ ∀ (j : Nat) (q : Key × Value), prs[j]? = some q → ∃ (b : Addr) (u : Value), ps[j]? = some b ∧ IsTup s.heap b #[u, q.2] ∧ keyIs q.1 u = true
  | _, _, .nil => ⟨[], .nil, rfl, fun j q e => by simp at e⟩
  | _, _, .cons (a := p) (b := kv) h t => by
    obtain ⟨prs, r, hl, hp⟩ := pairs_of I t
    obtain ⟨its, rv, ht, _⟩ := I.tuple h
    obtain ⟨u, y, ei, ru, ry⟩ := vals2 rv
    subst ei
    refine ⟨(kv.1, y) :: prs, .cons ⟨rfl, ry⟩ r, by rw [List.length_cons, List.length_cons, hl], fun j q e => ?_⟩
    cases j with
    | zero =>
      have e' : (kv.1, y) = q := Option.some.inj e
      subst e'
      exact ⟨p, u, rfl, ht, kV_is (P := X.prog) (w := X.w) ru⟩
    | succ j =>
      obtain ⟨b, u', e1, e2, e3⟩ := hp j q (by simpa using e)
      exact ⟨b, u', by simpa using e1, e2, e3⟩
end
end L2
namespace L2
open PySem PySem.Spec PyProof.Rows
section
variable {X : Cx} {pins : List (Addr × Obj)} {σ : St} {H : Hp} {s : Shared} {h' : Heap}
theorem Inv.lock {d : Addr} {u : HO} (I : Inv X pins σ H s) (h : H d = some u) (mu : Mut (some u)) : ∃ od, Inv X pins σ (upd H d (.frz od u)) s := by
  have x := I.hok d u h
  have ex : ∃ od, s.heap.get? d = some od := by
    cases u with
    | lst xs => obtain ⟨_, _, _, _, e⟩ := x; exact ⟨_, e⟩
    | dK kvs => obtain ⟨_, _, _, _, o, _, _, e, _⟩ := x; exact ⟨o, e⟩
    | dT kvs => obtain ⟨_, _, _, _, o, _, _, e, _⟩ := x; exact ⟨o, e⟩
    | set S n => obtain ⟨o, _, _, _, e, _⟩ := x; exact ⟨o, e⟩
    | ins C dx fs => obtain ⟨_, _, _, e, _⟩ := x; exact ⟨_, e⟩
    | ext φ => obtain ⟨_, ⟨_, e⟩, _⟩ := x; exact ⟨_, e⟩
    | _ => exact False.elim mu
  obtain ⟨od, e⟩ := ex
  have new : ObjOk X.prog X.w (upd H d (.frz od u)) s.heap d (.frz od u) := by
    refine ⟨e, x.stay (fun b v _ q => q) (fun b q => ?_) fun b xs q => ?_⟩
    · rw [upd_ne (fun z => by rw [z, h] at q; cases q; exact mu)]; exact q
    · rw [upd_ne (fun z => by rw [z, h] at q; cases q; exact mu)]; exact q
  exact ⟨od, I.write (x := d) (e := d) (t' := s.toks) (h' := s.heap) (by rw [h]; exact mu) (.inl rfl) (fun b v _ q => q) ⟨od, e⟩ new⟩
end
section
variable {X : Cx}
end
section
variable {X : Cx} {tg : Expr}
end
section
variable {X : Cx} {tg : Expr}
end
section
variable {prog : Program} {w : World} {A : Around} {E : Value → Shared → Prop} {s : Shared}
end
section
variable {X : Cx} {pins : List (Addr × Obj)} {σ : St} {H : Hp} {s : Shared} {d : Addr} {o : Obj}
end
section
variable {P : Program} {w : World} {K : PySem.W.Frag} {tg : Expr} {d : Addr} {o : Obj} {es : Array DictEntry} {ep : Nat}
end
section
variable {X : Cx} {tg e : Expr} {td : TE} {apos cpos : Pos}
end
end L2
section 
namespace Bits
open PySem PyProof.Rows
end Bits
end 
section 
namespace TL
open PySem PySem.Builtin PySem.Builtin.Str PySem.StrLaws
end TL
end 
namespace L2
open PySem PySem.Spec PyProof.Rows
theorem strs_of_vals : ∀ {ys : List Str} {us : List Value}, Vals (ys.map V.str) us → StrsAre us ys
  | [], _, .nil => .nil
  | y :: ys, _, .cons r t => by
    obtain ⟨k, rfl⟩ := r
    exact .cons y k (strs_of_vals t)
section
variable {X : Cx} {pins : List (Addr × Obj)} {σ : St} {H : Hp} {s : Shared} {Q : VK}
end
section
variable {X : Cx}
/-- sep.join(a list | a tuple of texts) -/
theorem mt_join : MtR X "str.join" (fun x xs H Q => ∃ a p, ∃ ys : List Str, x = .str a ∧ xs = [.ref p] ∧ (SqL X.K H p (ys.map V.str) ∨ SqT X.K H p (ys.map V.str)) ∧
    (ys.map (·.length)).sum + ys.length * a.length ≤ 16777216 ∧ Q (.str (Txt.join a ys)) H) := by
  intro pins s σ H x xs v us Q I rx rs h
  obtain ⟨a, p, ys, rfl, rfl, hp, hz, h⟩ := h
  obtain ⟨t, rfl⟩ := rx
  cases rs with
  | cons r1 rs =>
    cases rs
    cases r1
    rcases hp with hp | hp
    · obtain ⟨its, r, ⟨o, n, ho, hc, _, hd⟩, _⟩ := I.list hp
      exact PyProof.Rows.join_list (items := its.toArray) ⟨o, ho, hc, n, hd⟩ (by rw [List.toList_toArray]; exact strs_of_vals r) hz fun t' k => ⟨.str _, H, I.tok k, ⟨t', rfl⟩, h⟩
    · obtain ⟨its, r, ht, _⟩ := I.tuple hp
      exact PyProof.Rows.join_tuple (items := its.toArray) ht (by rw [List.toList_toArray]; exact strs_of_vals r) hz fun t' k => ⟨.str _, H, I.tok k, ⟨t', rfl⟩, h⟩
end
section
variable {X : Cx} {o e : Expr} {to te : TE}
def tM1 (r : V → List V → Hp → VK → Prop) (to te : TE) : TE := fun σ H Q => to σ H fun x H1 => (∃ a, x = .str a) ∧ te σ H1 fun y H2 => r x [y] H2 Q
theorem pe_m1 {id : String} {name : Str} {apos pos : Pos} {r : V → List V → Hp → VK → Prop} (slot : Slot "str" name id) (ty : typeOf (.builtin id) = pure (.type "method_descriptor")) (rule : MtR X id r) (ho : PE X o to) (he : PE X e te)
    (hs : starEach [e] X.env = [(false, eval e X.env)] := by rfl) (hbase : attributeBase o name X.env (eval o X.env) = eval o X.env := by rfl) (hline : (apos.endLine == pos.line) = true := by rfl) :
    PE X (.Call (.Attribute o name apos) [e] [] pos) (tM1 r to te) := by
  intro pins s σ H Q I h
  refine PySem.Call_method1 hbase hs hline (thn (ho pins s σ H _ I h) fun v s1 ⟨x, H1, I1, r1, q1⟩ => ?_)
  obtain ⟨⟨a, rfl⟩, q1⟩ := q1
  obtain ⟨t, rfl⟩ := _root_.id r1
  refine ⟨"str", _, F.plainAttrs_str, slot, ty, typeIs_str _ _ _, (fun _ e => nomatch e), Calls.callWith_builtin rfl (Calls.evalArgs_plain (Calls.spliced_cons ?_))⟩
  exact thn (he pins s1 σ H1 _ I1 q1) fun u s2 ⟨y, H2, I2, r2, q2⟩ => Calls.spliced_nil (rule pins s2 σ H2 _ [y] _ [u] Q I2 r1 (.cons r2 .nil) q2)
theorem pe_join {apos pos : Pos} (ho : PE X o to) (he : PE X e te) (hs : starEach [e] X.env = [(false, eval e X.env)] := by rfl) (hbase : attributeBase o "join" X.env (eval o X.env) = eval o X.env := by rfl) (hline : (apos.endLine == pos.line) = true := by rfl) :
    PE X (.Call (.Attribute o "join" apos) [e] [] pos) (tM1 (fun x xs H Q => ∃ a p, ∃ ys : List Str, x = .str a ∧ xs = [.ref p] ∧ (SqL X.K H p (ys.map V.str) ∨ SqT X.K H p (ys.map V.str)) ∧
      (ys.map (·.length)).sum + ys.length * a.length ≤ 16777216 ∧ Q (.str (Txt.join a ys)) H) to te) :=
  pe_m1 F.slot_str_join F.type_str_join mt_join ho he hs hbase hline
end
end L2
namespace L2
open PySem PySem.Spec PyProof.Rows
section
variable {X : Cx}
end
end L2
namespace Att
open PySem PySem.W PySem.Calls PyProof.Rows
theorem ints_of_wellAll {P : Params} {h : Heap} : ∀ (ns : List Int) (vs : List Value), WellAll P h vs (ns.map WData.int) → IntsAre vs ns := by
  intro ns
  induction ns with
  | nil =>
    intro vs w
    rw [List.map_nil] at w
    cases w
    exact .nil
  | cons n ns ih =>
    intro vs w
    rw [List.map_cons] at w
    cases w with
    | cons a b =>
      cases a
      exact .cons _ _ (ih _ b)
theorem script_of {l : OpenLaw} {n : Nat} (hn : l.most = some n) {P : Params} {h : Heap} {args : List WData} {vals : List Value}
    (hpre : l.row.toRowW.claim.pre args = true) (hwl : WellAll P h vals args) :
    ∃ a vs ns, vals = [Value.ref a] ∧ args = [WData.list (ns.map WData.int)] ∧ h.get? a = some { cls := .type "list", data := .seq vs.toArray } ∧ IntsAre vs ns ∧ ns.length ≤ n := by
  have hsh : WShape.hasAll [] args [.list .int] = true := (pre_splitW hpre).1
  have hc : l.pre.holds [] { args := args } = true := (pre_splitW hpre).2
  obtain ⟨d, r, rfl, h1, h2⟩ := hasAllW_cons hsh
  obtain rfl := hasAllW_nil h2
  obtain ⟨xs, rfl, h3⟩ := hasW_list h1
  obtain ⟨ns, rfl⟩ := items_int h3
  have hlen : ns.length ≤ n := by
    unfold OpenLaw.pre at hc
    have h4 : (WTm.not (.lt (.lit (.int (n : Int))) (.len (.arg 0)))).holds [] { args := [.list (ns.map .int)] } = true := by
      have h4 := (holds_andW hc).1
      rw [hn] at h4
      exact h4
    have h5 := condW_of h4 (w_not (w_lt w_lit (w_len_list (w_arg rfl))))
    rw [List.length_map] at h5
    refine Nat.le_of_not_lt fun q => ?_
    have q' : (n : Int) < ((ns.length : Nat) : Int) := by omega
    first
      | (rw [decide_eq_true q'] at h5; exact absurd h5 (by decide))
      | (simp at h5; omega)
  cases hwl with
  | cons w1 w2 =>
    cases w2
    cases w1 with
    | list ho hall => exact ⟨_, _, ns, rfl, rfl, ho, ints_of_wellAll ns _ hall, hlen⟩
theorem post_true (l : OpenLaw) (args : List WData) : l.row.toRowW.claim.post args (.bool true) args = true :=
  postW_of (r := l.row.toRowW) (X := (true == true))
    (show WShape.has [] (.bool true) .bool = true by first | rfl | decide | simp [WShape.has, WShape.arms, WShape.armsAll])
    (show (WTm.eq .res (.lit (.bool true))).value [] { args := args, res := some (.bool true), after := args } = some (.bool (true == true)) from w_eq_bool (w_res rfl) w_lit) rfl
/-- the same from a codeAny of the CALL (for a layer whose function contracts speak of calls) -/
theorem attach_call {l : OpenLaw} {n : Nat} {q : Program} {loose : List Str} {XP : (Str → Option Value) → Heap → Prop} {YP : World → Heap → Prop} {d : DefRec}
    (hn : l.most = some n) (hdf : d.params.defaults = [])
    (call : ∀ (w : World) (s₀ s₁ : Shared) (mg mb : Str → Option Value) (fa : Addr) (o : Obj) (pm cd doc : Value) (a : Addr) (vs : List Value) (ns : List Int),
      Ground q loose [] XP w s₀ mg mb s₁.heap → YP w s₁.heap →
      s₁.heap.get? fa = some o → o.data = .func (docDef d.name d.params d.body d.scope pm cd doc) → s₁.heap.CodeRec cd d.name → mg d.name = some (.ref fa) →
      s₁.heap.get? a = some { cls := .type "list", data := .seq vs.toArray } → IntsAre vs ns → ns.length ≤ n → s₁.gens = #[] →
      codeAny (model l.prog w) callerA (.call (.ref fa) ⟨[.ref a], []⟩) (fun r s' => r = .ok (.ret (.bool true)) ∧ OldK s₁.heap s'.heap ∧ s'.os = s₁.os ∧ AllBare s'.gens) s₁) :
    WalkO q loose XP YP l.row.toRowW d [] (fun f vs => PySem.call f vs) := by
  intro w s₀ s₁ mg mb G Y fa o pm cd doc dV kV ho hd hcd hD hmg hg args vals as hpre hlay hrd hwl hlo
  obtain rfl : dV = .none := Dflts.none hD hdf
  obtain rfl : kV = .none := Dflts.noKw hD
  obtain ⟨a, vs, ns, rfl, rfl, hobj, hints, hlen⟩ := script_of hn hpre hwl
  refine enter_call (codeAny_mono (call w s₀ s₁ mg mb fa o pm cd doc a vs ns G Y ho (fd_plain hd) hcd hmg hobj hints hlen hg) fun r s' hq => ?_)
  obtain ⟨rfl, h2, h3, h4⟩ := hq
  exact ⟨.inl ⟨.bool true, .bool true, [], rfl, fun _ => rfl, .bool true, post_true l _, fun _ => ⟨List.Pairwise.nil, fun _ hm => (nomatch hm)⟩⟩, h2, h3, h4⟩
section
variable {prog : Program} {w : World} {A : Around} {E : Value → Shared → Prop} {s : Shared} {K : Frag}
end
end Att
namespace L2
open PySem PySem.Spec PyProof.Rows
theorem vals_ints : ∀ {vs : List Value} {ns : List Int}, IntsAre vs ns → Vals (ns.map V.int) vs
  | _, _, .nil => .nil
  | _, _, .cons n t h => .cons ⟨t, rfl⟩ (vals_ints h)
end L2
namespace L2
open PySem PySem.Spec PyProof.Rows
end L2
/- THE LAST THEOREM (shape; LID, My.* are yours):
   My.Adr: a structure of the addresses that your layer names (classes, functions); My.Txt K t: a structure (Prop) of the equations over K;
   My.txt_mk : {K} {implicit addresses ..} (e1 : nsIn K mainGlobals "law" = some (some (.ref f))) (e2 : K.lookup f = some ⟨oc, od, .func (fnOf "law" "law" params body scope dV kV doc pm an cdv ct), sl⟩) (e3 : codeIn K cdv "law" = true) .. : ∃ t, My.Txt K t
set_option maxRecDepth 100000 in
set_option maxHeartbeats 0 in
theorem PySem.Challenge.cw_LID_holds : PySem.Challenge.rw_LID.Holds := by
  w_on; o_law; k_head; (case hw => w_witness2)
  k_fill
  refine L2.walk_of (l := PySem.Challenge.rw_LID) (n := 63) (k := 40) (x := "script") (CX := fun w => ..) (sp := fun _ => My.sp_law) rfl (by decide) rfl ⟨rfl, by decide, by decide⟩ (fun w h Y => PySem.W.kIn_of Y) ?F ?S ?C
  case F =>
    intro w mg fa h KX G hmg
    have T : ∃ t, My.Txt (L2.KOf KX) t := by
      dsimp only [L2.KOf]                          -- K must stand as «<heap const> w.params» for k_is
      refine' My.txt_mk ?e1 ?e2 ?e3 ..
      (case e1 => PySem.W.k_is)                    -- in the order: a name -> its address -> its object -> its parts
      (case e2 => PySem.W.k_is)
      ..
    obtain ⟨t, T⟩ := T
    have e0 := hmg.symm.trans (PySem.W.mg_of KX G T.law)
    cases e0                                       -- fa is the law's own address
    exact ⟨_, fun s u => .of_eq rfl, fun base kb nb => My.law_fn T kb nb⟩     -- if «.of_eq rfl» comes too early: refine' ⟨_, ?b, fun base kb nb => My.law_fn T kb nb⟩; exact fun s u => .of_eq rfl
  case S => exact fun w H a ns hl hO hS => ..
  case C => exact ..
(the tactic k_is has no namespace: write k_is) -/
namespace L2
open PySem PySem.Spec PyProof.Rows
def defArgs (s : Stmt) : Arguments := match s with
  | .FunctionDef _ a _ _ _ _ _ _ _ _ => a
  | _ => { posonlyargs := [], args := [], vararg := none, kwonlyargs := [], kw_defaults := [], kwarg := none, defaults := [] }
def defBody (s : Stmt) : List Stmt := match s with
  | .FunctionDef _ _ b _ _ _ _ _ _ _ => b
  | _ => []
def defScope (s : Stmt) : Scope := match s with
  | .FunctionDef _ _ _ _ _ _ sc _ _ _ => sc
  | _ => { kind := .function, names := [], isGenerator := false, isCoroutine := false }
abbrev CX0 : CXT := fun _ _ _ _ _ _ => False
abbrev E0 : XK := fun _ _ _ => False
theorem pass0 {X : Cx} : Passes CX0 X E0 := fun _ _ _ _ _ _ _ h => h.elim
structure Fun (K : PySem.W.Frag) (x qual : Str) (st : Stmt) (f : Addr) (fd : FuncData) : Prop where
  ex : ∃ (oc : Value) (od : Option Addr) (kV doc pm : Value) (an : Option Addr) (cdv ct : Value) (osl : Array (Option Value)),
    fd = PySem.W.fnOf x qual (defArgs st) (defBody st) (defScope st) .none kV doc pm an cdv ct ∧ K.lookup f = some ⟨oc, od, .func fd, osl⟩ ∧ PySem.W.codeIn K cdv qual = true
  kp : PySem.W.keepIn K (.ref f) = true
section
variable {P : Program} {w : World} {K : PySem.W.Frag} {mg : Str → Option Value} {base : Heap}
/-- THE RULE for a def: its body as a term of rules, and the reading of that term -/
theorem Fun.ok {x qual : Str} {st : Stmt} {f : Addr} {fd : FuncData} {N ps : List Str} {k : Nat} {sp : Sp} (F : Fun K x qual st f fd) (S : FnScope N ps (defScope st)) (len : ∀ vs H Q E, sp vs H Q E → vs.length = ps.length)
    (hbody : ∀ (cdv : Value) (A : Around) (outer : List Env) (s : Shared) (H : Hp) (vs : List V) (Q : VK) (E : XK), Room k (A.deeper (envOfC qual (defScope st) s.heap.objs.size f cdv)) → sp vs H Q E →
      ∃ t, PSs (cxOf CX0 P w K mg base N qual (defScope st) f cdv A outer s H E).nox (defBody st) t ∧ t { nx := fun _ H' => Q .non H', rt := Q } (start N vs) H) : FnOk P w K mg base CX0 (k + 1) f fd ps sp := by
  obtain ⟨oc, od, kV, doc, pm, an, cdv, ct, osl, rfl, lk, hcd⟩ := F.ex
  refine fn_of lk hcd S len fun A outer s H vs Q E hr hsp => ?_
  obtain ⟨t, h, q⟩ := hbody cdv A outer s H vs Q E hr hsp
  exact ⟨t, h.nox, q⟩
/-- how its arguments bind (no defaults): h is «fun _ _ _ _ _ _ us hl => match us, hl with | [_, _], _ => rfl», one _ a parameter -/
theorem Fun.binds {x qual : Str} {st : Stmt} {f : Addr} {fd : FuncData} {ps : List Str} (F : Fun K x qual st f fd)
    (h : ∀ (kV doc pm : Value) (an : Option Addr) (cdv ct : Value) (us : List Value), us.length = ps.length → bindArgs (PySem.W.fnOf x qual (defArgs st) (defBody st) (defScope st) .none kV doc pm an cdv ct) ⟨us, []⟩ = pure (ps.zip us)) : Binds K fd ps [] := by
  obtain ⟨oc, od, kV, doc, pm, an, cdv, ct, osl, rfl, lk, hcd⟩ := F.ex
  exact .all (h kV doc pm an cdv ct)
theorem fun_mk {x qual : Str} {st : Stmt} {f : Addr} {oc : Value} {od an : Option Addr} {osl : Array (Option Value)} {kV doc pm cdv ct : Value} (l : K.lookup f = some ⟨oc, od, .func (PySem.W.fnOf x qual (defArgs st) (defBody st) (defScope st) .none kV doc pm an cdv ct), osl⟩)
    (c : PySem.W.codeIn K cdv qual = true) (k : PySem.W.keepIn K (.ref f) = true) : Fun K x qual st f (PySem.W.fnOf x qual (defArgs st) (defBody st) (defScope st) .none kV doc pm an cdv ct) := ⟨⟨oc, od, kV, doc, pm, an, cdv, ct, osl, rfl, l, c⟩, k⟩
end
section
variable {X : Cx}
end
theorem iteF {A B : Prop} (h : B) : if false = true then A else B := by
  rw [if_neg Bool.false_ne_true]
  exact h
theorem iteT {A B : Prop} (h : A) : if true = true then A else B := by
  rw [if_pos rfl]
  exact h
section
variable {κ : Type} [DecidableEq κ]
end
theorem nd_ix {α : Type} {l : List α} (hN : l.Nodup) {i j : Nat} {x : α} (a : l[i]? = some x) (b : l[j]? = some x) : i = j := by
  obtain ⟨h1, e1⟩ := List.getElem?_eq_some_iff.mp a
  obtain ⟨h2, e2⟩ := List.getElem?_eq_some_iff.mp b
  exact (List.getElem_inj hN).mp (e1.trans e2.symm)
end L2
set_option maxRecDepth 100000
namespace Eb
open PySem PySem.SetTable
def Ris (xs : Array Nat) : Prop := ∀ (i j x y : Nat), i < j → xs[i]? = some x → xs[j]? = some y → x < y
theorem Ris.inj {xs : Array Nat} (h : Ris xs) {i j x : Nat} (hi : xs[i]? = some x) (hj : xs[j]? = some x) : i = j := by
  rcases Nat.lt_trichotomy i j with q | q | q
  · exact absurd (h _ _ _ _ q hi hj) (Nat.lt_irrefl _)
  · exact q
  · exact absurd (h _ _ _ _ q hj hi) (Nat.lt_irrefl _)
def BelowAt (xs : Array Nat) (j p : Nat) : Prop := p ≤ xs.size ∧ (∀ (i x : Nat), i < p → xs[i]? = some x → x < j) ∧ (∀ (i x : Nat), p ≤ i → xs[i]? = some x → j ≤ x)
theorem below_go (xs : Array Nat) (j : Nat) (hr : Ris xs) : ∀ fuel lo hi, hi - lo ≤ fuel → lo ≤ hi → hi ≤ xs.size →
    (∀ (i x : Nat), i < lo → xs[i]? = some x → x < j) → (∀ (i x : Nat), hi ≤ i → xs[i]? = some x → j ≤ x) → BelowAt xs j (below.go xs j fuel lo hi)
  | 0, lo, hi, hf, hl, hs, h1, h2 => by
    have e : lo = hi := by omega
    subst e
    exact ⟨hs, h1, h2⟩
  | fuel + 1, lo, hi, hf, hl, hs, h1, h2 => by
    unfold below.go
    by_cases c : lo < hi
    · rw [if_pos c]
      have hm : (lo + hi) / 2 < xs.size := by omega
      have hg : xs[(lo + hi) / 2]? = some xs[(lo + hi) / 2] := Array.getElem?_eq_getElem hm
      have hd : xs.getD ((lo + hi) / 2) j = xs[(lo + hi) / 2] := by simp [Array.getD, hm]
      dsimp only
      by_cases q : xs.getD ((lo + hi) / 2) j < j
      · rw [if_pos q]
        refine below_go xs j hr fuel _ hi (by omega) (by omega) hs (fun i x hi' hx => ?_) h2
        rcases Nat.lt_or_ge i ((lo + hi) / 2) with c2 | c2
        · have := hr _ _ _ _ c2 hx hg
          omega
        · have : i = (lo + hi) / 2 := by omega
          subst this
          rw [hg] at hx
          have := Option.some.inj hx
          omega
      · rw [if_neg q]
        refine below_go xs j hr fuel lo _ (by omega) (by omega) (by omega) h1 (fun i x hi' hx => ?_)
        rcases Nat.lt_or_ge ((lo + hi) / 2) i with c2 | c2
        · have := hr _ _ _ _ c2 hg hx
          omega
        · have : i = (lo + hi) / 2 := by omega
          subst this
          rw [hg] at hx
          have := Option.some.inj hx
          omega
    · rw [if_neg c]
      have e : lo = hi := by omega
      subst e
      exact ⟨hs, h1, h2⟩
theorem below_at {xs : Array Nat} (hr : Ris xs) (j : Nat) : BelowAt xs j (below xs j) := by
  unfold below
  refine below_go xs j hr _ 0 xs.size (by omega) (Nat.zero_le _) (Nat.le_refl _) (fun i x h => by omega) (fun i x h hx => ?_)
  have := (Array.getElem?_eq_some_iff.mp hx).1
  omega
theorem below_of {xs : Array Nat} (hr : Ris xs) {i j : Nat} (h : xs[i]? = some j) : below xs j = i := by
  obtain ⟨h0, h1, h2⟩ := below_at hr j
  rcases Nat.lt_trichotomy (below xs j) i with q | q | q
  · have hp : below xs j < xs.size := Nat.lt_trans q (Array.getElem?_eq_some_iff.mp h).1
    have hg := Array.getElem?_eq_getElem hp
    have a := h2 _ _ (Nat.le_refl _) hg
    have b := hr _ _ _ _ q hg h
    omega
  · exact q
  · exact absurd (h1 _ _ q h) (Nat.lt_irrefl _)
theorem below_succ {xs : Array Nat} (hr : Ris xs) {i j : Nat} (h : xs[i]? = some j) : below xs (j + 1) = i + 1 := by
  obtain ⟨h0, h1, h2⟩ := below_at hr (j + 1)
  have hi := (Array.getElem?_eq_some_iff.mp h).1
  rcases Nat.lt_trichotomy (below xs (j + 1)) (i + 1) with q | q | q
  · have := h2 _ _ (by omega) h
    omega
  · exact q
  · have hg := Array.getElem?_eq_getElem (xs := xs) (i := i + 1) (by omega)
    have a := h1 _ _ q hg
    have b := hr _ _ _ _ (Nat.lt_succ_self i) h hg
    omega
theorem has_nil (j : Nat) : has #[] j = false := rfl
def In (xs : Array Nat) (j : Nat) : Prop := ∃ i : Nat, xs[i]? = some j
theorem slot_live {t : SetTable} (hr : Ris t.place) {i j : Nat} (h : t.place[i]? = some j) : t.slot j = .live i := by
  unfold SetTable.slot
  rw [below_of hr h]
  dsimp only
  rw [h]
  simp
theorem slot_empty {t : SetTable} (hd : t.dummies = #[]) {j : Nat} (h : ¬ In t.place j) : t.slot j = .empty := by
  unfold SetTable.slot
  dsimp only
  have : ¬ (t.place[below t.place j]? == some j) = true := fun e => h ⟨_, by simpa using e⟩
  rw [if_neg this, hd, has_nil]
  rfl
def adv (m : Nat) (p : Probe) : Probe :=
  if p.more > 0 then { p with j := p.j + 1, more := p.more - 1 } else
  { p with j := (leap m p.i p.perturb).1, more := runEnd m (leap m p.i p.perturb).1 - (leap m p.i p.perturb).1, i := (leap m p.i p.perturb).1, perturb := (leap m p.i p.perturb).2 }
theorem advance_eq (t : SetTable) (p : Probe) : t.advance p = adv t.mask p := rfl
def pth (m : Nat) : Nat → Probe → Probe
  | 0, p => p
  | n + 1, p => pth m n (adv m p)
theorem pth_add (m : Nat) : ∀ (a b : Nat) (p : Probe), pth m (a + b) p = pth m b (pth m a p)
  | 0, b, p => by rw [Nat.zero_add]; rfl
  | a + 1, b, p => by
    rw [Nat.succ_add]
    exact pth_add m a b (adv m p)
def start (m : Nat) (h : Int) : Probe := { j := bits h % (m + 1), more := runEnd m (bits h % (m + 1)) - bits h % (m + 1), i := bits h % (m + 1), perturb := bits h, dummy := none }
theorem start_eq (t : SetTable) (h : Int) : t.probeStart h = start t.mask h := rfl
theorem adv_dummy (m : Nat) (p : Probe) : (adv m p).dummy = p.dummy := by
  unfold adv
  split <;> rfl
theorem pth_dummy (m : Nat) : ∀ (n : Nat) (p : Probe), (pth m n p).dummy = p.dummy
  | 0, _ => rfl
  | n + 1, p => (pth_dummy m n _).trans (adv_dummy m p)
def lc (m : Nat) : Nat → Nat → Nat
  | 0, i => i
  | k + 1, i => lc m k ((i * 5 + 1) % (m + 1))
theorem lc_add (m : Nat) : ∀ (a b i : Nat), lc m (a + b) i = lc m b (lc m a i)
  | 0, b, i => by rw [Nat.zero_add]; rfl
  | a + 1, b, i => by
    rw [Nat.succ_add]
    exact lc_add m a b _
def Mask (m : Nat) : Prop := ∃ k, 3 ≤ k ∧ m + 1 = 2 ^ k
theorem nodup_sub_len : ∀ {l1 l2 : List Nat}, l1.Nodup → (∀ a ∈ l1, a ∈ l2) → l1.length ≤ l2.length
  | [], _, _, _ => Nat.zero_le _
  | a :: t, l2, h, hs => by
    obtain ⟨h1, h2⟩ := List.nodup_cons.mp h
    have ha : a ∈ l2 := hs a (.head _)
    have := nodup_sub_len (l2 := l2.erase a) h2 fun b hb => (List.mem_erase_of_ne (by rintro rfl; exact h1 hb)).mpr (hs b (.tail _ hb))
    rw [List.length_erase_of_mem ha] at this
    have : 0 < l2.length := List.length_pos_of_mem ha
    rw [List.length_cons]
    omega
def gS : Nat → Nat
  | 0 => 0
  | n + 1 => gS n + 5 ^ n
theorem gS_add (a : Nat) : ∀ b, gS (a + b) = gS a + 5 ^ a * gS b
  | 0 => by simp [gS]
  | b + 1 => by
    rw [← Nat.add_assoc]
    show gS (a + b) + 5 ^ (a + b) = gS a + 5 ^ a * (gS b + 5 ^ b)
    rw [gS_add a b, Nat.mul_add, Nat.pow_add, Nat.add_assoc]
theorem five_odd : ∀ n, 5 ^ n % 4 = 1
  | 0 => rfl
  | n + 1 => by
    have := five_odd n
    rw [Nat.pow_succ]
    omega
theorem gS_par : ∀ n, gS n % 2 = n % 2
  | 0 => rfl
  | n + 1 => by
    have := gS_par n
    have := five_odd n
    show (gS n + 5 ^ n) % 2 = _
    omega
theorem gS_two (e : Nat) : ∃ t, gS (2 * e) = 2 * (gS e * (2 * t + 1)) := by
  have h := five_odd e
  refine ⟨5 ^ e / 4, ?_⟩
  have e1 : 5 ^ e = 4 * (5 ^ e / 4) + 1 := by omega
  rw [Nat.two_mul, gS_add]
  conv => lhs; rw [e1]
  rw [Nat.add_mul, Nat.mul_add, Nat.mul_add, Nat.one_mul, Nat.mul_one]
  have : 4 * (5 ^ e / 4) * gS e = 2 * (gS e * (2 * (5 ^ e / 4))) := by
    rw [Nat.mul_comm (4 * _), ← Nat.mul_assoc 2, Nat.mul_comm 2, Nat.mul_assoc (gS e), ← Nat.mul_assoc 2]
  omega
theorem odd_dvd (t : Nat) : ∀ (k x : Nat), 2 ^ k ∣ x * (2 * t + 1) → 2 ^ k ∣ x
  | 0, x, _ => by simp
  | k + 1, x, h => by
    have hx : x % 2 = 0 := by
      obtain ⟨c, hc⟩ := h
      have e : x * (2 * t + 1) = 2 * (x * t) + x := by rw [Nat.mul_add, Nat.mul_one, ← Nat.mul_assoc, Nat.mul_comm x 2, Nat.mul_assoc]
      rw [e, Nat.pow_succ, Nat.mul_comm (2 ^ k) 2, Nat.mul_assoc] at hc
      omega
    obtain ⟨y, rfl⟩ : ∃ y, x = 2 * y := ⟨x / 2, by omega⟩
    rw [Nat.pow_succ, Nat.mul_comm (2 ^ k) 2] at h ⊢
    rw [Nat.mul_assoc] at h
    exact Nat.mul_dvd_mul_left 2 (odd_dvd t k y (Nat.dvd_of_mul_dvd_mul_left (by decide) h))
theorem gS_dvd : ∀ (k d : Nat), 2 ^ k ∣ gS d → 2 ^ k ∣ d
  | 0, d, _ => by simp
  | k + 1, d, h => by
    have hd : d % 2 = 0 := by
      obtain ⟨c, hc⟩ := h
      rw [Nat.pow_succ, Nat.mul_comm (2 ^ k) 2, Nat.mul_assoc] at hc
      have := gS_par d
      omega
    obtain ⟨e, rfl⟩ : ∃ e, d = 2 * e := ⟨d / 2, by omega⟩
    obtain ⟨t, ht⟩ := gS_two e
    rw [ht] at h
    rw [Nat.pow_succ, Nat.mul_comm (2 ^ k) 2] at h ⊢
    exact Nat.mul_dvd_mul_left 2 (gS_dvd k e (odd_dvd t k _ (Nat.dvd_of_mul_dvd_mul_left (by decide) h)))
theorem gS_all : ∀ k, 2 ^ k ∣ gS (2 ^ k)
  | 0 => by simp
  | k + 1 => by
    rw [Nat.pow_succ, Nat.mul_comm (2 ^ k) 2]
    obtain ⟨t, ht⟩ := gS_two (2 ^ k)
    rw [ht]
    exact Nat.mul_dvd_mul_left 2 (Nat.dvd_trans (gS_all k) (Nat.dvd_mul_right _ _))
theorem lc_form (m : Nat) : ∀ (n i : Nat), i ≤ m → lc m n i = (gS n + 5 ^ n * i) % (m + 1)
  | 0, i, h => by
    show i = (0 + 1 * i) % (m + 1)
    rw [Nat.zero_add, Nat.one_mul, Nat.mod_eq_of_lt (by omega)]
  | n + 1, i, h => by
    show lc m n ((i * 5 + 1) % (m + 1)) = _
    rw [lc_form m n _ (Nat.le_of_lt_succ (Nat.mod_lt _ (Nat.succ_pos m))), Nat.add_mod, Nat.mul_mod, Nat.mod_mod, ← Nat.mul_mod, ← Nat.add_mod]
    congr 1
    show gS n + 5 ^ n * (i * 5 + 1) = gS n + 5 ^ n + 5 ^ (n + 1) * i
    rw [Nat.mul_add, Nat.mul_one, Nat.pow_succ, Nat.mul_assoc, Nat.mul_comm 5 i]
    omega
theorem lc_zero (m n : Nat) : lc m n 0 = gS n % (m + 1) := by
  rw [lc_form m n 0 (Nat.zero_le _), Nat.mul_zero, Nat.add_zero]
theorem lc_inj {m : Nat} (hm : Mask m) {a b : Nat} (hab : a < b) (hb : b ≤ m) : lc m a 0 ≠ lc m b 0 := by
  obtain ⟨k, _, hk⟩ := hm
  rw [lc_zero, lc_zero, hk]
  intro e
  obtain ⟨d, rfl⟩ : ∃ d, b = a + d := ⟨b - a, by omega⟩
  have h1 : 2 ^ k ∣ gS (a + d) - gS a := by
    refine Nat.dvd_of_mod_eq_zero ?_
    exact Nat.sub_mod_eq_zero_of_mod_eq e.symm
  rw [gS_add, Nat.add_sub_cancel_left] at h1
  have h2 : 2 ^ k ∣ gS d := by
    have h5 := five_odd a
    obtain ⟨t, ht⟩ : ∃ t, 5 ^ a = 2 * t + 1 := ⟨5 ^ a / 2, by omega⟩
    rw [ht, Nat.mul_comm] at h1
    exact odd_dvd t k _ h1
  have h3 := Nat.le_of_dvd (by omega) (gS_dvd k d h2)
  omega
theorem lc_all {m : Nat} (hm : Mask m) : (∀ j, j ≤ m → ∃ k, k ≤ m ∧ lc m k 0 = j) ∧ lc m (m + 1) 0 = 0 := by
  refine ⟨fun j hj => Classical.byContradiction fun q => ?_, ?_⟩
  · have nd : ((List.range (m + 1)).map fun n => lc m n 0).Nodup := by
      refine List.pairwise_map.mpr (List.Pairwise.imp_of_mem (fun {a b} ha hb hab => ?_) List.pairwise_lt_range)
      exact lc_inj hm hab (by have := List.mem_range.mp hb; omega)
    have h1 : (j :: (List.range (m + 1)).map fun n => lc m n 0).Nodup := by
      rw [List.nodup_cons]
      refine ⟨fun h => ?_, nd⟩
      obtain ⟨n, hn, e⟩ := List.mem_map.mp h
      exact q ⟨n, by have := List.mem_range.mp hn; omega, e⟩
    have := nodup_sub_len (l2 := List.range (m + 1)) h1 fun x hx => by
      rcases List.mem_cons.mp hx with rfl | hx
      · exact List.mem_range.mpr (by omega)
      · obtain ⟨n, _, rfl⟩ := List.mem_map.mp hx
        rw [lc_zero]
        exact List.mem_range.mpr (Nat.mod_lt _ (Nat.succ_pos m))
    simp at this
    omega
  · obtain ⟨k, _, hk⟩ := hm
    rw [lc_zero, hk]
    exact Nat.mod_eq_zero_of_dvd (gS_all k)
theorem lc_cover {m : Nat} (hm : Mask m) {i j : Nat} (hi : i ≤ m) (hj : j ≤ m) : ∃ k, k ≤ m ∧ lc m k i = j := by
  obtain ⟨hc, h0⟩ := lc_all hm
  obtain ⟨a, ha, ea⟩ := hc i hi
  obtain ⟨b, hb, eb⟩ := hc j hj
  by_cases q : a ≤ b
  · refine ⟨b - a, by omega, ?_⟩
    rw [← ea, ← lc_add, show a + (b - a) = b by omega, eb]
  · refine ⟨m + 1 + b - a, by omega, ?_⟩
    rw [← ea, ← lc_add, show a + (m + 1 + b - a) = (m + 1) + b by omega, lc_add, h0, eb]
/-- L leaps -/
def lp (m : Nat) : Nat → Nat × Nat → Nat × Nat
  | 0, q => q
  | L + 1, q => lp m L (leap m q.1 q.2)
theorem lp_add (m : Nat) : ∀ (a b : Nat) (q : Nat × Nat), lp m (a + b) q = lp m b (lp m a q)
  | 0, b, q => by rw [Nat.zero_add]; rfl
  | a + 1, b, q => by
    rw [Nat.succ_add]
    exact lp_add m a b _
theorem lp_zero (m : Nat) : ∀ (k i : Nat), lp m k (i, 0) = (lc m k i, 0)
  | 0, _ => rfl
  | k + 1, i => by
    show lp m k ((i * 5 + 1 + 0 / 32) % (m + 1), 0 / 32) = _
    exact lp_zero m k _
theorem lp_snd (m : Nat) : ∀ (L : Nat) (q : Nat × Nat), (lp m L q).2 = q.2 / 32 ^ L
  | 0, q => by simp [lp]
  | L + 1, q => by
    show (lp m L (leap m q.1 q.2)).2 = _
    rw [lp_snd m L]
    show q.2 / 32 / 32 ^ L = _
    rw [Nat.div_div_eq_div_mul, Nat.pow_succ, Nat.mul_comm]
theorem leap_le (m i p : Nat) : (leap m i p).1 ≤ m := by
  show (i * 5 + 1 + p / 32) % (m + 1) ≤ m
  exact Nat.le_of_lt_succ (Nat.mod_lt (i * 5 + 1 + p / 32) (Nat.succ_pos m))
theorem lp_le (m : Nat) {L : Nat} (h : 0 < L) (q : Nat × Nat) : (lp m L q).1 ≤ m := by
  obtain ⟨L, rfl⟩ : ∃ k, L = k + 1 := ⟨L - 1, by omega⟩
  rw [lp_add]
  exact leap_le _ _ _
theorem bits_lt (h : Int) : bits h < 2 ^ 64 := by
  unfold bits
  have h1 : h % (2 ^ 64 : Int) < 2 ^ 64 := Int.emod_lt_of_pos _ (by decide)
  have h2 : 0 ≤ h % (2 ^ 64 : Int) := Int.emod_nonneg _ (by decide)
  omega
/-- within 13 + m leaps from anywhere each slot is a run's beginning -/
theorem lp_cover {m : Nat} (hm : Mask m) {i pt j : Nat} (hp : pt < 2 ^ 64) (hj : j ≤ m) : ∃ L, 13 ≤ L ∧ L ≤ 13 + m ∧ (lp m L (i, pt)).1 = j := by
  have h0 : (lp m 13 (i, pt)).2 = 0 := by
    rw [lp_snd]
    exact Nat.div_eq_of_lt (Nat.lt_of_lt_of_le hp (by decide))
  obtain ⟨k, hk, e⟩ := lc_cover hm (lp_le m (L := 13) (by decide) (i, pt)) hj
  refine ⟨13 + k, by omega, by omega, ?_⟩
  rw [lp_add, show lp m 13 (i, pt) = ((lp m 13 (i, pt)).1, 0) from by rw [← h0], lp_zero]
  exact e
theorem runEnd_le (m i : Nat) : runEnd m i - i ≤ 9 := by
  unfold runEnd
  split <;> omega
theorem pth_run (m : Nat) : ∀ (k : Nat) (p : Probe), p.more = k → pth m (k + 1) p =
    { p with j := (leap m p.i p.perturb).1, more := runEnd m (leap m p.i p.perturb).1 - (leap m p.i p.perturb).1, i := (leap m p.i p.perturb).1, perturb := (leap m p.i p.perturb).2 }
  | 0, p, h => by
    show adv m p = _
    unfold adv
    rw [if_neg (by omega)]
  | k + 1, p, h => by
    show pth m (k + 1) (adv m p) = _
    have e : adv m p = { p with j := p.j + 1, more := p.more - 1 } := by
      unfold adv
      rw [if_pos (by omega)]
    rw [e, pth_run m k _ (by show p.more - 1 = k; omega)]
theorem pth_leaps (m : Nat) : ∀ (L : Nat) (p : Probe), p.more ≤ 9 → 0 < L → ∃ n, n ≤ 10 * L ∧ (pth m n p).j = (lp m L (p.i, p.perturb)).1 ∧ (pth m n p).i = (lp m L (p.i, p.perturb)).1 ∧ (pth m n p).perturb = (lp m L (p.i, p.perturb)).2 ∧ (pth m n p).more ≤ 9
  | 0, _, _, h => by omega
  | L + 1, p, hm, _ => by
    have e := pth_run m p.more p rfl
    by_cases q : L = 0
    · subst q
      refine ⟨p.more + 1, by omega, ?_⟩
      rw [e]
      exact ⟨rfl, rfl, rfl, runEnd_le _ _⟩
    · obtain ⟨n, hn, h1, h2, h3, h4⟩ := pth_leaps m L (pth m (p.more + 1) p) (by rw [e]; exact runEnd_le _ _) (by omega)
      refine ⟨p.more + 1 + n, by omega, ?_⟩
      rw [pth_add]
      rw [show ((pth m (p.more + 1) p).i, (pth m (p.more + 1) p).perturb) = leap m p.i p.perturb from by rw [e]] at h1 h2 h3
      exact ⟨h1, h2, h3, h4⟩
theorem cover {m : Nat} (hm : Mask m) {p : Probe} (hp : p.perturb < 2 ^ 64) (h9 : p.more ≤ 9) {j : Nat} (hj : j ≤ m) : ∃ n, n < 10 * turns m ∧ (pth m n p).j = j := by
  obtain ⟨L, h1, h2, e⟩ := lp_cover hm (i := p.i) hp hj
  obtain ⟨n, hn, e1, _⟩ := pth_leaps m L p h9 (by omega)
  exact ⟨n, by unfold turns; omega, e1.trans e⟩
theorem adv_ok (m : Nat) {p : Probe} (h : p.perturb < 2 ^ 64 ∧ p.more ≤ 9) : (adv m p).perturb < 2 ^ 64 ∧ (adv m p).more ≤ 9 := by
  unfold adv
  split
  · exact ⟨h.1, by show p.more - 1 ≤ 9; omega⟩
  · exact ⟨Nat.lt_of_le_of_lt (Nat.div_le_self _ _) h.1, runEnd_le _ _⟩
theorem pth_ok (m : Nat) : ∀ (n : Nat) {p : Probe}, (p.perturb < 2 ^ 64 ∧ p.more ≤ 9) → (pth m n p).perturb < 2 ^ 64 ∧ (pth m n p).more ≤ 9
  | 0, _, h => h
  | n + 1, p, h => pth_ok m n (adv_ok m h)
theorem start_ok (m : Nat) (h : Int) : (start m h).perturb < 2 ^ 64 ∧ (start m h).more ≤ 9 := ⟨bits_lt h, runEnd_le _ _⟩
/-- a rising array that has all of 0 .. m has more than m -/
theorem ris_all {xs : Array Nat} (hr : Ris xs) {m : Nat} (h : ∀ j, j ≤ m → In xs j) : m < xs.size := by
  have key : ∀ j, j ≤ m → ∀ i, xs[i]? = some j → j ≤ i := by
    intro j
    induction j with
    | zero => intro _ i _; exact Nat.zero_le _
    | succ j ih =>
      intro hj i hi
      obtain ⟨i', hi'⟩ := h j (by omega)
      have a := ih (by omega) i' hi'
      have b : i' < i := by
        rcases Nat.lt_trichotomy i' i with q | q | q
        · exact q
        · subst q
          rw [hi'] at hi
          have := Option.some.inj hi
          omega
        · have := hr _ _ _ _ q hi hi'
          omega
      omega
  obtain ⟨i, hi⟩ := h m (Nat.le_refl _)
  have := key m (Nat.le_refl _) i hi
  have := (Array.getElem?_eq_some_iff.mp hi).1
  omega
inductive Found (t : SetTable) (hashAt : Nat → Int) (h : Int) (p : Probe) : Met → Prop
  | empty (n : Nat) : ¬ In t.place (pth t.mask n p).j → (∀ n', n' < n → ∃ i, t.place[i]? = some (pth t.mask n' p).j ∧ hashAt i ≠ h) → Found t hashAt h p (.empty (pth t.mask n p).j p.dummy)
  | cand (n i : Nat) : t.place[i]? = some (pth t.mask n p).j → hashAt i = h → (∀ n', n' < n → ∃ i, t.place[i]? = some (pth t.mask n' p).j ∧ hashAt i ≠ h) → Found t hashAt h p (.candidate (pth t.mask n p).j i (pth t.mask (n + 1) p))
theorem go_found {t : SetTable} (hr : Ris t.place) (hd : t.dummies = #[]) (hashAt : Nat → Int) (h : Int) : ∀ (fuel : Nat) (p : Probe),
    (∀ r, probe.go t hashAt h fuel p = some r → Found t hashAt h p r) ∧ (probe.go t hashAt h fuel p = none → ∀ n, n < fuel → In t.place (pth t.mask n p).j)
  | 0, p => ⟨fun r e => by simp [probe.go] at e, fun _ n hn => by omega⟩
  | fuel + 1, p => by
    obtain ⟨ih1, ih2⟩ := go_found hr hd hashAt h fuel (adv t.mask p)
    unfold probe.go
    by_cases hin : In t.place p.j
    · obtain ⟨i, hi⟩ := hin
      rw [slot_live hr hi]
      dsimp only
      by_cases hh : hashAt i = h
      · rw [if_pos (by simpa using hh)]
        refine ⟨fun r e => ?_, fun e => by simp at e⟩
        cases e
        exact .cand 0 i hi hh (fun n' hn => by omega)
      · rw [if_neg (by simpa using hh), advance_eq]
        refine ⟨fun r e => ?_, fun e n hn => ?_⟩
        · have q := ih1 r e
          cases q with
          | empty n a b =>
            have := Found.empty (t := t) (hashAt := hashAt) (h := h) (p := p) (n + 1) a (fun n' hn' => by
              cases n' with
              | zero => exact ⟨i, hi, hh⟩
              | succ n' => exact b n' (by omega))
            rw [adv_dummy]
            exact this
          | cand n i' a a' b =>
            exact Found.cand (t := t) (hashAt := hashAt) (h := h) (p := p) (n + 1) i' a a' (fun n' hn' => by
              cases n' with
              | zero => exact ⟨i, hi, hh⟩
              | succ n' => exact b n' (by omega))
        · cases n with
          | zero => exact ⟨i, hi⟩
          | succ n => exact ih2 e n (by omega)
    · rw [slot_empty hd hin]
      refine ⟨fun r e => ?_, fun e => by simp at e⟩
      cases e
      exact .empty 0 hin (fun n' hn => by omega)
theorem probe_some {t : SetTable} (hr : Ris t.place) (hd : t.dummies = #[]) (hm : Mask t.mask) (hs : t.place.size ≤ t.mask) (hashAt : Nat → Int) (h : Int) {p : Probe} (hp : p.perturb < 2 ^ 64 ∧ p.more ≤ 9) :
    ∃ r, t.probe hashAt h p = some r ∧ Found t hashAt h p r := by
  obtain ⟨h1, h2⟩ := go_found hr hd hashAt h (10 * turns t.mask) p
  cases e : t.probe hashAt h p with
  | some r => exact ⟨r, rfl, h1 r e⟩
  | none =>
    exfalso
    have := ris_all hr (m := t.mask) fun j hj => by
      obtain ⟨n, hn, ej⟩ := cover hm hp.1 hp.2 hj
      have := h2 e n hn
      rw [ej] at this
      exact this
    omega
end Eb
set_option maxRecDepth 100000
namespace Eb
open PySem PySem.SetTable
def Reach (xs : Array Nat) (m : Nat) (h : Int) (j : Nat) : Prop := ∃ n, (pth m n (start m h)).j = j ∧ ∀ n', n' < n → In xs (pth m n' (start m h)).j
theorem Reach.mono {xs ys : Array Nat} {m : Nat} {h : Int} {j : Nat} (r : Reach xs m h j) (hs : ∀ j, In xs j → In ys j) : Reach ys m h j := by
  obtain ⟨n, e, k⟩ := r
  exact ⟨n, e, fun n' hn => hs _ (k n' hn)⟩
structure Lay (m : Nat) (hs : List Int) (owner : Array (Option Nat)) (sl : List Nat) : Prop where
  size : owner.size = m + 1
  len : sl.length = hs.length
  nod : sl.Nodup
  own : ∀ (j k : Nat), owner[j]? = some (some k) ↔ sl[k]? = some j
  reach : ∀ (k : Nat) (h : Int) (j : Nat), hs[k]? = some h → sl[k]? = some j → ∃ n, (pth m n (start m h)).j = j ∧ ∀ n', n' < n → (pth m n' (start m h)).j ∈ sl
theorem Lay.le {m : Nat} {hs : List Int} {owner : Array (Option Nat)} {sl : List Nat} (L : Lay m hs owner sl) {j : Nat} (h : j ∈ sl) : j ≤ m := by
  obtain ⟨k, hk⟩ := List.getElem?_of_mem h
  have := (Array.getElem?_eq_some_iff.mp ((L.own j k).mpr hk)).1
  rw [L.size] at this
  omega
theorem Lay.mem {m : Nat} {hs : List Int} {owner : Array (Option Nat)} {sl : List Nat} (L : Lay m hs owner sl) {j : Nat} (hj : j ≤ m) (h : ¬ owner[j]? = some none) : j ∈ sl := by
  cases q : owner[j]? with
  | none =>
    have := Array.getElem?_eq_none_iff.mp q
    rw [L.size] at this
    omega
  | some o =>
    cases o with
    | none => exact absurd q h
    | some k => exact List.mem_of_getElem? ((L.own j k).mp q)
def rs (m i pt : Nat) : Probe := { j := i, more := runEnd m i - i, i, perturb := pt, dummy := none }
theorem pth_in (m : Nat) : ∀ (k : Nat) (p : Probe), k ≤ p.more → (pth m k p).j = p.j + k
  | 0, _, _ => rfl
  | k + 1, p, h => by
    show (pth m k (adv m p)).j = _
    have e : adv m p = { p with j := p.j + 1, more := p.more - 1 } := by
      unfold adv
      rw [if_pos (by omega)]
    rw [e, pth_in m k _ (by show k ≤ p.more - 1; omega)]
    show p.j + 1 + k = _
    omega
theorem runEnd_ge (m i : Nat) : i ≤ runEnd m i := by
  unfold runEnd
  split <;> omega
theorem none_iff (owner : Array (Option Nat)) (j : Nat) : (owner.getD j (some 0)).isNone = true ↔ owner[j]? = some none := by
  rw [Array.getD_eq_getD_getElem?]
  cases e : owner[j]? with
  | none => simp
  | some o => cases o <;> simp
theorem free_spec (m : Nat) (owner : Array (Option Nat)) : ∀ (fuel i pt : Nat),
    (∀ j, layClean.free m owner fuel i pt = some j → owner[j]? = some none ∧ ∃ n, (pth m n (rs m i pt)).j = j ∧ ∀ n', n' < n → ¬ owner[(pth m n' (rs m i pt)).j]? = some none) ∧
    (layClean.free m owner fuel i pt = none → ∀ L, L < fuel → ¬ owner[(lp m L (i, pt)).1]? = some none)
  | 0, i, pt => ⟨fun j e => by simp [layClean.free] at e, fun _ L hL => by omega⟩
  | fuel + 1, i, pt => by
    obtain ⟨ih1, ih2⟩ := free_spec m owner fuel (leap m i pt).1 (leap m i pt).2
    have hmore : runEnd m i + 1 - i = (rs m i pt).more + 1 := by
      show runEnd m i + 1 - i = runEnd m i - i + 1
      have := runEnd_ge m i
      omega
    unfold layClean.free
    cases e : (List.range (runEnd m i + 1 - i)).find? fun k => (owner.getD (i + k) (some 0)).isNone with
    | some k =>
      obtain ⟨h1, h2, h3⟩ := List.find?_range_eq_some.mp e
      rw [List.mem_range, hmore] at h2
      dsimp only
      refine ⟨fun j ej => ?_, fun ej => by simp at ej⟩
      cases ej
      refine ⟨(none_iff _ _).mp h1, k, pth_in m k _ (by omega), fun n' hn' q => ?_⟩
      rw [pth_in m n' _ (by omega)] at q
      have := h3 n' hn'
      have q' := (none_iff owner (i + n')).mpr q
      rw [q'] at this
      simp at this
    | none =>
      have h3 : ∀ k, k ≤ (rs m i pt).more → ¬ owner[i + k]? = some none := fun k hk q => by
        have := List.find?_eq_none.mp e k (List.mem_range.mpr (by omega))
        exact this ((none_iff _ _).mpr q)
      dsimp only
      have er : pth m ((rs m i pt).more + 1) (rs m i pt) = rs m (leap m i pt).1 (leap m i pt).2 := pth_run m _ (rs m i pt) rfl
      refine ⟨fun j ej => ?_, fun ej L hL => ?_⟩
      · obtain ⟨a, n, b, c⟩ := ih1 j ej
        refine ⟨a, (rs m i pt).more + 1 + n, by rw [pth_add, er]; exact b, fun n' hn' => ?_⟩
        by_cases q : n' ≤ (rs m i pt).more
        · rw [pth_in m n' _ q]
          exact h3 n' q
        · obtain ⟨d, rfl⟩ : ∃ d, n' = (rs m i pt).more + 1 + d := ⟨n' - ((rs m i pt).more + 1), by omega⟩
          rw [pth_add, er]
          exact c d (by omega)
      · cases L with
        | zero => exact h3 0 (Nat.zero_le _)
        | succ L => exact ih2 ej L (by omega)
theorem runEnd_m {m i : Nat} (h : i ≤ m) : runEnd m i ≤ m := by
  unfold runEnd
  split <;> omega
theorem adv_le {m : Nat} {p : Probe} (h : p.j + p.more ≤ m) : (adv m p).j + (adv m p).more ≤ m := by
  unfold adv
  split
  · show p.j + 1 + (p.more - 1) ≤ m
    omega
  · have := leap_le m p.i p.perturb
    have a := runEnd_m this
    have b := runEnd_ge m (leap m p.i p.perturb).1
    show (leap m p.i p.perturb).1 + (runEnd m (leap m p.i p.perturb).1 - (leap m p.i p.perturb).1) ≤ m
    omega
theorem pth_le {m : Nat} : ∀ (n : Nat) {p : Probe}, p.j + p.more ≤ m → (pth m n p).j ≤ m
  | 0, p, h => by
    show p.j ≤ m
    omega
  | n + 1, _, h => pth_le n (adv_le h)
theorem start_le (m : Nat) (h : Int) : (start m h).j + (start m h).more ≤ m := by
  have := Nat.mod_lt (bits h) (Nat.succ_pos m)
  have a := runEnd_m (m := m) (i := bits h % (m + 1)) (Nat.le_of_lt_succ this)
  have b := runEnd_ge m (bits h % (m + 1))
  show bits h % (m + 1) + (runEnd m (bits h % (m + 1)) - bits h % (m + 1)) ≤ m
  omega
def layStep (m : Nat) (acc : Option (Array (Option Nat) × Nat)) (h : Int) : Option (Array (Option Nat) × Nat) := do
  let (owner, k) ← acc
  let j ← layClean.free m owner (turns m) (bits h % (m + 1)) (bits h)
  pure (owner.setIfInBounds j (some k), k + 1)
theorem layClean_eq (m : Nat) (hashes : Array Int) : layClean m hashes = (hashes.toList.foldl (layStep m) (some (Array.replicate (m + 1) none, 0))).map (·.1) := by
  unfold layClean
  rw [← Array.foldl_toList]
  rfl
theorem lay_nil (m : Nat) : Lay m [] (Array.replicate (m + 1) none) [] := by
  refine ⟨by simp, rfl, List.nodup_nil, fun j k => ?_, fun k h j e => by simp at e⟩
  simp [Array.getElem?_replicate]
theorem lay_step {m : Nat} (hm : Mask m) {hs : List Int} {owner : Array (Option Nat)} {sl : List Nat} (L : Lay m hs owner sl) (hl : hs.length ≤ m) (h : Int) :
    ∃ owner' sl', layStep m (some (owner, hs.length)) h = some (owner', (hs ++ [h]).length) ∧ Lay m (hs ++ [h]) owner' sl' := by
  obtain ⟨h1, h2⟩ := free_spec m owner (turns m) (bits h % (m + 1)) (bits h)
  cases e : layClean.free m owner (turns m) (bits h % (m + 1)) (bits h) with
  | none =>
    exfalso
    have : (List.range (m + 1)).length ≤ sl.length := nodup_sub_len List.nodup_range fun j hj => by
      have hj' : j ≤ m := by have := List.mem_range.mp hj; omega
      obtain ⟨Ln, a, b, c⟩ := lp_cover hm (i := bits h % (m + 1)) (bits_lt h) hj'
      have q := h2 e Ln (by unfold turns; omega)
      rw [c] at q
      exact L.mem hj' q
    rw [List.length_range, L.len] at this
    omega
  | some j =>
    obtain ⟨a, n, b, c⟩ := h1 j e
    have hjm : j < owner.size := (Array.getElem?_eq_some_iff.mp a).1
    have hjs : j ∉ sl := fun hj => by
      obtain ⟨k, hk⟩ := List.getElem?_of_mem hj
      have := (L.own j k).mpr hk
      rw [a] at this
      cases this
    refine ⟨owner.setIfInBounds j (some hs.length), sl ++ [j], ?_, ?_⟩
    · show (do let j ← layClean.free m owner (turns m) (bits h % (m + 1)) (bits h); pure (owner.setIfInBounds j (some hs.length), hs.length + 1)) = _
      rw [e, List.length_append]
      rfl
    · refine ⟨by rw [Array.size_setIfInBounds, L.size], by rw [List.length_append, List.length_append, L.len]; rfl, ?_, fun j' k' => ?_, fun k' h' j' e1 e2 => ?_⟩
      · rw [List.nodup_append]
        refine ⟨L.nod, by simp, fun x hx y hy => ?_⟩
        rw [List.mem_singleton] at hy
        rintro rfl
        subst hy
        exact hjs hx
      · rw [Array.getElem?_setIfInBounds]
        by_cases q : j = j'
        · subst q
          rw [if_pos rfl, if_pos hjm]
          constructor
          · intro e'
            have : hs.length = k' := by injection e' with e'; injection e'
            subst this
            rw [← L.len]
            simp
          · intro e'
            rcases Nat.lt_or_ge k' sl.length with q | q
            · rw [List.getElem?_append_left q] at e'
              exact absurd (List.mem_of_getElem? e') hjs
            · rw [List.getElem?_append_right q] at e'
              have : k' - sl.length = 0 := by
                have := (List.getElem?_eq_some_iff.mp e').1
                simp at this
                omega
              have : k' = hs.length := by rw [← L.len]; omega
              rw [this]
        · rw [if_neg q, L.own]
          rcases Nat.lt_or_ge k' sl.length with q' | q'
          · rw [List.getElem?_append_left q']
          · rw [List.getElem?_eq_none q', List.getElem?_append_right q']
            constructor
            · intro z; cases z
            · intro z
              obtain ⟨z1, z2⟩ := List.getElem?_eq_some_iff.mp z
              simp at z2
              exact absurd z2 q
      · rcases Nat.lt_or_ge k' hs.length with q | q
        · rw [List.getElem?_append_left q] at e1
          rw [List.getElem?_append_left (by rw [L.len]; exact q)] at e2
          obtain ⟨n, x, y⟩ := L.reach k' h' j' e1 e2
          exact ⟨n, x, fun n' hn' => List.mem_append_left _ (y n' hn')⟩
        · rw [List.getElem?_append_right q] at e1
          rw [List.getElem?_append_right (by rw [L.len]; exact q)] at e2
          obtain ⟨z1, z2⟩ := List.getElem?_eq_some_iff.mp e1
          obtain ⟨z3, z4⟩ := List.getElem?_eq_some_iff.mp e2
          simp at z2 z4
          subst z2
          subst z4
          refine ⟨n, b, fun n' hn' => List.mem_append_left _ (L.mem ?_ (c n' hn'))⟩
          exact pth_le n' (start_le m h)
theorem lay_fold {m : Nat} (hm : Mask m) : ∀ (hs2 hs1 : List Int) (owner : Array (Option Nat)) (sl : List Nat), Lay m hs1 owner sl → hs1.length + hs2.length ≤ m →
    ∃ owner' sl', hs2.foldl (layStep m) (some (owner, hs1.length)) = some (owner', (hs1 ++ hs2).length) ∧ Lay m (hs1 ++ hs2) owner' sl'
  | [], hs1, owner, sl, L, _ => ⟨owner, sl, by rw [List.append_nil]; rfl, by rw [List.append_nil]; exact L⟩
  | h :: r, hs1, owner, sl, L, hl => by
    rw [List.length_cons] at hl
    obtain ⟨o1, s1, e1, L1⟩ := lay_step hm L (by omega) h
    obtain ⟨o2, s2, e2, L2⟩ := lay_fold hm r (hs1 ++ [h]) o1 s1 L1 (by rw [List.length_append, List.length_singleton]; omega)
    rw [List.append_assoc] at e2 L2
    refine ⟨o2, s2, ?_, L2⟩
    rw [List.foldl_cons, e1]
    exact e2
theorem clean_some {m : Nat} (hm : Mask m) {hashes : Array Int} (hl : hashes.size ≤ m) : ∃ owner sl, layClean m hashes = some owner ∧ Lay m hashes.toList owner sl := by
  obtain ⟨o, sl, e, L⟩ := lay_fold hm hashes.toList [] _ _ (lay_nil m) (by simpa using hl)
  refine ⟨o, sl, ?_, by simpa using L⟩
  rw [layClean_eq]
  rw [show (0 : Nat) = ([] : List Int).length from rfl, e]
  rfl
def liveOf (m : Nat) (owner : Array (Option Nat)) : List (Nat × Nat) := (List.range (m + 1)).filterMap fun j => (owner.getD j none).map (j, ·)
theorem getD_none (owner : Array (Option Nat)) (j k : Nat) : owner.getD j none = some k ↔ owner[j]? = some (some k) := by
  rw [Array.getD_eq_getD_getElem?]
  cases e : owner[j]? with
  | none => simp
  | some o => simp
theorem live_mem {m : Nat} {hs : List Int} {owner : Array (Option Nat)} {sl : List Nat} (L : Lay m hs owner sl) (j k : Nat) : (j, k) ∈ liveOf m owner ↔ sl[k]? = some j := by
  unfold liveOf
  rw [List.mem_filterMap]
  constructor
  · rintro ⟨j', hj, e⟩
    cases q : owner.getD j' none with
    | none => rw [q] at e; cases e
    | some k' =>
      rw [q] at e
      have e' : (j', k') = (j, k) := Option.some.inj e
      cases e'
      exact (L.own _ _).mp ((getD_none _ _ _).mp q)
  · intro e
    refine ⟨j, List.mem_range.mpr (by have := L.le (List.mem_of_getElem? e); omega), ?_⟩
    rw [(getD_none _ _ _).mpr ((L.own _ _).mpr e)]
    rfl
theorem live_pw (m : Nat) (owner : Array (Option Nat)) : (liveOf m owner).Pairwise fun a b => a.1 < b.1 := by
  unfold liveOf
  refine List.Pairwise.filterMap _ (fun a a' h b hb b' hb' => ?_) List.pairwise_lt_range
  cases q : owner.getD a none with
  | none => rw [q] at hb; cases hb
  | some k =>
    cases q' : owner.getD a' none with
    | none => rw [q'] at hb'; cases hb'
    | some k' =>
      rw [q] at hb
      rw [q'] at hb'
      cases hb
      cases hb'
      exact h
theorem live_perm {m : Nat} {hs : List Int} {owner : Array (Option Nat)} {sl : List Nat} (L : Lay m hs owner sl) : (liveOf m owner).Perm sl.zipIdx := by
  refine (List.perm_ext_iff_of_nodup ((live_pw m owner).imp fun h e => by rw [e] at h; exact Nat.lt_irrefl _ h) ?_).mpr fun ⟨j, k⟩ => ?_
  · have : (sl.zipIdx.map (·.1)).Nodup := by
      rw [List.zipIdx_map_fst]
      exact L.nod
    exact List.Pairwise.of_map (·.1) (fun a b h e => h (by rw [e])) this
  · rw [live_mem L, List.mem_zipIdx_iff_getElem?]
theorem live_snd {m : Nat} {hs : List Int} {owner : Array (Option Nat)} {sl : List Nat} (L : Lay m hs owner sl) : ((liveOf m owner).map (·.2)).Perm (List.range hs.length) := by
  have := (live_perm L).map (·.2)
  rw [List.zipIdx_map_snd, L.len, ← List.range_eq_range'] at this
  exact this
structure Laid (m : Nat) (hashes : Array Int) (t : SetTable) (order : Array Nat) : Prop where
  mask : t.mask = m
  dum : t.dummies = #[]
  ris : Ris t.place
  size : t.place.size = hashes.size
  osize : order.size = hashes.size
  perm : order.toList.Perm (List.range hashes.size)
  at' : ∀ (q j : Nat), t.place[q]? = some j → j ≤ m ∧ ∃ (k : Nat) (h : Int), order[q]? = some k ∧ hashes[k]? = some h ∧ Reach t.place m h j
theorem laid_some {m : Nat} (hm : Mask m) {hashes : Array Int} (hl : hashes.size ≤ m) (fg mv : Nat) (led plain : Bool) :
    ∃ t order, laid m fg mv led plain hashes = some (t, order) ∧ t.led = led ∧ t.plain = plain ∧ Laid m hashes t order := by
  obtain ⟨owner, sl, e, L⟩ := clean_some hm hl
  have len : (liveOf m owner).length = hashes.size := by
    rw [(live_perm L).length_eq, List.length_zipIdx, L.len, Array.length_toList]
  have hin : ∀ j, j ∈ sl → In ((liveOf m owner).map (·.1)).toArray j := fun j hj => by
    obtain ⟨k, hk⟩ := List.getElem?_of_mem hj
    have := (live_mem L j k).mpr hk
    obtain ⟨q, hq⟩ := List.getElem?_of_mem this
    exact ⟨q, by rw [List.getElem?_toArray, List.getElem?_map, hq]; rfl⟩
  refine ⟨{ mask := m, place := ((liveOf m owner).map (·.1)).toArray, dummies := #[], finger := fg, led, moves := mv, plain }, ((liveOf m owner).map (·.2)).toArray, ?_, rfl, rfl, rfl, rfl, ?_, ?_, ?_, ?_, ?_⟩
  · unfold laid
    rw [e]
    rfl
  · intro i j x y hij hx hy
    rw [List.getElem?_toArray, List.getElem?_map] at hx hy
    cases ei : (liveOf m owner)[i]? with
    | none => rw [ei] at hx; cases hx
    | some a =>
      cases ej : (liveOf m owner)[j]? with
      | none => rw [ej] at hy; cases hy
      | some b =>
        rw [ei] at hx
        rw [ej] at hy
        cases hx
        cases hy
        obtain ⟨i1, i2⟩ := List.getElem?_eq_some_iff.mp ei
        obtain ⟨j1, j2⟩ := List.getElem?_eq_some_iff.mp ej
        have := List.pairwise_iff_getElem.mp (live_pw m owner) i j i1 j1 hij
        rw [i2, j2] at this
        exact this
  · simp [len]
  · simp [len]
  · have := live_snd L
    rw [Array.length_toList] at this
    exact this
  · intro q j hq
    show j ≤ m ∧ _
    have hq' : ((liveOf m owner).map (·.1)).toArray[q]? = some j := hq
    rw [List.getElem?_toArray, List.getElem?_map] at hq'
    cases ei : (liveOf m owner)[q]? with
    | none => rw [ei] at hq'; cases hq'
    | some a =>
      rw [ei] at hq'
      obtain ⟨j', k⟩ := a
      cases hq'
      have hk := (live_mem L j' k).mp (List.mem_of_getElem? ei)
      have hkl := (List.getElem?_eq_some_iff.mp hk).1
      rw [L.len] at hkl
      have hh := List.getElem?_eq_getElem hkl
      obtain ⟨n, n1, n2⟩ := L.reach k _ _ hh hk
      refine ⟨L.le (List.mem_of_getElem? hk), k, _, ?_, by rw [← Array.getElem?_toList]; exact hh, n, n1, fun n' hn' => hin _ (n2 n' hn')⟩
      rw [List.getElem?_toArray, List.getElem?_map, ei]
      rfl
end Eb
set_option maxRecDepth 100000
namespace Eb
open PySem PySem.SetTable
structure TOk (t : SetTable) (es : Array (Int × Value)) : Prop where
  ris : Ris t.place
  dum : t.dummies = #[]
  size : t.place.size = es.size
  le : ∀ (i j : Nat), t.place[i]? = some j → j ≤ t.mask
  reach : ∀ (i j : Nat) (e : Int × Value), t.place[i]? = some j → es[i]? = some e → Reach t.place t.mask e.1 j
  plain : t.plain = true
def Fit (m n : Nat) : Prop := (m = 7 ∧ n ≤ 4) ∨ (m = 31 ∧ n ≤ 18) ∨ (m = 127 ∧ n ≤ 76) ∨ (m = 511 ∧ n ≤ 306) ∨ (m = 2047 ∧ n ≤ 1228) ∨ (m = 8191 ∧ n ≤ 4914)
theorem Fit.mask {m n : Nat} (h : Fit m n) : Mask m := by
  rcases h with h | h | h | h | h | h
  · exact ⟨3, by decide, by rw [h.1]⟩
  · exact ⟨5, by decide, by rw [h.1]⟩
  · exact ⟨7, by decide, by rw [h.1]⟩
  · exact ⟨9, by decide, by rw [h.1]⟩
  · exact ⟨11, by decide, by rw [h.1]⟩
  · exact ⟨13, by decide, by rw [h.1]⟩
theorem Fit.lt {m n : Nat} (h : Fit m n) : n < m := by
  rcases h with h | h | h | h | h | h <;> omega
theorem Fit.mle {m n : Nat} (h : Fit m n) : m ≤ 8191 := by
  rcases h with h | h | h | h | h | h <;> omega
theorem Fit.odd {m n : Nat} (h : Fit m n) : m % 2 = 1 := by
  rcases h with h | h | h | h | h | h <;> omega
theorem TOk.fits {t : SetTable} {es : Array (Int × Value)} (T : TOk t es) (h : es.size ≤ t.mask) : t.fits es.size = true := by
  unfold SetTable.fits SetTable.fill
  rw [T.size, T.dum]
  simp
  omega
theorem ins_lt {α : Type} {xs : Array α} {p i : Nat} {x : α} (hp : p ≤ xs.size) (h : i < p) : (insertAt xs p x)[i]? = xs[i]? := by
  rw [← Array.getElem?_toList, ← Array.getElem?_toList, SetTable.toList_insertAt, List.getElem?_append_left (by rw [List.length_take, Array.length_toList]; omega), List.getElem?_take_of_lt h]
theorem ins_eq {α : Type} {xs : Array α} {p : Nat} {x : α} (hp : p ≤ xs.size) : (insertAt xs p x)[p]? = some x := by
  rw [← Array.getElem?_toList, SetTable.toList_insertAt, List.getElem?_append_right (by rw [List.length_take, Array.length_toList]; omega), List.length_take, Array.length_toList, show p - min p xs.size = 0 by omega]
  rfl
theorem ins_gt {α : Type} {xs : Array α} {p i : Nat} {x : α} (hp : p ≤ xs.size) (h : p < i) : (insertAt xs p x)[i]? = xs[i - 1]? := by
  rw [← Array.getElem?_toList, ← Array.getElem?_toList, SetTable.toList_insertAt, List.getElem?_append_right (by rw [List.length_take, Array.length_toList]; omega), List.length_take, Array.length_toList, show i - min p xs.size = (i - p - 1) + 1 by omega, List.getElem?_cons_succ, List.getElem?_drop, show p + (i - p - 1) = i - 1 by omega]
theorem ins_size {α : Type} (xs : Array α) (p : Nat) (x : α) : (insertAt xs p x).size = xs.size + 1 := by
  have := (SetTable.insertAt_perm xs p x).length_eq
  simpa using this
theorem ins_in {xs : Array Nat} {p j0 : Nat} (hp : p ≤ xs.size) {j : Nat} (h : In xs j) : In (insertAt xs p j0) j := by
  obtain ⟨i, hi⟩ := h
  rcases Nat.lt_or_ge i p with q | q
  · exact ⟨i, by rw [ins_lt hp q]; exact hi⟩
  · exact ⟨i + 1, by rw [ins_gt hp (by omega)]; exact hi⟩
theorem ins_cases {α β : Type} {xs : Array α} {ys : Array β} {p i : Nat} {x a : α} {y b : β} (hp : p ≤ xs.size) (hs : xs.size = ys.size) (h1 : (insertAt xs p x)[i]? = some a) (h2 : (insertAt ys p y)[i]? = some b) :
    (a = x ∧ b = y) ∨ ∃ i' : Nat, xs[i']? = some a ∧ ys[i']? = some b := by
  have hp' : p ≤ ys.size := by omega
  rcases Nat.lt_trichotomy i p with q | q | q
  · rw [ins_lt hp q] at h1
    rw [ins_lt hp' q] at h2
    exact .inr ⟨i, h1, h2⟩
  · subst q
    rw [ins_eq hp] at h1
    rw [ins_eq hp'] at h2
    exact .inl ⟨(Option.some.inj h1).symm, (Option.some.inj h2).symm⟩
  · rw [ins_gt hp q] at h1
    rw [ins_gt hp' q] at h2
    exact .inr ⟨i - 1, h1, h2⟩
theorem ins_one {α : Type} {xs : Array α} {p i : Nat} {x a : α} (hp : p ≤ xs.size) (h1 : (insertAt xs p x)[i]? = some a) : a = x ∨ ∃ i' : Nat, xs[i']? = some a := by
  rcases ins_cases (ys := xs) (y := x) (b := a) hp rfl h1 h1 with h | ⟨i, h, _⟩
  · exact .inl h.1
  · exact .inr ⟨i, h⟩
theorem ins_ris {xs : Array Nat} (hr : Ris xs) {j : Nat} (hn : ¬ In xs j) : Ris (insertAt xs (below xs j) j) := by
  obtain ⟨h0, h1, h2⟩ := below_at hr j
  intro a b x y hab hx hy
  rcases Nat.lt_trichotomy a (below xs j) with qa | qa | qa
  · rw [ins_lt h0 qa] at hx
    rcases Nat.lt_trichotomy b (below xs j) with qb | qb | qb
    · rw [ins_lt h0 qb] at hy
      exact hr _ _ _ _ hab hx hy
    · subst qb
      rw [ins_eq h0] at hy
      cases hy
      exact h1 _ _ qa hx
    · rw [ins_gt h0 qb] at hy
      exact hr _ _ _ _ (by omega) hx hy
  · subst qa
    rw [ins_eq h0] at hx
    cases hx
    rw [ins_gt h0 hab] at hy
    have := h2 _ _ (by omega) hy
    rcases Nat.lt_or_ge j y with q | q
    · exact q
    · exact absurd ⟨_, by rw [show j = y by omega]; exact hy⟩ hn
  · rw [ins_gt h0 qa] at hx
    rw [ins_gt h0 (by omega)] at hy
    exact hr _ _ _ _ (by omega) hx hy
theorem put_ok {t : SetTable} {es : Array (Int × Value)} (T : TOk t es) {j : Nat} {h : Int} (x : Value) (hj : j ≤ t.mask) (hn : ¬ In t.place j) (hr : Reach t.place t.mask h j) :
    TOk (t.put j).1 (insertAt es (t.put j).2 (h, x)) ∧ (t.put j).1.mask = t.mask ∧ (t.put j).1.led = t.led := by
  have e : (t.put j).1 = { t with place := insertAt t.place (below t.place j) j } := by
    unfold SetTable.put
    dsimp only
    rw [T.dum, has_nil]
    have := T.dum
    cases t
    subst this
    rfl
  have e2 : (t.put j).2 = below t.place j := rfl
  have hp : below t.place j ≤ t.place.size := (below_at T.ris j).1
  rw [e, e2]
  refine ⟨⟨ins_ris T.ris hn, T.dum, ?_, fun i j' h' => ?_, fun i j' e' h1 h2 => ?_, T.plain⟩, rfl, rfl⟩
  · show (insertAt t.place (below t.place j) j).size = _
    rw [ins_size, ins_size, T.size]
  · show j' ≤ t.mask
    rcases ins_one hp h' with rfl | ⟨i', q⟩
    · exact hj
    · exact T.le _ _ q
  · show Reach (insertAt t.place (below t.place j) j) t.mask e'.1 j'
    rcases ins_cases hp T.size h1 h2 with ⟨rfl, rfl⟩ | ⟨i', q1, q2⟩
    · exact hr.mono fun j h => ins_in hp h
    · exact (T.reach _ _ _ q1 q2).mono fun j h => ins_in hp h
theorem fm_get {α : Type} {es : Array α} : ∀ {l : List Nat}, (∀ k ∈ l, k < es.size) → ∀ q : Nat, (l.filterMap (es[·]?))[q]? = (l[q]?).bind (es[·]?)
  | [], _, q => by simp
  | k :: r, h, q => by
    have hk := h k (.head _)
    have e : es[k]? = some es[k] := Array.getElem?_eq_getElem hk
    rw [List.filterMap_cons, e]
    dsimp only
    cases q with
    | zero => simp [e]
    | succ q =>
      rw [List.getElem?_cons_succ, List.getElem?_cons_succ]
      exact fm_get (fun k' h' => h k' (.tail _ h')) q
theorem relay_ok {t : SetTable} {es : Array (Int × Value)} (T : TOk t es) {m : Nat} (hm : Mask m) (hl : es.size ≤ m) {wanted : Nat} (hw : sizeAbove wanted - 1 = m) :
    ∃ t' order, t.relaid (es.map (·.1)) wanted = some (t', order) ∧ (order.filterMap (es[·]?)).size = es.size ∧ TOk t' (order.filterMap (es[·]?)) ∧ (order.filterMap (es[·]?)).toList.Perm es.toList ∧ t'.mask = m ∧ t'.led = t.led ∧ order.toList.Perm (List.range es.size) := by
  obtain ⟨t', order, e, e1, e2, L⟩ := laid_some hm (hashes := es.map (·.1)) (by simpa using hl) t.finger (t.movedTo (sizeAbove wanted - 1)) t.led t.plain
  have hsz : (es.map (·.1)).size = es.size := by simp
  have perm : order.toList.Perm (List.range es.size) := by
    have := L.perm
    rwa [hsz] at this
  have hp : (order.filterMap (es[·]?)).toList.Perm es.toList := by
    rw [Array.toList_filterMap]
    have := perm.filterMap (es[·]?)
    rwa [filterMap_getElem?_range] at this
  have hall : ∀ k ∈ order.toList, k < es.size := fun k hk => List.mem_range.mp (perm.mem_iff.mp hk)
  have hs' : (order.filterMap (es[·]?)).size = es.size := by
    rw [← Array.length_toList, hp.length_eq, Array.length_toList]
  refine ⟨t', order, ?_, hs', ⟨L.ris, L.dum, by rw [L.size, hsz, hs'], fun i j h => by rw [L.mask]; exact (L.at' i j h).1, fun i j e' h1 h2 => ?_, e2.trans T.plain⟩, hp, L.mask, e1, perm⟩
  · unfold SetTable.relaid
    rw [hw] at e ⊢
    exact e
  · obtain ⟨_, k, h, o1, o2, r⟩ := L.at' i j h1
    rw [← Array.getElem?_toList, Array.toList_filterMap, fm_get hall, Array.getElem?_toList, o1] at h2
    have h3 : es[k]? = some e' := h2
    rw [Array.getElem?_map, h3] at o2
    have : e'.1 = h := Option.some.inj o2
    rw [this, L.mask]
    exact r
theorem full_cases {m n : Nat} (h : Fit m n) (hn : n + 1 ≤ 4900) : (¬ (n + 1) * 5 ≥ m * 3 ∧ Fit m (n + 1)) ∨ ((n + 1) * 5 ≥ m * 3 ∧ ∃ m', Mask m' ∧ sizeAbove (grown (n + 1)) - 1 = m' ∧ sizeAbove (grown (n + 1)) ≤ 8192 ∧ n + 1 ≤ m' ∧ Fit m' (n + 1)) := by
  have mk : ∀ {a b : Nat}, Fit a b → Mask a := fun h => h.mask
  rcases h with ⟨rfl, h⟩ | ⟨rfl, h⟩ | ⟨rfl, h⟩ | ⟨rfl, h⟩ | ⟨rfl, h⟩ | ⟨rfl, h⟩
  · by_cases q : n = 4
    · subst q
      have f : Fit 31 5 := .inr (.inl ⟨rfl, by omega⟩)
      exact .inr ⟨by omega, 31, f.mask, by decide +kernel, by decide +kernel, by omega, f⟩
    · exact .inl ⟨by omega, .inl ⟨rfl, by omega⟩⟩
  · by_cases q : n = 18
    · subst q
      have f : Fit 127 19 := .inr (.inr (.inl ⟨rfl, by omega⟩))
      exact .inr ⟨by omega, 127, f.mask, by decide +kernel, by decide +kernel, by omega, f⟩
    · exact .inl ⟨by omega, .inr (.inl ⟨rfl, by omega⟩)⟩
  · by_cases q : n = 76
    · subst q
      have f : Fit 511 77 := .inr (.inr (.inr (.inl ⟨rfl, by omega⟩)))
      exact .inr ⟨by omega, 511, f.mask, by decide +kernel, by decide +kernel, by omega, f⟩
    · exact .inl ⟨by omega, .inr (.inr (.inl ⟨rfl, by omega⟩))⟩
  · by_cases q : n = 306
    · subst q
      have f : Fit 2047 307 := .inr (.inr (.inr (.inr (.inl ⟨rfl, by omega⟩))))
      exact .inr ⟨by omega, 2047, f.mask, by decide +kernel, by decide +kernel, by omega, f⟩
    · exact .inl ⟨by omega, .inr (.inr (.inr (.inl ⟨rfl, by omega⟩)))⟩
  · by_cases q : n = 1228
    · subst q
      have f : Fit 8191 1229 := .inr (.inr (.inr (.inr (.inr ⟨rfl, by omega⟩))))
      exact .inr ⟨by omega, 8191, f.mask, by decide +kernel, by decide +kernel, by omega, f⟩
    · exact .inl ⟨by omega, .inr (.inr (.inr (.inr (.inl ⟨rfl, by omega⟩))))⟩
  · exact .inl ⟨by omega, .inr (.inr (.inr (.inr (.inr ⟨rfl, by omega⟩))))⟩
theorem fresh_ok (fg mv : Nat) (led : Bool) : TOk (.fresh fg mv led) #[] ∧ Fit (SetTable.fresh fg mv led).mask 0 :=
  ⟨⟨fun i j x y _ h => by simp [SetTable.fresh] at h, rfl, rfl, fun i j h => by simp [SetTable.fresh] at h, fun i j e h => by simp [SetTable.fresh] at h, rfl⟩, .inl ⟨rfl, Nat.zero_le _⟩⟩
end Eb
set_option maxRecDepth 100000
namespace Eb
open PySem PySem.SetTable
section
variable {prog : Program} {w : World} {A : Around} {E : Value → Shared → Prop} {s : Shared}
abbrev TupAt (prog : Program) (w : World) (h : Heap) (ks : List Int) (a : Addr) : Prop := IsTupleKey (intKind prog w) h ks a
abbrev thash (prog : Program) (w : World) (ks : List Int) : Int := tupleKeyHash (intKind prog w) ks
/-- an element of a set of tuples -/
def El (prog : Program) (w : World) (h : Heap) (e : Int × Value) (ks : List Int) : Prop := ∃ a, e = (thash prog w ks, .ref a) ∧ TupAt prog w h ks a
theorem quiet_items {items : List Value} (h : ∀ v ∈ items, carriedByValue v = true) (d : Nat) {v : Value} (hv : v ∈ items) : ofAClassStatement d v = pure false := by
  have := h v hv
  cases v <;> first | (simp [carriedByValue] at this; done) | (cases d <;> rfl)
theorem wp_ofClass {ks : List Int} {a : Addr} {Q : Bool → Shared → Prop} (hk : TupAt prog w s.heap ks a) (h : Q false s) : wpAny (model prog w) A (ofAClassStatement 8 (.ref a)) Q E s := by
  have hT := hk.typeIs
  obtain ⟨o, items, n, ho, _, hd, hi⟩ := hk
  unfold ofAClassStatement
  refine wpAny_bind (wpAny_typeOf hT ?_)
  dsimp only
  rw [if_pos (by decide : ("tuple" == "tuple") = true)]
  refine wpAny_bind (wpAny_pure ?_)
  simp only [Bool.not_true, Bool.false_eq_true, if_false]
  refine wpAny_bind (wpAny_seqItems ho hd ?_)
  dsimp only
  refine wpAny_bind ?_
  rw [← Array.forIn_toList]
  refine wpAny_forIn_list _ (fun rest r s' => r.1 = none ∧ s' = s ∧ ∀ v ∈ rest, v ∈ items.toList) _ ?_ ?_ _ _ ⟨rfl, rfl, fun v h => h⟩
  · rintro v rest r s' ⟨hr, rfl, hall⟩
    rw [quiet_items hi.byValue _ (hall v List.mem_cons_self)]
    refine wpAny_bind (wpAny_pure ?_)
    simp only [Bool.false_eq_true, if_false]
    exact wpAny_pure ⟨rfl, rfl, fun u hu' => hall u (List.mem_cons_of_mem _ hu')⟩
  · rintro ⟨r1, r2⟩ s' ⟨hr, rfl, _⟩
    simp only at hr
    subst hr
    exact wpAny_pure h
theorem wp_seen {ks : List Int} {a : Addr} {Q : Bool → Shared → Prop} (hk : TupAt prog w s.heap ks a) : ∀ (l : List Value), (∀ v ∈ l, ∃ ks' b, v = .ref b ∧ TupAt prog w s.heap ks' b) → Q false s →
    wpAny (model prog w) A (searchCouldBeSeen (.ref a) l) Q E s := by
  intro l hl h
  unfold searchCouldBeSeen
  refine wpAny_bind ?_
  refine wpAny_forIn_list _ (fun rest r s' => r.1 = none ∧ s' = s ∧ ∀ v ∈ rest, ∃ ks' b, v = .ref b ∧ TupAt prog w s.heap ks' b) _ ?_ ?_ _ _ ⟨rfl, rfl, hl⟩
  · rintro v rest r s' ⟨hr, rfl, hall⟩
    obtain ⟨ks', b, rfl, hb⟩ := hall v List.mem_cons_self
    have hrest : ∀ v ∈ rest, ∃ ks' b, v = .ref b ∧ TupAt prog w s'.heap ks' b := fun u hu' => hall u (List.mem_cons_of_mem _ hu')
    dsimp only
    by_cases q : (a == b || carriedByValue (.ref a) && carriedByValue (.ref b)) = true
    · rw [if_pos q]
      exact wpAny_pure ⟨rfl, rfl, hrest⟩
    · rw [if_neg q]
      refine wpAny_bind (wpAny_eqIsQuiet_tuple hk ?_)
      simp only [Bool.not_true, Bool.false_eq_true, if_false]
      refine wpAny_bind (wpAny_eqIsQuiet_tuple hb ?_)
      simp only [Bool.not_true, Bool.false_eq_true, if_false]
      refine wpAny_bind (wp_ofClass hk ?_)
      simp only [Bool.false_eq_true, if_false]
      refine wpAny_bind (wp_ofClass hb ?_)
      simp only [Bool.false_eq_true, if_false]
      exact wpAny_pure ⟨rfl, rfl, hrest⟩
  · rintro ⟨r1, r2⟩ s' ⟨hr, rfl, _⟩
    simp only at hr
    subst hr
    exact wpAny_pure h
theorem wp_hashByValue {ks : List Int} {a : Addr} {Q : Bool → Shared → Prop} (hk : TupAt prog w s.heap ks a) (h : Q true s) : wpAny (model prog w) A (hashByValue 8 (.ref a)) Q E s := by
  have hT := hk.typeIs
  obtain ⟨o, items, n, ho, _, hd, hi⟩ := hk
  unfold hashByValue
  refine wpAny_bind (wpAny_specialOf hT F.slot_tuple_hash.lookup ?_)
  show wpAny _ _ (seqItems? (.ref a) >>= _) _ _ s
  refine wpAny_bind (wpAny_seqItems ho hd ?_)
  refine wpAny_bind ?_
  show wpAny _ _ (forIn items _ _) _ _ s
  rw [← Array.forIn_toList]
  refine wpAny_forIn_list _ (fun rest r s' => r.1 = none ∧ s' = s ∧ ∃ ks', ItemsAre (intKind prog w) ks' rest) _ ?_ ?_ _ _ ⟨rfl, rfl, ks, hi⟩
  · rintro v rest r s' ⟨hr, rfl, ks', hi'⟩
    cases hi' with
    | cons h1 h2 =>
      have e : hashByValue 7 v = pure true := by
        have h1' : v.isInt _ = true := h1
        cases v <;> first | rfl | (simp [Value.isInt] at h1'; done)
      rw [e]
      refine wpAny_bind (wpAny_pure ?_)
      simp only [Bool.not_true, Bool.false_eq_true, if_false]
      exact wpAny_pure ⟨rfl, rfl, _, h2⟩
  · rintro ⟨r1, r2⟩ s' ⟨hr, rfl, _⟩
    simp only at hr
    subst hr
    exact wpAny_pure h
/-- what a search that adds may tell -/
def SFound (prog : Program) (w : World) (h : Heap) (t : SetTable) (es : Array (Int × Value)) (ks : List Int) (r : SetFound) : Prop :=
  (r = .there none ∧ ∃ e ∈ es.toList, El prog w h e ks) ∨ ∃ j, r = .free j false ∧ j ≤ t.mask ∧ ¬ In t.place j ∧ Reach t.place t.mask (thash prog w ks) j ∧ ∀ e ∈ es.toList, ¬ El prog w h e ks
def hA (es : Array (Int × Value)) (i : Nat) : Int := (es[i]?.map (·.1)).getD 0
theorem wp_search {S : Addr} {o : Obj} {es : Array (Int × Value)} {ep : Nat} {t : SetTable} {ks : List Int} {a : Addr} {Q : SetFound → Shared → Prop} (hu : A.units < cLine)
    (ho : s.heap.get? S = some o) (hd : o.data = .set es ep t) (T : TOk t es) (hf : Fit t.mask es.size) (hel : ∀ e ∈ es.toList, ∃ ks', El prog w s.heap e ks') (hk : TupAt prog w s.heap ks a)
    (hQ : ∀ r, SFound prog w s.heap t es ks r → Q r s) {nE : Nat} (hE : ¬ In t.place (pth t.mask nE (start t.mask (thash prog w ks))).j) :
    ∀ (fuel n : Nat) (stand : Option Probe), stand.getD (start t.mask (thash prog w ks)) = pth t.mask n (start t.mask (thash prog w ks)) → n ≤ nE → nE + 1 ≤ fuel + n →
      (∀ n', n' < n → ∃ (i : Nat) (e : Int × Value), t.place[i]? = some (pth t.mask n' (start t.mask (thash prog w ks))).j ∧ es[i]? = some e ∧ ¬ El prog w s.heap e ks) →
      wpAny (model prog w) A (setSearchFrom S (.ref a) (thash prog w ks) true fuel stand) Q E s := by
  intro fuel
  induction fuel with
  | zero => intro n stand _ h1 h2 _; omega
  | succ fuel ih =>
    intro n stand hst h1 h2 hocc
    have hfit : t.fits es.size = true := T.fits (Nat.le_of_lt hf.lt)
    unfold setSearchFrom
    refine wpAny_bind (wpAny_setState_of ho hd hfit ?_)
    dsimp only
    have hgw : t.gaveWay = false := by
      unfold SetTable.gaveWay
      rw [hf.odd]
      rfl
    rw [hgw]
    simp only [Bool.false_eq_true, if_false]
    rw [start_eq, hst]
    obtain ⟨r, er, F⟩ := probe_some T.ris T.dum hf.mask (by rw [T.size]; exact Nat.le_of_lt hf.lt) (hA es) (thash prog w ks) (pth_ok t.mask n (start_ok t.mask (thash prog w ks)))
    have occ2 : ∀ n1, (∀ n', n' < n1 → ∃ i, t.place[i]? = some (pth t.mask n' (pth t.mask n (start t.mask (thash prog w ks)))).j ∧ hA es i ≠ thash prog w ks) →
        ∀ n', n' < n + n1 → ∃ (i : Nat) (e : Int × Value), t.place[i]? = some (pth t.mask n' (start t.mask (thash prog w ks))).j ∧ es[i]? = some e ∧ ¬ El prog w s.heap e ks := by
      intro n1 hb n' hn'
      rcases Nat.lt_or_ge n' n with q | q
      · exact hocc n' q
      · obtain ⟨i, i1, i2⟩ := hb (n' - n) (by omega)
        rw [← pth_add, show n + (n' - n) = n' by omega] at i1
        have hi : i < es.size := by
          rw [← T.size]
          exact (Array.getElem?_eq_some_iff.mp i1).1
        have e := Array.getElem?_eq_getElem hi
        refine ⟨i, _, i1, e, fun ⟨b, eb, _⟩ => i2 ?_⟩
        unfold hA
        rw [e, eb]
        rfl
    show wpAny _ _ (match t.probe (hA es) (thash prog w ks) (pth t.mask n (start t.mask (thash prog w ks))) with | some met => _ | _ => _) _ _ _
    rw [er]
    dsimp only
    cases F with
    | empty n1 e1 e2 =>
      rw [pth_dummy]
      show wpAny _ _ (pure _) _ _ _
      refine wpAny_pure (hQ _ (.inr ⟨_, rfl, ?_⟩))
      rw [← pth_add] at e1 ⊢
      have occ := occ2 n1 e2
      refine ⟨pth_le _ (start_le _ _), e1, ⟨_, rfl, fun n' hn' => ?_⟩, fun e he El' => ?_⟩
      · obtain ⟨i, _, hi, _⟩ := occ n' hn'
        exact ⟨i, hi⟩
      · obtain ⟨i, hi⟩ := List.getElem?_of_mem he
        rw [Array.getElem?_toList] at hi
        have hip : i < t.place.size := by
          rw [T.size]
          exact (Array.getElem?_eq_some_iff.mp hi).1
        have ei := Array.getElem?_eq_getElem hip
        obtain ⟨n0, r1, r2⟩ := T.reach _ _ _ ei hi
        obtain ⟨b, eb, _⟩ := id El'
        rw [eb] at r1 r2
        rcases Nat.lt_trichotomy n0 (n + n1) with q | q | q
        · obtain ⟨i', e', a1, a2, a3⟩ := occ n0 q
          have r1' : (pth t.mask n0 (start t.mask (thash prog w ks))).j = _ := r1
          rw [r1'] at a1
          have := T.ris.inj a1 ei
          subst this
          rw [hi] at a2
          cases a2
          exact a3 El'
        · subst q
          exact e1 ⟨i, by rw [ei]; exact congrArg some r1.symm⟩
        · exact e1 (r2 _ q)
    | cand n1 i c1 c2 c3 =>
      have hi : i < es.size := by
        rw [← T.size]
        exact (Array.getElem?_eq_some_iff.mp c1).1
      have ei := Array.getElem?_eq_getElem hi
      obtain ⟨ks', b, eb, hb⟩ := hel es[i] (by rw [← Array.getElem_toList]; exact List.getElem_mem _)
      dsimp only
      have main : wpAny (model prog w) A (do
          let some (_, y) := es[i]? | unsupported "internal:set-entry"
          let equal ← holding [y] (eqBool y (.ref a))
          let (es', _, t') ← setState S
          if true && equal then return .there none
          let some same := t'.sameMemory t.moves t.mask | unsupported "set.changed-during-lookup:is-the-new-block-at-the-old-address"
          let still ← match (if same then t'.slot (pth t.mask n1 (pth t.mask n (start t.mask (thash prog w ks)))).j else .empty) with
            | .live i' => match es'[i']? with
              | some (_, y') => do pure (if ← isSame y' y then some i' else none)
              | none => pure none
            | _ => pure none
          match still with
          | none => rule "set.search.anew"; setSearchFrom S (.ref a) (thash prog w ks) true fuel none
          | some i' => if equal then return .there (some i') else setSearchFrom S (.ref a) (thash prog w ks) true fuel (some (pth t.mask (n1 + 1) (pth t.mask n (start t.mask (thash prog w ks)))))) Q E s := by
        rw [ei, eb]
        dsimp only
        refine wpAny_bind (wpAny_holding (wpAny_eqBool_tuple hu hb hk ?_))
        refine wpAny_bind (wpAny_setState_of ho hd hfit ?_)
        dsimp only
        by_cases q : ks' = ks
        · subst q
          rw [decide_eq_true rfl]
          simp only [Bool.and_self, if_true]
          refine wpAny_pure (hQ _ (.inl ⟨rfl, es[i], by rw [← Array.getElem_toList]; exact List.getElem_mem _, b, eb, hb⟩))
        · rw [decide_eq_false q]
          simp only [Bool.and_false, Bool.false_eq_true, if_false]
          have hsm : t.sameMemory t.moves t.mask = some true := by
            unfold SetTable.sameMemory
            rw [if_pos (by simp)]
          rw [hsm]
          dsimp only
          rw [if_pos rfl, slot_live T.ris c1]
          dsimp only
          rw [ei, eb]
          dsimp only
          refine wpAny_bind (wpAny_isSame_ref_self (wpAny_bind (wpAny_pure ?_)))
          rw [if_pos rfl]
          dsimp only
          have occ : ∀ n', n' < n + n1 + 1 → ∃ (i : Nat) (e : Int × Value), t.place[i]? = some (pth t.mask n' (start t.mask (thash prog w ks))).j ∧ es[i]? = some e ∧ ¬ El prog w s.heap e ks := by
            intro n' hn'
            rcases Nat.lt_or_ge n' (n + n1) with q' | q'
            · exact occ2 n1 c3 n' q'
            · have : n' = n + n1 := by omega
              subst this
              rw [← pth_add] at c1
              refine ⟨i, es[i], c1, ei, fun ⟨b', eb', hb'⟩ => q ?_⟩
              rw [eb] at eb'
              have : b = b' := by
                injection eb' with _ z
                injection z
              subst this
              exact hb.inj hb'
          have hnE : n + n1 < nE := by
            rcases Nat.lt_or_ge (n + n1) nE with z | z
            · exact z
            · obtain ⟨i', _, hi', _⟩ := occ nE (by omega)
              exact absurd ⟨i', hi'⟩ hE
          refine ih (n + n1 + 1) _ ?_ (by omega) (by omega) occ
          show pth t.mask (n1 + 1) (pth t.mask n _) = _
          rw [← pth_add, Nat.add_assoc]
      by_cases hled : t.led = true
      · rw [hled]
        exact main
      · rw [show t.led = false by simpa using hled]
        simp only [Bool.not_false, if_true]
        refine wpAny_bind (wp_seen hk _ (fun v hv => ?_) ?_)
        · obtain ⟨e, he, rfl⟩ := List.mem_map.mp hv
          have he' : e ∈ es.toList := by
            rw [Array.mem_toList_iff] at he ⊢
            exact (Array.mem_filter.mp he).1
          obtain ⟨ks'', b', eb', hb'⟩ := hel e he'
          exact ⟨ks'', b', by rw [eb'], hb'⟩
        · simp only [Bool.false_eq_true, if_false]
          exact main
end
end Eb
set_option maxRecDepth 100000
namespace Eb
open PySem PySem.SetTable
/-- a set stands at S, its elements are els in some order -/
def SetAt (h : Heap) (S : Addr) (led : Bool) (els : List (Int × Value)) : Prop :=
  ∃ o es ep t, h.get? S = some o ∧ o.ExactSet ∧ o.data = .set es ep t ∧ TOk t es ∧ Fit t.mask es.size ∧ t.led = led ∧ es.toList.Perm els
section
variable {prog : Program} {w : World} {A : Around} {E : Value → Shared → Prop} {s : Shared}
theorem SetAt.keep {h h' : Heap} {S : Addr} {led : Bool} {els : List (Int × Value)} (x : SetAt h S led els) (k : ∀ o, h.get? S = some o → h'.get? S = some o) : SetAt h' S led els := by
  obtain ⟨o, es, ep, t, ho, r⟩ := x
  exact ⟨o, es, ep, t, k _ ho, r⟩
theorem TupAt.keep {h h' : Heap} {ks : List Int} {a : Addr} (x : TupAt prog w h ks a) (k : ∀ o, h.get? a = some o → h'.get? a = some o) : TupAt prog w h' ks a := by
  obtain ⟨o, items, n, ho, r⟩ := x
  exact ⟨o, items, n, k _ ho, r⟩
theorem store_at {h : Heap} {S : Addr} {o : Obj} {es : Array (Int × Value)} {ep : Nat} {t : SetTable} (ho : h.get? S = some o) (hd : o.data = .set es ep t) (es' : Array (Int × Value)) (t' : SetTable) :
    (h.update S (Obj.putSet es' t')).get? S = some { o with data := .set es' (ep + 1) t' } := by
  have := Heap.get?_update_self (Obj.putSet es' t') ho (by rw [putSet_of es' t' hd]; rfl)
  rw [putSet_of es' t' hd] at this
  exact this
theorem small76 {n : Nat} (h : n ≤ 4900) : n ≤ sizeLine := by
  rw [sizeLine_eq]
  omega
theorem exists_empty {t : SetTable} {es : Array (Int × Value)} (T : TOk t es) (hf : Fit t.mask es.size) (h : Int) : ∃ nE, nE < 10 * turns t.mask ∧ ¬ In t.place (pth t.mask nE (start t.mask h)).j := by
  obtain ⟨j, hj, hn⟩ : ∃ j, j ≤ t.mask ∧ ¬ In t.place j := by
    refine Classical.byContradiction fun q => ?_
    have := ris_all T.ris (m := t.mask) fun j hj => Classical.byContradiction fun z => q ⟨j, hj, z⟩
    rw [T.size] at this
    have := hf.lt
    omega
  obtain ⟨n, hn1, e⟩ := cover hf.mask (start_ok t.mask h).1 (start_ok t.mask h).2 hj
  exact ⟨n, hn1, by rw [e]; exact hn⟩
/-- an element is laid at a free slot, and the table made anew where it's too full -/
theorem lay_at {h : Heap} {S : Addr} {o : Obj} {es : Array (Int × Value)} {ep : Nat} {t : SetTable} (ho : h.get? S = some o) (hex : o.ExactSet) (hd : o.data = .set es ep t) (T : TOk t es) (hf : Fit t.mask es.size)
    (h76 : es.size + 1 ≤ 4900) {j : Nat} {hh : Int} (x : Value) (hj : j ≤ t.mask) (hn : ¬ In t.place j) (hr : Reach t.place t.mask hh j) :
    ((t.put j).1.tooFull = false ∧ SetAt (h.update S (Obj.putSet (insertAt es (t.put j).2 (hh, x)) (t.put j).1)) S t.led (es.toList ++ [(hh, x)])) ∨
    ((t.put j).1.tooFull = true ∧ ∃ t' order, (t.put j).1.relaid ((insertAt es (t.put j).2 (hh, x)).map (·.1)) (grown (es.size + 1)) = some (t', order) ∧ ¬ sizeAbove (grown (es.size + 1)) > sizeLine ∧
      (order.filterMap ((insertAt es (t.put j).2 (hh, x))[·]?)).size = es.size + 1 ∧ order.toList.Perm (List.range (es.size + 1)) ∧ t'.fits (es.size + 1) = true ∧
      SetAt ((h.update S (Obj.putSet (insertAt es (t.put j).2 (hh, x)) (t.put j).1)).update S (Obj.putSet (order.filterMap ((insertAt es (t.put j).2 (hh, x))[·]?)) t')) S t.led (es.toList ++ [(hh, x)])) := by
  obtain ⟨T1, hm, hl⟩ := put_ok T x hj hn hr
  have hs1 := ins_size es (t.put j).2 (hh, x)
  have hp1 : (insertAt es (t.put j).2 (hh, x)).toList.Perm (es.toList ++ [(hh, x)]) := by
    have := SetTable.insertAt_perm es (t.put j).2 (hh, x)
    rwa [Array.toList_push] at this
  have ho1 := store_at ho hd (insertAt es (t.put j).2 (hh, x)) (t.put j).1
  have hfull : (t.put j).1.tooFull = decide ((es.size + 1) * 5 ≥ t.mask * 3) := by
    unfold SetTable.tooFull SetTable.fill
    rw [T1.size, T1.dum, hs1, hm]
    rfl
  rcases full_cases hf h76 with ⟨c, hf1⟩ | ⟨c, m', hm', hw, h128, hle, hf1⟩
  · refine .inl ⟨by rw [hfull]; exact decide_eq_false c, _, _, _, _, ho1, hex, rfl, T1, by rw [hm, hs1]; exact hf1, hl, hp1⟩
  · obtain ⟨t', order, e1, e2, T2, p2, m2, l2, op⟩ := relay_ok T1 hm' (by rw [hs1]; exact hle) hw
    rw [hs1] at e2 op
    refine .inr ⟨by rw [hfull]; exact decide_eq_true c, t', order, e1, ?_, e2, op, ?_, ?_⟩
    · rw [sizeLine_eq]
      omega
    · have := T2.fits (by rw [e2, m2]; exact hle)
      rwa [e2] at this
    · exact ⟨_, _, _, _, store_at ho1 rfl _ _, hex, rfl, T2, by rw [e2, m2]; exact hf1, l2.trans hl, p2.trans hp1⟩
/-- adding a tuple -/
theorem wp_addT {S : Addr} {led : Bool} {els : List (Int × Value)} {ks : List Int} {a : Addr} {Q : Bool → Shared → Prop} (hu : A.units < cLine) (hS : SetAt s.heap S led els)
    (hel : ∀ e ∈ els, ∃ ks', El prog w s.heap e ks') (hk : TupAt prog w s.heap ks a) (h76 : els.length + 1 ≤ 4900)
    (h : ∀ (b : Bool) (h' : Heap) (tk : Nat) (els' : List (Int × Value)), s.toks ≤ tk → Heap.SameBut S s.heap h' → SetAt h' S led els' →
      ((els' = els ∧ ∃ e ∈ els, El prog w s.heap e ks) ∨ (els' = els ++ [(thash prog w ks, .ref a)] ∧ ∀ e ∈ els, ¬ El prog w s.heap e ks)) → Q b { s with heap := h', toks := tk }) :
    wpAny (model prog w) A (setAdd S (.ref a)) Q E s := by
  unfold setAdd
  refine wpAny_holding (wpAny_bind (wpAny_pyHash_tuple hu hk ?_))
  unfold setAddHashed setAddHashedIn
  refine wpAny_holding ?_
  obtain ⟨o, es, ep, t, ho, hex, hd, T, hf, hl, hp⟩ := hS
  have hlen : es.size = els.length := by rw [← Array.length_toList, hp.length_eq]
  have hfit : t.fits es.size = true := T.fits (Nat.le_of_lt hf.lt)
  refine wpAny_bind (wpAny_setState_of ho hd hfit ?_)
  dsimp only
  rw [show byScan (Value.ref a) es = false from rfl]
  simp only [Bool.false_eq_true, if_false]
  obtain ⟨nE, hE1, hE2⟩ := exists_empty T hf (thash prog w ks)
  have hE3 : nE + 1 ≤ 100000 + 0 := by
    have : turns t.mask ≤ 8206 := by
      unfold turns
      have := hf.mle; omega
    omega
  refine wpAny_bind ?_
  unfold setSearch
  refine wp_search (s := { s with toks := s.toks + (ks.length + 1) }) hu ho hd T hf (fun e he => hel e (hp.mem_iff.mp he)) hk (fun r hr => ?_) hE2 100000 0 none rfl (Nat.zero_le _) hE3 (fun n' hn' => by omega)
  rcases hr with ⟨rfl, e, he, hE'⟩ | ⟨j, rfl, hj, hn, hr, hno⟩
  · exact wpAny_pure (h false s.heap _ els (Nat.le_add_right _ _) (Heap.SameBut.refl _ _) ⟨o, es, ep, t, ho, hex, hd, T, hf, hl, hp⟩ (.inl ⟨rfl, e, hp.mem_iff.mp he, hE'⟩))
  · dsimp only
    refine wpAny_bind (wpAny_setState_of ho hd hfit ?_)
    dsimp only
    have hpl : (t.put j).1.plain = true := (put_ok T (.ref a) hj hn hr).1.plain
    rw [hpl]
    simp only [if_true]
    refine wpAny_bind (wp_hashByValue hk ?_)
    simp only [if_true, Bool.not_false, Bool.true_and]
    have h76' : es.size + 1 ≤ 4900 := by rw [hlen]; exact h76
    refine wpAny_bind (wpAny_storeSet_of ho hd ?_ (by rw [ins_size]; exact small76 h76'))
    have hsb := Heap.SameBut.update s.heap S (Obj.putSet (insertAt es (t.put j).2 (thash prog w ks, .ref a)) (t.put j).1)
    have hno' : ∀ e ∈ els, ¬ El prog w s.heap e ks := fun e he => hno e (hp.mem_iff.mpr he)
    have fin : ∀ h', SetAt h' S t.led (es.toList ++ [(thash prog w ks, .ref a)]) → SetAt h' S led (els ++ [(thash prog w ks, .ref a)]) := fun h' x => by
      obtain ⟨o, es, ep, t', x1, x2, x3, x4, x5, x6, x7⟩ := x
      exact ⟨o, es, ep, t', x1, x2, x3, x4, x5, x6.trans hl, x7.trans (hp.append_right _)⟩
    rcases lay_at ho hex hd T hf h76' (.ref a) hj hn hr with ⟨c, X⟩ | ⟨c, t', order, e1, e2, e3, _, _, X⟩
    · rw [c]
      simp only [Bool.false_eq_true, if_false]
      exact wpAny_pure (h true _ _ _ (Nat.le_add_right _ _) hsb (fin _ X) (.inr ⟨rfl, hno'⟩))
    · rw [c]
      simp only [if_true]
      have ho1 := store_at ho hd (insertAt es (t.put j).2 (thash prog w ks, .ref a)) (t.put j).1
      have T1 := (put_ok T (.ref a) hj hn hr).1
      unfold setRelay
      refine wpAny_bind (wpAny_bind (wpAny_setState_of ho1 rfl (T1.fits ?_) ?_))
      · rw [ins_size, (put_ok T (.ref a) hj hn hr).2.1]
        have := hf.lt
        omega
      dsimp only
      rw [if_neg e2, e1]
      refine wpAny_bind (?_ : wpAny _ _ (do
        let es' := order.filterMap ((insertAt es (t.put j).2 (thash prog w ks, Value.ref a))[·]?)
        if es'.size != (insertAt es (t.put j).2 (thash prog w ks, Value.ref a)).size then unsupported "internal:set-table-lost-an-element"
        pure (es', t')) _ _ _)
      dsimp only
      rw [e3, ins_size]
      simp only [bne_self_eq_false, Bool.false_eq_true, if_false]
      refine wpAny_pure ?_
      dsimp only
      refine wpAny_storeSet_of ho1 rfl ?_ (by rw [e3]; exact small76 h76')
      exact wpAny_pure (h true _ _ _ (Nat.le_add_right _ _) (hsb.trans (Heap.SameBut.update _ S _)) (fin _ X) (.inr ⟨rfl, hno'⟩))
end
end Eb
set_option maxRecDepth 100000
namespace Eb
open PySem PySem.SetTable
section
variable {prog : Program} {w : World} {A : Around} {E : Value → Shared → Prop} {s : Shared}
def ihash (prog : Program) (w : World) (k : Int) : Int := (intKind prog w).hash k
def ElI (prog : Program) (w : World) (e : Int × Value) (k : Int) : Prop := ∃ t, e = (ihash prog w k, .int k t)
theorem ElI.elems {els : List (Int × Value)} (h : ∀ e ∈ els, ∃ k, ElI prog w e k) : ElemsOf (intKind prog w) els := fun e he => by
  obtain ⟨k, t, rfl⟩ := h e he
  exact ⟨⟨k, intKind_is _ _ _ _, rfl⟩, rfl⟩
theorem ElI.is {e : Int × Value} {k k' : Int} (h : ElI prog w e k) (q : (intKind prog w).is k' e.2 = true) : k = k' := by
  obtain ⟨t, rfl⟩ := h
  exact (intKind prog w).inj _ _ _ (intKind_is prog w k t) q
theorem layNew_at {t : SetTable} {es : Array (Int × Value)} (T : TOk t es) (hf : Fit t.mask es.size) (h : Int) (x : Value) :
    ∃ j, j ≤ t.mask ∧ ¬ In t.place j ∧ Reach t.place t.mask h j ∧ layNew t es h x = (insertAt es (t.put j).2 (h, x), (t.put j).1, false, false) := by
  obtain ⟨r, er, F⟩ := probe_some T.ris T.dum hf.mask (by rw [T.size]; exact Nat.le_of_lt hf.lt) (fun _ => h + 1) h (start_ok t.mask h)
  cases F with
  | cand n i c1 c2 c3 => omega
  | empty n e1 e2 =>
    have hr : Reach t.place t.mask h (pth t.mask n (start t.mask h)).j := ⟨n, rfl, fun n' hn' => by
      obtain ⟨i, hi, _⟩ := e2 n' hn'
      exact ⟨i, hi⟩⟩
    have hj := pth_le n (start_le t.mask h)
    refine ⟨_, hj, e1, hr, ?_⟩
    have hfs : t.freeSlot h = some ((pth t.mask n (start t.mask h)).j, false) := by
      unfold SetTable.freeSlot
      rw [start_eq, er]
      rfl
    obtain ⟨T1, hm, _⟩ := put_ok T x hj e1 hr
    have hfit := T1.fits (by rw [ins_size, hm]; have := hf.lt; omega)
    unfold layNew
    rw [hfs]
    dsimp only
    unfold SetTable.orStandIn
    rw [if_pos hfit, hfit]
    rfl
theorem wp_addI {S : Addr} {led : Bool} {els : List (Int × Value)} {k : Int} {u : Tok} {Q : Bool → Shared → Prop} (hS : SetAt s.heap S led els)
    (hel : ∀ e ∈ els, ∃ k', ElI prog w e k') (h76 : els.length + 1 ≤ 4000)
    (h : ∀ (b : Bool) (h' : Heap) (tk : Nat) (els' : List (Int × Value)), s.toks ≤ tk → Heap.SameBut S s.heap h' → SetAt h' S led els' →
      ((els' = els ∧ ∃ e ∈ els, ElI prog w e k) ∨ (els' = els ++ [(ihash prog w k, .int k u)] ∧ ∀ e ∈ els, ¬ ElI prog w e k)) → Q b { s with heap := h', toks := tk }) :
    wpAny (model prog w) A (setAdd S (.int k u)) Q E s := by
  unfold setAdd
  refine wpAny_holding (wpAny_bind ((intKind prog w).pyHash (intKind_is prog w k u) ?_))
  unfold setAddHashed setAddHashedIn
  refine wpAny_holding ?_
  obtain ⟨o, es, ep, t, ho, hex, hd, T, hf, hl, hp⟩ := hS
  have hlen : es.size = els.length := by rw [← Array.length_toList, hp.length_eq]
  have hfit : t.fits es.size = true := T.fits (Nat.le_of_lt hf.lt)
  have hel' : ∀ e ∈ es.toList, ∃ k', ElI prog w e k' := fun e he => hel e (hp.mem_iff.mp he)
  refine wpAny_bind (wpAny_setState_of ho hd hfit ?_)
  dsimp only
  have hb : es.size < scanBound := by
    have := h76
    unfold scanBound
    omega
  rw [byScan_of (x := .int k u) rfl hb (ElI.elems hel')]
  simp only [↓reduceIte]
  unfold setAddByScan
  refine wpAny_bind ?_
  refine wpAny_bind (wpAny_rule ?_)
  refine wpAny_bind (wpAny_setScan_of (knd := intKind prog w) (k := k) (s := { s with toks := s.toks + 1 }) (intKind_is _ _ _ _) ho hd hfit (ElI.elems hel') ?_)
  cases hr : List.findIdx? (fun e => (intKind prog w).is k e.2) es.toList with
  | some j =>
    dsimp only
    obtain ⟨hj, hpj, _⟩ := List.findIdx?_eq_some_iff_getElem.mp hr
    refine wpAny_pure (wpAny_pure ?_)
    obtain ⟨k', hk'⟩ := hel' _ (List.getElem_mem hj)
    have := hk'.is hpj
    subst this
    exact h false s.heap _ els (Nat.le_add_right _ _) (Heap.SameBut.refl _ _) ⟨o, es, ep, t, ho, hex, hd, T, hf, hl, hp⟩ (.inl ⟨rfl, _, hp.mem_iff.mp (List.getElem_mem hj), hk'⟩)
  | none =>
    dsimp only
    have hno : ∀ e ∈ els, ¬ ElI prog w e k := fun e he q => by
      have := List.findIdx?_eq_none_iff.mp hr e (hp.mem_iff.mpr he)
      obtain ⟨tk, rfl⟩ := q
      rw [intKind_is] at this
      cases this
    obtain ⟨j, hj, hn, hrch, eL⟩ := layNew_at T hf (ihash prog w k) (.int k u)
    have eL' : layNew t es ((intKind prog w).hash k) (.int k u) = _ := eL
    rw [eL']
    dsimp only
    refine wpAny_bind (wpAny_pure ?_)
    have hpl : (t.put j).1.plain = true := (put_ok T (.int k u) hj hn hrch).1.plain
    rw [hpl]
    simp only [if_true]
    rw [hashByValue_scannable 8 (x := .int k u) rfl]
    refine wpAny_bind (wpAny_pure ?_)
    rw [show plainKind (.int k u) = true from rfl]
    simp only [if_true, Bool.not_false, Bool.true_and]
    have h76' : es.size + 1 ≤ 4000 := by rw [hlen]; exact h76
    refine wpAny_bind (wpAny_storeSet_of ho hd ?_ (by rw [ins_size]; exact small76 (by omega)))
    have hsb := Heap.SameBut.update s.heap S (Obj.putSet (insertAt es (t.put j).2 (ihash prog w k, .int k u)) (t.put j).1)
    have fin : ∀ h', SetAt h' S t.led (es.toList ++ [(ihash prog w k, .int k u)]) → SetAt h' S led (els ++ [(ihash prog w k, .int k u)]) := fun h' x => by
      obtain ⟨o, es, ep, t', x1, x2, x3, x4, x5, x6, x7⟩ := x
      exact ⟨o, es, ep, t', x1, x2, x3, x4, x5, x6.trans hl, x7.trans (hp.append_right _)⟩
    rcases lay_at ho hex hd T hf (by omega) (.int k u) hj hn hrch with ⟨c, X⟩ | ⟨c, t', order, e1, e2, e3, e4, e5, X⟩
    · rw [c]
      simp only [Bool.false_eq_true, if_false]
      exact wpAny_pure (wpAny_pure (h true _ _ _ (Nat.le_add_right _ _) hsb (fin _ X) (.inr ⟨rfl, hno⟩)))
    · rw [c]
      simp only [if_true]
      have ho1 := store_at ho hd (insertAt es (t.put j).2 (ihash prog w k, .int k u)) (t.put j).1
      have eR : relayAll (t.put j).1 (insertAt es (t.put j).2 (ihash prog w k, .int k u)) (grown (insertAt es (t.put j).2 (ihash prog w k, Value.int k u)).size) = (order.filterMap ((insertAt es (t.put j).2 (ihash prog w k, .int k u))[·]?), t', false) := by
        unfold relayAll
        rw [ins_size, e1]
        dsimp only
        rw [e3, e5, if_pos]
        unfold coversAll
        rw [List.isPerm_iff.mpr e4]
        rfl
      rw [eR]
      dsimp only
      refine wpAny_bind (wpAny_pure ?_)
      refine wpAny_bind (wpAny_storeSet_of ho1 rfl ?_ (by rw [e3]; exact small76 (by omega)))
      exact wpAny_pure (wpAny_pure (h true _ _ _ (Nat.le_add_right _ _) (hsb.trans (Heap.SameBut.update _ S _)) (fin _ X) (.inr ⟨rfl, hno⟩)))
end
end Eb
set_option maxRecDepth 100000
namespace Eb
open PySem PySem.SetTable PySem.Spec
def addK {α κ : Type} [DecidableEq κ] (kf : α → κ) (l : List α) (a : α) : List α := if (l.map kf).contains (kf a) then l else l ++ [a]
def dedupK {α κ : Type} [DecidableEq κ] (kf : α → κ) (l : List α) : List α := l.foldl (addK kf) []
theorem dedupK_snoc {α κ : Type} [DecidableEq κ] (kf : α → κ) (l : List α) (a : α) : dedupK kf (l ++ [a]) = addK kf (dedupK kf l) a := by
  unfold dedupK
  rw [List.foldl_append]
  rfl
theorem addK_pos {α κ : Type} [DecidableEq κ] {kf : α → κ} {l : List α} {a : α} (h : kf a ∈ l.map kf) : addK kf l a = l := by
  unfold addK
  rw [if_pos (List.contains_iff_mem.mpr h)]
theorem addK_neg {α κ : Type} [DecidableEq κ] {kf : α → κ} {l : List α} {a : α} (h : ¬ kf a ∈ l.map kf) : addK kf l a = l ++ [a] := by
  unfold addK
  rw [if_neg (fun q => h (List.contains_iff_mem.mp q))]
theorem addK_sub {α κ : Type} [DecidableEq κ] {kf : α → κ} {l : List α} {a b : α} (h : b ∈ addK kf l a) : b ∈ l ∨ b = a := by
  unfold addK at h
  split at h
  · exact .inl h
  · rcases List.mem_append.mp h with q | q
    · exact .inl q
    · exact .inr (List.mem_singleton.mp q)
theorem addK_len {α κ : Type} [DecidableEq κ] (kf : α → κ) (l : List α) (a : α) : (addK kf l a).length ≤ l.length + 1 := by
  unfold addK
  split
  · omega
  · rw [List.length_append]
    exact Nat.le_refl _
theorem dedup_go {α κ : Type} [DecidableEq κ] (kf : α → κ) : ∀ (l acc : List α), (∀ b, b ∈ l.foldl (addK kf) acc → b ∈ acc ∨ b ∈ l) ∧ (l.foldl (addK kf) acc).length ≤ acc.length + l.length ∧
    ((acc.map kf).Nodup → ((l.foldl (addK kf) acc).map kf).Nodup) ∧ (∀ k, k ∈ (l.foldl (addK kf) acc).map kf ↔ k ∈ acc.map kf ∨ k ∈ l.map kf)
  | [], acc => ⟨fun b h => .inl h, Nat.le_refl _, fun h => h, fun k => by simp⟩
  | a :: r, acc => by
    obtain ⟨h1, h2, h3, h4⟩ := dedup_go kf r (addK kf acc a)
    have hm : ∀ k, k ∈ (addK kf acc a).map kf ↔ k ∈ acc.map kf ∨ k = kf a := fun k => by
      unfold addK
      split
      · rename_i hc
        have hc' : kf a ∈ acc.map kf := List.contains_iff_mem.mp hc
        exact ⟨.inl, fun q => q.elim id fun e => e ▸ hc'⟩
      · simp [List.map_append, List.mem_append, eq_comm]
    refine ⟨fun b h => ?_, ?_, fun h => h3 ?_, fun k => ?_⟩
    · rcases h1 b h with q | q
      · rcases addK_sub q with q | q
        · exact .inl q
        · exact .inr (by rw [q]; exact List.mem_cons_self)
      · exact .inr (List.mem_cons_of_mem _ q)
    · have := addK_len kf acc a
      rw [List.foldl_cons, List.length_cons]
      omega
    · unfold addK
      split
      · exact h
      · rename_i hc
        rw [List.map_append, List.nodup_append]
        refine ⟨h, by simp, fun x hx y hy => ?_⟩
        simp only [List.map_cons, List.map_nil, List.mem_singleton] at hy
        rintro rfl
        subst hy
        exact hc (List.contains_iff_mem.mpr hx)
    · rw [List.foldl_cons, h4, hm, List.map_cons, List.mem_cons]
      exact or_assoc
theorem dedupK_mem {α κ : Type} [DecidableEq κ] {kf : α → κ} {l : List α} {b : α} (h : b ∈ dedupK kf l) : b ∈ l := ((dedup_go kf l []).1 b h).elim (fun q => by cases q) id
theorem dedupK_len {α κ : Type} [DecidableEq κ] (kf : α → κ) (l : List α) : (dedupK kf l).length ≤ l.length := by
  have := (dedup_go kf l []).2.1
  rw [List.length_nil, Nat.zero_add] at this
  exact this
theorem dedupK_nodup {α κ : Type} [DecidableEq κ] (kf : α → κ) (l : List α) : ((dedupK kf l).map kf).Nodup := (dedup_go kf l []).2.2.1 List.nodup_nil
theorem dedupK_keys {α κ : Type} [DecidableEq κ] (kf : α → κ) (l : List α) (k : κ) : k ∈ (dedupK kf l).map kf ↔ k ∈ l.map kf := by
  refine ((dedup_go kf l []).2.2.2 k).trans ⟨fun h => h.elim (fun q => by cases q) id, .inr⟩
/-- things that a set can hold: what is stored of one, what must hold of it in a heap, and that adding goes well -/
structure Kind (prog : Program) (w : World) (α κ : Type) [DecidableEq κ] (kf : α → κ) (el : α → Int × Value) (Good : Heap → α → Prop) (lim : Nat) : Prop where
  add : ∀ {A : Around} {E : Value → Shared → Prop} {s : Shared} {S : Addr} {led : Bool} {l : List α} {a : α} {Q : Bool → Shared → Prop}, A.units < cLine → SetAt s.heap S led (l.map el) → (∀ b ∈ l, Good s.heap b) → Good s.heap a → l.length + 1 ≤ lim →
    (∀ (b : Bool) (h' : Heap) (tk : Nat), s.toks ≤ tk → Heap.SameBut S s.heap h' → SetAt h' S led ((addK kf l a).map el) → Q b { s with heap := h', toks := tk }) → wpAny (model prog w) A (setAdd S (el a).2) Q E s
theorem kind_tup (prog : Program) (w : World) (kf : Addr → List Int) : Kind prog w Addr (List Int) kf (fun a => (thash prog w (kf a), .ref a)) (fun h a => TupAt prog w h (kf a) a) 4900 where
  add := fun {A E s S led l a Q} hu hS hl ha h76 h => by
    refine wp_addT hu hS (fun e he => ?_) ha (by rw [List.length_map]; exact h76) fun b h' tk els' htk hsb hS' hc => h b h' tk htk hsb ?_
    · obtain ⟨b, hb, rfl⟩ := List.mem_map.mp he
      exact ⟨kf b, b, rfl, hl b hb⟩
    · rcases hc with ⟨rfl, e, he, hE⟩ | ⟨rfl, hno⟩
      · obtain ⟨b, hb, rfl⟩ := List.mem_map.mp he
        have : kf a ∈ l.map kf := by
          obtain ⟨c, ec, hc⟩ := hE
          have : b = c := by injection ec with _ z; injection z
          subst this
          have := (hl b hb).inj hc
          exact List.mem_map.mpr ⟨b, hb, this⟩
        rw [addK_pos this]
        exact hS'
      · have : ¬ kf a ∈ l.map kf := fun hc => by
          obtain ⟨b, hb, e⟩ := List.mem_map.mp hc
          exact hno _ (List.mem_map.mpr ⟨b, hb, rfl⟩) ⟨b, by rw [e], by rw [← e]; exact hl b hb⟩
        rw [addK_neg this, List.map_append]
        exact hS'
theorem kind_int (prog : Program) (w : World) : Kind prog w (Int × Tok) Int (·.1) (fun p => (ihash prog w p.1, .int p.1 p.2)) (fun _ _ => True) 4000 where
  add := fun {A E s S led l a Q} hu hS hl ha h76 h => by
    refine wp_addI hS (fun e he => ?_) (by rw [List.length_map]; exact h76) fun b h' tk els' htk hsb hS' hc => h b h' tk htk hsb ?_
    · obtain ⟨b, hb, rfl⟩ := List.mem_map.mp he
      exact ⟨b.1, b.2, rfl⟩
    · rcases hc with ⟨rfl, e, he, hE⟩ | ⟨rfl, hno⟩
      · obtain ⟨b, hb, rfl⟩ := List.mem_map.mp he
        have : a.1 ∈ l.map (·.1) := by
          obtain ⟨c, ec⟩ := hE
          have : b.1 = a.1 := by injection ec with _ z; injection z
          exact List.mem_map.mpr ⟨b, hb, this⟩
        rw [addK_pos this]
        exact hS'
      · have : ¬ a.1 ∈ l.map (·.1) := fun hc => by
          obtain ⟨b, hb, e⟩ := List.mem_map.mp hc
          exact hno _ (List.mem_map.mpr ⟨b, hb, rfl⟩) ⟨b.2, by rw [e]⟩
        rw [addK_neg this, List.map_append]
        exact hS'
def byText (w : World) : Bool := w.params.followText "set-order"
section
variable {prog : Program} {w : World} {A : Around} {R : Result → Shared → Prop} {I : Addr} {fp wr : List Addr} {G : Array GenState → Array GenState → Prop} {n : Nat} {P : Nat → Value → Prop} {St : Nat → Shared → Prop}
variable {α κ : Type} [DecidableEq κ] {kf : α → κ} {el : α → Int × Value} {Good : Heap → α → Prop}
theorem upd_loop {lim : Nat} (KD : Kind prog w α κ kf el Good lim) (hu : A.in1.units < cLine) (W : WalksS prog w A.in1 I fp wr G n P St) (S : Addr) (hSf : S ∉ fp) {led : Bool} (xs : List α) (hn : xs.length = n) (h76 : n ≤ lim)
    (hval : ∀ i v, P i v → ∃ a, xs[i]? = some a ∧ v = (el a).2) {h₀ : Heap} (hwr : ∀ b ∈ wr, h₀.get? b = none) (hS0 : h₀.get? S = none)
    (good : ∀ h, (∀ b o, h₀.get? b = some o → h.get? b = some o) → ∀ a ∈ xs, Good h a) :
    ∀ (k i : Nat) (s : Shared), n - i = k → i ≤ n → St i s → (∀ b o, h₀.get? b = some o → s.heap.get? b = some o) → SetAt s.heap S led ((dedupK kf (xs.take i)).map el) →
      (∀ s', Moved (S :: wr) G s s' → SetAt s'.heap S led ((dedupK kf xs).map el) → R (.ok (.ret .none)) s') →
      codeAny (model prog w) A (.builtin "set.update.loop" ⟨[.ref S, .ref I], []⟩) R s := by
  have hSw : S ∉ wr := fun h => hSf (W.sub _ h)
  have hsub : ∀ b ∈ wr, b ∈ S :: wr := fun b hb => List.mem_cons_of_mem _ hb
  intro k
  induction k with
  | zero =>
    intro i s hk hi hst hK hS hR
    have hin : i = n := by omega
    subst hin
    refine codeAny_builtin PyProof.Rows.F.entry_set_update_loop ?_
    rw [Around.under_plainId PyProof.Rows.F.plain_set_update_loop _]
    show wpAny _ A.in1 (pyNext (.ref I) >>= _) _ _ s
    refine wpAny_bind (W.done s _ _ hst fun s' hm => ?_)
    show wpAny _ A.in1 (ret Value.none) _ _ s'
    refine wpAny_pure (hR s' (hm.mono hsub) ?_)
    rw [List.take_of_length_le (by omega)] at hS
    exact hS.keep fun o e => hm.heap S o hSw e
  | succ k ih =>
    intro i s hk hi hst hK hS hR
    have hlt : i < n := by omega
    refine codeAny_builtin PyProof.Rows.F.entry_set_update_loop ?_
    rw [Around.under_plainId PyProof.Rows.F.plain_set_update_loop _]
    show wpAny _ A.in1 (pyNext (.ref I) >>= _) _ _ s
    refine wpAny_bind (W.item i s _ _ hlt hst fun v s' hP hst' hm => ?_)
    obtain ⟨a, ha, rfl⟩ := hval i v hP
    have hS' := hS.keep fun o e => hm.heap S o hSw e
    have hK' : ∀ b o, h₀.get? b = some o → s'.heap.get? b = some o := fun b o e => hm.heap b o (fun hb => by rw [hwr b hb] at e; cases e) (hK b o e)
    have hg := good _ hK'
    have hlen := dedupK_len kf (xs.take i)
    rw [List.length_take] at hlen
    show wpAny _ A.in1 (holding [(el a).2] (setAdd S (el a).2) >>= _) _ _ s'
    refine wpAny_bind (wpAny_holding ?_)
    refine KD.add hu hS' (fun b hb => hg b (List.mem_of_mem_take (dedupK_mem hb))) (hg a (List.mem_of_getElem? ha)) (by omega) fun b h' tk htk hsb hS2 => ?_
    have hSi : SetAt h' S led ((dedupK kf (xs.take (i + 1))).map el) := by
      have : xs.take (i + 1) = xs.take i ++ [a] := by
        rw [List.take_add_one, ha]
        rfl
      rw [this, dedupK_snoc]
      exact hS2
    refine wpAny_pure ⟨plainId_quiet PyProof.Rows.F.plain_set_update_loop _, ih (i + 1) _ (by omega) hlt (W.frame _ s' _ _ hst' htk fun b hb o e => ?_) (fun b o e => ?_) hSi fun s'' hm'' hS'' => ?_⟩
    · rw [hsb.2 b (fun h : b = S => hSf (by rw [← h]; exact hb))]; exact e
    · show h'.get? b = some o
      rw [hsb.2 b (fun h : b = S => by rw [h, hS0] at e; cases e)]
      exact hK' b o e
    · refine hR s'' (Moved.trans W.gtrans ((hm.mono hsub).then_heap htk fun b o hb e => ?_) hm'') hS''
      rw [hsb.2 b (fun h : b = S => hb (by rw [h]; exact List.mem_cons_self))]; exact e
end
section
variable {prog : Program} {w : World} {A : Around} {E : Value → Shared → Prop} {s : Shared}
variable {α κ : Type} [DecidableEq κ] {kf : α → κ} {el : α → Int × Value} {Good : Heap → α → Prop}
abbrev freshSet (led : Bool) : Obj := { cls := .type "set", dict := none, data := .set #[] 0 (.fresh 0 0 led) }
theorem code_set_new' (a : Value) {Q₁ : Value → Shared → Prop}
    (h : Q₁ (.ref s.heap.objs.size) { s with heap := s.heap.push (freshSet (!byText w)) }) :
    codeAny (model prog w) A (.call (.builtin "set.__new__") ⟨[.type "set", a], []⟩) (wants Q₁ E) s := by
  refine codeAny_of_tree ?_
  show wpAny _ A.in1 (do checkBuiltinCall "set.__new__" ⟨[.type "set", a], []⟩; again (.builtin "set.__new__" ⟨[.type "set", a], []⟩)) _ _ s
  refine wpAny_bind (wpAny_of_eq (F.newCall_set_1 a) (wpAny_pure ⟨plainId_quiet F.plain_set_new _, codeAny_builtin F.entry_set_new ?_⟩))
  rw [Around.under_plainId F.plain_set_new _]
  unfold Builtin.«set.__new__» Builtin.Frozenset.newClass
  have hsub := sub_set_self
  obtain ⟨hp, g, d, tk, os⟩ := s
  dsimp only
  wp_walk
  refine wpAny_askSetting (wpAny_pure ?_)
  dsimp only
  simp only [newObj]
  refine wpAny_bind (wpAny_alloc (wpAny_pure ?_))
  exact wpAny_pure h
set_option maxHeartbeats 3200000 in
theorem call_setOf {lim : Nat} (KD : Kind prog w α κ kf el Good lim) {l : Addr} {xs : List α} {Q : Value → Shared → Prop}
    (hu : A.in1.in1.in1.units < cLine) (hh : A.handled = none) (hl : s.heap.IsList l (xs.map fun a => (el a).2).toArray) (h76 : xs.length ≤ lim)
    (good : ∀ h : Heap, (∀ b o, s.heap.get? b = some o → h.get? b = some o) → ∀ a ∈ xs, Good h a)
    (h : ∀ (h' : Heap) (tk : Nat), SetAt h' s.heap.objs.size (!byText w) ((dedupK kf xs).map el) → (∀ b o, s.heap.get? b = some o → h'.get? b = some o) → Q (.ref s.heap.objs.size) { s with heap := h', toks := tk }) :
    wpAny (model prog w) A (call (.type "set") [.ref l]) Q E s := by
  obtain ⟨c, tl, hmro⟩ := F.called_set.mro
  have hmade := F.called_set.made
  have hsub := F.called_set.sub
  refine wpAny_call (codeAny_of_tree ?_)
  show wpAny _ _ (callAny (.type "set") _) _ _ _
  refine wpAny_pure ⟨Code.quiet_builtin _ (by decide +kernel), codeAny_builtin F.entry_type_call ?_⟩
  rw [Around.under_plain (weight_type_call_type "set" [.ref l] []) rfl]
  have h1 := F.called_set.notType
  have h2 := F.called_set.canCreate
  have hct := F.typeCall_set_1 (.ref l)
  repeat (any_goals (first | assumption | wp_step))
  refine codeAny_mono (code_set_new' (.ref l) (E := E) (Q₁ := fun obj s₁ => obj = .ref s.heap.objs.size ∧ s₁ = { s with heap := s.heap.push (freshSet (!byText w)) }) ⟨rfl, rfl⟩) fun r s₁ hr => ?_
  cases r with
  | error e => exact hr
  | ok fl =>
    cases fl with
    | ret obj =>
      obtain ⟨rfl, rfl⟩ := hr
      have hS : (s.heap.push (freshSet (!byText w))).get? s.heap.objs.size = some (freshSet (!byText w)) := Heap.get?_push_size _ rfl
      have hT : Shared.TypeIs { s with heap := s.heap.push (freshSet (!byText w)) } (.ref s.heap.objs.size) "set" := ⟨_, hS, rfl⟩
      have hli := F.called_set.init.lookup
      have hbi := F.called_set.init.bind (.ref s.heap.objs.size)
      repeat (any_goals (first | assumption | wp_step))
      refine codeAny_mono (codeAny_call_builtin (R := wants (fun r s₂ => r = .none ∧ ∃ h' tk, s₂ = { s with heap := h', toks := tk } ∧
          SetAt h' s.heap.objs.size (!byText w) ((dedupK kf xs).map el) ∧
          (∀ b o, s.heap.get? b = some o → h'.get? b = some o)) E) F.called_set.init.plain F.entry_set_init (check_set_init_1 hT ?_)) fun r₂ s₂ hr₂ => ?_
      · obtain ⟨ol, hol, hcl, nl, hdl⟩ := hl
        obtain ⟨ocls, odict, odata, oslots⟩ := ol
        simp only at hcl hdl
        subst hcl; subst hdl
        have hol' : (s.heap.push (freshSet (!byText w))).get? l = some { cls := .type "list", dict := odict, data := .seq (xs.map fun a => (el a).2).toArray nl, slots := oslots } := Heap.get?_push_of_some _ hol
        have hsls := F.sub_list_set
        have hslf := F.sub_list_frozenset
        have hne : (Value.type "list" == Value.type "dict") = false := by decide
        have hl1 : (s.heap.push (freshSet (!byText w))).IsList l (xs.map fun a => (el a).2).toArray := ⟨_, hol', rfl, nl, rfl⟩
        unfold Builtin.«set.__init__» noKeywords Builtin.Frozenset.updateFrom
        generalize hPI : pyIter = PI
        wp_walk
        subst hPI
        refine wpAny_pyIter_list hl1 ?_
        refine wpAny_bind (wpAny_runValue ?_)
        have hlS : l < s.heap.objs.size := Heap.lt_size hol
        have hh3 : A.in1.in1.in1.handled = none := by simp [hh]
        have hneI : l ≠ (s.heap.push (freshSet (!byText w))).objs.size := by
          rw [Heap.size_push]; exact Nat.ne_of_lt (Nat.lt_succ_of_lt hlS)
        have hSf : s.heap.objs.size ∉ [(s.heap.push (freshSet (!byText w))).objs.size, l] := by
          rw [Heap.size_push]; simp only [List.mem_cons, List.mem_singleton, List.not_mem_nil, or_false, not_or]
          exact ⟨Nat.ne_of_lt (Nat.lt_succ_self _), Nat.ne_of_gt hlS⟩
        have hval : ∀ (i : Nat) (v : Value), (xs.map fun a => (el a).2).toArray[i]? = some v → ∃ a, xs[i]? = some a ∧ v = (el a).2 := fun i v hv => by
          rw [List.getElem?_toArray, List.getElem?_map] at hv
          cases e : xs[i]? with
          | none => rw [e] at hv; cases hv
          | some a => rw [e] at hv; exact ⟨a, rfl, (Option.some.inj hv).symm⟩
        refine upd_loop (led := !byText w) KD (by exact hu) ((Walks.list hh3 _ l hneI _).toS) s.heap.objs.size hSf xs (by simp) (by simpa using h76) hval (h₀ := s.heap)
          (fun b hb => ?_) (Heap.get?_none_of_le (Nat.le_refl _)) good _ 0 _ rfl (Nat.zero_le _)
          ⟨⟨_, Heap.get?_push_size _ rfl, rfl, rfl⟩, (hl1.push _)⟩ (fun b o e => Heap.get?_push_of_some _ (Heap.get?_push_of_some _ e)) ?hS0 ?hR
        · rw [List.mem_singleton.mp hb, Heap.size_push]
          exact Heap.get?_none_of_le (Nat.le_succ _)
        case hS0 =>
          obtain ⟨T, hf⟩ := fresh_ok 0 0 (!byText w)
          exact ⟨_, _, _, _, Heap.get?_push_of_some _ hS, ⟨rfl, rfl, rfl⟩, rfl, T, hf, rfl, List.Perm.refl _⟩
        case hR =>
          intro s' hm hS'
          obtain ⟨h', g', d', tk', os'⟩ := s'
          have eg : g' = s.gens := hm.gens
          have ed : d' = s.drawn := hm.drawn
          have eo : os' = s.os := hm.os
          subst eg; subst ed; subst eo
          show wpAny _ _ _ _ _ _
          refine wpAny_pure ?_
          show wpAny _ _ (ret Value.none) _ _ _
          refine wpAny_pure ⟨rfl, h', tk', rfl, hS', fun b o e => ?_⟩
          have hb := Heap.lt_size e
          have hb1 : b ≠ s.heap.objs.size := Nat.ne_of_lt hb
          have hb2 : b ≠ (s.heap.push (freshSet (!byText w))).objs.size := by
            rw [Heap.size_push]; exact Nat.ne_of_lt (Nat.lt_succ_of_lt hb)
          exact hm.heap b o (by simp only [List.mem_cons, List.mem_singleton, List.not_mem_nil, or_false, not_or]; exact ⟨hb1, hb2⟩) (Heap.get?_push_of_some _ (Heap.get?_push_of_some _ e))
      · cases r₂ with
        | error e => exact hr₂
        | ok fl₂ =>
          cases fl₂ with
          | ret r =>
            obtain ⟨rfl, h', tk, rfl, hS', hk'⟩ := hr₂
            repeat (any_goals (first | assumption | wp_step))
            exact h _ _ hS' hk'
          | _ => exact hr₂.elim
    | _ => exact hr.elim
end
end Eb
set_option maxRecDepth 100000
namespace PySem.F
theorem entry_set_iter' : entryFor table "set.__iter__" = some Builtin.«frozenset.__iter__» :=
  entryFor_alias (id' := "frozenset.__iter__") (by kernel_rfl) rfl (by decide +kernel) (by kernel_rfl)
theorem owner_set_iterator' : Manifest.owners.lookup (String.ofList ['r', 'o', 't', 'a', 'r', 'e', 't', 'i', '_', 't', 'e', 's'].reverse) = some Manifest.sig_set_iterator := by kernel_rfl
theorem slot_set_iterator_next' : Slot "set_iterator" "__next__" "set_iterator.__next__" :=
  .of (owner := "set_iterator") (n := "__next__") (by rw [typeLookup_type, builtinLookup_eq_fast]; kernel_rfl) (by decide +kernel) (by decide +kernel) (by decide +kernel)
    (by first | exact .inl (by decide +kernel) | exact .inr (by decide +kernel)) (by rw [isSubtype_type]; kernel_rfl)
theorem slot_set_iterator_iter' : Slot "set_iterator" "__iter__" "set_iterator.__iter__" :=
  .of (owner := "set_iterator") (n := "__iter__") (by rw [typeLookup_type, builtinLookup_eq_fast]; kernel_rfl) (by decide +kernel) (by decide +kernel) (by decide +kernel)
    (by first | exact .inl (by decide +kernel) | exact .inr (by decide +kernel)) (by rw [isSubtype_type]; kernel_rfl)
theorem entry_set_iterator_next' : entryFor table "set_iterator.__next__" = some Builtin.«set_iterator.__next__» := entryFor_of_tree (by kernel_rfl)
theorem entry_set_iterator_iter' : entryFor table "set_iterator.__iter__" = some Builtin.«dict_keyiterator.__iter__» :=
  entryFor_alias (id' := "dict_keyiterator.__iter__") (by kernel_rfl) rfl (by decide +kernel) (by kernel_rfl)
theorem args_set_iterator_next' (a : Value) : argsOk "set_iterator.__next__" ⟨[a], []⟩ := by
  unfold argsOk; rw [signature?_of (id := "set_iterator.__next__") (n := ['_', '_', 't', 'x', 'e', 'n', '_', '_']) (o := ['r', 'o', 't', 'a', 'r', 'e', 't', 'i', '_', 't', 'e', 's']) (by kernel_rfl) owner_set_iterator']; kernel_rfl
theorem args_set_iterator_iter' (a : Value) : argsOk "set_iterator.__iter__" ⟨[a], []⟩ := by
  unfold argsOk; rw [signature?_of (id := "set_iterator.__iter__") (n := ['_', '_', 'r', 'e', 't', 'i', '_', '_']) (o := ['r', 'o', 't', 'a', 'r', 'e', 't', 'i', '_', 't', 'e', 's']) (by kernel_rfl) owner_set_iterator']; kernel_rfl
end PySem.F
namespace Eb
open PySem PySem.SetTable PySem.Spec
theorem erase_perm {α : Type} : ∀ (l : List α) (i : Nat) (h : i < l.length), (l[i] :: l.eraseIdx i).Perm l
  | a :: r, 0, _ => List.Perm.refl _
  | a :: r, i + 1, h => by
    have := erase_perm r i (by simpa using h)
    rw [List.getElem_cons_succ, List.eraseIdx_cons_succ]
    exact (List.Perm.swap _ _ _).trans (this.cons a)
theorem pick_go {α : Type} (next : Nat → Nat) : ∀ (fuel k : Nat) (left : List α) (out : Array α), fuel = left.length → (pickOrder.go next fuel k left out).toList.Perm (out.toList ++ left)
  | 0, k, left, out, h => by
    have : left = [] := List.length_eq_zero_iff.mp h.symm
    subst this
    rw [List.append_nil]
    exact List.Perm.refl _
  | fuel + 1, k, left, out, h => by
    have hi : next k % left.length < left.length := Nat.mod_lt _ (by omega)
    unfold pickOrder.go
    rw [List.getElem?_eq_getElem hi]
    dsimp only
    refine (pick_go next fuel (k + 1) _ _ (by rw [List.length_eraseIdx_of_lt hi]; omega)).trans ?_
    rw [Array.toList_push, List.append_assoc]
    exact List.Perm.append_left _ (erase_perm _ _ hi)
theorem pick_perm {α : Type} (next : Nat → Nat) (xs : Array α) : (pickOrder next xs).toList.Perm xs.toList := by
  have := pick_go next xs.size 0 xs.toList #[] (by simp)
  simpa [pickOrder] using this
def ordOf (w : World) (S : Addr) (ep : Nat) (es : Array (Int × Value)) : Array (Int × Value) := if byText w then pickOrder (w.params.setOrder S ep) es else es
theorem ord_perm (w : World) (S : Addr) (ep : Nat) (es : Array (Int × Value)) : (ordOf w S ep es).toList.Perm es.toList := by
  unfold ordOf
  split
  · exact pick_perm _ _
  · exact List.Perm.refl _
theorem ord_size (w : World) (S : Addr) (ep : Nat) (es : Array (Int × Value)) : (ordOf w S ep es).size = es.size := by
  rw [← Array.length_toList, (ord_perm w S ep es).length_eq, Array.length_toList]
def slotAt (w : World) (t : SetTable) (i : Nat) : Nat := if byText w then 0 else if i = 0 then 0 else t.place.getD (i - 1) 0 + 1
section
variable {prog : Program} {w : World} {A : Around} {E : Value → Shared → Prop} {s : Shared}
structure SetFix (w : World) (h : Heap) (S : Addr) (o : Obj) (es : Array (Int × Value)) (ep : Nat) (t : SetTable) : Prop where
  get : h.get? S = some o
  ex : o.ExactSet
  data : o.data = .set es ep t
  ok : TOk t es
  fit : Fit t.mask es.size
  led : t.led = !byText w
theorem SetFix.keep {h h' : Heap} {S : Addr} {o : Obj} {es : Array (Int × Value)} {ep : Nat} {t : SetTable} (x : SetFix w h S o es ep t) (k : ∀ o, h.get? S = some o → h'.get? S = some o) : SetFix w h' S o es ep t :=
  ⟨k _ x.get, x.ex, x.data, x.ok, x.fit, x.led⟩
theorem SetFix.fits {h : Heap} {S : Addr} {o : Obj} {es : Array (Int × Value)} {ep : Nat} {t : SetTable} (x : SetFix w h S o es ep t) : t.fits es.size = true := x.ok.fits (Nat.le_of_lt x.fit.lt)
theorem SetFix.typeIs {S : Addr} {o : Obj} {es : Array (Int × Value)} {ep : Nat} {t : SetTable} (x : SetFix w s.heap S o es ep t) : s.TypeIs (.ref S) "set" := ⟨o, x.get, x.ex.1⟩
def SetIter (w : World) (h : Heap) (I S : Addr) (es : Array (Int × Value)) (ep : Nat) (t : SetTable) (i : Nat) : Prop :=
  ∃ oI, h.get? I = some oI ∧ oI.cls = .type "set_iterator" ∧ oI.data = .fields #[.int (slotAt w t i : Nat) 0, .int i 0, .ref S, .int es.size 0, .int ep 0]
theorem SetIter.keep {h h' : Heap} {I S : Addr} {es : Array (Int × Value)} {ep : Nat} {t : SetTable} {i : Nat} (x : SetIter w h I S es ep t i) (k : ∀ o, h.get? I = some o → h'.get? I = some o) : SetIter w h' I S es ep t i :=
  let ⟨o, ho, r⟩ := x; ⟨o, k _ ho, r⟩
theorem SetIter.typeIs {I S : Addr} {es : Array (Int × Value)} {ep : Nat} {t : SetTable} {i : Nat} (x : SetIter w s.heap I S es ep t i) : s.TypeIs (.ref I) "set_iterator" :=
  let ⟨o, ho, hc, _⟩ := x; ⟨o, ho, hc⟩
theorem wp_byText {Q : Bool → Shared → Prop} (h : Q (byText w) s) : wpAny (model prog w) A setsByText Q E s := by
  unfold setsByText
  exact wpAny_bind (wpAny_askSetting (wpAny_pure h))
theorem wp_iter {S : Addr} {o : Obj} {es : Array (Int × Value)} {ep : Nat} {t : SetTable} {Q : Value → Shared → Prop} (x : SetFix w s.heap S o es ep t)
    (hQ : Q (.ref s.heap.objs.size) { s with heap := s.heap.push { cls := .type "set_iterator", data := .fields #[.int 0 0, .int 0 0, .ref S, .int es.size 0, .int ep 0] } }) :
    wpAny (model prog w) A (pyIter (.ref S)) Q E s := by
  have hT := x.typeIs
  refine wpAny_pyIter_slot hT F.slot_set_iter (wpAny_call_entry F.slot_set_iter hT F.entry_set_iter' ?_ (F.args_set_iter_1 _))
  unfold Builtin.«frozenset.__iter__»
  refine wpAny_bind (m := Builtin.Frozenset.slot0 "__iter__" ⟨[.ref S], []⟩) (wpAny_pure ?_)
  unfold Builtin.Frozenset.sizeOf
  refine wpAny_bind (wpAny_bind (wpAny_setEntries_of x.get x.data x.fits (wpAny_pure ?_)))
  refine wpAny_bind ?_
  unfold setDrawn
  refine wpAny_bind (wpAny_setState_of x.get x.data x.fits ?_)
  dsimp only
  refine wpAny_bind (wp_byText ?_)
  refine wpAny_pure ?_
  have hd : (!byText w && (!t.plain && decide (es.size > 1))) = false := by rw [x.ok.plain]; simp
  show wpAny _ _ (if (!byText w && (!t.plain && decide (es.size > 1))) = true then _ else _) _ _ _
  rw [hd]
  simp only [Bool.false_eq_true, if_false]
  refine wpAny_bind (wpAny_pure ?_)
  refine wpAny_bind (wpAny_setEpoch_of x.get x.data x.fits ?_)
  refine wpAny_bind (wpAny_newObj_type (wpAny_pure ⟨_, rfl, "set_iterator", _, ⟨_, Heap.get?_push_size _ rfl, rfl⟩, F.slot_set_iterator_next'.lookup, ?_⟩))
  exact hQ
theorem below_zero (xs : Array Nat) (hr : Ris xs) : below xs 0 = 0 := by
  obtain ⟨h0, h1, _⟩ := below_at hr 0
  rcases Nat.eq_zero_or_pos (below xs 0) with q | q
  · exact q
  · have := h1 0 _ q (Array.getElem?_eq_getElem (by omega))
    omega
theorem slot_below {h : Heap} {S : Addr} {o : Obj} {es : Array (Int × Value)} {ep : Nat} {t : SetTable} (x : SetFix w h S o es ep t) (hb : byText w = false) {i : Nat} (hi : i ≤ es.size) : below t.place (slotAt w t i) = i := by
  unfold slotAt
  rw [hb]
  simp only [Bool.false_eq_true, if_false]
  by_cases q : i = 0
  · rw [if_pos q, q]
    exact below_zero _ x.ok.ris
  · rw [if_neg q]
    have hl : i - 1 < t.place.size := by rw [x.ok.size]; omega
    have e := Array.getElem?_eq_getElem hl
    have e2 : t.place.getD (i - 1) 0 = t.place[i - 1] := by simp [Array.getD, hl]
    rw [e2, below_succ x.ok.ris e]
    omega
/-- the set's own next -/
theorem wp_setNext {S : Addr} {o : Obj} {es : Array (Int × Value)} {ep : Nat} {t : SetTable} {i : Nat} {Q : Option (Value × Nat) → Shared → Prop} (x : SetFix w s.heap S o es ep t) (hi : i ≤ es.size)
    (h : Q (((ordOf w S ep es)[i]?).map fun e => (e.2, slotAt w t (i + 1))) s) : wpAny (model prog w) A (setNext S (slotAt w t i) i ep) Q E s := by
  unfold setNext
  refine wpAny_bind (wpAny_setState_of x.get x.data x.fits ?_)
  dsimp only
  refine wpAny_bind (wp_byText ?_)
  cases hb : byText w with
  | true =>
    simp only [if_true, bne_self_eq_false, Bool.false_eq_true, if_false]
    refine wpAny_bind ?_
    unfold setWalk
    refine wpAny_bind (wpAny_setState_of x.get x.data x.fits ?_)
    dsimp only
    refine wpAny_bind (wp_byText ?_)
    rw [hb]
    simp only [if_true]
    refine wpAny_bind (wpAny_askSetting (wpAny_pure ?_))
    refine wpAny_pure ?_
    unfold ordOf slotAt at h
    rw [hb] at h
    unfold slotAt
    rw [hb]
    exact h
  | false =>
    simp only [Bool.false_eq_true, if_false]
    have hd : (!t.plain && decide (es.size > 1)) = false := by rw [x.ok.plain]; simp
    show wpAny _ _ (if (!t.plain && decide (es.size > 1)) = true then _ else _) _ _ _
    rw [hd]
    simp only [Bool.false_eq_true, if_false]
    refine wpAny_bind (?_ : wpAny _ _ (if (!t.led && !es.isEmpty) = true then unsupported "set:maker-not-led" else pure ()) _ _ _)
    have hl : t.led = true := by rw [x.led, hb]; rfl
    rw [hl]
    simp only [Bool.not_true, Bool.false_and, Bool.false_eq_true, if_false]
    refine wpAny_pure ?_
    rw [slot_below x hb hi]
    refine wpAny_pure ?_
    have eo : ordOf w S ep es = es := by unfold ordOf; rw [hb]; rfl
    rw [eo] at h
    rcases Nat.lt_or_ge i es.size with q | q
    · have q' : i < t.place.size := by rw [x.ok.size]; exact q
      have es1 : slotAt w t (i + 1) = t.place[i] + 1 := by
        unfold slotAt
        rw [hb]
        simp [Array.getD, q']
      rw [Array.getElem?_eq_getElem q, es1] at h
      rw [Array.getElem?_eq_getElem q, Array.getElem?_eq_getElem q']
      exact h
    · have q' : t.place.size ≤ i := by rw [x.ok.size]; exact q
      rw [Array.getElem?_eq_none q] at h
      rw [Array.getElem?_eq_none q, Array.getElem?_eq_none q']
      exact h
theorem wp_next_item {I S : Addr} {o : Obj} {es : Array (Int × Value)} {ep : Nat} {t : SetTable} {i : Nat} {e : Int × Value} {Q : Option Value → Shared → Prop} (hit : SetIter w s.heap I S es ep t i) (x : SetFix w s.heap S o es ep t)
    (he : (ordOf w S ep es)[i]? = some e)
    (hQ : ∀ h', SetIter w h' I S es ep t (i + 1) → Heap.SameBut I s.heap h' → Q (some e.2) { s with heap := h' }) : wpAny (model prog w) A (pyNext (.ref I)) Q E s := by
  have hi : i ≤ es.size := by
    have := (Array.getElem?_eq_some_iff.mp he).1
    rw [ord_size] at this
    omega
  obtain ⟨oI, ho, hc, hd⟩ := id hit
  unfold pyNext
  refine wpAny_bind (wpAny_attempt (wpAny_callSpecial?_slot (name := Str.ofString "__next__") hit.typeIs F.slot_set_iterator_next'
    (wpAny_call_entry F.slot_set_iterator_next' hit.typeIs F.entry_set_iterator_next' ?_ (F.args_set_iterator_next' _))))
  unfold Builtin.«set_iterator.__next__»
  refine wpAny_bind (m := slotArgs "__next__" 0 ⟨[.ref I], []⟩) (wpAny_pure ?_)
  dsimp only
  refine wpAny_bind (wpAny_fieldsOf ho hd ?_)
  dsimp only
  refine wpAny_bind (wpAny_setEntries_of x.get x.data x.fits ?_)
  simp only [bne_self_eq_false, Bool.false_eq_true, if_false, Int.toNat_natCast]
  refine wpAny_bind (wp_setNext x hi ?_)
  rw [he]
  dsimp only [Option.map]
  refine wpAny_bind (wpAny_setField ho hd (by simp) ?_)
  have hg1 := Heap.get?_update_self (Obj.mapFields (·.setIfInBounds 0 (rawInt (slotAt w t (i + 1) : Nat)))) ho (Obj.isFreed_of_fields (Obj.data_mapFields hd _))
  refine wpAny_bind (wpAny_setField hg1 (Obj.data_mapFields hd _) (by simp) ?_)
  have hg2 := Heap.get?_update_self (Obj.mapFields (·.setIfInBounds 1 (rawInt ((i : Int) + 1)))) hg1 (Obj.isFreed_of_fields (Obj.data_mapFields (Obj.data_mapFields hd _) _))
  refine wpAny_pure ⟨_, rfl, wpAny_pure (hQ _ ⟨_, hg2, ?_, ?_⟩ ((Heap.SameBut.update ..).trans (Heap.SameBut.update ..)))⟩
  · exact ((Obj.cls_mapFields ..).trans (Obj.cls_mapFields ..)).trans hc
  · rw [Obj.data_mapFields (Obj.data_mapFields hd _)]
    simp [rawInt]
theorem wp_next_end {I S : Addr} {o : Obj} {es : Array (Int × Value)} {ep : Nat} {t : SetTable} {Q : Option Value → Shared → Prop} (hh : A.handled = none) (hit : SetIter w s.heap I S es ep t es.size) (x : SetFix w s.heap S o es ep t)
    (hQ : ∀ h', Heap.ExtBut I s.heap h' → Q none { s with heap := h' }) : wpAny (model prog w) A (pyNext (.ref I)) Q E s := by
  obtain ⟨oI, ho, hc, hd⟩ := id hit
  unfold pyNext
  refine wpAny_bind (wpAny_attempt (wpAny_callSpecial?_slot (name := Str.ofString "__next__") hit.typeIs F.slot_set_iterator_next'
    (wpAny_call_entry F.slot_set_iterator_next' hit.typeIs F.entry_set_iterator_next' ?_ (F.args_set_iterator_next' _))))
  unfold Builtin.«set_iterator.__next__»
  refine wpAny_bind (m := slotArgs "__next__" 0 ⟨[.ref I], []⟩) (wpAny_pure ?_)
  dsimp only
  refine wpAny_bind (wpAny_fieldsOf ho hd ?_)
  dsimp only
  refine wpAny_bind (wpAny_setEntries_of x.get x.data x.fits ?_)
  simp only [bne_self_eq_false, Bool.false_eq_true, if_false, Int.toNat_natCast]
  refine wpAny_bind (wp_setNext x (Nat.le_refl _) ?_)
  rw [Array.getElem?_eq_none (by rw [ord_size]; exact Nat.le_refl _)]
  dsimp only [Option.map]
  refine wpAny_bind (wpAny_setField ho hd (by simp) ?_)
  show wpAny _ _ (newExc (.type "StopIteration") [] >>= _) _ _ _
  refine wpAny_bind ?_
  simp only [newExc, newTuple]
  refine wpAny_bind (wpAny_newObj_type ?_ (by size_fits))
  refine wpAny_bind (m := firstArgMember _ _) (wpAny_of_eq (a := Value.none) (by first | rfl | (simp only [firstArgMember]; rfl)) ?_)
  refine wpAny_newObj_type ?_ (by size_fits)
  simp only [raiseNew]
  refine wpAny_bind (wpAny_handled ?_)
  rw [show A.in1.handled = none from hh]
  refine wpAny_bind (wpAny_pure (wpAny_throw ?_))
  refine wpAny_bind (wpAny_isInstance (T := "StopIteration") (b := true) ⟨_, Heap.get?_push_size _ rfl, rfl⟩ isSubtype_stop ?_)
  exact wpAny_pure (hQ _ (((Heap.SameBut.update ..).extBut.push _).push _))
theorem wp_iter_self {I S : Addr} {es : Array (Int × Value)} {ep : Nat} {t : SetTable} {i : Nat} {Q : Value → Shared → Prop} (hit : SetIter w s.heap I S es ep t i) (h : Q (.ref I) s) : wpAny (model prog w) A (pyIter (.ref I)) Q E s := by
  refine wpAny_pyIter_slot hit.typeIs F.slot_set_iterator_iter' (wpAny_call_entry F.slot_set_iterator_iter' hit.typeIs F.entry_set_iterator_iter' ?_ (F.args_set_iterator_iter' _))
  show wpAny _ _ (ret (.ref I)) _ _ s
  exact wpAny_pure ⟨_, rfl, "set_iterator", _, hit.typeIs, F.slot_set_iterator_next'.lookup, h⟩
theorem walks_set (hh : A.handled = none) (I S : Addr) (hne : S ≠ I) (o : Obj) (es : Array (Int × Value)) (ep : Nat) (t : SetTable) :
    Walks prog w A I [I, S] [I] es.size (fun i v => ∃ e, (ordOf w S ep es)[i]? = some e ∧ v = e.2) (fun i h => SetIter w h I S es ep t i ∧ SetFix w h S o es ep t) where
  sub := fun b hb => by simp at hb; simp [hb]
  frame := fun _ _ _ st hk => ⟨st.1.keep fun o e => hk I (by simp) o e, st.2.keep fun o e => hk S (by simp) o e⟩
  item := fun i s Q E hi st hQ => by
    obtain ⟨e, he⟩ : ∃ e, (ordOf w S ep es)[i]? = some e := ⟨_, Array.getElem?_eq_getElem (by rw [ord_size]; exact hi)⟩
    refine wp_next_item st.1 st.2 he fun h' hit' hs' => ?_
    exact hQ e.2 h' s.toks ⟨e, he, rfl⟩ ⟨hit', st.2.keep fun o e => by rw [hs'.2 S hne]; exact e⟩ fun b o hb e => by
      rw [hs'.2 b (fun h => hb (by simp [h]))]; exact e
  done := fun s Q E st hQ => wp_next_end hh st.1 st.2 fun h' he' => hQ h' s.toks fun b o hb e => he' b o (fun h => hb (by simp [h])) e
  self := fun _ _ _ _ st hQ => wp_iter_self st.1 hQ
theorem hint_set {S : Addr} {Q : Bool → Shared → Prop} (hT : s.TypeIs (.ref S) "set") (h : Q false s) : wpAny (model prog w) A (Builtin.List.listLengthHint (.ref S)) Q E s := by
  unfold Builtin.List.listLengthHint
  refine wpAny_bind (wpAny_specialOf hT PySem.F.slot_set_len.lookup ?_)
  generalize hid : ("set.__len__" : String) = id0
  wp_delta
  rw [show splitId id0 = some ("set", "__len__") from by subst hid; decide +kernel]
  subst hid
  refine wpAny_bind (wpAny_isInstance (T := "set") (b := true) hT (by rw [isSubtype_type]; kernel_rfl) ?_)
  refine wpAny_ite_split (fun hab => absurd hab (by decide)) (fun _ => ?_)
  refine wpAny_ite_split (fun _ => ?_) (fun hab => absurd (by decide +kernel) hab)
  refine wpAny_bind (wpAny_typeOf hT ?_)
  exact wpAny_pure h
theorem src_set (S : Addr) (o : Obj) (es : Array (Int × Value)) (ep : Nat) (t : SetTable) : PySem.W.KdlSrc prog w "set" S S es.size (fun i v => ∃ e, (ordOf w S ep es)[i]? = some e ∧ v = e.2) (fun h => SetFix w h S o es ep t) where
  type := fun _ x => ⟨o, x.get, x.ex.1⟩
  there := fun _ x => ⟨Heap.lt_size x.get, Heap.lt_size x.get⟩
  keep := fun _ _ x hk => x.keep fun o e => hk S (.inl rfl) o e
  notList := by decide
  notTuple := by decide
  hint := fun _ _ _ _ x hq => hint_set ⟨o, x.get, x.ex.1⟩ hq
  iter := fun A s hh x => ⟨_, _, (fun _ _ hq => wp_iter x hq), walks_set hh _ S (Nat.ne_of_lt (Heap.lt_size x.get)) o es ep t, ⟨⟨_, Heap.get?_push_size _ rfl, rfl, by
    have : slotAt w t 0 = 0 := by unfold slotAt; split <;> rfl
    rw [this]
    rfl⟩, x.keep fun o e => Heap.get?_push_of_some _ e⟩⟩
end
end Eb
set_option maxRecDepth 100000
namespace Eb
open PySem PySem.W PyProof.Rows
def Tr {α : Type} (lt : Nat → Nat → Bool) (n : Nat) : KasT α → (α → Prop) → Prop
  | .ret a, Q => Q a
  | .ask i j k, Q => i < n ∧ j < n ∧ Tr lt n (k (lt i j)) Q
theorem Tr.bind {α β : Type} {lt : Nat → Nat → Bool} {n : Nat} {f : α → KasT β} {Q : β → Prop} : ∀ {t : KasT α}, Tr lt n t (fun a => Tr lt n (f a) Q) → Tr lt n (t.bind f) Q
  | .ret _, h => h
  | .ask _ _ _, h => ⟨h.1, h.2.1, Tr.bind h.2.2⟩
theorem Tr.mono {α : Type} {lt : Nat → Nat → Bool} {n : Nat} {Q Q' : α → Prop} (hq : ∀ a, Q a → Q' a) : ∀ {t : KasT α}, Tr lt n t Q → Tr lt n t Q'
  | .ret _, h => hq _ h
  | .ask _ _ _, h => ⟨h.1, h.2.1, Tr.mono hq h.2.2⟩
theorem Tr.wp {α : Type} {lt : Nat → Nat → Bool} {n : Nat} {cmp : Nat → Nat → (Bool → Shared → Prop) → Shared → Prop} {s : Shared} {Q : α → Prop} {R : α → Shared → Prop}
    (hc : ∀ i j C, i < n → j < n → C (lt i j) s → cmp i j C s) (hR : ∀ a, Q a → R a s) : ∀ {t : KasT α}, Tr lt n t Q → t.kasWp cmp R s
  | .ret _, h => hR _ h
  | .ask _ _ _, h => hc _ _ _ h.1 h.2.1 (Tr.wp hc hR h.2.2)
structure Ord (lt : Nat → Nat → Bool) (n : Nat) : Prop where
  trans : ∀ i j k, i < n → j < n → k < n → lt i j = true → lt j k = true → lt i k = true
  tri : ∀ i j, i < n → j < n → i ≠ j → lt i j = false → lt j i = true
structure PermN (n : Nat) (p : Array Nat) : Prop where
  size : p.size = n
  perm : p.toList.Perm (List.range n)
abbrev g (p : Array Nat) (i : Nat) : Nat := p.getD i 0
theorem g_eq {p : Array Nat} {i : Nat} (h : i < p.size) : p[i]? = some (g p i) := by
  rw [Array.getElem?_eq_getElem h]
  simp [Array.getD, h]
theorem g_of {p : Array Nat} {i x : Nat} (h : p[i]? = some x) : g p i = x := by
  have hl := (Array.getElem?_eq_some_iff.mp h).1
  rw [g_eq hl] at h
  exact Option.some.inj h
theorem PermN.lt {n : Nat} {p : Array Nat} (h : PermN n p) {i : Nat} (hi : i < n) : g p i < n := by
  have e := g_eq (p := p) (i := i) (by rw [h.size]; exact hi)
  rw [← Array.getElem?_toList] at e
  exact List.mem_range.mp (h.perm.mem_iff.mp (List.mem_of_getElem? e))
theorem PermN.ne {n : Nat} {p : Array Nat} (h : PermN n p) {i j : Nat} (hi : i < n) (hj : j < n) (hij : i ≠ j) : g p i ≠ g p j := by
  intro e
  have nd : p.toList.Nodup := h.perm.nodup_iff.mpr List.nodup_range
  have a := g_eq (p := p) (i := i) (by rw [h.size]; exact hi)
  have b := g_eq (p := p) (i := j) (by rw [h.size]; exact hj)
  rw [e] at a
  rw [← Array.getElem?_toList] at a b
  obtain ⟨a1, a2⟩ := List.getElem?_eq_some_iff.mp a
  obtain ⟨b1, b2⟩ := List.getElem?_eq_some_iff.mp b
  rcases Nat.lt_or_gt_of_ne hij with q | q
  · exact List.pairwise_iff_getElem.mp nd i j a1 b1 q (a2.trans b2.symm)
  · exact List.pairwise_iff_getElem.mp nd j i b1 a1 q (b2.trans a2.symm)
section
variable {lt : Nat → Nat → Bool} {n : Nat}
def SortT (lt : Nat → Nat → Bool) (p : Array Nat) (m : Nat) : Prop := ∀ i j, i < j → j < m → lt (g p i) (g p j) = true
def DescT (lt : Nat → Nat → Bool) (p : Array Nat) (m : Nat) : Prop := ∀ i j, i < j → j < m → lt (g p j) (g p i) = true
theorem rev_get {p : Array Nat} {m : Nat} (hm : m ≤ p.size) {k : Nat} (hk : k < p.size) : g (kas_rev p 0 m) k = if k < m then g p (m - 1 - k) else g p k := by
  have e := getElem?_mirror_all (xs := p) (i := 0) hm k
  have hs : (kas_rev p 0 m).size = p.size := mirror_size _ _ _ _
  by_cases q : k < m
  · rw [if_pos ⟨Nat.zero_le _, q⟩] at e
    rw [if_pos q]
    rw [Nat.zero_add, g_eq (p := p) (by omega)] at e
    exact g_of e
  · rw [if_neg (by omega)] at e
    rw [if_neg q]
    rw [g_eq hk] at e
    exact g_of e
theorem rev_perm {p : Array Nat} (h : PermN n p) (m : Nat) : PermN n (kas_rev p 0 m) :=
  ⟨(mirror_size _ _ _ _).trans h.size, (Array.perm_iff_toList_perm.mp (mirror_perm _ _ _ _)).trans h.perm⟩
theorem asc_tr (O : Ord lt n) {p : Array Nat} (P : PermN n p) : ∀ (f m : Nat), m + f = n → 1 ≤ m → SortT lt p m →
    Tr lt n (kas_asc p f m) fun m' => m ≤ m' ∧ m' ≤ n ∧ SortT lt p m' ∧ (m' = n ∨ (m' < n ∧ lt (g p m') (g p (m' - 1)) = true))
  | 0, m, hf, h1, hs => ⟨Nat.le_refl _, by omega, hs, .inl (by omega)⟩
  | f + 1, m, hf, h1, hs => by
    have hm : m < n := by omega
    refine ⟨P.lt hm, P.lt (i := m - 1) (by omega), ?_⟩
    cases e : lt (g p m) (g p (m - 1)) with
    | true => exact ⟨Nat.le_refl _, by omega, hs, .inr ⟨hm, e⟩⟩
    | false =>
      have up := O.tri _ _ (P.lt hm) (P.lt (i := m - 1) (by omega)) (P.ne hm (by omega) (by omega)) e
      refine Tr.mono (fun m' h => ⟨by omega, h.2⟩) (asc_tr O P f (m + 1) (by omega) (by omega) fun i j hij hj => ?_)
      rcases Nat.lt_or_ge j m with q | q
      · exact hs i j hij q
      · have : j = m := by omega
        subst this
        rcases Nat.lt_or_ge i (j - 1) with q' | q'
        · exact O.trans _ _ _ (P.lt (by omega)) (P.lt (i := j - 1) (by omega)) (P.lt hm) (hs i (j - 1) q' (by omega)) up
        · have : i = j - 1 := by omega
          rw [this]
          exact up
theorem desc_tr (O : Ord lt n) {p : Array Nat} (P : PermN n p) : ∀ (f m : Nat), m + f = n → 1 ≤ m → DescT lt p m →
    Tr lt n (kas_desc f p m 0) fun r => r.1 = p ∧ r.2.2 = 0 ∧ m ≤ r.2.1 ∧ r.2.1 ≤ n ∧ DescT lt p r.2.1
  | 0, m, hf, h1, hs => ⟨rfl, rfl, Nat.le_refl _, by show m ≤ n; omega, hs⟩
  | f + 1, m, hf, h1, hs => by
    have hm : m < n := by omega
    refine ⟨P.lt hm, P.lt (i := m - 1) (by omega), ?_⟩
    cases e : lt (g p m) (g p (m - 1)) with
    | true =>
      refine Tr.mono (fun r h => ⟨h.1, h.2.1, by omega, h.2.2.2⟩) (desc_tr O P f (m + 1) (by omega) (by omega) fun i j hij hj => ?_)
      rcases Nat.lt_or_ge j m with q | q
      · exact hs i j hij q
      · have : j = m := by omega
        subst this
        rcases Nat.lt_or_ge i (j - 1) with q' | q'
        · exact O.trans _ _ _ (P.lt hm) (P.lt (i := j - 1) (by omega)) (P.lt (by omega)) e (hs i (j - 1) q' (by omega))
        · have : i = j - 1 := by omega
          rw [this]
          exact e
    | false =>
      refine ⟨P.lt (i := m - 1) (by omega), P.lt hm, ?_⟩
      have e2 := O.tri _ _ (P.lt hm) (P.lt (i := m - 1) (by omega)) (P.ne hm (by omega) (by omega)) e
      rw [show lt (p.getD (m - 1) 0) (p.getD m 0) = true from e2]
      exact ⟨rfl, rfl, Nat.le_refl _, Nat.le_of_lt hm, hs⟩
theorem tail3_tr (O : Ord lt n) {p : Array Nat} (P : PermN n p) {m : Nat} (h1 : 1 ≤ m) (hm : m ≤ n) (hs : DescT lt p m) :
    Tr lt n (kas_tail3 m n p) fun r => 1 ≤ r.1 ∧ r.1 ≤ n ∧ PermN n r.2 ∧ SortT lt r.2 r.1 := by
  have P' := rev_perm P m
  refine Tr.bind (Tr.mono (fun m' h => ⟨by show 1 ≤ m'; omega, h.2.1, P', h.2.2.1⟩) (asc_tr O P' (n - m) m (by omega) h1 fun i j hij hj => ?_))
  rw [rev_get (by rw [P.size]; exact hm) (by rw [P.size]; omega), rev_get (by rw [P.size]; exact hm) (by rw [P.size]; omega), if_pos (by omega), if_pos hj]
  exact hs _ _ (by omega) (by omega)
theorem count_tr (O : Ord lt n) (h2 : 2 ≤ n) {p : Array Nat} (P : PermN n p) : Tr lt n (kas_count n p) fun r => 1 ≤ r.1 ∧ r.1 ≤ n ∧ PermN n r.2 ∧ SortT lt r.2 r.1 := by
  refine Tr.bind (Tr.mono (fun m h => ?_) (asc_tr O P (n - 1) 1 (by omega) (Nat.le_refl _) fun i j hij hj => by omega))
  obtain ⟨h1, hmn, hs, hc⟩ := h
  by_cases q : m = n
  · rw [if_pos (by simpa using q)]
    exact ⟨h1, hmn, P, hs⟩
  · rw [if_neg (by simpa using q)]
    obtain ⟨hlt, hd⟩ := hc.resolve_left q
    by_cases q1 : m > 1
    · rw [if_pos q1]
      refine ⟨P.lt (by omega), P.lt (by omega), ?_⟩
      have : lt (p.getD 0 0) (p.getD (m - 1) 0) = true := hs 0 (m - 1) (by omega) (by omega)
      rw [this]
      exact ⟨h1, hmn, P, hs⟩
    · rw [if_neg q1]
      have : m = 1 := by omega
      subst this
      refine Tr.bind (Tr.mono (fun r h => ?_) (desc_tr O P (n - 2) 2 (by omega) (by omega) fun i j hij hj => ?_))
      · obtain ⟨e1, e2, a, b, c⟩ := h
        rw [e2, e1]
        exact tail3_tr O P (by omega) b c
      · have e1 : i = 0 := by omega
        have e2 : j = 1 := by omega
        subst e1
        subst e2
        exact hd
theorem place_tr (O : Ord lt n) {p : Array Nat} (P : PermN n p) {k : Nat} (hk : k < n) : ∀ (f l r : Nat), r - l ≤ f → l ≤ r → r ≤ k → (∀ i, i < l → lt (g p i) (g p k) = true) → (∀ i, r ≤ i → i < k → lt (g p k) (g p i) = true) → SortT lt p k →
    Tr lt n (kas_place p k f l r) fun l => l ≤ k ∧ (∀ i, i < l → lt (g p i) (g p k) = true) ∧ (∀ i, l ≤ i → i < k → lt (g p k) (g p i) = true)
  | 0, l, r, hf, hl, hr, a, b, hs => by
    have : l = r := by omega
    subst this
    exact ⟨hr, a, b⟩
  | f + 1, l, r, hf, hl, hr, a, b, hs => by
    unfold kas_place
    by_cases q : l ≥ r
    · rw [if_pos q]
      have : l = r := by omega
      subst this
      exact ⟨hr, a, b⟩
    · rw [if_neg q]
      have hm : (l + r) / 2 < k := by omega
      refine ⟨P.lt hk, P.lt (by omega), ?_⟩
      cases e : lt (p.getD k 0) (p.getD ((l + r) / 2) 0) with
      | true =>
        show Tr lt n (kas_place p k f l ((l + r) / 2)) _
        refine place_tr O P hk f l _ (by omega) (by omega) (by omega) a (fun i hi hik => ?_) hs
        rcases Nat.lt_or_ge ((l + r) / 2) i with z | z
        · exact O.trans _ _ _ (P.lt hk) (P.lt (by omega)) (P.lt (by omega)) e (hs _ _ z hik)
        · have : i = (l + r) / 2 := by omega
          rw [this]
          exact e
      | false =>
        show Tr lt n (kas_place p k f ((l + r) / 2 + 1) r) _
        have up := O.tri _ _ (P.lt hk) (P.lt (i := (l + r) / 2) (by omega)) (P.ne hk (by omega) (by omega)) e
        refine place_tr O P hk f _ r (by omega) (by omega) hr (fun i hi => ?_) b hs
        rcases Nat.lt_or_ge i ((l + r) / 2) with z | z
        · exact O.trans _ _ _ (P.lt (by omega)) (P.lt (by omega)) (P.lt hk) (hs _ _ z hm) up
        · have : i = (l + r) / 2 := by omega
          rw [this]
          exact up
theorem bub_get {p : Array Nat} {k l : Nat} (hk : k < p.size) (hl : l ≤ k) {i : Nat} (hi : i < p.size) : g (bubble p k (k - l)) i = if i = l then g p k else if l < i ∧ i ≤ k then g p (i - 1) else g p i := by
  have e := getElem?_bubble hk (k - l) (by omega) i
  rw [show k - (k - l) = l by omega] at e
  by_cases q : i = l
  · rw [if_pos q, g_eq hk] at e
    rw [if_pos q]
    exact g_of e
  · rw [if_neg q] at e
    rw [if_neg q]
    by_cases q' : l < i ∧ i ≤ k
    · rw [if_pos q', g_eq (p := p) (by omega)] at e
      rw [if_pos q']
      exact g_of e
    · rw [if_neg q', g_eq hi] at e
      rw [if_neg q']
      exact g_of e
theorem bin_tr (O : Ord lt n) : ∀ (f : Nat) (p : Array Nat) (k : Nat), PermN n p → k + f = n → SortT lt p k → Tr lt n (kas_bin f p k) fun p' => PermN n p' ∧ SortT lt p' n
  | 0, p, k, P, hf, hs => ⟨P, by rw [← show k = n by omega]; exact hs⟩
  | f + 1, p, k, P, hf, hs => by
    have hk : k < n := by omega
    refine Tr.bind (Tr.mono (fun l h => ?_) (place_tr O P hk k 0 k (by omega) (Nat.zero_le _) (Nat.le_refl _) (fun i hi => by omega) (fun i h1 h2 => by omega) hs))
    obtain ⟨hl, a, b⟩ := h
    have hks : k < p.size := by rw [P.size]; exact hk
    have P' : PermN n (bubble p k (k - l)) := ⟨(bubble_size _ _ _).trans P.size, (Array.perm_iff_toList_perm.mp (bubble_perm _ _ _)).trans P.perm⟩
    refine bin_tr O f _ (k + 1) P' (by omega) fun i j hij hj => ?_
    rw [bub_get hks hl (by rw [P.size]; omega), bub_get hks hl (by rw [P.size]; omega)]
    by_cases qi : i = l
    · rw [if_pos qi, if_neg (by omega), if_pos (by omega)]
      exact b _ (by omega) (by omega)
    · rw [if_neg qi]
      by_cases qj : j = l
      · rw [if_pos qj, if_neg (by omega)]
        exact a _ (by omega)
      · rw [if_neg qj]
        by_cases ri : l < i ∧ i ≤ k
        · rw [if_pos ri, if_pos (by omega)]
          exact hs _ _ (by omega) (by omega)
        · rw [if_neg ri]
          by_cases rj : l < j ∧ j ≤ k
          · rw [if_pos rj]
            exact hs _ _ (by omega) (by omega)
          · rw [if_neg rj]
            exact hs _ _ hij (by omega)
theorem sort_tr (O : Ord lt n) (h2 : 2 ≤ n) : Tr lt n (kas_sort n) fun p => PermN n p ∧ SortT lt p n := by
  refine Tr.bind (Tr.mono (fun r h => ?_) (count_tr O h2 ⟨by simp, by simp⟩))
  obtain ⟨h1, hn, P, hs⟩ := h
  by_cases q : r.1 < n
  · rw [if_pos q]
    refine bin_tr O _ _ _ P (by omega) ?_
    rw [show max r.1 1 = r.1 by omega]
    exact hs
  · rw [if_neg q]
    exact ⟨P, by rw [← show r.1 = n by omega]; exact hs⟩
end
def lexL : List Int → List Int → Bool
  | [], [] => false
  | [], _ :: _ => true
  | _ :: _, [] => false
  | x :: xs, y :: ys => if x = y then lexL xs ys else decide (x < y)
theorem lexL_trans : ∀ {a b c : List Int}, lexL a b = true → lexL b c = true → lexL a c = true
  | [], [], _, h, _ => by cases h
  | [], _ :: _, [], _, h => by cases h
  | [], _ :: _, _ :: _, _, _ => rfl
  | _ :: _, [], _, h, _ => by cases h
  | _ :: _, _ :: _, [], _, h => by cases h
  | x :: xs, y :: ys, z :: zs, h1, h2 => by
    unfold lexL at h1 h2 ⊢
    by_cases e : x = y
    · subst e
      rw [if_pos rfl] at h1
      by_cases e' : x = z
      · subst e'
        rw [if_pos rfl] at h2
        rw [if_pos rfl]
        exact lexL_trans h1 h2
      · rw [if_neg e'] at h2 ⊢
        exact h2
    · rw [if_neg e] at h1
      by_cases e' : y = z
      · subst e'
        rw [if_neg e]
        exact h1
      · rw [if_neg e'] at h2
        have := of_decide_eq_true h1
        have := of_decide_eq_true h2
        rw [if_neg (by omega)]
        exact decide_eq_true (by omega)
theorem lexL_tri : ∀ {a b : List Int}, a ≠ b → lexL a b = false → lexL b a = true
  | [], [], h, _ => absurd rfl h
  | [], _ :: _, _, h => by cases h
  | _ :: _, [], _, _ => rfl
  | x :: xs, y :: ys, h, h1 => by
    unfold lexL at h1 ⊢
    by_cases e : x = y
    · subst e
      rw [if_pos rfl] at h1 ⊢
      exact lexL_tri (fun e => h (by rw [e])) h1
    · rw [if_neg e] at h1
      rw [if_neg (fun q => e q.symm)]
      have := of_decide_eq_false h1
      exact decide_eq_true (by omega)
theorem lexL_irrefl : ∀ (a : List Int), lexL a a = false
  | [] => rfl
  | x :: xs => by
    unfold lexL
    rw [if_pos rfl]
    exact lexL_irrefl xs
end Eb
set_option maxRecDepth 100000
namespace Eb
open PySem PySem.W PyProof.Rows PySem.Calls PySem.Spec
section
variable {prog : Program} {w : World} {A : Around} {E : Value → Shared → Prop} {s : Shared}
theorem int_shape {k : Int} {v : Value} (h : (intKind prog w).is k v = true) : ∃ t, v = .int k t := Value.isInt_shape (k := k) (v := v) h
theorem lex_wp {Q : Bool → Shared → Prop} (b : Bool) : ∀ {x y : List Int} {xs ys : List Value} (i : Nat), ItemsAre (intKind prog w) x xs → ItemsAre (intKind prog w) y ys → ∀ {fin : Bool}, fin = decide (xs.length < ys.length) → Q (lexL x y) s →
    KatLex prog w A b fin Q (xs.zip ys) i s
  | [], [], _, _, _, .nil, .nil, _, e, h => by
    subst e
    exact h
  | [], _ :: _, _, _, _, .nil, .cons _ _, _, e, h => by
    subst e
    rw [List.zip_nil_left]
    unfold KatLex
    rw [decide_eq_true (by rw [List.length_cons]; exact Nat.succ_pos _)]
    exact h
  | _ :: _, [], _, _, _, .cons _ _, .nil, _, e, h => by
    subst e
    rw [List.zip_nil_right]
    unfold KatLex
    rw [decide_eq_false (by rw [List.length_nil]; exact Nat.not_lt_zero _)]
    exact h
  | k :: x, m :: y, v :: xs, u :: ys, i, .cons h1 hx, .cons h2 hy, _, e, h => by
    subst e
    rw [List.zip_cons_cons]
    refine kat_cons ((intKind prog w).eqBool h1 h2 ?_)
    unfold lexL at h
    by_cases q : k = m
    · rw [if_pos q] at h
      rw [decide_eq_true q]
      exact kat_yes (lex_wp b (i + 1) hx hy (by simp) h)
    · rw [if_neg q] at h
      rw [decide_eq_false q]
      refine kat_no ?_
      obtain ⟨t, rfl⟩ := int_shape h1
      obtain ⟨t', rfl⟩ := int_shape h2
      cases hb : (b && i == 0) with
      | true => exact kat_lt_int h
      | false => exact kat_one _ _ (lt_int h)
/-- a list of tuples, each of one number at least, no two alike, sorted in its place -/
theorem list_sortT {a : Addr} {as : List Addr} {kf : Addr → List Int} {n : Nat} {P : PySem.Fin → Shared → Prop} (ho : s.heap.get? a = some (seqObj "list" (as.map Value.ref).toArray n))
    (ht : ∀ b ∈ as, TupAt prog w s.heap (kf b) b ∧ kf b ≠ []) (nd : (as.map kf).Nodup) (h64 : as.length < 64)
    (h : ∀ out : List Addr, out.Perm as → out.Pairwise (fun x y => lexL (kf x) (kf y) = true) → P (.done (.ret .none)) { s with heap := sortedHeap s.heap a (as.map Value.ref) (out.map Value.ref).toArray }) :
    wpAny (model prog w) A (Builtin.«list.sort» ⟨[.ref a], []⟩) P E s := by
  have hlen : (as.map Value.ref).length = as.length := List.length_map _
  rw [list_sort_plain]
  have ha : a < s.heap.objs.size := Heap.lt_size ho
  refine wpAny_bind (listItems_at ho rfl ?_)
  refine wpAny_bind (listUpdate_at ho rfl ?_ (by rw [List.size_toArray, sizeLine_eq]; omega) (Nat.zero_le _))
  obtain ⟨e1, ho1⟩ : ∃ e1, (s.heap.update a (Obj.mapSeq fun _ => #[])).get? a = some (seqObj "list" #[] e1) := ⟨_, get?_update_seq ho (fun _ => #[])⟩
  refine wpAny_bind (seqEpoch_at ho1 rfl ?_)
  refine wpAny_bind (wpAny_newTuple ?_ (by show (as.map Value.ref).length ≤ _; rw [sizeLine_eq]; omega))
  refine wpAny_bind (wpAny_newList ?_ (Nat.zero_le _))
  refine wpAny_holding ?_
  have ho6 : (((s.heap.update a (Obj.mapSeq fun _ => #[])).push (seqObj "tuple" (as.map Value.ref).toArray 0)).push (seqObj "list" #[] 0)).get? a = some (seqObj "list" #[] e1) := by
    rw [Heap.get?_push_ne _ _ _ (by rw [size_push', Heap.size_update]; exact Nat.ne_of_lt (Nat.lt_succ_of_lt ha)), Heap.get?_push_ne _ _ _ (by rw [Heap.size_update]; exact Nat.ne_of_lt ha)]
    exact ho1
  show wpAny (model prog w) A _ P E { s with heap := ((s.heap.update a (Obj.mapSeq fun _ => #[])).push (seqObj "tuple" (as.map Value.ref).toArray 0)).push (seqObj "list" #[] 0) }
  dsimp only
  have ht6 : ∀ b ∈ as, TupAt prog w (((s.heap.update a (Obj.mapSeq fun _ => #[])).push (seqObj "tuple" (as.map Value.ref).toArray 0)).push (seqObj "list" #[] 0)) (kf b) b := fun b hb => by
    have hne : b ≠ a := by
      rintro rfl
      obtain ⟨o, items, m, hob, hc, _⟩ := (ht b hb).1
      rw [ho] at hob
      cases hob
      exact absurd (show Value.type "list" = Value.type "tuple" from hc) (by decide)
    refine ((ht b hb).1).keep fun o e => ?_
    exact Heap.get?_push_of_some _ (Heap.get?_push_of_some _ (by rw [Heap.get?_update_ne _ _ _ _ hne]; exact e))
  have hsz : (as.map Value.ref).toArray.size = as.length := by simp
  by_cases h2 : (as.map Value.ref).toArray.size < 2
  · rw [if_pos h2, if_pos h2]
    refine wpAny_bind (wpAny_pure ?_)
    rw [StateT.run_pure]
    refine wpAny_bind (wpAny_pure ?_)
    dsimp only
    have e : (arrOf (SortSt.mk' general' ((as.map Value.ref).toArray.zip (as.map Value.ref).toArray) #[] 7 none)).map (·.2) = (as.map Value.ref).toArray := by
      show ((as.map Value.ref).toArray.zip (as.map Value.ref).toArray).map (·.2) = _
      apply Array.toList_inj.mp
      simp [List.map_snd_zip]
    rw [e]
    refine wpAny_bind (seqEpoch_at ho6 rfl ?_)
    refine wpAny_bind (listUpdate_at ho6 rfl ?_ (Nat.zero_le _) (by rw [hsz, sizeLine_eq]; omega))
    simp only [bne_self_eq_false, Bool.false_eq_true, if_false]
    refine wpAny_pure (h as (List.Perm.refl _) ?_)
    rw [hsz] at h2
    match as, h2 with
    | [], _ => exact List.Pairwise.nil
    | [x], _ => exact List.pairwise_singleton _ _
  · rw [if_neg h2, if_neg h2]
    rw [hsz] at h2
    obtain ⟨fs, hfs, hfl, hft⟩ : ∃ fs : List Value, KatTups (((s.heap.update a (Obj.mapSeq fun _ => #[])).push (seqObj "tuple" (as.map Value.ref).toArray 0)).push (seqObj "list" #[] 0)) (as.map Value.ref) fs ∧ fs.length = as.length ∧ ∀ v ∈ fs, ∃ k t, v = Value.int k t := by
      clear h nd h64 ho ha ho1 ho6 hsz h2 hlen
      have key : ∀ (l : List Addr) (hp : Heap), (∀ b ∈ l, TupAt prog w hp (kf b) b ∧ kf b ≠ []) → ∃ fs : List Value, KatTups hp (l.map Value.ref) fs ∧ fs.length = l.length ∧ ∀ v ∈ fs, ∃ k t, v = Value.int k t := by
        intro l hp
        induction l with
        | nil => intro _; exact ⟨[], KatTups.nil, rfl, fun v hv => by cases hv⟩
        | cons b l ih =>
          intro hl
          obtain ⟨fs, f1, f2, f3⟩ := ih fun c hc => hl c (.tail _ hc)
          obtain ⟨⟨o, items, m, hob, hc, hd, hi⟩, hne⟩ := hl b (.head _)
          obtain ⟨its⟩ := items
          generalize ek : kf b = ks at hi hne
          cases hi with
          | nil => exact absurd rfl hne
          | @cons k v ks' vs h1 h2 =>
            obtain ⟨t, rfl⟩ := int_shape h1
            exact ⟨.int k t :: fs, KatTups.cons hob hc hd (by simp) f1, by simp [f2], fun u hu => by
              rcases List.mem_cons.mp hu with rfl | hu
              · exact ⟨k, t, rfl⟩
              · exact f3 u hu⟩
      exact key as _ fun b hb => ⟨ht6 b hb, (ht b hb).2⟩
    refine wpAny_bind (kat_kind (T := .type "int") hfs (by omega) (fun v hv => ?_) (by decide) ?_)
    · obtain ⟨k, t, rfl⟩ := hft v hv
      intro A' Q' E' s' _ hq
      exact wpAny_pure hq
    generalize hκ : tuples' (Value.type "int" != Value.type "tuple") = κ
    let lt : Nat → Nat → Bool := fun i j => lexL (kf (as.getD i 0)) (kf (as.getD j 0))
    have gk : ∀ i, i < as.length → as.getD i 0 ∈ as := fun i hi => by
      rw [List.getD_eq_getElem?_getD, List.getElem?_eq_getElem hi]
      exact List.getElem_mem hi
    have gne : ∀ i j, i < as.length → j < as.length → i ≠ j → kf (as.getD i 0) ≠ kf (as.getD j 0) := fun i j hi hj hij e => by
      have hi' : i < (as.map kf).length := by rw [List.length_map]; exact hi
      have hj' : j < (as.map kf).length := by rw [List.length_map]; exact hj
      have ei : kf (as.getD i 0) = (as.map kf)[i] := by
        rw [List.getD_eq_getElem?_getD, List.getElem?_eq_getElem hi]
        simp
      have ej : kf (as.getD j 0) = (as.map kf)[j] := by
        rw [List.getD_eq_getElem?_getD, List.getElem?_eq_getElem hj]
        simp
      rw [ei, ej] at e
      rcases Nat.lt_or_gt_of_ne hij with q | q
      · exact List.pairwise_iff_getElem.mp nd i j hi' hj' q e
      · exact List.pairwise_iff_getElem.mp nd j i hj' hi' q e.symm
    have O : Ord lt as.length := ⟨fun i j k _ _ _ a b => lexL_trans a b, fun i j hi hj hij e => lexL_tri (gne i j hi hj hij) e⟩
    have tr := sort_tr O (by omega)
    have rlen : (as.map Value.ref).length = as.length := List.length_map _
    have hw : (kas_sort (as.map Value.ref).length).kasWp (kas_ask prog w A κ (as.map Value.ref)) (fun p s' => PermN as.length p ∧ SortT lt p as.length ∧ s' = { s with heap := ((s.heap.update a (Obj.mapSeq fun _ => #[])).push (seqObj "tuple" (as.map Value.ref).toArray 0)).push (seqObj "list" #[] 0) })
        { s with heap := ((s.heap.update a (Obj.mapSeq fun _ => #[])).push (seqObj "tuple" (as.map Value.ref).toArray 0)).push (seqObj "list" #[] 0) } := by
      rw [rlen]
      refine Tr.wp (fun i j C hi hj hC => ?_) (fun p hp => ⟨hp.1, hp.2, rfl⟩) tr
      unfold kas_ask
      have gv : ∀ i, i < as.length → (as.map Value.ref).getD i Value.none = Value.ref (as.getD i 0) := fun i hi => by
        rw [List.getD_eq_getElem?_getD, List.getD_eq_getElem?_getD, List.getElem?_map, List.getElem?_eq_getElem hi]
        rfl
      rw [gv i hi, gv j hj, ← hκ]
      obtain ⟨o1, i1, n1, x1, _, d1, y1⟩ := ht6 _ (gk i hi)
      obtain ⟨o2, i2, n2, x2, _, d2, y2⟩ := ht6 _ (gk j hj)
      exact kat_lt x1 d1 x2 d2 (lex_wp _ 0 y1 y2 (by simp) hC)
    refine wpAny_bind (wpAny_mono (kat_run (Q := fun st' s' => ∃ p : Array Nat, p.size = (as.map Value.ref).length ∧ arrOf st' = p.map (kas_item ((as.map Value.ref).toArray.zip (as.map Value.ref).toArray)) ∧ failedOf st' = none ∧ (PermN as.length p ∧ SortT lt p as.length ∧ s' = { s with heap := ((s.heap.update a (Obj.mapSeq fun _ => #[])).push (seqObj "tuple" (as.map Value.ref).toArray 0)).push (seqObj "list" #[] 0) }))
      rfl (by omega) (by omega) (fun p' st' s' a1 a2 a3 a4 => ⟨p', a1, a2, a3, a4⟩) hw) ?_ fun _ _ e => e)
    rintro ⟨⟨⟩, st'⟩ s' ⟨p, hp, har, hf, P1, P2, rfl⟩
    dsimp only
    have hout := kat_snds rfl har
    have hlt : ∀ i ∈ p.toList, i < as.length := fun i hi => List.mem_range.mp (P1.perm.mem_iff.mp hi)
    have hout2 : (arrOf st').map (·.2) = ((p.toList.map fun i => as.getD i 0).map Value.ref).toArray := by
      rw [hout]
      congr 1
      rw [List.map_map]
      refine List.map_congr_left fun i hi => ?_
      have := hlt i hi
      rw [List.getD_eq_getElem?_getD, List.getElem?_map, List.getElem?_eq_getElem this]
      show Value.ref as[i] = Value.ref (as.getD i 0)
      rw [List.getD_eq_getElem?_getD, List.getElem?_eq_getElem this]
      rfl
    have operm : (p.toList.map fun i => as.getD i 0).Perm as := by
      have := P1.perm.map fun i => as.getD i 0
      refine this.trans (List.Perm.of_eq ?_)
      apply List.ext_getElem?
      intro i
      rw [List.getElem?_map]
      rcases Nat.lt_or_ge i as.length with q | q
      · rw [List.getElem?_range q, List.getElem?_eq_getElem q]
        show some (as.getD i 0) = _
        rw [List.getD_eq_getElem?_getD, List.getElem?_eq_getElem q]
        rfl
      · rw [List.getElem?_eq_none (by simpa using q), List.getElem?_eq_none q]
        rfl
    rw [hout2]
    refine wpAny_bind (seqEpoch_at ho6 rfl ?_)
    refine wpAny_bind (listUpdate_at ho6 rfl ?_ (Nat.zero_le _) (by rw [List.size_toArray, List.length_map, operm.length_eq, sizeLine_eq]; omega))
    rw [hf]
    simp only [bne_self_eq_false, Bool.false_eq_true, if_false]
    refine wpAny_pure (h _ operm ?_)
    rw [List.pairwise_iff_getElem]
    intro i j hi hj hij
    rw [List.length_map, Array.length_toList] at hi hj
    have e1 : g p i = p.toList[i] := by
      have := g_eq (p := p) hi
      rw [Array.getElem?_eq_getElem hi] at this
      rw [Array.getElem_toList]
      exact (Option.some.inj this).symm
    have e2 : g p j = p.toList[j] := by
      have := g_eq (p := p) hj
      rw [Array.getElem?_eq_getElem hj] at this
      rw [Array.getElem_toList]
      exact (Option.some.inj this).symm
    have := P2 i j hij (by rw [← P1.size]; exact hj)
    rw [e1, e2] at this
    rw [List.getElem_map, List.getElem_map]
    exact this
end
end Eb
set_option maxRecDepth 100000
namespace Eb
open PySem PySem.W PyProof.Rows PySem.Calls PySem.Spec
section
variable {prog : Program} {w : World} {A : Around} {E : Value → Shared → Prop} {s : Shared}
section
variable {T : String} {r d : Addr} {n : Nat} {P : Nat → Value → Prop} {OK : Heap → Prop}
theorem collect_sz {R : List Value → Shared → Prop} (K : KdlSrc prog w T r d n P OK) (hh : A.handled = none) (hok : OK s.heap) (hn : n ≤ sizeLine)
    (h : ∀ (h' : Heap) (tk : Nat) (acc : Array Value), (∀ b o, s.heap.get? b = some o → h'.get? b = some o) → ItemsOf P acc n → s.heap.objs.size < h'.objs.size → R acc.toList { s with heap := h', toks := tk }) :
    wpAny (model prog w) A (collect (.ref r)) R E s := by
  have hlt := K.there _ hok
  unfold collect
  refine wpAny_bind (wpAny_runValue (codeAny_builtin entry_proto_collect' ?_))
  rw [Around.under_plainId PySem.F.plain_proto_collect _]
  show wpAny _ A.in1 (newList [] >>= fun l => again (.builtin "list.__iadd__" ⟨[l, .ref r], []⟩)) _ _ s
  refine wpAny_bind (wpAny_newObj_type ?_)
  refine wpAny_pure ⟨plainId_quiet PySem.F.plain_list_iadd _, codeAny_builtin entry_list_iadd' ?_⟩
  rw [Around.under_plainId PySem.F.plain_list_iadd _]
  have hS₁ : (s.heap.push { cls := .type "list", data := .seq ([] : List Value).toArray }).get? s.heap.objs.size = some { cls := .type "list", data := .seq #[] } := Heap.get?_push_size _ rfl
  show wpAny _ A.in1 (Builtin.List.listExtendWith (.ref s.heap.objs.size) (.ref r) (.ref s.heap.objs.size)) _ _ _
  have key := kdl_extend (A := A) (s := { s with heap := s.heap.push { cls := .type "list", data := .seq ([] : List Value).toArray } })
    (R := fun (q : Result) (s' : Shared) => ∃ (h' : Heap) (tk : Nat) (acc' : Array Value) (c' : Nat), q = .ok (.ret (.ref s.heap.objs.size)) ∧ s' = { s with heap := h', toks := tk } ∧
      (∀ b o, s.heap.get? b = some o → h'.get? b = some o) ∧ h'.get? s.heap.objs.size = some { cls := .type "list", dict := none, data := .seq acc' c', slots := #[] } ∧ ItemsOf P acc' n)
    K hh (K.keep _ _ hok fun b _ o e => Heap.get?_push_of_some _ e) s.heap.objs.size (Nat.ne_of_gt hlt.1) (Nat.ne_of_gt hlt.2) (.ref s.heap.objs.size) 0 hS₁
    (fun h' tk acc' c' hk hS' hacc => ⟨h', tk, acc', c', rfl, rfl, fun b o e => hk b o (Nat.ne_of_lt (Heap.lt_size e)) (Heap.get?_push_of_some _ e), hS', hacc⟩) hn
  refine wpAny_mono key (fun fin s' x => ?_) fun e s' x => ?_
  · cases fin with
    | done f =>
      obtain ⟨h', tk, acc', c', e, rfl, hk, hS', hacc⟩ := x
      cases e
      show wpAny _ A (load s.heap.objs.size >>= _) _ _ _
      refine wpAny_bind (wpAny_load hS' ?_)
      exact wpAny_pure (h h' tk acc' hk hacc (Heap.lt_size hS'))
    | again c₁ =>
      refine ⟨x.1, codeAny_mono x.2 fun q s₂ y => ?_⟩
      obtain ⟨h', tk, acc', c', rfl, rfl, hk, hS', hacc⟩ := y
      show wpAny _ A (load s.heap.objs.size >>= _) _ _ _
      refine wpAny_bind (wpAny_load hS' ?_)
      exact wpAny_pure (h h' tk acc' hk hacc (Heap.lt_size hS'))
  · obtain ⟨_, _, _, _, e', _⟩ := x
    cases e'
end
theorem SetAt.fix {h : Heap} {S : Addr} {els : List (Int × Value)} (x : SetAt h S (!byText w) els) : ∃ o es ep t, SetFix w h S o es ep t ∧ es.toList.Perm els := by
  obtain ⟨o, es, ep, t, a, b, c, d, e, f, g⟩ := x
  exact ⟨o, es, ep, t, ⟨a, b, c, d, e, f⟩, g⟩
/-- sorted of a set: its elements in some order are laid into a new list, which is then sorted -/
theorem sorted_set {S : Addr} {els : List (Int × Value)} {Q : Value → Shared → Prop} (hh : A.handled = none) (hS : SetAt s.heap S (!byText w) els) (hn : els.length ≤ 4900)
    (h : ∀ (h' : Heap) (tk : Nat) (vs : List Value), (∀ b o, s.heap.get? b = some o → h'.get? b = some o) → s.heap.objs.size ≤ h'.objs.size → vs.Perm (els.map (·.2)) → (h'.push (seqObj "list" vs.toArray 0)).get? h'.objs.size = some (seqObj "list" vs.toArray 0) →
      wpAny (model prog w) A.in1.in1 (Builtin.«list.sort» ⟨[.ref h'.objs.size], []⟩) (fun f s' => f = .done (.ret .none) ∧ Q (.ref h'.objs.size) s') (fun e s' => False) { s with heap := h'.push (seqObj "list" vs.toArray 0), toks := tk }) :
    wpAny (model prog w) A (call (.builtin "sorted") [.ref S]) Q E s := by
  obtain ⟨o, es, ep, t, x, hp⟩ := hS.fix
  have hsz : es.size = els.length := by rw [← Array.length_toList, hp.length_eq]
  refine call_function_entry kind_sorted plain_sorted entry_sorted (args_sorted1 _) ?_
  unfold Builtin.«sorted»
  refine wpAny_bind (m := checkCount "sorted" 1 1 _) (wpAny_pure ?_)
  refine wpAny_bind (collect_sz (A := A.in1) (src_set S o es ep t) hh x (by rw [hsz]; exact small76 hn) fun h' tk acc hk hacc hgt => ?_)
  have hvs : acc.toList.Perm (els.map (·.2)) := by
    have e : acc.toList = (ordOf w S ep es).toList.map (·.2) := by
      apply List.ext_getElem?
      intro i
      rw [List.getElem?_map, Array.getElem?_toList, Array.getElem?_toList]
      rcases Nat.lt_or_ge i es.size with q | q
      · have q' : i < acc.size := by rw [hacc.1]; exact q
        obtain ⟨e, he, hv⟩ := hacc.2 i _ (Array.getElem?_eq_getElem q')
        rw [Array.getElem?_eq_getElem q', he, hv]
        rfl
      · rw [Array.getElem?_eq_none (by rw [hacc.1]; exact q), Array.getElem?_eq_none (by rw [ord_size]; exact q)]
        rfl
    rw [e]
    exact ((ord_perm w S ep es).trans hp).map _
  refine wpAny_bind (wpAny_newList ?_ (by rw [hvs.length_eq, List.length_map]; exact small76 hn))
  have hoL : (h'.push (seqObj "list" acc.toList.toArray 0)).get? h'.objs.size = some (seqObj "list" acc.toList.toArray 0) := Heap.get?_push_size _ rfl
  have hle : s.heap.objs.size ≤ h'.objs.size := Nat.le_of_lt hgt
  refine wpAny_bind (wpAny_holding (wpAny_call_entry slot_list_sort ⟨_, hoL, rfl⟩ entry_list_sort (wpAny_mono (h h' tk acc.toList hk hle hvs hoL) (fun f s' hf => ?_) fun _ _ e => e.elim) (args_list_sort _)))
  obtain ⟨rfl, hq⟩ := hf
  exact ⟨_, rfl, wpAny_pure ⟨_, rfl, hq⟩⟩
/-- sorted of a set of tuples -/
theorem sorted_setT {S : Addr} {as : List Addr} {kf : Addr → List Int} {Q : Value → Shared → Prop} (hh : A.handled = none) (hS : SetAt s.heap S (!byText w) (as.map fun a => (thash prog w (kf a), Value.ref a)))
    (ht : ∀ b ∈ as, TupAt prog w s.heap (kf b) b ∧ kf b ≠ []) (nd : (as.map kf).Nodup) (h64 : as.length < 64)
    (h : ∀ (h' : Heap) (tk : Nat) (D : Addr) (out : List Addr) (ep : Nat), (∀ b o, s.heap.get? b = some o → h'.get? b = some o) → s.heap.objs.size ≤ D → h'.get? D = some (seqObj "list" (out.map Value.ref).toArray ep) → out.Perm as →
      out.Pairwise (fun x y => lexL (kf x) (kf y) = true) → Q (.ref D) { s with heap := h', toks := tk }) :
    wpAny (model prog w) A (call (.builtin "sorted") [.ref S]) Q E s := by
  refine sorted_set hh hS (by rw [List.length_map]; omega) fun h' tk vs hk hle hvs hoL => ?_
  rw [List.map_map] at hvs
  obtain ⟨bs, rfl, hbs⟩ : ∃ bs : List Addr, vs = bs.map Value.ref ∧ bs.Perm as := by
    let f : Value → Addr := fun | .ref a => a | _ => 0
    have hall : ∀ v ∈ vs, v = Value.ref (f v) := fun v hv => by
      obtain ⟨a, _, rfl⟩ := List.mem_map.mp (hvs.mem_iff.mp hv)
      rfl
    refine ⟨vs.map f, ?_, ?_⟩
    · rw [List.map_map]
      conv => lhs; rw [← List.map_id vs]
      exact List.map_congr_left fun v hv => hall v hv
    · have := hvs.map f
      rw [List.map_map] at this
      refine this.trans (List.Perm.of_eq ?_)
      conv => rhs; rw [← List.map_id as]
      exact List.map_congr_left fun _ _ => rfl
  have hold : ∀ b o, s.heap.get? b = some o → (h'.push (seqObj "list" (bs.map Value.ref).toArray 0)).get? b = some o := fun b o e => Heap.get?_push_of_some _ (hk b o e)
  refine list_sortT hoL (fun b hb => ⟨((ht b (hbs.mem_iff.mp hb)).1).keep fun o e => hold b o e, (ht b (hbs.mem_iff.mp hb)).2⟩) ((hbs.map kf).nodup_iff.mpr nd) (by rw [hbs.length_eq]; exact h64) fun out hp hs => ⟨rfl, ?_⟩
  obtain ⟨ep, he⟩ := sortedHeap_at (out := (out.map Value.ref).toArray) hoL
  refine h _ _ _ out ep (fun b o e => ?_) hle he (hp.trans hbs) hs
  rw [sortedHeap_old (Nat.ne_of_lt (Heap.lt_size (hk b o e))) (by rw [size_push']; exact Nat.lt_succ_of_lt (Heap.lt_size (hk b o e)))]
  exact hold b o e
/-- sorted of a set of whole numbers -/
theorem sorted_setI {S : Addr} {ps : List (Int × Tok)} {Q : Value → Shared → Prop} (hh : A.handled = none) (hS : SetAt s.heap S (!byText w) (ps.map fun p => (ihash prog w p.1, Value.int p.1 p.2))) (h64 : ps.length < 64)
    (h : ∀ (h' : Heap) (tk : Nat) (D : Addr) (out : Array Value) (ns : List Int) (ep : Nat), (∀ b o, s.heap.get? b = some o → h'.get? b = some o) → s.heap.objs.size ≤ D → h'.get? D = some (seqObj "list" out ep) → IntsAre out.toList ns → ns.Perm (ps.map (·.1)) →
      ns.Pairwise (· ≤ ·) → Q (.ref D) { s with heap := h', toks := tk }) :
    wpAny (model prog w) A (call (.builtin "sorted") [.ref S]) Q E s := by
  refine sorted_set hh hS (by rw [List.length_map]; omega) fun h' tk vs hk hle hvs hoL => ?_
  rw [List.map_map] at hvs
  have hI : IntsAre vs (vs.map numOf) := intsAre_map vs fun v hv => by
    obtain ⟨a, _, rfl⟩ := List.mem_map.mp (hvs.mem_iff.mp hv)
    exact ⟨_, _, rfl⟩
  have hnum : (vs.map numOf).Perm (ps.map (·.1)) := by
    have := hvs.map numOf
    rw [List.map_map] at this
    exact this
  have hl : vs.length = ps.length := by rw [hvs.length_eq, List.length_map]
  have hold : ∀ b o, s.heap.get? b = some o → (h'.push (seqObj "list" vs.toArray 0)).get? b = some o := fun b o e => Heap.get?_push_of_some _ (hk b o e)
  refine list_sort_tree hoL hI (by rw [hl]; exact h64) fun out ns' h1 h2 h3 => ⟨rfl, ?_⟩
  obtain ⟨ep, he⟩ := sortedHeap_at (out := out) hoL
  refine h _ _ _ out ns' ep (fun b o e => ?_) hle he h1 (h2.trans hnum) h3
  rw [sortedHeap_old (Nat.ne_of_lt (Heap.lt_size (hk b o e))) (by rw [size_push']; exact Nat.lt_succ_of_lt (Heap.lt_size (hk b o e)))]
  exact hold b o e
end
end Eb
set_option maxRecDepth 100000
set_option linter.all false
namespace Eb
open PySem PySem.W PyProof.Rows
def gallop' : Bool → Keyed → Array Keyed → Nat → Nat → Nat → StateT SortSt Sem (Option Nat) := sortPriv% PySem.Builtin.gallop
section
variable {prog : Program} {w : World} {A : Around} {E : Value → Shared → Prop} {s : Shared} {R : Keyed → Int} {κ : SortKind} {G : Keyed → Prop}
end
end Eb
set_option maxRecDepth 100000
set_option linter.all false
namespace Eb
open PySem PySem.W PyProof.Rows
def setMinGallop' : Nat → StateT SortSt Sem Unit := sortPriv% PySem.Builtin.setMinGallop
section
variable {prog : Program} {w : World} {A : Around} {E : Value → Shared → Prop} {s : Shared} {R : Keyed → Int} {κ : SortKind} {G : Keyed → Prop}
end
end Eb
set_option maxRecDepth 100000
set_option linter.all false
namespace Eb
open PySem PySem.W PyProof.Rows
section
variable {prog : Program} {w : World} {A : Around} {E : Value → Shared → Prop} {s : Shared} {R : Keyed → Int} {κ : SortKind} {G : Keyed → Prop} {a b : Array Keyed} {st0 st : SortSt}
end
end Eb
set_option maxRecDepth 100000
set_option linter.all false
namespace Eb
open PySem PySem.W PyProof.Rows
section
variable {prog : Program} {w : World} {A : Around} {E : Value → Shared → Prop} {s : Shared} {R : Keyed → Int} {κ : SortKind} {G : Keyed → Prop} {a b : Array Keyed} {st : SortSt}
end
end Eb
set_option maxRecDepth 100000
set_option linter.all false
namespace Eb
open PySem PySem.W PyProof.Rows
section
variable {prog : Program} {w : World} {A : Around} {E : Value → Shared → Prop} {s : Shared} {R : Keyed → Int} {κ : SortKind} {G : Keyed → Prop} {a b : Array Keyed} {st0 st : SortSt}
end
end Eb
set_option maxRecDepth 100000
set_option linter.all false
namespace Eb
open PySem PySem.W PyProof.Rows
section
variable {prog : Program} {w : World} {A : Around} {E : Value → Shared → Prop} {s : Shared} {R : Keyed → Int} {κ : SortKind} {G : Keyed → Prop} {a b : Array Keyed} {st0 st : SortSt}
abbrev SH7 := Option (Array Keyed) × Nat × Nat × Array Keyed × Nat × Nat × Nat
def hT3 (a b out : Array Keyed) (na nb mg ac bc : Nat) : StateT SortSt Sem (ForInStep SH7) := do
  let x ← elem' a (na - 1)
  if (na - 1 == 0) = true then pure (.done (some (a.extract 0 (na - 1) ++ b.extract 0 nb ++ (out.push x).reverse), na - 1, nb, out.push x, mg, ac, bc))
  else if (decide (ac < 7) && decide (bc < 7)) = true then pure (.done (none, na - 1, nb, out.push x, mg, ac, bc))
  else pure (.yield (none, na - 1, nb, out.push x, mg, ac, bc))
def hT2 (a b out : Array Keyed) (na nb mg ac bc : Nat) : StateT SortSt Sem (ForInStep SH7) := do
  let key ← elem' a (na - 1)
  let r ← gallop' true key b 0 nb (nb - 1)
  match r with
  | some at_ => (if nb - at_ > 0 then (if (at_ == 1) = true then pure (.done (some (b.extract 0 at_ ++ a.extract 0 na ++ (out ++ (b.extract at_ nb).reverse).reverse), na, at_, out ++ (b.extract at_ nb).reverse, mg, ac, nb - at_)) else if (at_ == 0) = true then pure (.done (some (a.extract 0 na ++ b.extract 0 at_ ++ (out ++ (b.extract at_ nb).reverse).reverse), na, at_, out ++ (b.extract at_ nb).reverse, mg, ac, nb - at_)) else hT3 a b (out ++ (b.extract at_ nb).reverse) na at_ mg ac (nb - at_)) else hT3 a b out na nb mg ac (nb - at_))
  | _ => pure (.done (some (a.extract 0 na ++ b.extract 0 nb ++ out.reverse), na, nb, out, mg, ac, bc))
def hT1b (a b out : Array Keyed) (na nb mg ac bc : Nat) : StateT SortSt Sem (ForInStep SH7) := do
  let x ← elem' b (nb - 1)
  if (nb - 1 == 1) = true then pure (.done (some (b.extract 0 (nb - 1) ++ a.extract 0 na ++ (out.push x).reverse), na, nb - 1, out.push x, mg, ac, bc))
  else hT2 a b (out.push x) na (nb - 1) mg ac bc
def hT1 (a b out : Array Keyed) (na nb mg ac bc : Nat) : StateT SortSt Sem (ForInStep SH7) := do
  setMinGallop' mg
  let key ← elem' b (nb - 1)
  let r ← gallop' false key a 0 na (na - 1)
  match r with
  | some at_ => (if na - at_ > 0 then (if (at_ == 0) = true then pure (.done (some (a.extract 0 at_ ++ b.extract 0 nb ++ (out ++ (a.extract at_ na).reverse).reverse), at_, nb, out ++ (a.extract at_ na).reverse, mg, na - at_, bc)) else hT1b a b (out ++ (a.extract at_ na).reverse) at_ nb mg (na - at_) bc) else hT1b a b out na nb mg (na - at_) bc)
  | _ => pure (.done (some (a.extract 0 na ++ b.extract 0 nb ++ out.reverse), na, nb, out, mg, ac, bc))
end
end Eb
set_option maxRecDepth 100000
set_option linter.all false
namespace Eb
open PySem PySem.W PyProof.Rows
section
variable {prog : Program} {w : World} {A : Around} {E : Value → Shared → Prop} {s : Shared} {R : Keyed → Int} {κ : SortKind} {G : Keyed → Prop} {a b : Array Keyed} {st0 st : SortSt}
end
end Eb
set_option maxRecDepth 100000
set_option linter.all false
namespace Eb
open PySem PySem.W PyProof.Rows
section
variable {prog : Program} {w : World} {A : Around} {E : Value → Shared → Prop} {s : Shared} {R : Keyed → Int} {κ : SortKind} {G : Keyed → Prop} {st : SortSt}
end
end Eb
set_option maxRecDepth 100000
set_option linter.all false
namespace Eb
open PySem PySem.W PyProof.Rows
section
variable {prog : Program} {w : World} {A : Around} {E : Value → Shared → Prop} {s : Shared} {R : Keyed → Int} {κ : SortKind} {G : Keyed → Prop} {st : SortSt}
end
end Eb
set_option maxRecDepth 100000
set_option linter.all false
namespace Eb
open PySem PySem.W PyProof.Rows
section
variable {prog : Program} {w : World} {A : Around} {E : Value → Shared → Prop} {s : Shared} {R : Keyed → Int} {κ : SortKind} {G : Keyed → Prop} {st : SortSt}
end
end Eb
set_option maxRecDepth 100000
set_option linter.all false
namespace Eb
open PySem PySem.W PyProof.Rows
section
variable {prog : Program} {w : World} {A : Around} {E : Value → Shared → Prop} {s : Shared} {R : Keyed → Int} {κ : SortKind} {G : Keyed → Prop} {st : SortSt}
end
end Eb
set_option maxRecDepth 100000
set_option linter.all false
namespace Eb
open PySem PySem.W PyProof.Rows
section
variable {prog : Program} {w : World} {A : Around} {E : Value → Shared → Prop} {s : Shared} {R : Keyed → Int} {κ : SortKind} {G : Keyed → Prop} {st : SortSt}
end
end Eb
set_option maxRecDepth 100000
set_option linter.all false
namespace Eb
open PySem PySem.W PyProof.Rows
section
variable {prog : Program} {w : World} {A : Around} {E : Value → Shared → Prop} {s : Shared} {R : Keyed → Int} {κ : SortKind} {G : Keyed → Prop} {st : SortSt}
end
end Eb
set_option Elab.async false
set_option maxRecDepth 100000
set_option linter.all false
namespace Eb
open PySem PySem.W PyProof.Rows
section
variable {prog : Program} {w : World} {A : Around} {E : Value → Shared → Prop} {s : Shared} {R : Keyed → Int} {κ : SortKind} {G : Keyed → Prop} {st : SortSt}
end
end Eb
set_option Elab.async false
set_option maxRecDepth 100000
set_option linter.all false
namespace Eb
open PySem PySem.W PyProof.Rows PySem.Calls PySem.Spec
section
variable {prog : Program} {w : World} {A : Around} {E : Value → Shared → Prop} {s : Shared}
end
end Eb
set_option maxRecDepth 100000
set_option linter.all false
namespace Eb
open PySem L2 PyProof.Rows
theorem items_of : ∀ {us : List Value} {ns : List Int} {prog : Program} {w : World}, IntsAre us ns → PySem.ItemsAre (PySem.intKind prog w) ns us
  | _, _, _, _, .nil => .nil
  | _, _, _, _, .cons n t h => .cons (intKind_is _ _ n t) (items_of h)
theorem refs_of : ∀ {as : List Addr} {us : List Value}, Vals (as.map V.ref) us → us = as.map Value.ref
  | [], _, r => by
    rw [List.map_nil] at r
    cases r
    rfl
  | a :: as, _, r => by
    rw [List.map_cons] at r
    cases r with
    | cons r1 r2 =>
      rw [refs_of r2, show _ = Value.ref a from r1]
      rfl
theorem vals_refs : ∀ (as : List Addr), Vals (as.map V.ref) (as.map Value.ref)
  | [] => .nil
  | a :: as => .cons (show RelV (V.ref a) (Value.ref a) from rfl) (vals_refs as)
theorem tup_of {X : Cx} {pins : List (Addr × Obj)} {σ : L2.St} {H : Hp} {s : Shared} {a : Addr} {w : List Int} (I : Inv X pins σ H s) (h : SqT X.K H a (w.map V.int)) : TupAt X.prog X.w s.heap w a := by
  obtain ⟨its, r, ⟨o, e, c, n, d⟩, _⟩ := I.tuple h
  exact ⟨o, its.toArray, n, e, c, d, items_of (intsAre_of r)⟩
/-- a set of tuples of whole numbers; a set of whole numbers -/
abbrev setT (P : Program) (w : World) (S : Addr) (as : List Addr) (kf : Addr → List Int) : HO := .ext fun h => SetAt h S (!byText w) (as.map fun a => (thash P w (kf a), Value.ref a))
abbrev setI (P : Program) (w : World) (S : Addr) (ns : List Int) : HO := .ext fun h => ∃ ps : List (Int × Tok), ps.map (·.1) = ns ∧ SetAt h S (!byText w) (ps.map fun p => (ihash P w p.1, Value.int p.1 p.2))
theorem SetAt.there {h : Heap} {S : Addr} {led : Bool} {els : List (Int × Value)} (x : SetAt h S led els) : ∃ o, h.get? S = some o := by
  obtain ⟨o, _, _, _, ho, _⟩ := x
  exact ⟨o, ho⟩
section
variable {X : Cx}
def rSetT (P : Program) (w : World) (K : PySem.W.Frag) : List V → Hp → VK → Prop := fun vs H Q => ∃ (l : Addr) (as : List Addr) (kf : Addr → List Int), vs = [.ref l] ∧ SqL K H l (as.map V.ref) ∧ (∀ a ∈ as, SqT K H a ((kf a).map V.int)) ∧ as.length ≤ 4900 ∧
  ∀ p, H p = none → Q (.ref p) (upd H p (setT P w p (dedupK kf as) kf))
theorem call_setT (hc : X.calm = true) (hu : X.A.units + 64 < cLine) : CallR X (.type "set") (rSetT X.prog X.w X.K) := by
  intro pins s σ H vs us Q I r h
  obtain ⟨l, as, kf, rfl, hl, ht, h76, q⟩ := h
  rw [Vals.ref1 r]
  obtain ⟨its, rv, pl, _⟩ := I.list hl
  have e := refs_of rv
  subst e
  refine call_setOf (kind_tup X.prog X.w kf) (xs := as) (by show X.A.units + 3 < cLine; omega) (I.ok.hd hc) pl.isList h76 (fun h k a ha => (tup_of I (ht a ha)).keep fun o e => k _ _ e) fun h' tk hS hk => ?_
  exact ⟨.ref s.heap.objs.size, upd H s.heap.objs.size _, I.laid (o := setT X.prog X.w s.heap.objs.size (dedupK kf as) kf) hk (Nat.le_refl _) ⟨hS, hS.there, fun h1 h2 x k => x.keep k⟩, rfl, q _ (I.hok.fresh (Nat.le_refl _))⟩
def rSetI (P : Program) (w : World) (K : PySem.W.Frag) : List V → Hp → VK → Prop := fun vs H Q => ∃ (l : Addr) (ns : List Int), vs = [.ref l] ∧ SqL K H l (ns.map V.int) ∧ ns.length ≤ 4000 ∧
  ∀ p, H p = none → Q (.ref p) (upd H p (setI P w p (dedupK id ns)))
theorem pairs_of : ∀ {us : List Value} {ns : List Int}, IntsAre us ns → ∃ ps : List (Int × Tok), ps.map (·.1) = ns ∧ us = ps.map fun p => Value.int p.1 p.2
  | _, _, .nil => ⟨[], rfl, rfl⟩
  | _, _, .cons n t h => by
    obtain ⟨ps, e1, e2⟩ := pairs_of h
    exact ⟨(n, t) :: ps, by rw [List.map_cons, e1], by rw [List.map_cons, e2]⟩
theorem dedup_fst (ps : List (Int × Tok)) : (dedupK (·.1) ps).map (·.1) = dedupK id (ps.map (·.1)) := by
  have key : ∀ (l acc : List (Int × Tok)) , (l.foldl (addK (·.1)) acc).map (·.1) = (l.map (·.1)).foldl (addK id) (acc.map (·.1)) := by
    intro l
    induction l with
    | nil => intro acc; rfl
    | cons p l ih =>
      intro acc
      rw [List.foldl_cons, ih, List.map_cons, List.foldl_cons]
      congr 1
      by_cases hm : p.1 ∈ acc.map (·.1)
      · rw [addK_pos hm, addK_pos (by rw [List.map_id]; exact hm)]
      · rw [addK_neg hm, addK_neg (by rw [List.map_id]; exact hm), List.map_append]
        rfl
  exact key ps []
theorem call_setI (hc : X.calm = true) (hu : X.A.units + 64 < cLine) : CallR X (.type "set") (rSetI X.prog X.w X.K) := by
  intro pins s σ H vs us Q I r h
  obtain ⟨l, ns, rfl, hl, h76, q⟩ := h
  rw [Vals.ref1 r]
  obtain ⟨its, rv, pl, _⟩ := I.list hl
  obtain ⟨ps, e1, e2⟩ := pairs_of (intsAre_of rv)
  subst e2
  have hlen : ps.length = ns.length := by rw [← e1, List.length_map]
  refine call_setOf (kind_int X.prog X.w) (xs := ps) (by show X.A.units + 3 < cLine; omega) (I.ok.hd hc) pl.isList (by omega) (fun _ _ _ _ => trivial) fun h' tk hS hk => ?_
  refine ⟨.ref s.heap.objs.size, upd H s.heap.objs.size _, I.laid (o := setI X.prog X.w s.heap.objs.size (dedupK id ns)) hk (Nat.le_refl _) ⟨⟨_, ?_, hS⟩, hS.there, fun h1 h2 ⟨ps, a, x⟩ k => ⟨ps, a, x.keep k⟩⟩, rfl, q _ (I.hok.fresh (Nat.le_refl _))⟩
  · rw [dedup_fst, e1]
def rSortT (P : Program) (w : World) (K : PySem.W.Frag) : List V → Hp → VK → Prop := fun vs H Q => ∃ (S : Addr) (as : List Addr) (kf : Addr → List Int), vs = [.ref S] ∧ H S = some (setT P w S as kf) ∧ (∀ a ∈ as, SqT K H a ((kf a).map V.int) ∧ kf a ≠ []) ∧ (as.map kf).Nodup ∧ as.length < 64 ∧
  ∀ (out : List Addr) (p : Addr), out.Perm as → out.Pairwise (fun x y => lexL (kf x) (kf y) = true) → H p = none → Q (.ref p) (upd H p (.lst (out.map V.ref)))
theorem call_sortT (hc : X.calm = true) : CallR X (.builtin "sorted") (rSortT X.prog X.w X.K) := by
  intro pins s σ H vs us Q I r h
  obtain ⟨S, as, kf, rfl, hS, ht, nd, h64, q⟩ := h
  rw [Vals.ref1 r]
  have hS' : SetAt s.heap S (!byText X.w) (as.map fun a => (thash X.prog X.w (kf a), Value.ref a)) := (I.hok S _ hS).1
  refine sorted_setT (I.ok.hd hc) hS' (fun b hb => ⟨tup_of I (ht b hb).1, (ht b hb).2⟩) nd h64 fun h' tk D out ep hk hle hD hp hs => ?_
  have hlen : (out.map V.ref).length ≤ sizeLine := by rw [List.length_map, hp.length_eq]; exact small64 h64
  exact ⟨.ref D, upd H D (.lst (out.map V.ref)), I.laid hk hle ⟨hlen, out.map Value.ref, ep, vals_refs out, hD⟩, rfl, q out D hp hs (I.hok.fresh hle)⟩
def rSortI (P : Program) (w : World) : List V → Hp → VK → Prop := fun vs H Q => ∃ (S : Addr) (ns : List Int), vs = [.ref S] ∧ H S = some (setI P w S ns) ∧ ns.length < 64 ∧
  ∀ (out : List Int) (p : Addr), out.Perm ns → out.Pairwise (· ≤ ·) → H p = none → Q (.ref p) (upd H p (.lst (out.map V.int)))
theorem call_sortI (hc : X.calm = true) : CallR X (.builtin "sorted") (rSortI X.prog X.w) := by
  intro pins s σ H vs us Q I r h
  obtain ⟨S, ns, rfl, hS, h64, q⟩ := h
  rw [Vals.ref1 r]
  obtain ⟨⟨ps, e1, hS'⟩, _⟩ := I.hok S _ hS
  have hl : ps.length = ns.length := by rw [← e1, List.length_map]
  refine sorted_setI (I.ok.hd hc) hS' (by omega) fun h' tk D out ms ep hk hle hD hi hp hs => ?_
  have hp' : ms.Perm ns := by rw [← e1]; exact hp
  have hlen : (ms.map V.int).length ≤ sizeLine := by rw [List.length_map, hp'.length_eq]; exact small64 h64
  refine ⟨.ref D, upd H D (.lst (ms.map V.int)), I.laid hk hle ⟨hlen, out.toList, ep, vals_of_ints hi, ?_⟩, rfl, q ms D hp' hs (I.hok.fresh hle)⟩
  rw [hD]
end
end Eb
set_option maxRecDepth 100000
set_option linter.all false
namespace Eb
open PySem
open AutoSeq1 (wpAny_loadPart')
section
variable {prog : Program} {w : World} {A : Around} {E : Value → Shared → Prop} {s : Shared}
end
open L2
def isV (K : PySem.W.Frag) (T : String) (x : V) (H : Hp) : Bool → Prop
  | k => match x with
    | .bl _ => k = (T == "bool" || T == "int")
    | .int _ => k = (T == "int")
    | .str _ => k = (T == "str")
    | .non => k = false
    | .ref a => ((∃ xs, SqL K H a xs) ∧ k = (T == "list")) ∨ ((∃ xs, SqT K H a xs) ∧ k = (T == "tuple"))
    | _ => False
def rIsi (K : PySem.W.Frag) (T : String) : List V → Hp → VK → Prop := fun vs H Q => ∃ x k, vs = [x, .ty T] ∧ isV K T x H k ∧ Q (.bl k) H
theorem call_isi {X : Cx} {T : String} (hT : T = "bool" ∨ T = "int" ∨ T = "list" ∨ T = "tuple" ∨ T = "str") : CallR X (.builtin "isinstance") (rIsi X.K T) := by
  intro pins s σ H vs us Q I r h
  obtain ⟨x, k, rfl, hk, q⟩ := h
  cases r with
  | cons r1 r2 =>
    cases r2 with
    | cons r2 r3 =>
      cases r3
      cases r2
      have I' : ∀ tk, Inv X pins σ H { s with toks := tk } := fun tk => I.kept (h' := s.heap) (t' := tk) fun _ _ e => e
      have fin : ∀ tk, k = k → EP X pins σ Q (Value.bool k) { s with toks := tk } := fun tk _ => ⟨.bl k, H, I' tk, rfl, q⟩
      have fin0 : EP X pins σ Q (Value.bool k) s := ⟨.bl k, H, I, rfl, q⟩
      cases x with
      | bl b =>
        cases r1
        have hk : k = (T == "bool" || T == "int") := hk
        rcases hT with rfl | rfl | rfl | rfl | rfl <;> subst hk
        · exact IsiPair.bool_bool fin0
        · exact IsiPair.bool_int fin0
        · exact IsiPair.bool_list (fin _ rfl)
        · exact IsiPair.bool_tuple (fin _ rfl)
        · exact IsiPair.bool_str (fin _ rfl)
      | int n =>
        obtain ⟨t, rfl⟩ := r1
        have hk : k = (T == "int") := hk
        rcases hT with rfl | rfl | rfl | rfl | rfl <;> subst hk
        · exact IsiPair.int_bool (fin _ rfl)
        · exact IsiPair.int_int fin0
        · exact IsiPair.int_list (fin _ rfl)
        · exact IsiPair.int_tuple (fin _ rfl)
        · exact IsiPair.int_str (fin _ rfl)
      | str z =>
        obtain ⟨t, rfl⟩ := r1
        have hk : k = (T == "str") := hk
        rcases hT with rfl | rfl | rfl | rfl | rfl <;> subst hk
        · exact IsiPair.str_bool (fin _ rfl)
        · exact IsiPair.str_int (fin _ rfl)
        · exact IsiPair.str_list (fin _ rfl)
        · exact IsiPair.str_tuple (fin _ rfl)
        · exact IsiPair.str_str fin0
      | non =>
        cases r1
        have hk : k = false := hk
        subst hk
        rcases hT with rfl | rfl | rfl | rfl | rfl
        · exact IsiPair.NoneType_bool (fin _ rfl)
        · exact IsiPair.NoneType_int (fin _ rfl)
        · exact IsiPair.NoneType_list (fin _ rfl)
        · exact IsiPair.NoneType_tuple (fin _ rfl)
        · exact IsiPair.NoneType_str (fin _ rfl)
      | ref a =>
        cases r1
        rcases hk with ⟨⟨xs, hx⟩, rfl⟩ | ⟨⟨xs, hx⟩, rfl⟩
        · obtain ⟨its, _, pl, _⟩ := I.list hx
          obtain ⟨o, ho, hc, _⟩ := pl.isList
          rcases hT with rfl | rfl | rfl | rfl | rfl
          · exact IsiPair.list_bool ho hc (fin _ rfl)
          · exact IsiPair.list_int ho hc (fin _ rfl)
          · exact IsiPair.list_list ho hc fin0
          · exact IsiPair.list_tuple ho hc (fin _ rfl)
          · exact IsiPair.list_str ho hc (fin _ rfl)
        · obtain ⟨its, _, ⟨o, ho, hc, _⟩, _⟩ := I.tuple hx
          rcases hT with rfl | rfl | rfl | rfl | rfl
          · exact IsiPair.tuple_bool ho hc (fin _ rfl)
          · exact IsiPair.tuple_int ho hc (fin _ rfl)
          · exact IsiPair.tuple_list ho hc (fin _ rfl)
          · exact IsiPair.tuple_tuple ho hc fin0
          · exact IsiPair.tuple_str ho hc (fin _ rfl)
      | _ => exact hk.elim
theorem call_rng {X : Cx} : CallR X (.type "range") (fun vs H Q => ∃ n : Int, vs = [.int n] ∧ ∀ p, H p = none → Q (.ref p) (upd H p (.rng 0 n))) := by
  intro pins s σ H vs us Q I r h
  obtain ⟨n, rfl, q⟩ := h
  obtain ⟨u, rfl, t, rfl⟩ := vals1 r
  refine call_range_1 ?_
  exact ⟨.ref s.heap.objs.size, upd H s.heap.objs.size (.rng 0 n), I.laid (o := .rng 0 n) (fun _ _ e => Heap.get?_push_of_some _ e) (Nat.le_refl _) ⟨_, _, _, Heap.get?_push_size _ rfl⟩, rfl, q _ (I.hok.fresh (Nat.le_refl _))⟩
theorem rng_small : ∀ n : Nat, n < 17 → Builtin.Range.small 0 (n : Int) 1 = true ∧ Builtin.Range.rangeSize 0 (n : Int) 1 = n := by decide
theorem call_lrng {X : Cx} (hc : X.calm = true) : CallR X (.type "list") (fun vs H Q => ∃ (r : Addr) (n : Nat), vs = [.ref r] ∧ H r = some (.rng 0 n) ∧ n < 17 ∧ ∀ p, H p = none → Q (.ref p) (upd H p (.lst (((List.range n).map fun i : Nat => (i : Int)).map V.int)))) := by
  intro pins s σ H vs us Q I r h
  obtain ⟨a, n, rfl, ha, hn, q⟩ := h
  rw [Vals.ref1 r]
  obtain ⟨t, u, v, hr⟩ := I.hok a _ ha
  obtain ⟨h1, h2⟩ := rng_small n hn
  refine call_list_range (I.ok.hd hc) hr h1 h2 (by omega) fun h' tk acc' c' hk hS hacc => ?_
  have hI : PyProof.Rows.IntsAre acc'.toList ((List.range n).map fun i : Nat => (i : Int)) := by
    have e : ((List.range n).map fun i : Nat => (i : Int)) = acc'.toList.map PyProof.Rows.numOf := by
      apply List.ext_getElem?
      intro i
      rw [List.getElem?_map, List.getElem?_map, show acc'.toList[i]? = acc'[i]? from Array.getElem?_toList]
      rcases Nat.lt_or_ge i n with z | z
      · have z' : i < acc'.size := by rw [hacc.1]; exact z
        obtain ⟨t, ht⟩ := hacc.2 i _ (Array.getElem?_eq_getElem z')
        rw [List.getElem?_range z, Array.getElem?_eq_getElem z', ht]
        rw [Int.zero_add, Int.mul_one]
        rfl
      · rw [List.getElem?_eq_none (by simpa using z), Array.getElem?_eq_none (by rw [hacc.1]; exact z)]
        rfl
    rw [e]
    refine PyProof.Rows.intsAre_map _ fun v hv => ?_
    obtain ⟨i, hi⟩ := List.getElem?_of_mem hv
    rw [Array.getElem?_toList] at hi
    obtain ⟨t, ht⟩ := hacc.2 i v hi
    exact ⟨_, t, ht⟩
  refine ⟨.ref s.heap.objs.size, upd H s.heap.objs.size _, I.laid (o := .lst _) hk (Nat.le_refl _) ⟨?_, acc'.toList, c', vals_of_ints hI, hS⟩, rfl, q _ (I.hok.fresh (Nat.le_refl _))⟩
  rw [List.length_map, List.length_map, List.length_range, sizeLine_eq]
  omega
end Eb
set_option maxRecDepth 100000
set_option linter.all false
namespace Eb
open PySem
section
variable {prog : Program} {w : World} {A : Around} {E : Value → Shared → Prop} {s : Shared}
section
variable {prog : Program} {w : World} {A : Around} {E : Value → Shared → Prop} {s : Shared}
open L2
end
end
end Eb
set_option maxRecDepth 100000
set_option linter.all false
namespace Eb
open PySem L2
section
variable {X : Cx}
end
end Eb
set_option Elab.async false
set_option maxRecDepth 100000
set_option linter.all false
namespace Eb
open PySem L2
open PyProof.Rows (AllBare)
theorem runs_gens {M : Model} {Γ : Ctx} {p : Pos} {t : Sem Fin} {fs : List Frame} {s s' : Shared} {e : End} (h : Runs M Γ p t fs s e s') : s.gens.size ≤ s'.gens.size := by
  induction h <;> (try simp only [Shared.setGen, Array.size_push, Array.size_setIfInBounds] at *) <;> omega
theorem wakes_gens {M : Model} {Γ : Ctx} {p : Pos} {g : Nat} {r : Resume} {s s' : Shared} {res : GenResult} (h : Wakes M Γ p g r s res s') : s.gens.size ≤ s'.gens.size := by
  have e : ∀ (s : Shared) (x : GenState), (s.setGen g x).gens.size = s.gens.size := fun s x => by simp [Shared.setGen]
  unfold Wakes at h
  split at h
  · exact h.elim
  · split at h
    · obtain ⟨e₁, s₁, hr, _, _, rfl⟩ := h
      have := runs_gens hr
      rw [e] at this
      rw [e]
      exact this
    · rw [h.2]; exact Nat.le_refl _
    · rw [h.2, e]; exact Nat.le_refl _
  · obtain ⟨e₁, s₁, hr, _, _, rfl⟩ := h
    have := runs_gens hr
    rw [e] at this
    rw [e]
    exact this
  · rw [h.2]; exact Nat.le_refl _
  · rw [h.2]; exact Nat.le_refl _
theorem wp_gens {α : Type} (M : Model) (Γ : Ctx) (n : Nat) (t : Sem α) : ∀ (Q : α → Pos → Shared → Prop) (E : Value → Pos → Shared → Prop) (p : Pos) (s : Shared), n ≤ s.gens.size → Sem.wp M Γ t Q E p s →
    Sem.wp M Γ t (fun a p' s' => n ≤ s'.gens.size ∧ Q a p' s') (fun e p' s' => n ≤ s'.gens.size ∧ E e p' s') p s := by
  induction t with
  | pure a => intro Q E p s hn h; exact ⟨hn, h⟩
  | raise e => intro Q E p s hn h; exact ⟨hn, h⟩
  | unsupported _ => intro Q E p s _ h; exact h
  | finish _ => intro Q E p s _ h; exact h
  | rule _ k ih => intro Q E p s hn h; exact ih () Q E p s hn h
  | «at» p' k ih => intro Q E p s hn h; exact ih () Q E p' s hn h
  | load a _ k ih => intro Q E p s hn h; obtain ⟨o, ho, h⟩ := h; exact ⟨o, ho, ih o Q E p s hn h⟩
  | update a _ f k ih => intro Q E p s hn h; exact ⟨h.1, ih () Q E p _ hn h.2⟩
  | loadIfAlive a k ih => intro Q E p s hn h; exact ih _ Q E p s hn h
  | point _ k ih => intro Q E p s hn h; exact ih () Q E p s hn h
  | register _ _ => intro Q E p s _ h; exact h
  | alloc o k ih => intro Q E p s hn h; exact ih _ Q E p _ hn h
  | fresh k ih => intro Q E p s hn h; exact ih _ Q E p _ hn h
  | ask k ih => intro Q E p s hn h; exact ih _ Q E p s hn h
  | choose src m k ih => intro Q E p s hn h; exact ⟨h.1, ih _ Q E p _ hn h.2⟩
  | os q _ k ih => intro Q E p s hn h; exact ih _ Q E p _ hn h
  | call c hd _ _ k ih => intro Q E p s hn h; obtain ⟨r, s', hr, h⟩ := h; exact ⟨r, s', hr, ih r Q E p s' (Nat.le_trans hn (runs_gens hr)) h⟩
  | handled own k ih => intro Q E p s hn h; exact ih _ Q E p s hn h
  | genState g k ih => intro Q E p s hn h; obtain ⟨st, hs, h⟩ := h; exact ⟨st, hs, ih _ Q E p s hn h⟩
  | newGen c k ih => intro Q E p s hn h; exact ih _ Q E p _ (Nat.le_trans hn (by simp)) h
  | resume g r _ k ih => intro Q E p s hn h; obtain ⟨res, s', hw, h⟩ := h; exact ⟨res, s', hw, ih res Q E p s' (Nat.le_trans hn (wakes_gens hw)) h⟩
  | yield _ _ _ _ => intro Q E p s _ h; exact h
  | stack k ih => intro Q E p s hn h; exact ih _ Q E p s hn h
  | fork _ _ => intro Q E p s _ h; exact h
  | thread k ih => intro Q E p s hn h; exact ih _ Q E p s hn h
  | await _ _ _ _ _ => intro Q E p s _ h; exact h
theorem thnG {α : Type} {t : Sem α} {Q Q' : α → Shared → Prop} {M : Model} {A : Around} {E : Value → Shared → Prop} {s : Shared} {n : Nat} (hn : n ≤ s.gens.size) (h : wpAny M A t Q (fun _ _ => False) s) (hQ : ∀ a s', n ≤ s'.gens.size → Q a s' → Q' a s') : wpAny M A t Q' E s :=
  wpAny_mono (fun Γ p hΓ => wp_gens M Γ n t _ _ p s hn (h Γ p hΓ) : wpAny M A t (fun a s' => n ≤ s'.gens.size ∧ Q a s') (fun e s' => n ≤ s'.gens.size ∧ False) s) (fun a s' z => hQ a s' z.1 z.2) fun _ _ z => z.2.elim
abbrev tabO (P : Addr) : HO := .ext fun h => ∃ ps, h.get? P = some { cls := .none, data := .fields ps } ∧ TriplesOk ps.toList
abbrev gblk (X : Cx) (B : Around) (s : Shared) (H : Hp) (cenv : Env) (fp : List Addr) : Cx := { X with A := B, s_0 := s, H_0 := H, env := cenv, outer := X.stack, stack := cenv :: X.stack, ex := fp, fn := fun _ => false, pn := [], xe := fun _ _ => False }
theorem over_loop {A : Around} {elt : Expr} {gs : List Comprehension} {sc : Scope} {p : Pos} {it acc : Value} {env : Env} : A.over (.compLoop (.GeneratorExp elt gs sc p) 0 it acc env) [] = A.deeper env := by
  first | rfl | (simp [Around.over, Around.deeper])
theorem over_start {A : Around} {elt : Expr} {gs : List Comprehension} {sc : Scope} {p : Pos} {it acc : Value} {env : Env} : A.over (.compStart (.GeneratorExp elt gs sc p) 0 it acc env) [] = A.deeper env := by
  first | rfl | (simp [Around.over, Around.deeper])
section
variable {X : Cx} {pins : List (Addr × Obj)} {σ : L2.St} {H : Hp} {s : Shared}
theorem inv_gens {g' : Array GenState} (I : Inv X pins σ H s) (hg : AllBare g') : Inv X pins σ H { s with gens := g' } := ⟨I.ok, I.os, hg, I.base, I.loc, I.cell, I.free, I.freeC, I.pin, I.hok, I.len⟩
theorem gblk_start {scope : Scope} {own : List (Str × Nat)} {fp : List Addr} {code : Value} {B : Around} {cenv : Env} {s5 : Shared} {m : Str → Option Value} {a : Addr} {ob : Obj} (I : Inv X pins σ H s) (ok : BlkOk X.N X.env.scope scope own) (hcell : ∀ y ∈ scope.names, y.2 ≠ .cell) (hN : X.N.Nodup)
    (hfp : ∀ b ∈ fp, FpOk X pins H b ∧ b < s.heap.objs.size) (hce : cenv = genEnv scope (cloFrom X.env.cells scope.names []) s.heap.objs.size code builtinsNs X.env) (hBf : B.frames = some (cenv :: X.stack)) (hBh : X.calm = true → B.handled = none)
    (kp : ∀ b o, s.heap.get? b = some o → s5.heap.get? b = some o) (ho : s5.os = s.os) (hb : AllBare s5.gens) (hn : s5.heap.Ns s.heap.objs.size m) (ha : s5.heap.get? a = some ob) (hal : s.heap.objs.size < a) (hd : ∀ v, ob.data ≠ .cell v) :
    Inv (gblk X B s H cenv fp) [(a, ob)] (wipe σ (own.map (·.2))) H s5 := by
  have hfree : ∀ y ∈ scope.names, y.2 = .free → ∃ c, X.env.cells.lookup y.1 = some c := fun y hy e => by
    rcases ok.free y hy e with k | k
    · exact I.ok.has _ (.inl k)
    · exact I.ok.has _ (.inr k)
  have hL : cenv.locals = s.heap.objs.size := by rw [hce]; rfl
  have hcl : cenv.cells = cloFrom X.env.cells scope.names [] := by rw [hce]; rfl
  have hsc : cenv.scope = scope := by rw [hce]; rfl
  have cm : ∀ {y c}, (y, c) ∈ cloFrom X.env.cells scope.names [] → X.env.cells.lookup y = some c ∧ c < s.heap.objs.size := fun {y c} hm => by
    rcases cloFrom_mem hm with hm | ⟨h1, rfl⟩
    · cases hm
    · obtain ⟨c, hc⟩ := hfree _ h1 rfl
      rw [hc]
      obtain ⟨w, z⟩ := I.cell _ _ hc
      exact ⟨rfl, z.lt⟩
  have mem : ∀ {y c}, cenv.cells.lookup y = some c → X.env.cells.lookup y = some c ∧ c < s.heap.objs.size := fun {y c} e => by
    rw [hcl] at e
    exact cm (PySem.mem_of_lookup e)
  have look : ∀ {y}, scope.names.lookup y = some .free → ∃ c, cenv.cells.lookup y = some c ∧ X.env.cells.lookup y = some c := fun {y} hl => by
    have hy : (y, NameKind.free) ∈ scope.names := PySem.mem_of_lookup hl
    obtain ⟨c', e'⟩ := mem_lookup (cloFrom_has (cells := X.env.cells) (acc := []) hy)
    rw [← hcl] at e'
    exact ⟨c', e', (mem e').1⟩
  have nocell : ∀ {y}, scope.names.lookup y ≠ some .cell := fun {y} e => hcell _ (PySem.mem_of_lookup e) rfl
  have okB : (gblk X B s H cenv fp).Ok := by
    refine ⟨I.ok.mod, by show cenv.scope.kind = _; rw [hsc]; exact ok.kind, by show cenv.globals = _; rw [hce]; exact I.ok.glob, by show cenv.builtins = _; rw [hce]; rfl, by show s.heap.objs.size ≤ cenv.locals; rw [hL]; exact Nat.le_refl _,
      fun y z c e1 e2 => I.ok.inj y z c (mem e1).1 (mem e2).1, fun y hy => ?_, fun y c z e => (nomatch z), hBh, hBf, .inr ⟨rfl, by show cenv.frame = some cenv.locals; rw [hce]; rfl⟩, fun b hb => ⟨?_, fun y c e z => ?_⟩, I.bs, Nat.le_trans I.ok.bsz I.sz, fun b o e hb => ?_, fun b hb z => ?_, I.stack, I.stkFree⟩
    · show ∃ c, cenv.cells.lookup y = some c
      have hy : cenv.kindOf y = some .cell ∨ cenv.kindOf y = some .free := hy
      unfold Env.kindOf at hy
      rw [hsc] at hy
      rcases hy with hy | hy
      · exact absurd hy nocell
      · obtain ⟨c, h1, _⟩ := look hy
        exact ⟨c, h1⟩
    · show b ≠ cenv.locals
      rw [hL]; exact Nat.ne_of_lt (hfp b hb).2
    · exact (hfp b hb).1.2.2.2.2.1 y c (mem e).1 z
    · rcases (hfp b hb).1.2.2.2.1 with z | z
      · exact I.ok.noex b o e z
      · exact absurd (Nat.lt_of_lt_of_le (Heap.lt_size e) (Nat.le_trans I.ok.bsz z)) (Nat.lt_irrefl _)
    · rcases List.mem_cons.mp (I.stkSub b z) with z | z
      · exact (hfp b hb).1.2.1 z
      · exact (hfp b hb).1.2.2.1 z
  refine ⟨okB, ho, hb, Un.kept kp, ⟨m, ?_, fun i y av e1 e2 e3 => ?_⟩, fun y c e => ?_, ?_, fun y c e => I.freeC y c (mem e).1, fun p hp => ?_, I.hok.kept kp, by rw [wipe_length]; exact I.len⟩
  · show Heap.Ns _ cenv.locals _
    rw [hL]
    exact hn
  · obtain ⟨e2, hne⟩ := wipe_some e2
    have e3 : Vis cenv.scope y := e3
    rw [hsc] at e3
    have no : ∀ k, scope.names.lookup y = some k → ¬ (k = .local ∨ k = .cell) := fun k e hh => by
      rcases ok.own _ (PySem.mem_of_lookup e) hh with e' | e'
      · obtain ⟨p, hp, hpy⟩ := List.mem_map.mp e'
        have e3 := ok.ix p hp
        have : p.1 = y := hpy
        rw [this] at e3
        exact hne (List.mem_map.mpr ⟨p, hp, nodup_ix hN e3 e1⟩)
      · exact e' (List.mem_of_getElem? e1)
    have hfr : scope.names.lookup y = some .free := by
      rcases e3 with e3 | e3 | e3
      · exact absurd (.inl rfl) (no _ e3)
      · exact absurd (.inr rfl) (no _ e3)
      · exact e3
    obtain ⟨m', hn', hl⟩ := I.loc
    have hvis : Vis X.env.scope y := (ok.free _ (PySem.mem_of_lookup hfr) rfl).elim (fun k => .inr (.inl k)) (fun k => .inr (.inr k))
    obtain ⟨w, r, q⟩ := hl i y av e1 e2 hvis
    refine ⟨w, r, .inr ⟨.inr (by show cenv.scope.names.lookup y = _; rw [hsc]; exact hfr), ?_⟩⟩
    obtain ⟨c, h1, h2⟩ := look hfr
    rcases q with ⟨k, _⟩ | ⟨_, c', e', z⟩
    · have k : X.env.scope.names.lookup y = some .local := k
      rcases ok.free _ (PySem.mem_of_lookup hfr) rfl with k' | k' <;> rw [show X.env.scope.names.lookup y = _ from k'] at k <;> cases k
    · rw [h2] at e'; cases e'
      exact ⟨c, h1, z.keeps kp⟩
  · obtain ⟨w, z⟩ := I.cell y c (mem e).1
    exact ⟨w, z.keeps kp⟩
  · show H cenv.locals = none
    rw [hL]; exact I.hok.fresh (Nat.le_refl _)
  · have hp : p = (a, ob) := by simpa using hp
    subst hp
    refine ⟨ha, I.hok.fresh (Nat.le_of_lt hal), by show a ≠ cenv.locals; rw [hL]; exact Nat.ne_of_gt hal, fun z => ?_, hd⟩
    have z : a ∈ frs X.stack := z
    rcases List.mem_cons.mp (I.stkSub a z) with z | z
    · exact absurd hal (Nat.not_lt_of_gt (by rw [z]; exact I.lt))
    · exact I.nofs (Nat.le_of_lt hal) z
end
end Eb
set_option Elab.async false
set_option maxRecDepth 100000
set_option linter.all false
namespace Eb
open PySem L2
open PyProof.Rows (AllBare)
theorem seg_bw {M : Model} {A B : Around} {R : GenEnd} {Y : Protocol} {n : Nat} {s₀ : Shared} {c : Code} {fs : List Frame} {s : Shared} {α β : Type} {m : Sem α} {K : α → Sem β} {K' : β → Sem Fin} {H' : Value → Sem Fin} {gd lv} (hB : A.over c fs = B)
    (h : wpAny M B m (fun a s' => Seg M A R Y n s₀ c ((K a).wrap K' H' gd lv) fs s') (fun x s' => Seg M A R Y n s₀ c (H' x) fs s') s) : Seg M A R Y n s₀ c ((m >>= K).wrap K' H' gd lv) fs s := by
  subst hB
  exact seg_bind_wrap h
theorem seg_w {M : Model} {A B : Around} {R : GenEnd} {Y : Protocol} {n : Nat} {s₀ : Shared} {c : Code} {fs : List Frame} {s : Shared} {α : Type} {m : Sem α} {K : α → Sem Fin} {H : Value → Sem Fin} {gd lv} (hB : A.over c fs = B)
    (h : wpAny M B m (fun a s' => Seg M A R Y n s₀ c (K a) fs s') (fun x s' => Seg M A R Y n s₀ c (H x) fs s') s) : Seg M A R Y n s₀ c (m.wrap K H gd lv) fs s := by
  subst hB
  exact seg_wrap h
section
variable {X : Cx} {A : Around} {s4 : Shared} {H4 : Hp} {cenv : Env} {fp : List Addr} {a it : Addr} {ob : Obj} {gi : Nat} {σ : L2.St} {vs : List Nat} {elt tg iter : Expr} {ifs : List Expr} {scope : Scope} {pos : Pos} {g : TG} {tt : TT} {te : TE} {J : It} {tn : Nat → Heap → Prop}
/-- the generator stands ahead of turn i -/
def GoH (Xg : Cx) (a : Addr) (ob : Obj) (gi : Nat) (wσ : L2.St) (fp : List Addr) (tn : Nat → Heap → Prop) (i : Nat) (H : Hp) (s : Shared) : Prop :=
  Inv Xg [(a, ob)] wσ H s ∧ tn i s.heap ∧ (∀ b ∈ fp, H b = none) ∧ gi < s.gens.size
end
end Eb
set_option Elab.async false
set_option maxRecDepth 100000
set_option linter.all false
namespace Eb
open PySem L2
open PyProof.Rows (AllBare BMod)
section
variable {X Xg : Cx} {A : Around} {fp : List Addr} {a it : Addr} {ob : Obj} {gi : Nat} {wσ : L2.St} {tn : Nat → Heap → Prop} {Q : VK}
theorem bare_set {s : Shared} {g : Nat} {x : GenState} (h : AllBare s.gens) (hx : x.bare = true) : AllBare (s.setGen g x).gens := fun y hy => by
  rcases Array.mem_or_eq_of_mem_setIfInBounds (show y ∈ s.gens.setIfInBounds g x from hy) with z | z
  · exact h y z
  · rw [z]; exact hx
theorem set_at {s : Shared} {g : Nat} {x : GenState} (h : g < s.gens.size) : (s.setGen g x).gens[g]? = some x := by simp [Shared.setGen, h]
theorem set_size {s : Shared} {g : Nat} {x : GenState} : (s.setGen g x).gens.size = s.gens.size := by simp [Shared.setGen]
theorem GoH.set {i : Nat} {H : Hp} {s : Shared} {x : GenState} (h : GoH Xg a ob gi wσ fp tn i H s) (hx : x.bare = true) : GoH Xg a ob gi wσ fp tn i H (s.setGen gi x) :=
  ⟨inv_gens h.1 (bare_set h.1.bare hx), h.2.1, h.2.2.1, by rw [set_size]; exact h.2.2.2⟩
/-- its start -/
theorem gen_start {elt tg iter : Expr} {ifs : List Expr} {scope : Scope} {pos : Pos} {cenv : Env} {P : Program} {w : World} {R : GenEnd} {Y : Protocol} {n : Nat} {s s₀ : Shared}
    (self : ∀ (A : Around) (Q : Value → Shared → Prop) (E : Value → Shared → Prop), Q (.ref it) s → wpAny (model P w) A (pyIter (.ref it)) Q E s)
    (loop : Seg (model P w) A R Y n s₀ (.compLoop (.GeneratorExp elt [⟨tg, iter, ifs, 0⟩] scope pos) 0 (.ref it) .none cenv) ((model P w).den (.compLoop (.GeneratorExp elt [⟨tg, iter, ifs, 0⟩] scope pos) 0 (.ref it) .none cenv)) [] s) :
    Seg (model P w) A R Y n s₀ (.compStart (.GeneratorExp elt [⟨tg, iter, ifs, 0⟩] scope pos) 0 (.ref it) .none cenv) ((model P w).den (.compStart (.GeneratorExp elt [⟨tg, iter, ifs, 0⟩] scope pos) 0 (.ref it) .none cenv)) [] s := by
  show Seg _ A _ _ _ s₀ _ ((compStart (.GeneratorExp elt [⟨tg, iter, ifs, 0⟩] scope pos) 0 (.ref it) .none cenv).onRaise (leaving cenv)) [] s
  unfold compStart
  rw [Sem.onRaise_eq_wrap]
  show Seg _ A _ _ _ s₀ _ ((ask >>= _).wrap _ _ _ _) [] s
  refine seg_bind_wrap (wpAny_askSetting ?_)
  split
  · exact seg_again rfl loop
  · first
      | exact seg_bind_wrap (wpAny_rule (seg_bind_wrap (wpAny_standAt (seg_bind_wrap (self _ _ _ (seg_again rfl loop))))))
      | (refine seg_bind_wrap (wpAny_rule ?_); show Seg _ A _ _ _ s₀ _ ((standAt iter.pos >>= _).wrap _ _ _ _) [] s; exact seg_bind_wrap (wpAny_standAt (seg_bind_wrap (self _ _ _ (seg_again rfl loop)))))
end
end Eb
set_option Elab.async false
set_option maxRecDepth 100000
set_option linter.all false
namespace Eb
open PySem L2
open PyProof.Rows (AllBare BMod)
/-- the table of the code object at c -/
def tabIn (K : PySem.W.Frag) (c : Addr) : Option Addr := match K.lookup c with
  | some ⟨.type "code", _, .fields vs, _⟩ => (match vs.getD 11 .none, vs.getD 18 .none, vs.getD 7 .none, vs.getD 9 .none, vs.getD 10 .none with
    | .ref P, .str _ _, .int _ _, .bool _, .int _ _ => some P
    | _, _, _, _, _ => none)
  | _ => none
theorem code_of {K : PySem.W.Frag} {h : Heap} {c P : Addr} {ps : Array Value} (X : K.In h) (e : tabIn K c = some P) (hP : h.get? P = some { cls := .none, data := .fields ps }) (hT : TriplesOk ps.toList) : h.IsCode c P ps ∧ h.TableAt c P ps := by
  unfold tabIn at e
  split at e
  · rename_i od vs osl ho
    split at e
    · rename_i P' f1 t1 i1 t2 b1 i2 t3 e11 e18 e7 e9 e10
      have eP : P' = P := Option.some.inj e
      subst eP
      have hc := X _ _ ho
      have hne : c ≠ P' := fun z => by
        rw [z, hP] at hc
        cases hc
      refine ⟨⟨_, vs, _, _, _, _, _, _, _, _, hc, rfl, e11, e18, e7, e9, e10, hP, rfl, hT, hne⟩, ⟨_, vs, hc, rfl, rfl, ?_⟩, hP⟩
      rw [Array.getD_eq_getD_getElem?] at e11
      cases q : vs[11]? with
      | none => rw [q] at e11; cases e11
      | some v => rw [q] at e11; exact congrArg some e11
    · cases e
  · cases e
section
variable {X : Cx} {pins : List (Addr × Obj)} {σ : L2.St} {H : Hp} {s : Shared} {c P : Addr}
theorem code_step {E : Value → Shared → Prop} {pos : Pos} {q : Str} {scope : Scope} (I : Inv X pins σ H s) (hcd : X.env.code = .ref c) (hkt : tabIn X.K c = some P) (hP : H P = some (tabO P)) :
    wpAny (model X.prog X.w) X.A (genexprCode X.env pos q scope) (fun code s' => Inv X pins σ H s' ∧ (∀ b o, b ≠ P → s.heap.get? b = some o → s'.heap.get? b = some o) ∧ s.heap.objs.size ≤ s'.heap.objs.size) E s := by
  obtain ⟨⟨ps, e1, e2⟩, _, _⟩ := I.hok P _ hP
  obtain ⟨hok, htab⟩ := code_of I.kIn hkt e1 e2
  cases hnf : codeAmong pos ps.toList with
  | some c' => exact wpAny_genexprCode_hit hcd hok hnf ⟨I, fun b o _ e => e, Nat.le_refl _⟩
  | none =>
    refine wpAny_genexprCodeX hcd hok htab hnf fun c' h' tk hx hge hlt hcode' _ htab' _ => ?_
    have up : upd H P (tabO P) = H := by
      funext b
      by_cases hb : b = P
      · subst hb; rw [upd_same, hP]
      · rw [upd_ne hb]
    have tr : TriplesOk (ps ++ #[rawInt pos.line, rawInt pos.col, .ref c']).toList := by
      obtain ⟨o, vs, file, tf, flags, tg, inF, text, tt, op, ho, hd, h11, h2, h7, h9, h10, hop, hpd, htr, hne⟩ := hcode'
      exact htr
    have I' : Inv X pins σ (upd H P (tabO P)) { s with heap := h', toks := tk } := I.write (x := P) (e := P) (o := tabO P) (by rw [hP]; trivial) (.inl rfl) (fun b u hb e => hx b u hb e) ⟨_, htab'.2⟩
      ⟨⟨_, htab'.2, tr⟩, ⟨_, htab'.2⟩, fun h1 h2 ⟨ps, e, t⟩ k => ⟨ps, k _ e, t⟩⟩
    rw [up] at I'
    exact ⟨I', fun b o hb e => hx b o hb e, Nat.le_trans hge (Nat.le_of_lt hlt)⟩
end
end Eb
set_option Elab.async false
set_option maxRecDepth 100000
set_option linter.all false
namespace Eb
open PySem L2 PySem.W
open PyProof.Rows (AllBare BMod recsOf IntsAre)
/-- a def of the text whose code's table may grow -/
structure FunT (K : PySem.W.Frag) (x qual : Str) (st : Stmt) (f : Addr) (fd : FuncData) (P : Addr) : Prop where
  ex : ∃ (oc : Value) (od : Option Addr) (kV doc pm : Value) (an : Option Addr) (c : Addr) (ct : Value) (osl : Array (Option Value)),
    fd = PySem.W.fnOf x qual (defArgs st) (defBody st) (defScope st) .none kV doc pm an (.ref c) ct ∧ K.lookup f = some ⟨oc, od, .func fd, osl⟩ ∧ PySem.W.codeIn K (.ref c) qual = true ∧ tabIn K c = some P
  kp : PySem.W.keepIn K (.ref f) = true
theorem FunT.F {K : PySem.W.Frag} {x qual : Str} {st : Stmt} {f : Addr} {fd : FuncData} {P : Addr} (F : FunT K x qual st f fd P) : Fun K x qual st f fd := by
  obtain ⟨oc, od, kV, doc, pm, an, c, ct, osl, e1, e2, e3, e4⟩ := F.ex
  exact ⟨⟨oc, od, kV, doc, pm, an, .ref c, ct, osl, e1, e2, e3⟩, F.kp⟩
theorem FunT.ok {P : Program} {w : World} {K : PySem.W.Frag} {mg : Str → Option Value} {base : Heap} {x qual : Str} {st : Stmt} {f : Addr} {fd : FuncData} {Pt : Addr} {N ps : List Str} {k : Nat} {sp : Sp} (F : FunT K x qual st f fd Pt) (S : FnScope N ps (defScope st)) (len : ∀ vs H Q E, sp vs H Q E → vs.length = ps.length)
    (hbody : ∀ (c : Addr) (A : Around) (outer : List Env) (s : Shared) (H : Hp) (vs : List V) (Q : VK) (E : XK), tabIn K c = some Pt → Room k (A.deeper (PyProof.Rows.envOfC qual (defScope st) s.heap.objs.size f (.ref c))) → sp vs H Q E →
      ∃ t, PSs (cxOf CX0 P w K mg base N qual (defScope st) f (.ref c) A outer s H E).nox (defBody st) t ∧ t { nx := fun _ H' => Q .non H', rt := Q } (L2.start N vs) H) : FnOk P w K mg base CX0 (k + 1) f fd ps sp := by
  obtain ⟨oc, od, kV, doc, pm, an, c, ct, osl, rfl, lk, hcd, ht⟩ := F.ex
  refine fn_of lk hcd S len fun A outer s H vs Q E hr hsp => ?_
  obtain ⟨t, h, q⟩ := hbody c A outer s H vs Q E ht hr hsp
  exact ⟨t, h.nox, q⟩
theorem funT_mk {K : PySem.W.Frag} {x qual : Str} {st : Stmt} {f P c : Addr} {oc : Value} {od an : Option Addr} {osl : Array (Option Value)} {kV doc pm cdv ct : Value} (l : K.lookup f = some ⟨oc, od, .func (PySem.W.fnOf x qual (defArgs st) (defBody st) (defScope st) .none kV doc pm an (.ref c) ct), osl⟩)
    (hc : PySem.W.codeIn K (.ref c) qual = true) (k : PySem.W.keepIn K (.ref f) = true) (t : tabIn K c = some P) : FunT K x qual st f (PySem.W.fnOf x qual (defArgs st) (defBody st) (defScope st) .none kV doc pm an (.ref c) ct) P := ⟨⟨oc, od, kV, doc, pm, an, c, ct, osl, rfl, l, hc, t⟩, k⟩
/-- the law's call, the tables at Tb tracked -/
theorem law_callT {P : Program} {w : World} {K : PySem.W.Frag} {mg mb : Str → Option Value} {k : Nat} {fa a : Addr} {fd : FuncData} {x : Str} {sp : Sp} {s₁ : Shared} {vs : List Value} {ns : List Int} (Tb : List Addr)
    (KX : K.In s₁.heap) (hns : s₁.heap.Ns mainGlobals mg) (hb : s₁.heap.Ns builtinsNs mb) (hbb : ∀ x : Str, x ≠ "__name__" → mb x = bootBuiltins x) (hlim : s₁.heap.NoLimit) (hg : s₁.gens = #[]) (hbm : ∃ bm ob, BMod s₁.heap mainGlobals mg bm ob) (hcl : kb_classed K = true)
    (hTb : ∀ Pt ∈ Tb, ∃ c, s₁.heap.TableAt c Pt #[])
    (ha : s₁.heap.get? a = some { cls := .type "list", data := .seq vs.toArray }) (hi : IntsAre vs ns) (hl : ns.length ≤ sizeLine) (hr : Room k callerA)
    (F : ∀ base : Heap, K.In base → base.Ns mainGlobals mg → (∃ bm ob, BMod base mainGlobals mg bm ob) → FnOk P w K mg base CX0 k fa fd [x] sp) (hbind : ∀ (s : Shared) (u : Value), BindsTo s fd ⟨[u], []⟩ [(x, u)])
    (hsp : ∀ H : Hp, (∀ Pt ∈ Tb, H Pt = some (tabO Pt)) → (∀ b, b ∉ Tb → H b = none ∨ ∃ o xs, H b = some (.frz o (.lst xs))) → SqL K H a (ns.map V.int) → sp [.ref a] H (fun v H' => v = .bl true ∧ ∀ Pt ∈ Tb, H' Pt = some (tabO Pt)) fun _ _ _ => False) :
    codeAny (model P w) callerA (.call (.ref fa) ⟨[.ref a], []⟩) (fun r s' => r = .ok (.ret (.bool true)) ∧ OldK s₁.heap s'.heap ∧ s'.os = s₁.os ∧ AllBare s'.gens) s₁ := by
  have rv := vals_ints hi
  have lenV := hi.length
  have tobj : ∀ Pt ∈ Tb, s₁.heap.get? Pt = some { cls := .none, data := .fields #[] } := fun Pt h => (hTb Pt h).elim fun c z => z.2
  have aT : a ∉ Tb := fun h => by
    have e := tobj a h
    rw [ha] at e
    cases e
  have core : ∀ H : Hp, (∀ Pt ∈ Tb, H Pt = some (tabO Pt)) → (∀ b, b ∉ Tb → H b = none ∨ ∃ o xs, H b = some (.frz o (.lst xs))) → SqL K H a (ns.map V.int) → HOk P w H s₁.heap → (∀ b, H b ≠ none → b = a ∨ b ∈ Tb) → (H a ≠ none → K.lookup a = none) →
      codeAny (model P w) callerA (.call (.ref fa) ⟨[.ref a], []⟩) (fun r s' => r = .ok (.ret (.bool true)) ∧ OldK s₁.heap s'.heap ∧ s'.os = s₁.os ∧ AllBare s'.gens) s₁ := by
    intro H hTr hO hS hok hA hK
    have base_of : ∀ {b : Addr} {o : Obj}, s₁.heap.get? b = some o → H b = none → (hidT s₁.heap H).get? b = some o := fun e n => hidT_get e n
    have noB : ∀ {b : Addr} {o : Obj}, s₁.heap.get? b = some o → o.cls ≠ .none → o.cls ≠ .type "list" → H b = none := fun {b o} e d1 d2 => by
      cases q : H b with
      | none => rfl
      | some u =>
        rcases hA b (by rw [q]; simp) with e' | e'
        · subst e'
          rw [ha] at e; cases e
          exact absurd rfl d2
        · rw [tobj b e'] at e; cases e
          exact absurd rfl d1
    have noA : ∀ {b : Addr} {o : Obj} {es : Array DictEntry} {ep : Nat}, s₁.heap.get? b = some o → o.data = .dict es ep → H b = none := fun {b o es ep} e d => by
      cases q : H b with
      | none => rfl
      | some u =>
        rcases hA b (by rw [q]; simp) with e' | e'
        · subst e'
          rw [ha] at e; cases e
          have d' : Data.seq vs.toArray _ = Data.dict es ep := d
          cases d'
        · rw [tobj b e'] at e; cases e
          cases d
    have nsK : ∀ {b : Addr} {m : Str → Option Value}, s₁.heap.Ns b m → (hidT s₁.heap H).Ns b m := fun {b m} ⟨o, es, ep, e, d, r⟩ => ⟨o, es, ep, base_of e (noA e d), d, r⟩
    have hKb : K.In (hidT s₁.heap H) := fun b o e => base_of (KX b o e) (by
      cases q : H b with
      | none => rfl
      | some u =>
        rcases hA b (by rw [q]; simp) with e' | e'
        · subst e'
          rw [hK (by rw [q]; simp)] at e; cases e
        · exfalso
          have e2 := KX b o e
          rw [tobj b e'] at e2
          have z := List.all_eq_true.mp hcl (b, o) (kb_mem e)
          cases e2
          simp only [Bool.or_eq_true, decide_eq_true_eq, beq_iff_eq] at z
          rcases z with (z | z) | z
          · exact z rfl
          · obtain ⟨mc, ⟨oc, es, ep, e1, e2, _⟩, _⟩ := hlim
            rw [← z, tobj b e'] at e1
            cases e1
            cases e2
          · obtain ⟨oc, es, ep, e1, e2, _⟩ := hns
            rw [← z, tobj b e'] at e1
            cases e1
            cases e2)
    have hM : Mod K mg (hidT s₁.heap H) := ⟨hKb, nsK hns, ⟨mb, nsK hb, hbb⟩, let ⟨mc, h1, h2⟩ := hlim; ⟨mc, nsK h1, h2⟩⟩
    have hBM : ∃ bm ob, BMod (hidT s₁.heap H) mainGlobals mg bm ob := by
      obtain ⟨bm, ob, M⟩ := hbm
      exact ⟨bm, ob, nsK hns, M.name, M.ne, base_of M.obj (noB M.obj (by rw [M.cls]; simp) (by rw [M.cls]; simp)), M.cls, M.dict, M.data⟩
    have e0 : Env0 P w K mg (hidT s₁.heap H) callerA [] s₁ H := ⟨rfl, hM, fun b o e => of_hidT e, Nat.le_of_eq (hidT_size _ _), trivial, fun b hb => absurd (show b ∈ ([] : List Addr) from hb) (by simp), hok, .of_eq hg⟩
    refine codeAny_mono ((F _ hKb (nsK hns) hBM).run callerA [] s₁ H ⟨[.ref a], []⟩ [.ref a] [.ref a] _ _ hr e0 (hbind s₁ (.ref a)) (.cons rfl .nil) (hsp H hTr hO hS)) fun r s' h => ?_
    cases r with
    | error e => exact False.elim h
    | ok fl =>
      cases fl with
      | next => exact False.elim h
      | brk => exact False.elim h
      | cont => exact False.elim h
      | ret u =>
        obtain ⟨v, H', os, bare, un, hok', r', q, hT'⟩ := h
        subst q
        obtain rfl : u = Value.bool true := r'
        have key : ∀ b o, s₁.heap.get? b = some o → b ∉ Tb → s'.heap.get? b = some o := fun b o e hb => by
          cases q : H b with
          | none => exact un.keep b o e q (by intro z; exact absurd (show b ∈ ([] : List Addr) from z) (by simp)) (by simp)
          | some u =>
            rcases hO b hb with z | ⟨ob, xs, z⟩
            · rw [q] at z; cases z
            · have z2 := un.frzs b ob _ z
              obtain ⟨e1, _⟩ := hok b _ z
              obtain ⟨e2, _⟩ := hok' b _ z2
              rw [e] at e1; cases e1
              exact e2
        have keyT : ∀ b, b ∈ Tb → ∃ ps : Array Value, s'.heap.get? b = some { cls := .none, data := .fields ps } := fun b hb => by
          obtain ⟨⟨ps, e1, _⟩, _, _⟩ := hok' b _ (hT' b hb)
          exact ⟨ps, e1⟩
        refine ⟨rfl, ⟨fun b o e => ?_, fun b o e => ?_⟩, os, bare⟩
        · by_cases hb : b ∈ Tb
          · obtain ⟨c, t⟩ := hTb b hb
            obtain ⟨ps, e1⟩ := keyT b hb
            rw [t.2] at e
            cases e
            exact .inr (.inl ⟨t.isCodeTable, rfl, #[], ps, rfl, by rw [e1]; simp⟩)
          · exact .inl (key b o e hb)
        · by_cases hb : b ∈ Tb
          · obtain ⟨ps, e1⟩ := keyT b hb
            exact ⟨_, e1⟩
          · exact ⟨o, key b o e hb⟩
  have tabOk : ∀ (H : Hp) Pt, Pt ∈ Tb → ObjOk P w H s₁.heap Pt (tabO Pt) := fun H Pt h => ⟨⟨#[], tobj Pt h, trivial⟩, ⟨_, tobj Pt h⟩, fun h1 h2 ⟨ps, e, t⟩ k => ⟨ps, k _ e, t⟩⟩
  cases hk : K.lookup a with
  | some o =>
    have e := KX a o hk
    rw [ha] at e
    cases e
    refine core (fun b => if b ∈ Tb then some (tabO b) else none) (fun Pt h => if_pos h) (fun b h => .inl (if_neg h)) (.inr ⟨_, vs.toArray, _, hk, rfl, rfl, rfl, by rw [List.size_toArray, lenV]; exact hl, by simpa using rv⟩) (fun b u z => ?_) (fun b z => ?_) fun z => absurd (if_neg aT) z
    · by_cases hb : b ∈ Tb
      · have z' := (if_pos hb).symm.trans z
        cases z'
        exact tabOk _ b hb
      · have z' := (if_neg hb).symm.trans z
        cases z'
    · by_cases hb : b ∈ Tb
      · exact .inr hb
      · exact absurd (if_neg hb) z
  | none =>
    refine core (fun b => if b ∈ Tb then some (tabO b) else if b = a then some (.frz { cls := .type "list", data := .seq vs.toArray } (.lst (ns.map V.int))) else none) (fun Pt h => if_pos h) (fun b h => ?_) (.inl (.inr ⟨{ cls := .type "list", data := .seq vs.toArray }, ?_⟩)) (fun b u z => ?_) (fun b z => ?_) fun _ => hk
    · by_cases hb : b = a
      · exact .inr ⟨_, _, (if_neg h).trans (if_pos hb)⟩
      · exact .inl ((if_neg h).trans (if_neg hb))
    · exact (if_neg aT).trans (if_pos rfl)
    · by_cases hb : b ∈ Tb
      · have z' := (if_pos hb).symm.trans z
        cases z'
        exact tabOk _ b hb
      · by_cases hb2 : b = a
        · have z' := ((if_neg hb).trans (if_pos hb2)).symm.trans z
          cases z'
          subst hb2
          exact ⟨ha, by rw [List.length_map]; exact hl, vs, _, rv, ha⟩
        · have z' := ((if_neg hb).trans (if_neg hb2)).symm.trans z
          cases z'
    · by_cases hb : b ∈ Tb
      · exact .inr hb
      · by_cases hb2 : b = a
        · exact .inl hb2
        · exact absurd ((if_neg hb).trans (if_neg hb2)) z
/-- a table of a def of the text -/
def TabOf (q : Program) (K : PySem.W.Frag) (mg : Str → Option Value) (Pt : Addr) : Prop :=
  ∃ (name : Str) (d : DefRec) (f c : Addr) (oc : Value) (od : Option Addr) (fd : FuncData) (osl : Array (Option Value)), (recsOf q).find? (fun e => e.name == name) = some d ∧ mg name = some (.ref f) ∧ K.lookup f = some ⟨oc, od, .func fd, osl⟩ ∧ fd.code = .ref c ∧ tabIn K c = some Pt
theorem tab_at {K : PySem.W.Frag} {h : Heap} {c P P' : Addr} {ps : Array Value} (X : K.In h) (e : tabIn K c = some P) (t : h.TableAt c P' ps) : P = P' := by
  unfold tabIn at e
  split at e
  · rename_i od vs osl ho
    split at e
    · rename_i P'' f1 t1 i1 t2 b1 i2 t3 e11 e18 e7 e9 e10
      have eP : P'' = P := Option.some.inj e
      subst eP
      obtain ⟨⟨o, vs', g1, g2, g3, g4⟩, _⟩ := t
      rw [X _ _ ho] at g1
      cases g1
      cases g3
      rw [Array.getD_eq_getD_getElem?, g4] at e11
      cases e11
      rfl
    · cases e
  · cases e
theorem walk_ofT {l : PySem.W.OpenLaw} {n k : Nat} {q : Program} {loose : List Str} {XP : (Str → Option Value) → Heap → Prop} {YP : World → Heap → Prop} {d : DefRec} {K : Params → PySem.W.Frag} {sp : PySem.W.Frag → List Addr → Sp} {x : Str}
    (hn : l.most = some n) (hn2 : n ≤ sizeLine) (hdf : d.params.defaults = []) (hr : Room k callerA)
    (hY : ∀ (w : World) (h : Heap), YP w h → (K w.params).In h) (hcl : ∀ w : World, kb_classed (K w.params) = true)
    (F : ∀ (w : World) (mg : Str → Option Value) (fa : Addr) (h : Heap), (K w.params).In h → h.Ns mainGlobals mg → mg d.name = some (.ref fa) →
      ∃ (fd : FuncData) (Tb : List Addr), (∀ (s : Shared) (u : Value), BindsTo s fd ⟨[u], []⟩ [(x, u)]) ∧ (∀ Pt ∈ Tb, TabOf q (K w.params) mg Pt) ∧
        ∀ base : Heap, (K w.params).In base → base.Ns mainGlobals mg → (∃ bm ob, BMod base mainGlobals mg bm ob) → FnOk l.prog w (K w.params) mg base CX0 k fa fd [x] (sp (K w.params) Tb))
    (hsp : ∀ (K : PySem.W.Frag) (Tb : List Addr) (H : Hp) (a : Addr) (ns : List Int), ns.length ≤ n → (∀ Pt ∈ Tb, H Pt = some (tabO Pt)) → (∀ b, b ∉ Tb → H b = none ∨ ∃ o xs, H b = some (.frz o (.lst xs))) → SqL K H a (ns.map V.int) → sp K Tb [.ref a] H (fun v H' => v = .bl true ∧ ∀ Pt ∈ Tb, H' Pt = some (tabO Pt)) fun _ _ _ => False) :
    PySem.W.WalkO q loose XP YP l.row.toRowW d [] (fun f vs => PySem.call f vs) := by
  refine Att.attach_call hn hdf fun w s₀ s₁ mg mb fa o pm cd doc a vs ns G Y ho hd hcd hmg hobj hints hlen hg => ?_
  have KX := hY w _ Y
  obtain ⟨fd, Tb, hb, hT, hF⟩ := F w mg fa _ KX G.T.g hmg
  refine law_callT Tb KX G.T.g G.T.b G.T.builtins G.T.nolimit hg (bmod_of_top G.T) (hcl w) (fun Pt hPt => ?_) hobj hints (Nat.le_trans hlen hn2) hr hF hb (fun H hT hO hS => hsp (K w.params) Tb H a ns hlen hT hO hS)
  obtain ⟨name, d', f, c, oc, od, fd', osl, h1, h2, h3, h4, h5⟩ := hT Pt hPt
  obtain ⟨c', P', e1, B⟩ := based_of_top G.T h1 h2 (KX _ _ h3) rfl
  rw [h4] at e1
  cases e1
  have t := B.tab
  exact ⟨c, (tab_at KX h5 t) ▸ t⟩
end Eb
set_option Elab.async false
set_option maxRecDepth 100000
set_option linter.all false
namespace Eb
open PySem L2
open PyProof.Rows (AllBare BMod)
section
variable {X : Cx} {A : Around} {s4 : Shared} {H4 : Hp} {cenv : Env} {fp : List Addr} {a it : Addr} {ob : Obj} {gi : Nat} {σ : L2.St} {vs : List Nat} {elt tg iter : Expr} {ifs : List Expr} {scope : Scope} {pos : Pos} {g : TG} {tt : TT} {te : TE} {J : It} {tn : Nat → Heap → Prop}
/-- it ends -/
def RTup (Xg : Cx) (a : Addr) (ob : Obj) (gi : Nat) (wσ : L2.St) (Dn : Hp → Prop) : Nat → Shared → Shared → Prop := fun _ _ s₁ => ∃ H', Inv Xg [(a, ob)] wσ H' s₁ ∧ gi < s₁.gens.size ∧ Dn H'
/-- it hands out an item -/
def YTup (Xg : Cx) (a : Addr) (ob : Obj) (gi : Nat) (wσ : L2.St) (fp : List Addr) (tn : Nat → Heap → Prop) (D : Addr) : Protocol := fun _ _ v s kap =>
  ∃ H' y i acc, RelV y v ∧ GoH Xg a ob gi wσ fp tn i H' s ∧ H' D = some (.lst acc) ∧ acc.length < sizeLine ∧ ∀ s'', GoH Xg a ob gi wσ fp tn i (upd H' D (.lst (acc ++ [y]))) s'' → kap (.send .none) s''
theorem gen_loopT (hc : X.calm = true) (T : Turn X.prog X.w X.K tg J fp it tn) (hfp : ∀ b ∈ fp, b < s4.heap.objs.size) (hal : s4.heap.objs.size < a) (hco : cenv.scope.isCoroutine = false)
    (pg : PG (gblk X (A.deeper cenv) s4 H4 cenv fp) tg g) (pt : PTs (gblk X (A.deeper cenv) s4 H4 cenv fp) ifs tt) (pe : PE (gblk X (A.deeper cenv) s4 H4 cenv fp) elt te) {Dn : Hp → Prop} {D : Addr} {W : Nat → Nat → Hp → Prop}
    (turn : ∀ i m H, W i m H → (J.stop i H ∧ Dn H) ∨ (J.go i H ∧ ∃ Nx : Hp → Prop, (∀ H', Nx H' → ∃ m', m' < m ∧ W (i + 1) m' H') ∧ ∀ x H', J.yld i H x H' → g x (wipe σ vs) H' fun σ2 H2 => wipe σ2 vs = wipe σ vs ∧ tt σ2 H2 fun b H3 =>
      if b = true then te σ2 H3 fun y H4 => ∃ acc, H4 D = some (.lst acc) ∧ acc.length < sizeLine ∧ Nx (upd H4 D (.lst (acc ++ [y]))) else Nx H3)) :
    ∀ (m n i : Nat) (H : Hp) (s s₀ : Shared), m < n → GoH (gblk X (A.deeper cenv) s4 H4 cenv fp) a ob gi (wipe σ vs) fp tn i H s → W i m H →
      Seg (model X.prog X.w) A (fun n s₀ r s₁ => r = .ok .next ∧ RTup (gblk X (A.deeper cenv) s4 H4 cenv fp) a ob gi (wipe σ vs) Dn n s₀ s₁) (YTup (gblk X (A.deeper cenv) s4 H4 cenv fp) a ob gi (wipe σ vs) fp tn D) n s₀
        (.compLoop (.GeneratorExp elt [⟨tg, iter, ifs, 0⟩] scope pos) 0 (.ref it) .none cenv) ((model X.prog X.w).den (.compLoop (.GeneratorExp elt [⟨tg, iter, ifs, 0⟩] scope pos) 0 (.ref it) .none cenv)) [] s := by
  intro m
  induction m using Nat.strongRecOn with
  | ind m ih =>
    intro n i H s s₀ hmn ⟨I5, st5, n5, hg5⟩ w5
    have stat : ∀ {σ' : L2.St} {H' : Hp} {s' : Shared}, Inv (gblk X (A.deeper cenv) s4 H4 cenv fp) [(a, ob)] σ' H' s' → (∀ b ∈ fp, H' b = none) → ∀ b ∈ fp, FpOk (gblk X (A.deeper cenv) s4 H4 cenv fp) [(a, ob)] H' b := fun {σ' H' s'} I' hn b hb =>
      ⟨hn b hb, (I'.ok.exf b hb).1, I'.ok.exfs b hb, .inl hb, fun x c e => (I'.ok.exf b hb).2 x c e, fun p hp => by
        have hp : p = (a, ob) := by simpa using hp
        subst hp
        exact Nat.ne_of_gt (Nat.lt_trans (hfp b hb) hal)⟩
    show Seg _ A _ _ _ s₀ _ ((compTurn (.GeneratorExp elt [⟨tg, iter, ifs, 0⟩] scope pos) 0 (.ref it) .none cenv).onRaise (leaving cenv)) [] s
    rw [compTurn_gen, Sem.onRaise_eq_wrap]
    refine seg_bw over_loop (wpAny_standAt ?_)
    rcases turn i m H w5 with ⟨stop, qq⟩ | ⟨go, Nx, hNx, step⟩
    · refine seg_bw over_loop (thnG hg5 (T.done (gblk X (A.deeper cenv) s4 H4 cenv fp) rfl rfl rfl hc i _ s _ H (fun _ _ => False) I5 (stat I5 n5) st5 stop) fun r s6 g6 ⟨hr, I6⟩ => ?_)
      subst hr
      exact seg_end (.ok .next) ⟨rfl, H, I6, g6, qq⟩
    · refine seg_bw over_loop (thnG hg5 (T.item (gblk X (A.deeper cenv) s4 H4 cenv fp) rfl rfl rfl hc i _ s _ H (fun _ _ => False) I5 (stat I5 n5) st5 go) fun r s6 g6 ⟨u, hr, h6⟩ => ?_)
      subst hr
      refine seg_bw over_loop (thnG g6 h6 fun _ s7 g7 ⟨x, H7, I7, r7, y7, st7, n7⟩ => ?_)
      have I7' := I7.pinned (stat I7 n7) (T.obj _ _ st7)
      refine seg_bw over_loop (thnG g7 (pg _ s7 _ H7 x u _ I7' r7 (step x H7 y7)) fun _ s8 g8 ⟨σ8, H8, I8, hw8, q8⟩ => ?_)
      refine seg_bw over_loop (thnG g8 (pt _ s8 σ8 H8 _ I8 q8) fun b s9 g9 ⟨H9, I9, q9⟩ => ?_)
      have fin : ∀ {s' : Shared} {H' : Hp}, Inv (gblk X (A.deeper cenv) s4 H4 cenv fp) ([(a, ob)] ++ pinsAt fp s7.heap) σ8 H' s' → gi < s'.gens.size → GoH (gblk X (A.deeper cenv) s4 H4 cenv fp) a ob gi (wipe σ vs) fp tn (i + 1) H' s' := fun {s' H'} I' hg' => by
        have pin' : ∀ b ∈ fp, ∀ o, s7.heap.get? b = some o → s'.heap.get? b = some o ∧ H' b = none := fun b hb o e =>
          let z := I'.pin (b, o) (List.mem_append_right _ (List.mem_append_right _ (mem_pinsAt hb e)))
          ⟨z.1, z.2.1⟩
        have hl : (wipe σ vs).length = σ8.length := by rw [← hw8, wipe_length]
        refine ⟨(I'.unpinned (pins := [(a, ob)])).weak hl (fun j v e => ?_), T.keep _ _ _ st7 fun b hb o e => (pin' b hb o e).1, fun b hb => ?_, hg'⟩
        · rw [← hw8] at e
          exact (wipe_some e).1
        · obtain ⟨o, e, _⟩ := T.obj _ _ st7 b hb
          exact (pin' b hb o e).2
      cases b with
      | false =>
        simp only [Bool.false_eq_true, if_false] at q9 ⊢
        obtain ⟨m', hm, w'⟩ := hNx _ q9
        exact seg_again rfl (ih m' hm n (i + 1) H9 s9 s₀ (by omega) (fin I9 g9) w')
      | true =>
        simp only [if_true] at q9 ⊢
        have hy : ∀ v, yieldOut cenv v = yieldValue v := fun v => by simp only [yieldOut, hco, Bool.false_eq_true, if_false]
        simp only [hy]
        rw [Sem.bind_eq_wrap', Sem.bind_eq_wrap', Sem.wrap_wrap, Sem.wrap_wrap]
        refine seg_w over_loop (thnG g9 (pe _ s9 σ8 H9 _ I9 q9) fun z s10 g10 ⟨yv, H10, I10, r10, acc, hD10, hz10, q10⟩ => ?_)
        obtain ⟨n', rfl⟩ : ∃ n', n = n' + 1 := ⟨n - 1, by omega⟩
        refine seg_at (seg_yield rfl rfl rfl ⟨H10, yv, i + 1, acc, r10, fin I10 g10, hD10, hz10, ?_⟩)
        obtain ⟨m', hm, w'⟩ := hNx _ q10
        intro s'' go''
        exact seg_again rfl (ih m' hm n' (i + 1) _ s'' s'' (by omega) go'' w')
end
end Eb
namespace Eb
open PySem L2
open PyProof.Rows (AllBare BMod)
section
variable {Xg : Cx} {A : Around} {fp : List Addr} {a it D : Addr} {ob : Obj} {gi : Nat} {wσ : L2.St} {tn : Nat → Heap → Prop} {Dn : Hp → Prop}
/-- list.extend.loop over it, into the tracked list at D -/
theorem ext_loop (hh : A.handled = none) (hroom : A.depth < recursionLimit) (hob : ∃ nm qn, ob.cls = .type "generator" ∧ ob.data = .fields #[.int gi 0, nm, qn] ∧ ob.slots = #[]) {res : Value} {R : Result → Shared → Prop} (hDf : ∀ b ∈ fp, b ≠ D)
    (keepT : ∀ i h h', tn i h → (∀ b ∈ fp, ∀ o, h.get? b = some o → h'.get? b = some o) → tn i h')
    (hT : ∀ H' s', Inv Xg [(a, ob)] wσ H' s' → Dn H' → R (.ok (.ret res)) s') :
    ∀ (n i : Nat) (H : Hp) (s : Shared) (gs : GenState), GoH Xg a ob gi wσ fp tn i H s → s.gens[gi]? = some gs →
      (∀ s'', GoH Xg a ob gi wσ fp tn i H s'' → gs.Goes (model Xg.prog Xg.w) A.in1.in1 (fun n s₀ r s₁ => r = .ok .next ∧ RTup Xg a ob gi wσ Dn n s₀ s₁) (YTup Xg a ob gi wσ fp tn D) n (.send .none) s'') →
      codeAny (model Xg.prog Xg.w) A (.builtin "list.extend.loop" ⟨[.ref D, .ref a, res], []⟩) R s := by
  intro n
  induction n with
  | zero =>
    intro i H s gs go hgs hgo
    refine codeAny_builtin F.entry_extend_loop ?_
    rw [Around.under_plainId F.plain_extend_loop _]
    show wpAny _ A.in1 (pyNext (.ref a) >>= _) _ _ s
    obtain ⟨nm, qn, o1, o2, o3⟩ := hob
    have hpin := (go.1.pin (a, ob) (by simp)).1
    refine wpAny_bind (wpAny_pyNext_genexpQ (A := A.in1) hh go.1.nolimit hroom ⟨ob, nm, qn, hpin, o1, o2, o3⟩ hgs (hgo _ (go.set rfl)) (fun v s1 gs' hb hv => ?_) (fun s1 hp h' hk => ?_))
    · obtain ⟨H', y, i', acc, ry, go1, hD, hz, hc⟩ := hv
      exfalso
      obtain ⟨_, its, nn, r, e⟩ := go1.1.hok D _ hD
      have hl := r.length
      have I2 := go1.1.lset (t' := s1.toks) (its' := its ++ [v]) hD e (f := (·.push v)) (by simp) (r.append (.cons ry .nil)) (by rw [List.length_append, List.length_singleton]; omega)
      refine hc _ ⟨I2, ?_, fun b hb' => ?_, go1.2.2.2⟩
      · exact keepT _ _ _ go1.2.1 fun b hb' o eo => (Heap.get?_update_other _ _ (fun z : D = b => hDf b hb' z.symm)).trans eo
      · rw [upd_ne (hDf b hb')]
        exact go1.2.2.1 b hb'
    · obtain ⟨H', I1, hg1, q1⟩ := hp
      have I2 := (inv_gens I1 (bare_set (g := gi) (x := .finished) I1.bare rfl)).kept (t' := s1.toks) hk
      exact wpAny_pure (hT H' _ I2 q1)
  | succ n ih =>
    intro i H s gs go hgs hgo
    refine codeAny_builtin F.entry_extend_loop ?_
    rw [Around.under_plainId F.plain_extend_loop _]
    show wpAny _ A.in1 (pyNext (.ref a) >>= _) _ _ s
    have hob' := hob
    obtain ⟨nm, qn, o1, o2, o3⟩ := hob
    have hpin := (go.1.pin (a, ob) (by simp)).1
    refine wpAny_bind (wpAny_pyNext_genexpQ (A := A.in1) hh go.1.nolimit hroom ⟨ob, nm, qn, hpin, o1, o2, o3⟩ hgs (hgo _ (go.set rfl)) (fun v s1 gs' hb hv => ?_) (fun s1 hp h' hk => ?_))
    · obtain ⟨H', y, i', acc, ry, go1, hD, hz, hc⟩ := hv
      have go2 := go1.set (x := gs') hb
      obtain ⟨_, its, nn, r, e⟩ := go2.1.hok D _ hD
      have hl := r.length
      have I2 := go2.1.lset (t' := s1.toks) (its' := its ++ [v]) hD e (f := (·.push v)) (by simp) (r.append (.cons ry .nil)) (by rw [List.length_append, List.length_singleton]; omega)
      show wpAny _ A.in1 (updateSeq D (·.push v) >>= _) _ _ _
      refine wpAny_bind ?_
      refine wpAny_updateSeq e rfl (wpAny_pure ⟨plainId_quiet F.plain_extend_loop _, ih i' _ _ gs' ⟨I2, ?_, fun b hb' => ?_, go2.2.2.2⟩ ?_ fun s'' go'' => hc s'' go''⟩) (by rw [List.size_toArray]; omega) (by show (its.toArray.push v).size ≤ sizeLine + 1; rw [Array.size_push, List.size_toArray]; omega)
      · exact keepT _ _ _ go2.2.1 fun b hb' o eo => (Heap.get?_update_other _ _ (fun z : D = b => hDf b hb' z.symm)).trans eo
      · rw [upd_ne (hDf b hb')]
        exact go2.2.2.1 b hb'
      · exact set_at go1.2.2.2
    · obtain ⟨H', I1, hg1, q1⟩ := hp
      have I2 := (inv_gens I1 (bare_set (g := gi) (x := .finished) I1.bare rfl)).kept (t' := s1.toks) hk
      exact wpAny_pure (hT H' _ I2 q1)
end
end Eb
set_option Elab.async false
set_option maxRecDepth 100000
set_option linter.all false
namespace Eb
open PySem L2
open PyProof.Rows (AllBare BMod)
section
variable {Xg : Cx} {A : Around} {fp : List Addr} {a it : Addr} {ob : Obj} {gi n : Nat} {wσ : L2.St} {tn : Nat → Heap → Prop} {Dn : Hp → Prop} {H : Hp} {s : Shared} {gs : GenState}
theorem collect_gen {Q : List Value → Shared → Prop} {E : Value → Shared → Prop} (hh : A.handled = none) (hroom : A.depth < recursionLimit) (hob : ∃ nm qn, ob.cls = .type "generator" ∧ ob.data = .fields #[.int gi 0, nm, qn] ∧ ob.slots = #[])
    (hfp : ∀ b ∈ fp, b < s.heap.objs.size) (hal : a < s.heap.objs.size) (keepT : ∀ i h h', tn i h → (∀ b ∈ fp, ∀ o, h.get? b = some o → h'.get? b = some o) → tn i h')
    (go : GoH Xg a ob gi wσ fp tn 0 H s) (hgs : s.gens[gi]? = some gs)
    (hgo : ∀ s'', GoH Xg a ob gi wσ fp tn 0 (upd H s.heap.objs.size (.lst [])) s'' → gs.Goes (model Xg.prog Xg.w) A.in1.in1 (fun n s₀ r s₁ => r = .ok .next ∧ RTup Xg a ob gi wσ Dn n s₀ s₁) (YTup Xg a ob gi wσ fp tn s.heap.objs.size) n (.send .none) s'')
    (hD : ∀ H', Dn H' → ∃ acc, H' s.heap.objs.size = some (.lst acc))
    (hQ : ∀ H' s' acc its, Inv Xg [(a, ob)] wσ H' s' → Dn H' → H' s.heap.objs.size = some (.lst acc) → Vals acc its → Q its s') : wpAny (model Xg.prog Xg.w) A (collect (.ref a)) Q E s := by
  obtain ⟨nm, qn, o1, o2, o3⟩ := id hob
  have hpin := (go.1.pin (a, ob) (by simp)).1
  have hisg : s.heap.IsGen a gi := ⟨ob, nm, qn, hpin, o1, o2, o3⟩
  have hSI : s.heap.objs.size ≠ a := Nat.ne_of_gt hal
  have hSf : ∀ b ∈ fp, b ≠ s.heap.objs.size := fun b hb => Nat.ne_of_lt (hfp b hb)
  unfold collect
  refine wpAny_bind (wpAny_runValue (codeAny_builtin F.entry_proto_collect ?_))
  rw [Around.under_plainId F.plain_proto_collect _]
  show wpAny _ A.in1 (newList [] >>= fun l => again (.builtin "list.__iadd__" ⟨[l, .ref a], []⟩)) _ _ s
  refine wpAny_bind (wpAny_newObj_type ?_ (by show 0 ≤ sizeLine; decide))
  refine wpAny_pure ⟨plainId_quiet F.plain_list_iadd _, codeAny_builtin F.entry_list_iadd ?_⟩
  rw [Around.under_plainId F.plain_list_iadd _]
  have kp1 : ∀ b o, s.heap.get? b = some o → (s.heap.push { cls := .type "list", data := .seq ([] : List Value).toArray }).get? b = some o := fun b o e => Heap.get?_push_of_some _ e
  have hisg1 := hisg.keeps kp1
  have hT1 : Shared.TypeIs { s with heap := s.heap.push { cls := .type "list", data := .seq ([] : List Value).toArray } } (.ref a) "generator" := hisg1.typeIs
  show wpAny _ A.in1 (Builtin.List.listExtendWith (.ref s.heap.objs.size) (.ref a) (.ref s.heap.objs.size)) _ _ _
  unfold Builtin.List.listExtendWith
  refine wpAny_bind (wpAny_typeOf hT1 ?_)
  have h1 : Builtin.List.listSameRef (.ref s.heap.objs.size) (.ref a) = false := by simp [Builtin.List.listSameRef, hSI]
  have h2 : (Value.type "generator" == Value.type "list") = false := by decide
  have h3 : (Value.type "generator" == Value.type "tuple") = false := by decide
  simp only [h1, h2, h3, Bool.or_false, Bool.false_eq_true, if_false]
  refine wpAny_bind (wpAny_pyIter_gen hisg1 ?_)
  refine wpAny_bind (wpAny_holding ?_)
  unfold Builtin.List.listLengthHint
  refine wpAny_bind (wpAny_specialOf hT1 F.gen_no_len ?_)
  show wpAny _ A.in1 (specialOf (Value.ref a) (Str.ofString "__length_hint__") >>= _) _ _ _
  refine wpAny_bind (wpAny_specialOf hT1 F.gen_no_hint ?_)
  refine wpAny_pure ?_
  show wpAny _ A.in1 (rule "list.extend.makes-room" >>= fun _ => Builtin.List.listTouch (.ref s.heap.objs.size) >>= fun _ =>
    again (.builtin "list.extend.loop" ⟨[.ref s.heap.objs.size, .ref a, .ref s.heap.objs.size], []⟩)) _ _ _
  refine wpAny_bind (wpAny_rule ?_)
  have hS₁ : (s.heap.push { cls := .type "list", data := .seq ([] : List Value).toArray }).get? s.heap.objs.size = some { cls := .type "list", data := .seq ([] : List Value).toArray } := Heap.get?_push_size _ rfl
  refine wpAny_bind ?_
  show wpAny _ A.in1 (updateSeq s.heap.objs.size (·.push .none) >>= fun _ => updateSeq s.heap.objs.size (·.pop)) _ _ _
  refine wpAny_bind (wpAny_updateSeq hS₁ rfl ?_)
  have hS₂ := Heap.get?_update_self (Obj.mapSeq (·.push Value.none)) hS₁ rfl
  refine wpAny_updateSeq hS₂ rfl ?_
  have hS₃ := Heap.get?_update_self (Obj.mapSeq (·.pop)) hS₂ rfl
  have oth : ∀ b o, b ≠ s.heap.objs.size → (s.heap.push { cls := .type "list", data := .seq ([] : List Value).toArray }).get? b = some o →
      (((s.heap.push { cls := .type "list", data := .seq ([] : List Value).toArray }).update s.heap.objs.size (Obj.mapSeq (·.push Value.none))).update s.heap.objs.size (Obj.mapSeq (·.pop))).get? b = some o :=
    fun b o hb e => (Heap.get?_update_other _ _ (Ne.symm hb)).trans ((Heap.get?_update_other _ _ (Ne.symm hb)).trans e)
  have old : ∀ b o, s.heap.get? b = some o → (((s.heap.push { cls := .type "list", data := .seq ([] : List Value).toArray }).update s.heap.objs.size (Obj.mapSeq (·.push Value.none))).update s.heap.objs.size (Obj.mapSeq (·.pop))).get? b = some o := fun b o e => oth b o (Nat.ne_of_lt (Heap.lt_size e)) (kp1 b o e)
  have I3 := go.1.laid (t' := s.toks) (a := s.heap.objs.size) (o := .lst []) old (Nat.le_refl _) ⟨Nat.zero_le _, [], _, .nil, hS₃⟩
  refine wpAny_pure ⟨plainId_quiet F.plain_extend_loop _, ?_⟩
  refine ext_loop (Xg := Xg) (A := A) (D := s.heap.objs.size) (Dn := Dn) (tn := tn) hh hroom hob hSf keepT (fun H' s' I' q => ?_) n 0 (upd H s.heap.objs.size (.lst [])) _ gs ⟨I3, keepT _ _ _ go.2.1 fun b hb o e => old b o e, fun b hb => ?_, go.2.2.2⟩ hgs hgo
  · obtain ⟨acc, hacc⟩ := hD H' q
    obtain ⟨_, its, nn, r, e⟩ := I'.hok _ _ hacc
    show wpAny _ A (load s.heap.objs.size >>= _) _ _ s'
    refine wpAny_bind (wpAny_load e ?_)
    exact wpAny_pure (hQ H' s' acc its I' q hacc r)
  · rw [upd_ne (hSf b hb)]
    exact go.2.2.1 b hb
end
end Eb
set_option Elab.async false
set_option maxRecDepth 100000
set_option linter.all false
namespace Eb
open PySem L2
open PyProof.Rows (AllBare BMod)
section
variable {X : Cx} {c P : Addr}
end
end Eb
set_option Elab.async false
set_option maxRecDepth 100000
set_option linter.all false
namespace Eb
open PySem PySem.SetTable PySem.Spec
section
variable {prog : Program} {w : World} {A : Around} {E : Value → Shared → Prop} {s : Shared}
variable {α κ : Type} [DecidableEq κ] {kf : α → κ} {el : α → Int × Value} {Good : Heap → α → Prop}
set_option maxHeartbeats 3200000 in
theorem call_setOfT {lim : Nat} (KD : Kind prog w α κ kf el Good lim) {l : Addr} {xs : List α} {Q : Value → Shared → Prop}
    (hu : A.in1.in1.in1.units < cLine) (hh : A.handled = none) (hl : s.heap.IsTuple l (xs.map fun a => (el a).2).toArray) (h76 : xs.length ≤ lim)
    (good : ∀ h : Heap, (∀ b o, s.heap.get? b = some o → h.get? b = some o) → ∀ a ∈ xs, Good h a)
    (h : ∀ (h' : Heap) (tk : Nat), SetAt h' s.heap.objs.size (!byText w) ((dedupK kf xs).map el) → (∀ b o, s.heap.get? b = some o → h'.get? b = some o) → Q (.ref s.heap.objs.size) { s with heap := h', toks := tk }) :
    wpAny (model prog w) A (call (.type "set") [.ref l]) Q E s := by
  obtain ⟨c, tl, hmro⟩ := F.called_set.mro
  have hmade := F.called_set.made
  have hsub := F.called_set.sub
  refine wpAny_call (codeAny_of_tree ?_)
  show wpAny _ _ (callAny (.type "set") _) _ _ _
  refine wpAny_pure ⟨Code.quiet_builtin _ (by decide +kernel), codeAny_builtin F.entry_type_call ?_⟩
  rw [Around.under_plain (weight_type_call_type "set" [.ref l] []) rfl]
  have h1 := F.called_set.notType
  have h2 := F.called_set.canCreate
  have hct := F.typeCall_set_1 (.ref l)
  repeat (any_goals (first | assumption | wp_step))
  refine codeAny_mono (code_set_new' (.ref l) (E := E) (Q₁ := fun obj s₁ => obj = .ref s.heap.objs.size ∧ s₁ = { s with heap := s.heap.push (freshSet (!byText w)) }) ⟨rfl, rfl⟩) fun r s₁ hr => ?_
  cases r with
  | error e => exact hr
  | ok fl =>
    cases fl with
    | ret obj =>
      obtain ⟨rfl, rfl⟩ := hr
      have hS : (s.heap.push (freshSet (!byText w))).get? s.heap.objs.size = some (freshSet (!byText w)) := Heap.get?_push_size _ rfl
      have hT : Shared.TypeIs { s with heap := s.heap.push (freshSet (!byText w)) } (.ref s.heap.objs.size) "set" := ⟨_, hS, rfl⟩
      have hli := F.called_set.init.lookup
      have hbi := F.called_set.init.bind (.ref s.heap.objs.size)
      repeat (any_goals (first | assumption | wp_step))
      refine codeAny_mono (codeAny_call_builtin (R := wants (fun r s₂ => r = .none ∧ ∃ h' tk, s₂ = { s with heap := h', toks := tk } ∧
          SetAt h' s.heap.objs.size (!byText w) ((dedupK kf xs).map el) ∧
          (∀ b o, s.heap.get? b = some o → h'.get? b = some o)) E) F.called_set.init.plain F.entry_set_init (check_set_init_1 hT ?_)) fun r₂ s₂ hr₂ => ?_
      · obtain ⟨ol, hol, hcl, nl, hdl⟩ := hl
        obtain ⟨ocls, odict, odata, oslots⟩ := ol
        simp only at hcl hdl
        subst hcl; subst hdl
        have hol' : (s.heap.push (freshSet (!byText w))).get? l = some { cls := .type "tuple", dict := odict, data := .seq (xs.map fun a => (el a).2).toArray nl, slots := oslots } := Heap.get?_push_of_some _ hol
        have hsls := F.sub_tuple_set
        have hslf := F.sub_tuple_frozenset
        have hne : (Value.type "tuple" == Value.type "dict") = false := by decide
        have hl1 : (s.heap.push (freshSet (!byText w))).IsTuple l (xs.map fun a => (el a).2).toArray := ⟨_, hol', rfl, nl, rfl⟩
        unfold Builtin.«set.__init__» noKeywords Builtin.Frozenset.updateFrom
        generalize hPI : pyIter = PI
        wp_walk
        subst hPI
        refine wpAny_pyIter_tuple hl1 ?_
        refine wpAny_bind (wpAny_runValue ?_)
        have hlS : l < s.heap.objs.size := Heap.lt_size hol
        have hh3 : A.in1.in1.in1.handled = none := by simp [hh]
        have hneI : l ≠ (s.heap.push (freshSet (!byText w))).objs.size := by
          rw [Heap.size_push]; exact Nat.ne_of_lt (Nat.lt_succ_of_lt hlS)
        have hSf : s.heap.objs.size ∉ [(s.heap.push (freshSet (!byText w))).objs.size, l] := by
          rw [Heap.size_push]; simp only [List.mem_cons, List.mem_singleton, List.not_mem_nil, or_false, not_or]
          exact ⟨Nat.ne_of_lt (Nat.lt_succ_self _), Nat.ne_of_gt hlS⟩
        have hval : ∀ (i : Nat) (v : Value), (xs.map fun a => (el a).2).toArray[i]? = some v → ∃ a, xs[i]? = some a ∧ v = (el a).2 := fun i v hv => by
          rw [List.getElem?_toArray, List.getElem?_map] at hv
          cases e : xs[i]? with
          | none => rw [e] at hv; cases hv
          | some a => rw [e] at hv; exact ⟨a, rfl, (Option.some.inj hv).symm⟩
        refine upd_loop (led := !byText w) KD (by exact hu) ((Walks.tuple hh3 _ l hneI _).toS) s.heap.objs.size hSf xs (by simp) (by simpa using h76) hval (h₀ := s.heap)
          (fun b hb => ?_) (Heap.get?_none_of_le (Nat.le_refl _)) good _ 0 _ rfl (Nat.zero_le _)
          ⟨⟨_, Heap.get?_push_size _ rfl, rfl, rfl⟩, (hl1.push _)⟩ (fun b o e => Heap.get?_push_of_some _ (Heap.get?_push_of_some _ e)) ?hS0 ?hR
        · rw [List.mem_singleton.mp hb, Heap.size_push]
          exact Heap.get?_none_of_le (Nat.le_succ _)
        case hS0 =>
          obtain ⟨T, hf⟩ := fresh_ok 0 0 (!byText w)
          exact ⟨_, _, _, _, Heap.get?_push_of_some _ hS, ⟨rfl, rfl, rfl⟩, rfl, T, hf, rfl, List.Perm.refl _⟩
        case hR =>
          intro s' hm hS'
          obtain ⟨h', g', d', tk', os'⟩ := s'
          have eg : g' = s.gens := hm.gens
          have ed : d' = s.drawn := hm.drawn
          have eo : os' = s.os := hm.os
          subst eg; subst ed; subst eo
          show wpAny _ _ _ _ _ _
          refine wpAny_pure ?_
          show wpAny _ _ (ret Value.none) _ _ _
          refine wpAny_pure ⟨rfl, h', tk', rfl, hS', fun b o e => ?_⟩
          have hb := Heap.lt_size e
          have hb1 : b ≠ s.heap.objs.size := Nat.ne_of_lt hb
          have hb2 : b ≠ (s.heap.push (freshSet (!byText w))).objs.size := by
            rw [Heap.size_push]; exact Nat.ne_of_lt (Nat.lt_succ_of_lt hb)
          exact hm.heap b o (by simp only [List.mem_cons, List.mem_singleton, List.not_mem_nil, or_false, not_or]; exact ⟨hb1, hb2⟩) (Heap.get?_push_of_some _ (Heap.get?_push_of_some _ e))
      · cases r₂ with
        | error e => exact hr₂
        | ok fl₂ =>
          cases fl₂ with
          | ret r =>
            obtain ⟨rfl, h', tk, rfl, hS', hk'⟩ := hr₂
            repeat (any_goals (first | assumption | wp_step))
            exact h _ _ hS' hk'
          | _ => exact hr₂.elim
    | _ => exact hr.elim
end
end Eb
namespace Eb
open PySem L2 PySem.Spec
open PyProof.Rows (Compare_chain chain_link chain_last ite_ff ite_tt)
section
variable {X : Cx}
def rSetTT (P : Program) (w : World) (K : PySem.W.Frag) : List V → Hp → VK → Prop := fun vs H Q => ∃ (l : Addr) (as : List Addr) (kf : Addr → List Int), vs = [.ref l] ∧ (SqL K H l (as.map V.ref) ∨ SqT K H l (as.map V.ref)) ∧ (∀ a ∈ as, SqT K H a ((kf a).map V.int)) ∧ as.length ≤ 4900 ∧
  ∀ p, H p = none → Q (.ref p) (upd H p (setT P w p (dedupK kf as) kf))
/-- set(xs), xs a list or a tuple of tuples of ints -/
theorem call_setTT (hc : X.calm = true) (hu : X.A.units + 64 < cLine) : CallR X (.type "set") (rSetTT X.prog X.w X.K) := by
  intro pins s σ H vs us Q I r h
  obtain ⟨l, as, kf, rfl, hl, ht, h76, q⟩ := h
  rcases hl with hl | hl
  · exact call_setT hc hu pins s σ H _ us Q I r ⟨l, as, kf, rfl, hl, ht, h76, q⟩
  rw [Vals.ref1 r]
  obtain ⟨its, rv, pl, _⟩ := I.tuple hl
  have e := refs_of rv
  subst e
  refine call_setOfT (kind_tup X.prog X.w kf) (xs := as) (by show X.A.units + 3 < cLine; omega) (I.ok.hd hc) pl h76 (fun h k a ha => (tup_of I (ht a ha)).keep fun o e => k _ _ e) fun h' tk hS hk => ?_
  exact ⟨.ref s.heap.objs.size, upd H s.heap.objs.size _, I.laid (o := setT X.prog X.w s.heap.objs.size (dedupK kf as) kf) hk (Nat.le_refl _) ⟨hS, hS.there, fun h1 h2 x k => x.keep k⟩, rfl, q _ (I.hok.fresh (Nat.le_refl _))⟩
end
end Eb
set_option Elab.async false
set_option maxRecDepth 100000
set_option linter.all false
namespace Eb
open PySem L2
end Eb
set_option Elab.async false
set_option maxRecDepth 100000
set_option linter.all false
namespace Eb
open PySem L2
end Eb
set_option Elab.async false
set_option maxRecDepth 100000
set_option linter.all false
namespace Eb
open PySem L2
end Eb
set_option Elab.async false
set_option maxRecDepth 100000
set_option linter.all false
namespace Eb
open PySem L2
end Eb
namespace Eb
open PySem L2
theorem se_Tuple {es' : List Expr} {k : Nat} {pos : Pos} {es : List Expr} {env : Env} : starEach (.Tuple es' k pos :: es) env = (false, eval (.Tuple es' k pos) env) :: starEach es env := rfl
theorem se_List {es' : List Expr} {pos : Pos} {es : List Expr} {env : Env} : starEach (.List es' pos :: es) env = (false, eval (.List es' pos) env) :: starEach es env := rfl
theorem se_Subscript {a b : Expr} {pos : Pos} {es : List Expr} {env : Env} : starEach (.Subscript a b pos :: es) env = (false, eval (.Subscript a b pos) env) :: starEach es env := rfl
theorem se_BinOp {a b : Expr} {op : Operator} {pos : Pos} {es : List Expr} {env : Env} : starEach (.BinOp a op b pos :: es) env = (false, eval (.BinOp a op b pos) env) :: starEach es env := rfl
theorem se_Call {f : Expr} {as : List Expr} {kw : List Keyword} {pos : Pos} {es : List Expr} {env : Env} : starEach (.Call f as kw pos :: es) env = (false, eval (.Call f as kw pos) env) :: starEach es env := rfl
end Eb
namespace Eb
open PySem L2
theorem px_Constant {c : Const} {k : Nat} {pos : Pos} : PlainIx (.Constant c k pos) := fun _ _ => rfl
theorem px_Call {f : Expr} {as : List Expr} {kw : List Keyword} {pos : Pos} : PlainIx (.Call f as kw pos) := fun _ _ => rfl
theorem px_Name {x : Str} {pos : Pos} : PlainIx (.Name x pos) := fun _ _ => rfl
theorem px_BinOp {a b : Expr} {op : Operator} {pos : Pos} : PlainIx (.BinOp a op b pos) := fun _ _ => rfl
theorem px_Subscript {a b : Expr} {pos : Pos} : PlainIx (.Subscript a b pos) := fun _ _ => rfl
end Eb
namespace Eb
open PySem L2
theorem se_Constant {c : Const} {k : Nat} {pos : Pos} {es : List Expr} {env : Env} : starEach (.Constant c k pos :: es) env = (false, eval (.Constant c k pos) env) :: starEach es env := rfl
theorem se_Name {x : Str} {pos : Pos} {es : List Expr} {env : Env} : starEach (.Name x pos :: es) env = (false, eval (.Name x pos) env) :: starEach es env := rfl
end Eb
set_option maxRecDepth 100000
set_option linter.all false
namespace Eb
open PySem
section
variable {prog : Program} {w : World} {A : Around} {E : Value → Shared → Prop} {s : Shared}
section
variable {prog : Program} {w : World} {A : Around} {E : Value → Shared → Prop} {s : Shared}
open L2
end
end
end Eb
set_option maxRecDepth 100000
set_option linter.all false
namespace Eb
open PySem
section
variable {prog : Program} {w : World} {A : Around} {E : Value → Shared → Prop} {s : Shared}
section
variable {prog : Program} {w : World} {A : Around} {E : Value → Shared → Prop} {s : Shared}
open L2
end
end
end Eb
set_option Elab.async false
set_option maxRecDepth 100000
set_option linter.all false
namespace Eb
open PySem L2
end Eb
set_option Elab.async false
set_option maxRecDepth 100000
set_option linter.all false
namespace Eb
open PySem L2
open PyProof.Rows (AllBare BMod)
section
variable {X : Cx} {A : Around} {s4 : Shared} {H4 : Hp} {cenv : Env} {fp : List Addr} {a it : Addr} {ob : Obj} {gi : Nat} {σ : L2.St} {vs : List Nat} {elt tg iter : Expr} {ifs : List Expr} {scope : Scope} {pos : Pos} {g : TG} {tt : TT} {te : TE} {J : It} {tn : Nat → Heap → Prop}
end
section
variable {X Xg : Cx} {A : Around} {fp : List Addr} {a it : Addr} {ob : Obj} {gi : Nat} {wσ : L2.St} {tn : Nat → Heap → Prop} {Q : VK}
end
section
variable {X : Cx} {pins : List (Addr × Obj)} {σ : L2.St} {H : Hp} {s : Shared} {c P : Addr}
end
end Eb
set_option Elab.async false
set_option maxRecDepth 100000
set_option linter.all false
namespace Em
open PySem L2
/-- a value; a list, a dict, an object by its number in the store; a list that is never changed -/
inductive M where
  | non | bl (b : Bool) | int (i : Int) | str (x : Str) | tup (xs : List M) | loc (n : Nat) | ro (ns : List Int) | fz (xs : List M)
inductive Ob where
  | lst (xs : List M) | dK (kvs : List (Key × M)) | dT (kvs : List (List Key × M)) | ins (C : Addr) (fs : List (Str × M))
abbrev Store := List Ob
abbrev Mo (α : Type) := Store → Option (α × Store)
abbrev MSt := List (Option M)
def ret {α : Type} (a : α) : Mo α := fun S => some (a, S)
def fail {α : Type} : Mo α := fun _ => none
def bnd {α β : Type} (c : Mo α) (f : α → Mo β) : Mo β := fun S => match c S with
  | some (a, S') => f a S'
  | none => none
theorem bnd_some {α β : Type} {c : Mo α} {f : α → Mo β} {S S2 : Store} {b : β} (h : bnd c f S = some (b, S2)) : ∃ a S1, c S = some (a, S1) ∧ f a S1 = some (b, S2) := by
  unfold bnd at h
  cases e : c S with
  | none => rw [e] at h; cases h
  | some p =>
    obtain ⟨a, S1⟩ := p
    rw [e] at h
    exact ⟨a, S1, rfl, h⟩
/-- the text's part, and the tables that are kept -/
structure Ct where
  K : PySem.W.Frag
  Tb : List Addr
/-- a list that is read only -/
def RoL (K : Ct) (ρ : List Addr) (H : Hp) (a : Addr) (vs : List V) : Prop :=
  (∃ o, H a = some (.frz o (.lst vs))) ∨ ∃ (o : Obj) (its : Array Value) (n : Nat), K.K.lookup a = some o ∧ o.cls = .type "list" ∧ o.dict = none ∧ o.data = .seq its n ∧ its.size ≤ sizeLine ∧ Vals vs its.toList
theorem RoL.sq {K : Ct} {ρ : List Addr} {H : Hp} {a : Addr} {vs : List V} (h : RoL K ρ H a vs) : SqL K.K H a vs := h.elim (fun ⟨o, x⟩ => .inl (.inr ⟨o, x⟩)) .inr
mutual
inductive RV (K : Ct) (ρ : List Addr) (H : Hp) : M → V → Prop where
  | non : RV K ρ H .non .non
  | bl (b : Bool) : RV K ρ H (.bl b) (.bl b)
  | int (i : Int) : RV K ρ H (.int i) (.int i)
  | str (x : Str) : RV K ρ H (.str x) (.str x)
  | tup {xs : List M} {a : Addr} {vs : List V} : SqT K.K H a vs → RVs K ρ H xs vs → RV K ρ H (.tup xs) (.ref a)
  | loc {n : Nat} {a : Addr} : ρ[n]? = some a → RV K ρ H (.loc n) (.ref a)
  | ro {ns : List Int} {a : Addr} : RoL K ρ H a (ns.map V.int) → RV K ρ H (.ro ns) (.ref a)
  | fz {xs : List M} {a : Addr} {o : Obj} {vs : List V} : H a = some (.frz o (.lst vs)) → RVs K ρ H xs vs → RV K ρ H (.fz xs) (.ref a)
inductive RVs (K : Ct) (ρ : List Addr) (H : Hp) : List M → List V → Prop where
  | nil : RVs K ρ H [] []
  | cons {x : M} {v : V} {xs : List M} {vs : List V} : RV K ρ H x v → RVs K ρ H xs vs → RVs K ρ H (x :: xs) (v :: vs)
end
section
variable {K : Ct} {ρ ρ1 ρ2 : List Addr} {H H1 H2 : Hp}
theorem RVs.len : ∀ {xs : List M} {vs : List V}, RVs K ρ H xs vs → xs.length = vs.length
  | _, _, .nil => rfl
  | _, _, .cons _ t => by rw [List.length_cons, List.length_cons, RVs.len t]
theorem RVs.get : ∀ {xs : List M} {vs : List V} {i : Nat} {x : M}, RVs K ρ H xs vs → xs[i]? = some x → ∃ v, vs[i]? = some v ∧ RV K ρ H x v
  | _, _, _, _, .nil, e => by simp at e
  | _, _, 0, _, .cons r _, e => by simp at e; subst e; exact ⟨_, rfl, r⟩
  | _, _, i + 1, x, .cons _ t, e => by
    obtain ⟨u, h1, h2⟩ := RVs.get (i := i) (x := x) t (by simpa using e)
    exact ⟨u, by simpa using h1, h2⟩
theorem RVs.app : ∀ {xs ys : List M} {vs us : List V}, RVs K ρ H xs vs → RVs K ρ H ys us → RVs K ρ H (xs ++ ys) (vs ++ us)
  | _, _, _, _, .nil, q => q
  | _, _, _, _, .cons r t, q => .cons r (RVs.app t q)
theorem RVs.set {x : M} {v : V} (r : RV K ρ H x v) : ∀ {xs : List M} {vs : List V} (i : Nat), RVs K ρ H xs vs → RVs K ρ H (xs.set i x) (vs.set i v)
  | _, _, _, .nil => .nil
  | _, _, 0, .cons _ t => .cons r t
  | _, _, i + 1, .cons q t => .cons q (RVs.set r i t)
theorem RVs.take : ∀ {xs : List M} {vs : List V} (n : Nat), RVs K ρ H xs vs → RVs K ρ H (xs.take n) (vs.take n)
  | _, _, 0, _ => .nil
  | _, _, _ + 1, .nil => .nil
  | _, _, n + 1, .cons r t => .cons r (RVs.take n t)
theorem RVs.drop : ∀ {xs : List M} {vs : List V} (n : Nat), RVs K ρ H xs vs → RVs K ρ H (xs.drop n) (vs.drop n)
  | _, _, 0, r => r
  | _, _, _ + 1, .nil => .nil
  | _, _, n + 1, .cons _ t => RVs.drop n t
theorem RVs.ints : ∀ {ns : List Int} {vs : List V}, RVs K ρ H (ns.map M.int) vs → vs = ns.map V.int
  | [], _, r => by cases r; rfl
  | n :: ns, _, r => by
    rw [List.map_cons] at r
    cases r with
    | cons a t => cases a; rw [RVs.ints t]; rfl
theorem RVs.of_ints : ∀ (ns : List Int), RVs K ρ H (ns.map M.int) (ns.map V.int)
  | [] => .nil
  | n :: ns => .cons (.int n) (RVs.of_ints ns)
/-- what stands at a number -/
inductive HoR (K : Ct) (ρ : List Addr) (H : Hp) : Ob → HO → Prop where
  | lst {xs : List M} {vs : List V} : RVs K ρ H xs vs → HoR K ρ H (.lst xs) (.lst vs)
  | dK {kvs : List (Key × M)} {kv : List (Key × V)} : kvs.map (·.1) = kv.map (·.1) → RVs K ρ H (kvs.map (·.2)) (kv.map (·.2)) → HoR K ρ H (.dK kvs) (.dK kv)
  | dT {kvs : List (List Key × M)} {kv : List (List Key × V)} : kvs.map (·.1) = kv.map (·.1) → RVs K ρ H (kvs.map (·.2)) (kv.map (·.2)) → HoR K ρ H (.dT kvs) (.dT kv)
  | ins {C dx : Addr} {fs : List (Str × M)} {fv : List (Str × V)} : fs.map (·.1) = fv.map (·.1) → RVs K ρ H (fs.map (·.2)) (fv.map (·.2)) → HoR K ρ H (.ins C fs) (.ins C dx fv)
/-- the store is what the heap holds -/
structure RepS (K : Ct) (ρ : List Addr) (S : Store) (H : Hp) : Prop where
  len : ρ.length = S.length
  nd : ρ.Nodup
  ob : ∀ (n : Nat) (a : Addr) (b : Ob), ρ[n]? = some a → S[n]? = some b → ∃ o, H a = some o ∧ HoR K ρ H b o
  tb : ∀ P ∈ K.Tb, H P = some (Eb.tabO P)
theorem RepS.at {S : Store} (r : RepS K ρ S H) {n : Nat} {b : Ob} (h : S[n]? = some b) : ∃ a o, ρ[n]? = some a ∧ H a = some o ∧ HoR K ρ H b o := by
  have hn : n < ρ.length := by rw [r.len]; exact (List.getElem?_eq_some_iff.mp h).1
  have e : ρ[n]? = some ρ[n] := List.getElem?_eq_getElem hn
  obtain ⟨o, h1, h2⟩ := r.ob n _ b e h
  exact ⟨_, o, e, h1, h2⟩
theorem RepS.mem {S : Store} (r : RepS K ρ S H) {a : Addr} (h : a ∈ ρ) : ∃ b o, H a = some o ∧ HoR K ρ H b o := by
  obtain ⟨n, hn⟩ := List.getElem?_of_mem h
  have hl : n < S.length := by rw [← r.len]; exact (List.getElem?_eq_some_iff.mp hn).1
  obtain ⟨o, h1, h2⟩ := r.ob n a _ hn (List.getElem?_eq_getElem hl)
  exact ⟨_, o, h1, h2⟩
theorem RepS.new {S : Store} (r : RepS K ρ S H) {p : Addr} (h : H p = none) : p ∉ ρ := fun m => by
  obtain ⟨b, o, e, _⟩ := r.mem m
  rw [h] at e
  cases e
theorem RepS.ntup {S : Store} (r : RepS K ρ S H) {a : Addr} {vs : List V} (h : Rd H a (.tup vs)) : a ∉ ρ := fun m => by
  obtain ⟨b, o, e, q⟩ := r.mem m
  rcases h with h | ⟨u, h⟩
  · rw [h] at e; cases e; cases q
  · rw [h] at e; cases e; cases q
/-- what was there and has no number is as it was; new numbers are of new things -/
structure Ext (ρ : List Addr) (H : Hp) (ρ' : List Addr) (H' : Hp) : Prop where
  pre : ρ <+: ρ'
  keep : ∀ a o, H a = some o → a ∉ ρ → H' a = some o
  fresh : ∀ a, a ∈ ρ' → a ∉ ρ → H a = none
theorem Ext.refl (ρ : List Addr) (H : Hp) : Ext ρ H ρ H := ⟨List.prefix_refl _, fun _ _ h _ => h, fun a h n => absurd h n⟩
theorem Ext.trans (a : Ext ρ H ρ1 H1) (b : Ext ρ1 H1 ρ2 H2) : Ext ρ H ρ2 H2 := by
  have out : ∀ c o, H c = some o → c ∉ ρ → c ∉ ρ1 := fun c o h n m => by
    have := a.fresh c m n
    rw [h] at this
    cases this
  refine ⟨a.pre.trans b.pre, fun c o h n => b.keep c o (a.keep c o h n) (out c o h n), fun c m n => ?_⟩
  by_cases m1 : c ∈ ρ1
  · exact a.fresh c m1 n
  · have h1 := b.fresh c m m1
    cases e : H c with
    | none => rfl
    | some o =>
      rw [a.keep c o e n] at h1
      cases h1
theorem Ext.get (a : Ext ρ H ρ1 H1) {n : Nat} {x : Addr} (h : ρ[n]? = some x) : ρ1[n]? = some x := by
  obtain ⟨t, rfl⟩ := a.pre
  rw [List.getElem?_append_left (List.getElem?_eq_some_iff.mp h).1]
  exact h
theorem Ext.tup (e : Ext ρ H ρ1 H1) {S : Store} (r : RepS K ρ S H) {a : Addr} {vs : List V} (h : SqT K.K H a vs) : SqT K.K H1 a vs := by
  rcases h with h | h
  · have n := r.ntup h
    rcases h with h | ⟨o, h⟩
    · exact .inl (.inl (e.keep _ _ h n))
    · exact .inl (.inr ⟨o, e.keep _ _ h n⟩)
  · exact .inr h
theorem RepS.nfrz {S : Store} (r : RepS K ρ S H) {a : Addr} {o : Obj} {u : HO} (h : H a = some (.frz o u)) : a ∉ ρ := fun m => by
  obtain ⟨b, o, e, q⟩ := r.mem m
  rw [h] at e; cases e; cases q
theorem RepS.ntab {S : Store} (r : RepS K ρ S H) {P : Addr} (h : P ∈ K.Tb) : P ∉ ρ := fun m => by
  obtain ⟨b, o, e, q⟩ := r.mem m
  rw [r.tb P h] at e; cases e; cases q
theorem Ext.ro (e : Ext ρ H ρ1 H1) {S : Store} (r : RepS K ρ S H) {a : Addr} {vs : List V} (h : RoL K ρ H a vs) : RoL K ρ1 H1 a vs := by
  rcases h with ⟨o, h⟩ | h
  · exact .inl ⟨o, e.keep _ _ h (r.nfrz h)⟩
  · exact .inr h
mutual
theorem RV.mono {S : Store} (r : RepS K ρ S H) (e : Ext ρ H ρ1 H1) : ∀ {x : M} {v : V}, RV K ρ H x v → RV K ρ1 H1 x v
  | _, _, .non => .non
  | _, _, .bl b => .bl b
  | _, _, .int i => .int i
  | _, _, .str x => .str x
  | _, _, .tup h t => .tup (e.tup r h) (RVs.mono r e t)
  | _, _, .loc h => .loc (e.get h)
  | _, _, .ro h => .ro (e.ro r h)
  | _, _, .fz h t => .fz (e.keep _ _ h (r.nfrz h)) (RVs.mono r e t)
theorem RVs.mono {S : Store} (r : RepS K ρ S H) (e : Ext ρ H ρ1 H1) : ∀ {xs : List M} {vs : List V}, RVs K ρ H xs vs → RVs K ρ1 H1 xs vs
  | _, _, .nil => .nil
  | _, _, .cons a t => .cons (RV.mono r e a) (RVs.mono r e t)
end
/-- values stay what they are -/
structure Wx (K : Ct) (ρ : List Addr) (H : Hp) (ρ' : List Addr) (H' : Hp) : Prop where
  pre : ρ <+: ρ'
  tup : ∀ a xs, SqT K.K H a xs → SqT K.K H' a xs
  ro : ∀ a xs, RoL K ρ H a xs → RoL K ρ' H' a xs
  fz : ∀ a o xs, H a = some (.frz o (.lst xs)) → H' a = some (.frz o (.lst xs))
theorem Ext.wx {S : Store} (e : Ext ρ H ρ1 H1) (r : RepS K ρ S H) : Wx K ρ H ρ1 H1 := ⟨e.pre, fun _ _ h => e.tup r h, fun _ _ h => e.ro r h, fun _ _ _ h => e.keep _ _ h (r.nfrz h)⟩
theorem Wx.trans (a : Wx K ρ H ρ1 H1) (b : Wx K ρ1 H1 ρ2 H2) : Wx K ρ H ρ2 H2 := ⟨a.pre.trans b.pre, fun x xs h => b.tup x xs (a.tup x xs h), fun x xs h => b.ro x xs (a.ro x xs h), fun x o xs h => b.fz x o xs (a.fz x o xs h)⟩
theorem Wx.get (a : Wx K ρ H ρ1 H1) {n : Nat} {x : Addr} (h : ρ[n]? = some x) : ρ1[n]? = some x := by
  obtain ⟨t, rfl⟩ := a.pre
  rw [List.getElem?_append_left (List.getElem?_eq_some_iff.mp h).1]
  exact h
mutual
theorem RV.wx (e : Wx K ρ H ρ1 H1) : ∀ {x : M} {v : V}, RV K ρ H x v → RV K ρ1 H1 x v
  | _, _, .non => .non
  | _, _, .bl b => .bl b
  | _, _, .int i => .int i
  | _, _, .str x => .str x
  | _, _, .tup h t => .tup (e.tup _ _ h) (RVs.wx e t)
  | _, _, .loc h => .loc (e.get h)
  | _, _, .ro h => .ro (e.ro _ _ h)
  | _, _, .fz h t => .fz (e.fz _ _ _ h) (RVs.wx e t)
theorem RVs.wx (e : Wx K ρ H ρ1 H1) : ∀ {xs : List M} {vs : List V}, RVs K ρ H xs vs → RVs K ρ1 H1 xs vs
  | _, _, .nil => .nil
  | _, _, .cons a t => .cons (RV.wx e a) (RVs.wx e t)
end
theorem HoR.mono {S : Store} (r : RepS K ρ S H) (e : Ext ρ H ρ1 H1) {b : Ob} {o : HO} (h : HoR K ρ H b o) : HoR K ρ1 H1 b o := by
  cases h with
  | lst h => exact .lst (h.mono r e)
  | dK k h => exact .dK k (h.mono r e)
  | dT k h => exact .dT k (h.mono r e)
  | ins k h => exact .ins k (h.mono r e)
/-- a new thing without a number -/
theorem RepS.side {S : Store} (r : RepS K ρ S H) {p : Addr} {o : HO} (h : H p = none) : Ext ρ H ρ (upd H p o) ∧ RepS K ρ S (upd H p o) := by
  have e : Ext ρ H ρ (upd H p o) := ⟨List.prefix_refl _, fun a u q _ => by rw [upd_ne (ne_of_none q h)]; exact q, fun a m n => absurd m n⟩
  refine ⟨e, r.len, r.nd, fun n a b h1 h2 => ?_, fun P hP => e.keep _ _ (r.tb P hP) (r.ntab hP)⟩
  obtain ⟨u, h3, h4⟩ := r.ob n a b h1 h2
  exact ⟨u, by rw [upd_ne (ne_of_none h3 h)]; exact h3, h4.mono r e⟩
/-- a new thing is made and given a number -/
theorem RepS.push {S : Store} (r : RepS K ρ S H) {p : Addr} {o : HO} {b : Ob} (h : H p = none) (hb : HoR K ρ H b o) : Ext ρ H (ρ ++ [p]) (upd H p o) ∧ RepS K (ρ ++ [p]) (S ++ [b]) (upd H p o) := by
  have e : Ext ρ H (ρ ++ [p]) (upd H p o) := ⟨List.prefix_append _ _, fun a u q _ => by rw [upd_ne (ne_of_none q h)]; exact q, fun a m n => by
    rcases List.mem_append.mp m with m | m
    · exact absurd m n
    · rw [List.mem_singleton] at m; rw [m]; exact h⟩
  obtain ⟨e1, r1⟩ := r.side (o := o) h
  have e2 : Ext ρ (upd H p o) (ρ ++ [p]) (upd H p o) → True := fun _ => trivial
  refine ⟨e, ?_⟩
  refine ⟨by rw [List.length_append, List.length_append, r.len]; rfl, ?_, fun n a b' h1 h2 => ?_, fun P hP => e.keep _ _ (r.tb P hP) (r.ntab hP)⟩
  · rw [List.nodup_append]
    refine ⟨r.nd, by simp, fun a ha c hc z => ?_⟩
    rw [List.mem_singleton] at hc
    subst hc; subst z
    exact r.new h ha
  · by_cases hn : n < ρ.length
    · rw [List.getElem?_append_left hn] at h1
      rw [List.getElem?_append_left (by rw [← r.len]; exact hn)] at h2
      obtain ⟨u, h3, h4⟩ := r.ob n a b' h1 h2
      exact ⟨u, by rw [upd_ne (ne_of_none h3 h)]; exact h3, h4.mono r e⟩
    · have hl : n < (ρ ++ [p]).length := (List.getElem?_eq_some_iff.mp h1).1
      rw [List.length_append, List.length_singleton] at hl
      have en : n = ρ.length := by omega
      subst en
      rw [List.getElem?_append_right (Nat.le_refl _), Nat.sub_self] at h1
      rw [List.getElem?_append_right (by rw [r.len]; exact Nat.le_refl _), r.len, Nat.sub_self] at h2
      cases h1
      cases h2
      exact ⟨o, upd_same, hb.mono r e⟩
/-- a thing that has a number is changed -/
theorem RepS.put {S : Store} (r : RepS K ρ S H) {n : Nat} {a : Addr} {o : HO} {b : Ob} (hn : ρ[n]? = some a) (hb : HoR K ρ H b o) : Ext ρ H ρ (upd H a o) ∧ RepS K ρ (S.set n b) (upd H a o) := by
  have ma : a ∈ ρ := List.mem_of_getElem? hn
  have e : Ext ρ H ρ (upd H a o) := ⟨List.prefix_refl _, fun c u q hc => by rw [upd_ne (fun z : c = a => hc (by rw [z]; exact ma))]; exact q, fun c m n => absurd m n⟩
  refine ⟨e, by rw [List.length_set]; exact r.len, r.nd, fun m c b' h1 h2 => ?_, fun P hP => e.keep _ _ (r.tb P hP) (r.ntab hP)⟩
  by_cases hm : m = n
  · subst hm
    rw [hn] at h1
    cases h1
    have hl : m < S.length := by rw [← r.len]; exact (List.getElem?_eq_some_iff.mp hn).1
    rw [List.getElem?_set_self hl] at h2
    cases h2
    exact ⟨o, upd_same, hb.mono r e⟩
  · rw [List.getElem?_set_ne (fun z => hm z.symm)] at h2
    obtain ⟨u, h3, h4⟩ := r.ob m c b' h1 h2
    refine ⟨u, ?_, h4.mono r e⟩
    rw [upd_ne (fun z => hm ?_)]
    · exact h3
    · subst z
      exact nd_ix r.nd h1 hn
/-- names -/
def Rσ (K : Ct) (ρ : List Addr) (H : Hp) (σ : MSt) (σV : St) : Prop := σ.length = σV.length ∧ ∀ (i : Nat) (x : M), σ[i]? = some (some x) → ∃ v, σV[i]? = some (some v) ∧ RV K ρ H x v
theorem Rσ.mono {S : Store} {σ : MSt} {σV : St} (h : Rσ K ρ H σ σV) (r : RepS K ρ S H) (e : Ext ρ H ρ1 H1) : Rσ K ρ1 H1 σ σV := ⟨h.1, fun i x q => by
  obtain ⟨v, h1, h2⟩ := h.2 i x q
  exact ⟨v, h1, h2.mono r e⟩⟩
theorem Rσ.wx {σ : MSt} {σV : St} (h : Rσ K ρ H σ σV) (e : Wx K ρ H ρ1 H1) : Rσ K ρ1 H1 σ σV := ⟨h.1, fun i x q => by
  obtain ⟨v, h1, h2⟩ := h.2 i x q
  exact ⟨v, h1, h2.wx e⟩⟩
theorem Rσ.set {σ : MSt} {σV : St} (h : Rσ K ρ H σ σV) {x : M} {v : V} (r : RV K ρ H x v) (i : Nat) : Rσ K ρ H (σ.set i (some x)) (σV.set i (some v)) := by
  refine ⟨by rw [List.length_set, List.length_set]; exact h.1, fun j y q => ?_⟩
  by_cases e : i = j
  · subst e
    have hl : i < σ.length := by have := (List.getElem?_eq_some_iff.mp q).1; rwa [List.length_set] at this
    rw [List.getElem?_set_self hl] at q
    cases q
    exact ⟨v, by rw [List.getElem?_set_self (by rw [← h.1]; exact hl)], r⟩
  · rw [List.getElem?_set_ne e] at q
    obtain ⟨u, h1, h2⟩ := h.2 j y q
    exact ⟨u, by rw [List.getElem?_set_ne e]; exact h1, h2⟩
end
end Em
set_option Elab.async false
set_option maxRecDepth 100000
set_option linter.all false
namespace Em
open PySem L2
def Post (K : Ct) (ρ : List Addr) (H : Hp) (S' : Store) (v : M) (Q : VK) : Prop := ∀ ρ' v' H', Ext ρ H ρ' H' → RepS K ρ' S' H' → RV K ρ' H' v v' → Q v' H'
def tM (K : Ct) (m : MSt → Mo M) : TE := fun σV H Q => ∃ ρ σ S v S', RepS K ρ S H ∧ Rσ K ρ H σ σV ∧ m σ S = some (v, S') ∧ Post K ρ H S' v Q
def tMA (K : Ct) (m : MSt → Mo (List M)) : TA := fun σV H Q => ∃ ρ σ S vs S', RepS K ρ S H ∧ Rσ K ρ H σ σV ∧ m σ S = some (vs, S') ∧ ∀ ρ' vs' H', Ext ρ H ρ' H' → RepS K ρ' S' H' → RVs K ρ' H' vs vs' → Q vs' H'
def tMT (K : Ct) (m : MSt → Mo Bool) : TT := fun σV H Q => ∃ ρ σ S b S', RepS K ρ S H ∧ Rσ K ρ H σ σV ∧ m σ S = some (b, S') ∧ ∀ ρ' H', Ext ρ H ρ' H' → RepS K ρ' S' H' → Q b H'
def tMG (K : Ct) (g : M → MSt → Mo MSt) (vs : List Nat) : TG := fun v σV H Q => ∃ ρ σ S x σ' S', RepS K ρ S H ∧ Rσ K ρ H σ σV ∧ RV K ρ H x v ∧ g x σ S = some (σ', S') ∧
  ∀ ρ' σV' H', Ext ρ H ρ' H' → RepS K ρ' S' H' → Rσ K ρ' H' σ' σV' → wipe σV' vs = wipe σV vs → Q σV' H'
def tMGs (K : Ct) (g : List M → MSt → Mo MSt) (vs : List Nat) : TGs := fun v σV H Q => ∃ ρ σ S x σ' S', RepS K ρ S H ∧ Rσ K ρ H σ σV ∧ RVs K ρ H x v ∧ g x σ S = some (σ', S') ∧
  ∀ ρ' σV' H', Ext ρ H ρ' H' → RepS K ρ' S' H' → Rσ K ρ' H' σ' σV' → wipe σV' vs = wipe σV vs → Q σV' H'
/-- how a statement ends -/
inductive Out where
  | nx (σ : MSt) | rt (v : M) | bk (σ : MSt) | ct (σ : MSt)
def OutOk (K : Ct) (ρ : List Addr) (H : Hp) (S' : Store) (D : Ends) : Out → Prop
  | .nx σ' => ∀ ρ' σV' H', Ext ρ H ρ' H' → RepS K ρ' S' H' → Rσ K ρ' H' σ' σV' → D.nx σV' H'
  | .bk σ' => ∀ ρ' σV' H', Ext ρ H ρ' H' → RepS K ρ' S' H' → Rσ K ρ' H' σ' σV' → D.bk σV' H'
  | .ct σ' => ∀ ρ' σV' H', Ext ρ H ρ' H' → RepS K ρ' S' H' → Rσ K ρ' H' σ' σV' → D.ct σV' H'
  | .rt v => ∀ ρ' v' H', Ext ρ H ρ' H' → RepS K ρ' S' H' → RV K ρ' H' v v' → D.rt v' H'
def tMS (K : Ct) (m : MSt → Mo Out) : TS := fun D σV H => ∃ ρ σ S o S', RepS K ρ S H ∧ Rσ K ρ H σ σV ∧ m σ S = some (o, S') ∧ OutOk K ρ H S' D o
/-- what is walked: the items; a list in the store that is to stay -/
structure Wk where
  xs : List M
  kp : List (Nat × List M)
def Wk.kept (w : Wk) (S : Store) : Prop := ∀ p ∈ w.kp, S[p.1]? = some (.lst p.2)
structure ItOk (K : Ct) (ρ : List Addr) (H : Hp) (J : It) (w : Wk) : Prop where
  go : ∀ (i : Nat) (ρ' : List Addr) (S' : Store) (H' : Hp) (x : M), Wx K ρ H ρ' H' → RepS K ρ' S' H' → w.kept S' → w.xs[i]? = some x →
    J.go i H' ∧ ∀ y H'', J.yld i H' y H'' → Ext ρ' H' ρ' H'' ∧ RepS K ρ' S' H'' ∧ RV K ρ' H'' x y
  stop : ∀ (ρ' : List Addr) (S' : Store) (H' : Hp), Wx K ρ H ρ' H' → RepS K ρ' S' H' → w.kept S' → J.stop w.xs.length H'
def tMI (K : Ct) (m : MSt → Mo Wk) : TI := fun σV H R => ∃ ρ σ S w S', RepS K ρ S H ∧ Rσ K ρ H σ σV ∧ m σ S = some (w, S') ∧ ∀ ρ' J H', Ext ρ H ρ' H' → RepS K ρ' S' H' → ItOk K ρ' H' J w → R J H'
/-- operations -/
def rM (K : Ct) (o : M → M → Mo M) : R2 := fun x y H Q => ∃ ρ S mx my v S', RepS K ρ S H ∧ RV K ρ H mx x ∧ RV K ρ H my y ∧ o mx my S = some (v, S') ∧ Post K ρ H S' v Q
def rC (K : Ct) (o : List M → Mo M) : List V → Hp → VK → Prop := fun xs H Q => ∃ ρ S ms v S', RepS K ρ S H ∧ RVs K ρ H ms xs ∧ o ms S = some (v, S') ∧ Post K ρ H S' v Q
def rMt (K : Ct) (o : M → List M → Mo M) : V → List V → Hp → VK → Prop := fun x xs H Q => ∃ ρ S mx ms v S', RepS K ρ S H ∧ RV K ρ H mx x ∧ RVs K ρ H ms xs ∧ o mx ms S = some (v, S') ∧ Post K ρ H S' v Q
structure ME (K : Ct) (X : Cx) (e : Expr) (m : MSt → Mo M) : Prop where
  pe : PE X e (tM K m)
structure MA (K : Ct) (X : Cx) (es : List Expr) (m : MSt → Mo (List M)) : Prop where
  pa : PA X es (tMA K m)
structure MT (K : Ct) (X : Cx) (e : Expr) (m : MSt → Mo Bool) : Prop where
  pt : PT X e (tMT K m)
structure MW (K : Ct) (X : Cx) (e : Expr) (m : MSt → Mo Bool) : Prop where
  pw : PW X e (tMT K m)
structure MTs (K : Ct) (X : Cx) (es : List Expr) (m : MSt → Mo Bool) : Prop where
  pts : PTs X es (tMT K m)
structure MG (K : Ct) (X : Cx) (e : Expr) (g : M → MSt → Mo MSt) (vs : List Nat) : Prop where
  pg : PG X e (tMG K g vs)
structure MGs (K : Ct) (X : Cx) (es : List Expr) (g : List M → MSt → Mo MSt) (vs : List Nat) : Prop where
  pgs : PGs X es (tMGs K g vs)
structure MS (K : Ct) (X : Cx) (st : Stmt) (m : MSt → Mo Out) : Prop where
  ps : PS X st (tMS K m)
structure MSs (K : Ct) (X : Cx) (sts : List Stmt) (m : MSt → Mo Out) : Prop where
  pss : PSs X sts (tMS K m)
structure MI (K : Ct) (X : Cx) (tg e : Expr) (m : MSt → Mo Wk) : Prop where
  pi : PI X tg e (tMI K m)
structure OpM (K : Ct) (X : Cx) (f : Value → Value → Sem Value) (o : M → M → Mo M) : Prop where
  op : OpR X f (rM K o)
structure CallM (K : Ct) (X : Cx) (f : Value) (o : List M → Mo M) : Prop where
  cr : CallR X f (rC K o)
structure MethM (K : Ct) (X : Cx) (id : String) (o : M → List M → Mo M) : Prop where
  mt : MtR X id (rMt K o)
section
variable {K : Ct} {X : Cx}
theorem PE.imp {e : Expr} {t t' : TE} (h : PE X e t) (k : ∀ σ H Q, t' σ H Q → t σ H Q) : PE X e t' := fun pins s σ H Q I q => h pins s σ H Q I (k σ H Q q)
theorem ME.of {e : Expr} {t : TE} {m : MSt → Mo M} (h : PE X e t) (k : ∀ ρ σ S v S' σV H Q, RepS K ρ S H → Rσ K ρ H σ σV → m σ S = some (v, S') → Post K ρ H S' v Q → t σV H Q) : ME K X e m :=
  ⟨fun pins s σV H Q I ⟨ρ, σ, S, v, S', r, rs, e, q⟩ => h pins s σV H Q I (k ρ σ S v S' σV H Q r rs e q)⟩
theorem MT.of {e : Expr} {t : TT} {m : MSt → Mo Bool} (h : PT X e t) (k : ∀ ρ σ S b S' σV H (Q : Bool → Hp → Prop), RepS K ρ S H → Rσ K ρ H σ σV → m σ S = some (b, S') → (∀ ρ' H', Ext ρ H ρ' H' → RepS K ρ' S' H' → Q b H') → t σV H Q) : MT K X e m :=
  ⟨fun pins s σV H Q I ⟨ρ, σ, S, v, S', r, rs, e, q⟩ => h pins s σV H Q I (k ρ σ S v S' σV H Q r rs e q)⟩
theorem MW.of {e : Expr} {t : TT} {m : MSt → Mo Bool} (h : PW X e t) (k : ∀ ρ σ S b S' σV H (Q : Bool → Hp → Prop), RepS K ρ S H → Rσ K ρ H σ σV → m σ S = some (b, S') → (∀ ρ' H', Ext ρ H ρ' H' → RepS K ρ' S' H' → Q b H') → t σV H Q) : MW K X e m :=
  ⟨fun wh pins s σV H Q I ⟨ρ, σ, S, v, S', r, rs, e, q⟩ => h wh pins s σV H Q I (k ρ σ S v S' σV H Q r rs e q)⟩
theorem MA.of {es : List Expr} {t : TA} {m : MSt → Mo (List M)} (h : PA X es t) (k : ∀ ρ σ S vs S' σV H (Q : List V → Hp → Prop), RepS K ρ S H → Rσ K ρ H σ σV → m σ S = some (vs, S') → (∀ ρ' vs' H', Ext ρ H ρ' H' → RepS K ρ' S' H' → RVs K ρ' H' vs vs' → Q vs' H') → t σV H Q) : MA K X es m :=
  ⟨fun pos pins s σV H Q I ⟨ρ, σ, S, v, S', r, rs, e, q⟩ => h pos pins s σV H Q I (k ρ σ S v S' σV H Q r rs e q)⟩
theorem MS.of {st : Stmt} {t : TS} {m : MSt → Mo Out} (h : PS X st t) (k : ∀ ρ σ S o S' σV H D, RepS K ρ S H → Rσ K ρ H σ σV → m σ S = some (o, S') → OutOk K ρ H S' D o → t D σV H) : MS K X st m :=
  ⟨fun pins s σV H D I ⟨ρ, σ, S, v, S', r, rs, e, q⟩ => h pins s σV H D I (k ρ σ S v S' σV H D r rs e q)⟩
theorem OutOk.ext {ρ ρ1 : List Addr} {H H1 : Hp} {S' : Store} {D : Ends} {o : Out} (h : OutOk K ρ H S' D o) (e : Ext ρ H ρ1 H1) : OutOk K ρ1 H1 S' D o := by
  cases o <;> exact fun ρ' x H' e' r' q => h ρ' x H' (e.trans e') r' q
def mVar (i : Nat) : MSt → Mo M := fun σ S => match σ[i]? with
  | some (some v) => some (v, S)
  | _ => none
theorem me_var (i : Nat) {x : Str} {pos : Pos} (hN : X.N[i]? = some x := by rfl) (hv : Vis X.env.scope x := by first | exact Or.inl rfl | exact Or.inr (Or.inl rfl) | exact Or.inr (Or.inr rfl)) (hd : (x == ("__debug__" : Str)) = false := by decide)
    (hcd : (x == ("__classdict__" : Str)) = false := by decide) : ME K X (.Name x pos) (mVar i) := .of (pe_var hN hv hd hcd) fun ρ σ S v S' σV H Q r rs e q => by
  unfold mVar at e
  split at e
  · next v1 h =>
    cases e
    obtain ⟨u, h1, h2⟩ := rs.2 i _ h
    exact ⟨u, h1, q ρ u H (Ext.refl _ _) r h2⟩
  · cases e
def mC (v : M) : MSt → Mo M := fun _ => ret v
theorem me_int {i : Int} {j pos} : ME K X (.Constant (.int i) j pos) (mC (.int i)) := .of pe_int fun ρ σ S v S' σV H Q r rs e q => by cases e; exact q ρ _ H (Ext.refl _ _) r (.int i)
theorem me_bl {b : Bool} {j pos} : ME K X (.Constant (.bool b) j pos) (mC (.bl b)) := .of pe_bl fun ρ σ S v S' σV H Q r rs e q => by cases e; exact q ρ _ H (Ext.refl _ _) r (.bl b)
theorem me_str {x : Str} {j pos} : ME K X (.Constant (.str x) j pos) (mC (.str x)) := .of pe_str fun ρ σ S v S' σV H Q r rs e q => by cases e; exact q ρ _ H (Ext.refl _ _) r (.str x)
section
variable {a b c d : Expr} {ma mb mc md : MSt → Mo M} {pos : Pos}
def mOp (o : M → M → Mo M) (ma mb : MSt → Mo M) : MSt → Mo M := fun σ => bnd (ma σ) fun x => bnd (mb σ) fun y => o x y
theorem op_run {o : M → M → Mo M} {ρ : List Addr} {σ : MSt} {S S' : Store} {v : M} {σV : St} {H : Hp} {Q : VK} (r : RepS K ρ S H) (rs : Rσ K ρ H σ σV) (e : mOp o ma mb σ S = some (v, S')) (q : Post K ρ H S' v Q) : tOp (rM K o) (tM K ma) (tM K mb) σV H Q := by
  obtain ⟨x, S1, e1, e2⟩ := bnd_some e
  obtain ⟨y, S2, e2, e3⟩ := bnd_some e2
  refine ⟨ρ, σ, S, x, S1, r, rs, e1, fun ρ1 x' H1 E1 r1 rx => ?_⟩
  refine ⟨ρ1, σ, S1, y, S2, r1, rs.mono r E1, e2, fun ρ2 y' H2 E2 r2 ry => ?_⟩
  exact ⟨ρ2, S2, x, y, v, S', r2, rx.mono r1 E2, ry, e3, fun ρ3 v' H3 E3 r3 rv => q ρ3 v' H3 (E1.trans (E2.trans E3)) r3 rv⟩
theorem me_op {op : Operator} {o : M → M → Mo M} (ho : OpM K X (binaryOp op) o) (ha : ME K X a ma) (hb : ME K X b mb) : ME K X (.BinOp a op b pos) (mOp o ma mb) :=
  .of (pe_op ho.op ha.pe hb.pe) fun ρ σ S v S' σV H Q r rs e q => op_run r rs e q
theorem me_cmp {op : CmpOp} {o : M → M → Mo M} (ho : OpM K X (compareOp op) o) (ha : ME K X a ma) (hb : ME K X b mb) (hm : behindInMarks op b = false) : ME K X (.Compare a [op] [b] pos) (mOp o ma mb) :=
  .of (pe_cmpR ho.op ha.pe hb.pe hm) fun ρ σ S v S' σV H Q r rs e q => op_run r rs e q
/-- a truth -/
def isB (v : M) : Mo Bool := match v with
  | .bl b => ret b
  | _ => fail
theorem isB_some {v : M} {S S' : Store} {b : Bool} (h : isB v S = some (b, S')) : v = .bl b ∧ S' = S := by
  cases v <;> first | (cases h; exact ⟨rfl, rfl⟩) | cases h
theorem RV.bl_inv {ρ : List Addr} {H : Hp} {b : Bool} {v : V} (h : RV K ρ H (.bl b) v) : v = .bl b := by cases h; rfl
def mB (m : MSt → Mo M) : MSt → Mo Bool := fun σ => bnd (m σ) isB
theorem mt_cmp {op : CmpOp} {o : M → M → Mo M} (ho : OpM K X (compareOp op) o) (ha : ME K X a ma) (hb : ME K X b mb) (hm : behindInMarks op b = false) : MT K X (.Compare a [op] [b] pos) (mB (mOp o ma mb)) :=
  .of (pt_cmpR ho.op ha.pe hb.pe hm) fun ρ σ S k S' σV H Q r rs e q => by
    obtain ⟨v, S1, e1, e2⟩ := bnd_some e
    obtain ⟨rfl, rfl⟩ := isB_some e2
    exact op_run r rs e1 fun ρ' v' H' E r' rv => ⟨k, rv.bl_inv, q ρ' H' E r'⟩
/-- a value's truth -/
def truM (v : M) : Mo Bool := fun S => match v with
  | .non => some (false, S)
  | .bl b => some (b, S)
  | .int i => some (i != 0, S)
  | .str y => if y.length ≤ sizeLine then some ((y.length : Int) != 0, S) else none
  | .tup xs => some (!xs.isEmpty, S)
  | .ro xs => some (!xs.isEmpty, S)
  | .fz xs => some (!xs.isEmpty, S)
  | .loc n => match S[n]? with
    | some (.lst xs) => some (!xs.isEmpty, S)
    | some (.dK kvs) => some (!kvs.isEmpty, S)
    | _ => none
theorem RVs.empty {ρ : List Addr} {H : Hp} {xs : List M} {vs : List V} (h : RVs K ρ H xs vs) : vs.isEmpty = xs.isEmpty := by cases h <;> rfl
theorem truM_ok {ρ : List Addr} {H : Hp} {S S' : Store} {v : M} {v' : V} {k : Bool} (r : RepS K ρ S H) (rv : RV K ρ H v v') (e : truM v S = some (k, S')) : S' = S ∧ TruV K.K v' H k := by
  cases rv with
  | non => cases e; exact ⟨rfl, rfl⟩
  | bl b => cases e; exact ⟨rfl, rfl⟩
  | int i => cases e; exact ⟨rfl, rfl⟩
  | str x =>
    have e' : (if x.length ≤ sizeLine then some ((x.length : Int) != 0, S) else none) = some (k, S') := e
    split at e'
    · cases e'; exact ⟨rfl, by assumption, rfl⟩
    · cases e'
  | tup h t => cases e; exact ⟨rfl, .inr (.inl ⟨_, h, by rw [t.empty]⟩)⟩
  | ro h =>
    cases e
    refine ⟨rfl, .inl ⟨_, h.sq, ?_⟩⟩
    rw [List.isEmpty_map]
  | fz h t => cases e; exact ⟨rfl, .inl ⟨_, .inl (.inr ⟨_, h⟩), by rw [t.empty]⟩⟩
  | @loc n a h =>
    have e' : (match S[n]? with
      | some (.lst xs) => some (!xs.isEmpty, S)
      | some (.dK kvs) => some (!kvs.isEmpty, S)
      | _ => (none : Option (Bool × Store))) = some (k, S') := e
    split at e'
    · next xs hx =>
      cases e'
      obtain ⟨a, o, h1, h2, h3⟩ := r.at hx
      rw [h] at h1; cases h1
      cases h3 with
      | lst h3 => exact ⟨rfl, .inl ⟨_, SqL.of h2, by rw [h3.empty]⟩⟩
    · next kvs hx =>
      cases e'
      obtain ⟨a, o, h1, h2, h3⟩ := r.at hx
      rw [h] at h1; cases h1
      cases h3 with
      | dK h3 h4 => exact ⟨rfl, .inr (.inr ⟨_, h2, by
          have := congrArg List.isEmpty h3
          rw [List.isEmpty_map, List.isEmpty_map] at this
          rw [this]⟩)⟩
    · cases e'
def mTru (m : MSt → Mo M) : MSt → Mo Bool := fun σ => bnd (m σ) truM
theorem mt_truth (hK : X.K = K.K) (ha : ME K X a ma) (he : ∀ whole, isTrue a X.env whole = (do let v ← whole; standAt a.pos; holding [v] (truthy v)) := by intro _; rfl) : MT K X a (mTru ma) :=
  .of (pt_truth ha.pe he) fun ρ σ S k S' σV H Q r rs e q => by
    obtain ⟨v, S1, e1, e2⟩ := bnd_some e
    refine ⟨ρ, σ, S, v, S1, r, rs, e1, fun ρ1 v' H1 E1 r1 rv => ?_⟩
    obtain ⟨rfl, h⟩ := truM_ok r1 rv e2
    exact ⟨k, hK ▸ h, q ρ1 H1 E1 r1⟩
variable {ta tb : MSt → Mo Bool}
theorem MW.mt (h : MW K X a ta) : MT K X a ta := ⟨h.pw.pt⟩
theorem mw_and1 (ha : MT K X a ta) : MW K X (.BoolOp .And [a] pos) ta := ⟨pw_and1 ha.pt⟩
theorem mw_or1 (ha : MT K X a ta) : MW K X (.BoolOp .Or [a] pos) ta := ⟨pw_or1 ha.pt⟩
def mAndT (ta tb : MSt → Mo Bool) : MSt → Mo Bool := fun σ => bnd (ta σ) fun k => if k = true then tb σ else ret false
def mOrT (ta tb : MSt → Mo Bool) : MSt → Mo Bool := fun σ => bnd (ta σ) fun k => if k = true then ret true else tb σ
def mNotT (ta : MSt → Mo Bool) : MSt → Mo Bool := fun σ => bnd (ta σ) fun k => ret (!k)
theorem mw_and {rest : List Expr} (ha : MT K X a ta) (hb : MW K X (.BoolOp .And (b :: rest) pos) tb) : MW K X (.BoolOp .And (a :: b :: rest) pos) (mAndT ta tb) :=
  .of (pw_and ha.pt hb.pw) fun ρ σ S v S' σV H Q r rs e q => by
    replace e := bnd_some e
    obtain ⟨k, S1, e1, e⟩ := e
    refine ⟨ρ, σ, S, k, S1, r, rs, e1, fun ρ1 H1 E1 r1 => ?_⟩
    cases k with
    | true =>
      rw [if_pos rfl] at e ⊢
      exact ⟨ρ1, σ, _, v, S', r1, rs.mono r E1, e, fun ρ2 H2 E2 => q ρ2 H2 (E1.trans E2)⟩
    | false =>
      rw [if_neg Bool.false_ne_true] at e ⊢
      cases e
      exact q ρ1 H1 E1 r1
theorem mw_or {rest : List Expr} (ha : MT K X a ta) (hb : MW K X (.BoolOp .Or (b :: rest) pos) tb) : MW K X (.BoolOp .Or (a :: b :: rest) pos) (mOrT ta tb) :=
  .of (pw_or ha.pt hb.pw) fun ρ σ S v S' σV H Q r rs e q => by
    replace e := bnd_some e
    obtain ⟨k, S1, e1, e⟩ := e
    refine ⟨ρ, σ, S, k, S1, r, rs, e1, fun ρ1 H1 E1 r1 => ?_⟩
    cases k with
    | true =>
      rw [if_pos rfl] at e ⊢
      cases e
      exact q ρ1 H1 E1 r1
    | false =>
      rw [if_neg Bool.false_ne_true] at e ⊢
      exact ⟨ρ1, σ, _, v, S', r1, rs.mono r E1, e, fun ρ2 H2 E2 => q ρ2 H2 (E1.trans E2)⟩
theorem mt_not (ha : MT K X a ta) : MT K X (.UnaryOp .Not a pos) (mNotT ta) :=
  .of (pt_not ha.pt) fun ρ σ S v S' σV H Q r rs e q => by
    replace e := bnd_some e
    obtain ⟨k, S1, e1, e⟩ := e
    cases e
    exact ⟨ρ, σ, S, k, _, r, rs, e1, fun ρ1 H1 E1 r1 => q ρ1 H1 E1 r1⟩
def mYes : MSt → Mo Bool := fun _ => ret true
theorem mts_nil : MTs K X [] mYes := ⟨fun pins s σV H Q I ⟨ρ, σ, S, v, S', r, rs, e, q⟩ => pts_nil pins s σV H Q I (by cases e; exact q ρ H (Ext.refl _ _) r)⟩
end
section
variable {e : Expr} {es : List Expr} {m : MSt → Mo M} {ms : MSt → Mo (List M)} {pos : Pos}
def aNil : MSt → Mo (List M) := fun _ => ret []
def aCons (m : MSt → Mo M) (ms : MSt → Mo (List M)) : MSt → Mo (List M) := fun σ => bnd (m σ) fun x => bnd (ms σ) fun xs => ret (x :: xs)
theorem ma_nil : MA K X [] aNil := .of pa_nil fun ρ σ S v S' σV H Q r rs e q => by cases e; exact q ρ _ H (Ext.refl _ _) r .nil
theorem ma_cons (ha : ME K X e m) (hr : MA K X es ms) (hs : starEach (e :: es) X.env = (false, eval e X.env) :: starEach es X.env := by rfl) : MA K X (e :: es) (aCons m ms) :=
  .of (pa_cons ha.pe hr.pa hs) fun ρ σ S v S' σV H Q r rs e q => by
    replace e := bnd_some e
    obtain ⟨x, S1, e1, e⟩ := e
    replace e := bnd_some e
    obtain ⟨xs, S2, e2, e⟩ := e
    cases e
    refine ⟨ρ, σ, S, x, S1, r, rs, e1, fun ρ1 x' H1 E1 r1 rx => ?_⟩
    exact ⟨ρ1, σ, S1, xs, _, r1, rs.mono r E1, e2, fun ρ2 xs' H2 E2 r2 rxs => q ρ2 _ H2 (E1.trans E2) r2 (.cons (rx.mono r1 E2) rxs)⟩
def mTup (ms : MSt → Mo (List M)) : MSt → Mo M := fun σ => bnd (ms σ) fun xs S => if xs.length ≤ sizeLine then some (.tup xs, S) else none
def newL (xs : List M) : Mo M := fun S => if xs.length ≤ sizeLine then some (.loc S.length, S ++ [.lst xs]) else none
/-- a new list that is never changed -/
def newF (xs : List M) : Mo M := fun S => if xs.length ≤ sizeLine then some (.fz xs, S) else none
def mLst (ms : MSt → Mo (List M)) : MSt → Mo M := fun σ => bnd (ms σ) newL
theorem newL_some {xs : List M} {S S' : Store} {v : M} (h : newL xs S = some (v, S')) : xs.length ≤ sizeLine ∧ v = .loc S.length ∧ S' = S ++ [.lst xs] := by
  unfold newL at h
  split at h
  · cases h; exact ⟨by assumption, rfl, rfl⟩
  · cases h
/-- a new list: it gets the next number -/
theorem newL_ok {ρ : List Addr} {S S' : Store} {H : Hp} {xs : List M} {vs : List V} {v : M} {Q : VK} {p : Addr} (r : RepS K ρ S H) (rv : RVs K ρ H xs vs) (h : newL xs S = some (v, S')) (hp : H p = none) (q : Post K ρ H S' v Q) : Q (.ref p) (upd H p (.lst vs)) := by
  obtain ⟨_, rfl, rfl⟩ := newL_some h
  obtain ⟨E, r'⟩ := r.push (b := .lst xs) hp (.lst rv)
  exact q _ _ _ E r' (.loc (by rw [← r.len, List.getElem?_append_right (Nat.le_refl _), Nat.sub_self]; rfl))
/-- locked, or as it is -/
def LkQ (Q : VK) : VK := fun v H => (∃ d xs, v = .ref d ∧ H d = some (.lst xs) ∧ ∀ od, Q v (upd H d (.frz od (.lst xs)))) ∨ Q v H
theorem unlk {t : Sem Value} {Mod : Model} {A : Around} {E : Value → Shared → Prop} {pins : List (Addr × Obj)} {σ : St} {s : Shared} {Q : VK} (h : wpAny Mod A t (EP X pins σ (LkQ Q)) E s) : wpAny Mod A t (EP X pins σ Q) E s :=
  thn h fun u s' ⟨v, H', I, rv, q⟩ => by
    rcases q with ⟨d, xs, rfl, hd, q⟩ | q
    · obtain ⟨od, I2⟩ := I.lock hd trivial
      exact ⟨_, _, I2, rv, q od⟩
    · exact ⟨v, H', I, rv, q⟩
theorem Post.lk {ρ : List Addr} {H : Hp} {S : Store} {w : M} {Q : VK} (q : Post K ρ H S w Q) : Post K ρ H S w (LkQ Q) := fun ρ' v' H' E r rv => .inr (q ρ' v' H' E r rv)
/-- how a list is made -/
structure Alc (K : Ct) (al : List M → Mo M) : Prop where
  len : ∀ {xs S r}, al xs S = some r → xs.length ≤ sizeLine
  go : ∀ {ρ H S S' xs vs w Q p}, Post K ρ H S' w Q → RepS K ρ S H → RVs K ρ H xs vs → al xs S = some (w, S') → H p = none → LkQ Q (.ref p) (upd H p (.lst vs))
theorem newF_some {xs : List M} {S S' : Store} {v : M} (h : newF xs S = some (v, S')) : xs.length ≤ sizeLine ∧ v = .fz xs ∧ S' = S := by
  unfold newF at h
  split at h
  · cases h; exact ⟨by assumption, rfl, rfl⟩
  · cases h
theorem alcF : Alc K newF := ⟨fun {xs S r} h => (newF_some (v := r.1) (S' := r.2) h).1, fun {ρ H S S' xs vs w Q p} q r rv e hp => by
  obtain ⟨_, rfl, rfl⟩ := newF_some e
  refine .inl ⟨p, vs, rfl, upd_same, fun od => ?_⟩
  rw [upd_upd]
  obtain ⟨E2, r2⟩ := r.side (o := .frz od (.lst vs)) hp
  exact q ρ _ _ E2 r2 (.fz upd_same (rv.mono r E2))⟩
theorem me_tup {x1} (h : MA K X es ms) : ME K X (.Tuple es x1 pos) (mTup ms) :=
  .of (pe_tup h.pa) fun ρ σ S v S' σV H Q r rs e q => by
    replace e := bnd_some e
    obtain ⟨xs, S1, e1, e⟩ := e
    split at e
    · next hl =>
      cases e
      refine ⟨ρ, σ, S, xs, _, r, rs, e1, fun ρ1 vs H1 E1 r1 rv => ⟨by rw [← rv.len]; exact hl, fun p hp => ?_⟩⟩
      obtain ⟨E2, r2⟩ := r1.side (o := .tup vs) hp
      exact q ρ1 _ _ (E1.trans E2) r2 (.tup (SqT.of upd_same) (rv.mono r1 E2))
    · cases e
theorem me_lst (h : MA K X es ms) : ME K X (.List es pos) (mLst ms) :=
  .of (pe_lst h.pa) fun ρ σ S v S' σV H Q r rs e q => by
    replace e := bnd_some e
    obtain ⟨xs, S1, e1, e⟩ := e
    refine ⟨ρ, σ, S, xs, _, r, rs, e1, fun ρ1 vs H1 E1 r1 rv => ⟨by rw [← rv.len]; exact (newL_some e).1, fun p hp => ?_⟩⟩
    exact newL_ok r1 rv e hp fun ρ2 v' H2 E2 => q ρ2 v' H2 (E1.trans E2)
end
end
end Em
set_option Elab.async false
set_option maxRecDepth 100000
set_option linter.all false
namespace Em
open PySem L2
section
variable {K : Ct} {X : Cx}
def wipeM (σ : MSt) : List Nat → MSt
  | [] => σ
  | v :: vs => (wipeM σ vs).set v none
theorem wipe_get (σ : St) (i : Nat) : ∀ vs : List Nat, (wipe σ vs)[i]? = if i ∈ vs then (σ[i]?).map (fun _ => none) else σ[i]?
  | [] => by simp [wipe]
  | v :: vs => by
    have ih := wipe_get σ i vs
    show ((wipe σ vs).set v none)[i]? = _
    rw [List.getElem?_set]
    by_cases e : v = i
    · subst e
      rw [wipe_length]
      by_cases hl : v < σ.length
      · simp [hl]
      · simp [hl]
    · rw [if_neg e, ih]
      have : (i ∈ v :: vs) ↔ i ∈ vs := by
        rw [List.mem_cons]
        exact ⟨fun h => h.resolve_left fun z => e z.symm, Or.inr⟩
      simp only [this]
theorem wipeM_get (σ : MSt) (i : Nat) : ∀ vs : List Nat, (wipeM σ vs)[i]? = if i ∈ vs then (σ[i]?).map (fun _ => none) else σ[i]?
  | [] => by simp [wipeM]
  | v :: vs => by
    have ih := wipeM_get σ i vs
    show ((wipeM σ vs).set v none)[i]? = _
    rw [List.getElem?_set]
    have hle : (wipeM σ vs).length = σ.length := by
      clear ih
      induction vs with
      | nil => rfl
      | cons w ws ih => show ((wipeM σ ws).set w none).length = _; rw [List.length_set, ih]
    by_cases e : v = i
    · subst e
      rw [hle]
      by_cases hl : v < σ.length
      · simp [hl]
      · simp [hl]
    · rw [if_neg e, ih]
      have : (i ∈ v :: vs) ↔ i ∈ vs := by
        rw [List.mem_cons]
        exact ⟨fun h => h.resolve_left fun z => e z.symm, Or.inr⟩
      simp only [this]
theorem wipeM_length (σ : MSt) : ∀ vs : List Nat, (wipeM σ vs).length = σ.length
  | [] => rfl
  | v :: vs => by show ((wipeM σ vs).set v none).length = _; rw [List.length_set, wipeM_length σ vs]
theorem wipe_twice (σ : St) (vs : List Nat) : wipe (wipe σ vs) vs = wipe σ vs := by
  apply List.ext_getElem?
  intro i
  rw [wipe_get, wipe_get]
  by_cases h : i ∈ vs
  · rw [if_pos h, if_pos h]
    cases σ[i]? <;> rfl
  · rw [if_neg h, if_neg h]
/-- fewer are wiped alike: more are -/
theorem wipe_more {σ σ' : St} {vs ws : List Nat} (h : wipe σ' vs = wipe σ vs) (hs : ∀ i ∈ vs, i ∈ ws) : wipe σ' ws = wipe σ ws := by
  apply List.ext_getElem?
  intro i
  rw [wipe_get, wipe_get]
  have hi : (wipe σ' vs)[i]? = (wipe σ vs)[i]? := by rw [h]
  have hl : σ'.length = σ.length := by have := congrArg List.length h; rwa [wipe_length, wipe_length] at this
  by_cases hw : i ∈ ws
  · rw [if_pos hw, if_pos hw]
    by_cases hz : i < σ.length
    · rw [List.getElem?_eq_getElem hz, List.getElem?_eq_getElem (by rw [hl]; exact hz)]; rfl
    · rw [List.getElem?_eq_none (Nat.le_of_not_lt hz), List.getElem?_eq_none (by rw [hl]; exact Nat.le_of_not_lt hz)]
  · rw [if_neg hw, if_neg hw]
    rw [wipe_get, wipe_get, if_neg (fun z => hw (hs i z)), if_neg (fun z => hw (hs i z))] at hi
    exact hi
theorem Rσ.wipe {ρ : List Addr} {H : Hp} {σ : MSt} {σV : St} (h : Rσ K ρ H σ σV) (vs : List Nat) : Rσ K ρ H (wipeM σ vs) (L2.wipe σV vs) := by
  refine ⟨by rw [wipeM_length, wipe_length]; exact h.1, fun i x q => ?_⟩
  rw [wipeM_get] at q
  by_cases hi : i ∈ vs
  · rw [if_pos hi] at q
    cases e : σ[i]? <;> rw [e] at q <;> cases q
  · rw [if_neg hi] at q
    obtain ⟨v, h1, h2⟩ := h.2 i x q
    exact ⟨v, by rw [wipe_get, if_neg hi]; exact h1, h2⟩
def gN (i : Nat) : M → MSt → Mo MSt := fun v σ => ret (σ.set i (some v))
theorem MG.of {e : Expr} {t : TG} {g : M → MSt → Mo MSt} {vs : List Nat} (h : PG X e t) (k : ∀ ρ σ S x σ' S' v σV H (Q : St → Hp → Prop), RepS K ρ S H → Rσ K ρ H σ σV → RV K ρ H x v → g x σ S = some (σ', S') →
    (∀ ρ' σV' H', Ext ρ H ρ' H' → RepS K ρ' S' H' → Rσ K ρ' H' σ' σV' → L2.wipe σV' vs = L2.wipe σV vs → Q σV' H') → t v σV H Q) : MG K X e g vs :=
  ⟨fun pins s σV H v u Q I rv ⟨ρ, σ, S, x, σ', S', r, rs, rx, e, q⟩ => h pins s σV H v u Q I rv (k ρ σ S x σ' S' v σV H Q r rs rx e q)⟩
theorem mg_name {i : Nat} {x : Str} {pos : Pos} (hN : X.N.Nodup) (hi : X.N[i]? = some x) (hx : Loc X.env.scope x) (hf : X.fn x = true ∨ X.env.scope.names.lookup x = some .local := by first | exact .inl rfl | exact .inr rfl | assumption) : MG K X (.Name x pos) (gN i) [i] :=
  .of (pg_name hN hi hx hf) fun ρ σ S x σ' S' v σV H Q r rs rx e q => by
    cases e
    refine q ρ _ H (Ext.refl _ _) r (rs.set rx i) ?_
    show ((σV.set i (some v)).set i none) = σV.set i none
    rw [List.set_set]
def gsNil : List M → MSt → Mo MSt := fun vs σ => match vs with
  | [] => ret σ
  | _ => fail
def gsCons (g : M → MSt → Mo MSt) (gs : List M → MSt → Mo MSt) : List M → MSt → Mo MSt := fun vs σ => match vs with
  | v :: r => bnd (g v σ) fun σ' => gs r σ'
  | [] => fail
theorem mgs_nil : MGs K X [] gsNil [] := ⟨fun pins s σV H v u Q I rv ⟨ρ, σ, S, x, σ', S', r, rs, rx, e, q⟩ => pgs_nil pins s σV H v u Q I rv (by
  cases rx with
  | nil => cases e; exact ⟨rfl, q ρ _ H (Ext.refl _ _) r rs rfl⟩
  | cons a b => cases e)⟩
theorem mgs_cons {e : Expr} {es : List Expr} {g : M → MSt → Mo MSt} {gs : List M → MSt → Mo MSt} {vs ws : List Nat} (h1 : MG K X e g vs) (h2 : MGs K X es gs ws)
    (hs : (assignEach (e :: es) X.env).map (·.2) = assign e X.env :: (assignEach es X.env).map (·.2) := by rfl) : MGs K X (e :: es) (gsCons g gs) (vs ++ ws) :=
  ⟨fun pins s σV H v u Q I rv ⟨ρ, σ, S, x, σ', S', r, rs, rx, e, q⟩ => pgs_cons h1.pg h2.pgs hs pins s σV H v u Q I rv (by
    cases rx with
    | nil => cases e
    | cons a b =>
      replace e := bnd_some e
      obtain ⟨σ1, S1, e1, e⟩ := e
      refine ⟨_, _, rfl, ρ, σ, S, _, σ1, S1, r, rs, a, e1, fun ρ1 σ1V H1 E1 r1 rs1 w1 => ?_⟩
      exact ⟨ρ1, σ1, S1, _, σ', S', r1, rs1, b.mono r E1, e, fun ρ2 σ2V H2 E2 r2 rs2 w2 => q ρ2 σ2V H2 (E1.trans E2) r2 rs2
        ((wipe_more w2 fun i h => List.mem_append_right _ h).trans (wipe_more w1 fun i h => List.mem_append_left _ h))⟩)⟩
/-- the parts of a tuple -/
def gT (n : Nat) (gs : List M → MSt → Mo MSt) : M → MSt → Mo MSt := fun v σ => match v with
  | .tup xs => if xs.length = n then gs xs σ else fail
  | _ => fail
theorem mg_tup {es : List Expr} {k : Nat} {gs : List M → MSt → Mo MSt} {n : Nat} {vs : List Nat} {pos : Pos} (hK : X.K = K.K) (hc : X.calm = true) (h : MGs K X es gs vs)
    (hn : (assignEach es X.env).length = n := by rfl) (hst : (assignEach es X.env).findIdx? (·.1) = none := by rfl) : MG K X (.Tuple es k pos) (gT n gs) vs :=
  .of (pg_tup hc h.pgs hn hst) fun ρ σ S x σ' S' v σV H Q r rs rx e q => by
    cases rx with
    | tup h1 h2 =>
      have e' : (if _ = n then gs _ σ else fail) S = some (σ', S') := e
      split at e'
      · next hl => exact ⟨_, _, rfl, hK ▸ h1, by rw [← h2.len]; exact hl, ρ, σ, S, _, σ', S', r, rs, h2, e', q⟩
      · cases e'
    | _ => cases e
/-- the place in a list -/
def setM (o i v : M) : Mo Unit := fun S => match o, i with
  | .loc n, .int k => match S[n]? with
    | some (.lst xs) => match ixN xs.length k with
      | some j => some ((), S.set n (.lst (xs.set j v)))
      | none => none
    | _ => none
  | _, _ => none
def gS (mo mi : MSt → Mo M) : M → MSt → Mo MSt := fun v σ => bnd (mo σ) fun o => bnd (mi σ) fun i => bnd (setM o i v) fun _ => ret σ
theorem mg_sub {o i : Expr} {mo mi : MSt → Mo M} {pos : Pos} (ho : ME K X o mo) (hi : ME K X i mi)
    (ha : ∀ v, assign (.Subscript o i pos) X.env v = (do
      let ov ← holding [v] (eval o X.env)
      let iv ← holding [v, ov] (eval i X.env)
      standAt pos
      holding [v, ov, iv] (setItem ov iv v)
      release [v, ov, iv] []) := by intro _; rfl) : MG K X (.Subscript o i pos) (gS mo mi) [] :=
  .of (pg_sub ho.pe hi.pe set_list ha) fun ρ σ S x σ' S' v σV H Q r rs rx e q => by
    replace e := bnd_some e
    obtain ⟨om, S1, e1, e⟩ := e
    replace e := bnd_some e
    obtain ⟨im, S2, e2, e⟩ := e
    replace e := bnd_some e
    obtain ⟨⟨⟩, S3, e3, e⟩ := e
    cases e
    refine ⟨ρ, σ, S, om, S1, r, rs, e1, fun ρ1 ov H1 E1 r1 ro => ?_⟩
    refine ⟨ρ1, σ, S1, im, S2, r1, rs.mono r E1, e2, fun ρ2 iv H2 E2 r2 ri => ?_⟩
    have ro2 := ro.mono r1 E2
    have rx2 := (rx.mono r E1).mono r1 E2
    have rs2 := (rs.mono r E1).mono r1 E2
    unfold setM at e3
    split at e3
    · next n k =>
      split at e3
      · next xs hx =>
        split at e3
        · next j hj =>
          cases e3
          obtain ⟨a, ob, h1, h2, h3⟩ := r2.at hx
          cases ro2 with
          | loc hl =>
            rw [hl] at h1; cases h1
            cases ri
            cases h3 with
            | lst h3 =>
              obtain ⟨E3, r3⟩ := r2.put hl (b := .lst (xs.set j x)) (.lst (h3.set rx2 j))
              exact ⟨_, _, k, j, rfl, rfl, h2, by rw [← h3.len]; exact hj, q ρ2 σV _ (E1.trans (E2.trans E3)) r3 (rs2.mono r2 E3) rfl⟩
        · cases e3
      · cases e3
    · cases e3
section
variable {st : Stmt} {sts : List Stmt} {m m1 m2 : MSt → Mo Out} {e : Expr} {me : MSt → Mo M} {pos : Pos}
def sNext : MSt → Mo Out := fun σ => ret (.nx σ)
def sSeq (m1 m2 : MSt → Mo Out) : MSt → Mo Out := fun σ => bnd (m1 σ) fun o => match o with
  | .nx σ' => m2 σ'
  | .rt v => ret (.rt v)
  | .bk σ' => ret (.bk σ')
  | .ct σ' => ret (.ct σ')
theorem mss_nil : MSs K X [] sNext := ⟨fun pins s σV H D I ⟨ρ, σ, S, v, S', r, rs, e, q⟩ => pss_nil pins s σV H D I (by cases e; exact q ρ σV H (Ext.refl _ _) r rs)⟩
theorem mss_one (h : MS K X st m) : MSs K X [st] m := ⟨pss_one h.ps⟩
theorem mss_cons (h1 : MS K X st m1) (h2 : MSs K X sts m2) : MSs K X (st :: sts) (sSeq m1 m2) :=
  ⟨fun pins s σV H D I ⟨ρ, σ, S, o, S', r, rs, e, q⟩ => pss_cons h1.ps h2.pss pins s σV H D I (by
    replace e := bnd_some e
    obtain ⟨o1, S1, e1, e⟩ := e
    refine ⟨ρ, σ, S, o1, S1, r, rs, e1, ?_⟩
    cases o1 with
    | nx σ' => exact fun ρ1 σ1V H1 E1 r1 rs1 => ⟨ρ1, σ', S1, o, S', r1, rs1, e, q.ext E1⟩
    | rt v => cases e; exact q
    | bk σ' => cases e; exact q
    | ct σ' => cases e; exact q)⟩
def sDrop (m : MSt → Mo M) : MSt → Mo Out := fun σ => bnd (m σ) fun _ => ret (.nx σ)
theorem ms_expr (he : ME K X e me) (hs : swapsWith e none pos.line X.env = pure false := by rfl) : MS K X (.Expr e pos) (sDrop me) :=
  .of (ps_expr he.pe hs) fun ρ σ S o S' σV H D r rs e q => by
    replace e := bnd_some e
    obtain ⟨v, S1, e1, e⟩ := e
    cases e
    exact ⟨ρ, σ, S, v, _, r, rs, e1, fun ρ1 v' H1 E1 r1 _ => q ρ1 σV H1 E1 r1 (rs.mono r E1)⟩
def sRet (m : MSt → Mo M) : MSt → Mo Out := fun σ => bnd (m σ) fun v => ret (.rt v)
theorem ms_ret (he : ME K X e me) : MS K X (.Return (some e) pos) (sRet me) :=
  .of (ps_ret he.pe) fun ρ σ S o S' σV H D r rs e q => by
    replace e := bnd_some e
    obtain ⟨v, S1, e1, e⟩ := e
    cases e
    exact ⟨ρ, σ, S, v, _, r, rs, e1, q⟩
def sIf (mt : MSt → Mo Bool) (m1 m2 : MSt → Mo Out) : MSt → Mo Out := fun σ => bnd (mt σ) fun k => if k = true then m1 σ else m2 σ
theorem ms_if {c : Expr} {a b : List Stmt} {mt : MSt → Mo Bool} (hc : MT K X c mt) (ha : MSs K X a m1) (hb : MSs K X b m2) : MS K X (.If c a b pos) (sIf mt m1 m2) :=
  .of (ps_if hc.pt ha.pss hb.pss) fun ρ σ S o S' σV H D r rs e q => by
    replace e := bnd_some e
    obtain ⟨k, S1, e1, e⟩ := e
    refine ⟨ρ, σ, S, k, S1, r, rs, e1, fun ρ1 H1 E1 r1 => ?_⟩
    cases k with
    | true =>
      rw [if_pos rfl] at e ⊢
      exact ⟨ρ1, σ, S1, o, S', r1, rs.mono r E1, e, q.ext E1⟩
    | false =>
      rw [if_neg Bool.false_ne_true] at e ⊢
      exact ⟨ρ1, σ, S1, o, S', r1, rs.mono r E1, e, q.ext E1⟩
def sAsg (m : MSt → Mo M) (g : M → MSt → Mo MSt) : MSt → Mo Out := fun σ => bnd (m σ) fun v => bnd (g v σ) fun σ' => ret (.nx σ')
theorem asg_run {g : M → MSt → Mo MSt} {vs : List Nat} {ρ : List Addr} {σ : MSt} {S S' : Store} {o : Out} {σV : St} {H : Hp} {D : Ends} (r : RepS K ρ S H) (rs : Rσ K ρ H σ σV) (e : sAsg me g σ S = some (o, S')) (q : OutOk K ρ H S' D o) :
    tAsg (tM K me) (tMG K g vs) D σV H := by
  replace e := bnd_some e
  obtain ⟨v, S1, e1, e⟩ := e
  replace e := bnd_some e
  obtain ⟨σ', S2, e2, e⟩ := e
  cases e
  refine ⟨ρ, σ, S, v, S1, r, rs, e1, fun ρ1 v' H1 E1 r1 rv => ?_⟩
  exact ⟨ρ1, σ, S1, v, σ', _, r1, rs.mono r E1, rv, e2, fun ρ2 σ2V H2 E2 r2 rs2 _ => q ρ2 σ2V H2 (E1.trans E2) r2 rs2⟩
theorem ms_asg {tg : Expr} {g : M → MSt → Mo MSt} {vs : List Nat} (he : ME K X e me) (hg : MG K X tg g vs) (hs : swapsWithSole [tg] e pos.line X.env = pure false := by rfl) (hw : swappedStores [tg] e X.env = pure none := by rfl)
    (h1 : (assignEach [tg] X.env).map (·.2) = [assign tg X.env] := by rfl) : MS K X (.Assign [tg] e pos) (sAsg me g) :=
  .of (ps_asg he.pe hg.pg hs hw h1) fun ρ σ S o S' σV H D r rs e q => asg_run r rs e q
theorem asg_name {i : Nat} {ρ : List Addr} {σ : MSt} {S S' : Store} {o : Out} {σV : St} {H : Hp} {D : Ends} (r : RepS K ρ S H) (rs : Rσ K ρ H σ σV) (e : sAsg me (gN i) σ S = some (o, S')) (q : OutOk K ρ H S' D o) {te : TE}
    (ht : ∀ Q, tM K me σV H Q → te σV H Q) : tAsg te (gName i) D σV H := by
  replace e := bnd_some e
  obtain ⟨v, S1, e1, e⟩ := e
  cases e
  exact ht _ ⟨ρ, σ, S, v, _, r, rs, e1, fun ρ1 v' H1 E1 r1 rv => q ρ1 _ H1 E1 r1 ((rs.mono r E1).set rv i)⟩
theorem ms_set {i : Nat} {x : Str} {pos' : Pos} (hN : X.N.Nodup) (hi : X.N[i]? = some x) (hx : Loc X.env.scope x) (he : ME K X e me) (hs : swapsWith e (some (.Name x pos')) pos.line X.env = pure false := by rfl)
    (hf : X.fn x = true ∨ X.env.scope.names.lookup x = some .local := by first | exact .inl rfl | exact .inr rfl | assumption) : MS K X (.Assign [.Name x pos'] e pos) (sAsg me (gN i)) :=
  .of (ps_set hN hi hx he.pe hs hf) fun ρ σ S o S' σV H D r rs e q => asg_name r rs e q fun _ h => h
def sPar (i j : Nat) (ma : MSt → Mo (List M)) : MSt → Mo Out := fun σ => bnd (ma σ) fun vs => match vs with
  | [v, w] => ret (.nx ((σ.set i (some v)).set j (some w)))
  | _ => fail
/-- while: by so many turns at most -/
def sWhile (mt : MSt → Mo Bool) (mb : MSt → Mo Out) : Nat → MSt → Mo Out
  | 0, _ => fail
  | n + 1, σ => bnd (mt σ) fun k => if k = true then bnd (mb σ) fun o => match o with
      | .nx σ' => sWhile mt mb n σ'
      | .ct σ' => sWhile mt mb n σ'
      | .bk σ' => ret (.nx σ')
      | .rt v => ret (.rt v)
    else ret (.nx σ)
end
open Classical in
noncomputable def guardW {α : Type} (w : Wk) (c : Mo α) : Mo α := fun S => if w.kept S then c S else none
theorem guardW_some {α : Type} {w : Wk} {c : Mo α} {S S' : Store} {a : α} (h : guardW w c S = some (a, S')) : w.kept S ∧ c S = some (a, S') := by
  unfold guardW at h
  split at h
  · exact ⟨by assumption, h⟩
  · cases h
noncomputable def forL (w : Wk) (g : M → MSt → Mo MSt) (mb : MSt → Mo Out) : List M → MSt → Mo Out
  | [], σ => guardW w (ret (.nx σ))
  | x :: xs, σ => guardW w (bnd (g x σ) fun σ1 => bnd (mb σ1) fun o => match o with
      | .nx σ2 => forL w g mb xs σ2
      | .ct σ2 => forL w g mb xs σ2
      | .bk σ2 => ret (.nx σ2)
      | .rt v => ret (.rt v))
noncomputable def sFor (mi : MSt → Mo Wk) (g : M → MSt → Mo MSt) (mb : MSt → Mo Out) : MSt → Mo Out := fun σ => bnd (mi σ) fun w => forL w g mb w.xs σ
theorem drop_cons {α : Type} {xs : List α} {i : Nat} (h : i < xs.length) : ∃ x, xs[i]? = some x ∧ xs.drop i = x :: xs.drop (i + 1) := ⟨xs[i], List.getElem?_eq_getElem h, List.drop_eq_getElem_cons h⟩
theorem ms_for {tg iter : Expr} {body : List Stmt} {mi : MSt → Mo Wk} {g : M → MSt → Mo MSt} {mb : MSt → Mo Out} {vs : List Nat} {pos : Pos} (hp : PassesOwn (model X.prog X.w) X.A X.env X.xe) (hc : X.calm = true) (hi : MI K X tg iter mi) (hg : MG K X tg g vs) (hb : MSs K X body mb)
    (hs : ∀ x, foldedSetIterable iter X.env x = pure x := by intro _; rfl) : MS K X (.For tg iter body [] pos) (sFor mi g mb) :=
  .of (ps_for hp hc hi.pi hg.pg hb.pss hs) fun ρ σ S o S' σV H D r rs e q => by
    replace e := bnd_some e
    obtain ⟨w, S0, e0, e⟩ := e
    refine ⟨ρ, σ, S, w, S0, r, rs, e0, fun ρ0 J H0 E0 r0 it => ?_⟩
    have rs0 := rs.mono r E0
    refine ⟨fun i m σV1 H1 => ∃ ρ1 σ1 S1, Ext ρ0 H0 ρ1 H1 ∧ RepS K ρ1 S1 H1 ∧ Rσ K ρ1 H1 σ1 σV1 ∧ m = w.xs.length - i ∧ i ≤ w.xs.length ∧ forL w g mb (w.xs.drop i) σ1 S1 = some (o, S'),
      ⟨w.xs.length, ρ0, σ, S0, Ext.refl _ _, r0, rs0, rfl, Nat.zero_le _, e⟩, ?_⟩
    rintro i m σV1 H1 ⟨ρ1, σ1, S1, E1, r1, rs1, rfl, hi', e1⟩
    by_cases hl : i < w.xs.length
    · obtain ⟨x, hx, hd⟩ := drop_cons hl
      rw [hd] at e1
      obtain ⟨hk, e1⟩ := guardW_some e1
      replace e1 := bnd_some e1
      obtain ⟨σ2, S2, e2, e1⟩ := e1
      replace e1 := bnd_some e1
      obtain ⟨o3, S3, e3, e1⟩ := e1
      obtain ⟨go, yl⟩ := it.go i ρ1 S1 H1 x (E1.wx r0) r1 hk hx
      refine .inr ⟨go, fun σV' H' => ∃ ρ1 σ1 S1, Ext ρ0 H0 ρ1 H' ∧ RepS K ρ1 S1 H' ∧ Rσ K ρ1 H' σ1 σV' ∧ forL w g mb (w.xs.drop (i + 1)) σ1 S1 = some (o, S'), ?_, fun y H2 hy => ?_⟩
      · rintro σV' H' ⟨ρ4, σ4, S4, E4, r4, rs4, e4⟩
        exact ⟨w.xs.length - (i + 1), by omega, ρ4, σ4, S4, E4, r4, rs4, rfl, hl, e4⟩
      · obtain ⟨E2, r2, ry⟩ := yl y H2 hy
        refine ⟨ρ1, σ1, S1, x, σ2, S2, r2, rs1.mono r1 E2, ry, e2, fun ρ3 σ3V H3 E3 r3 rs3 _ => ?_⟩
        have E03 := E1.trans (E2.trans E3)
        refine ⟨ρ3, σ2, S2, o3, S3, r3, rs3, e3, ?_⟩
        cases o3 with
        | nx σ' => exact fun ρ4 σ4V H4 E4 r4 rs4 => ⟨ρ4, σ', S3, E03.trans E4, r4, rs4, e1⟩
        | ct σ' => exact fun ρ4 σ4V H4 E4 r4 rs4 => ⟨ρ4, σ', S3, E03.trans E4, r4, rs4, e1⟩
        | bk σ' => cases e1; exact fun ρ4 σ4V H4 E4 r4 rs4 => q ρ4 σ4V H4 (E0.trans (E03.trans E4)) r4 rs4
        | rt v => cases e1; exact fun ρ4 v4 H4 E4 r4 rv4 => q ρ4 v4 H4 (E0.trans (E03.trans E4)) r4 rv4
    · have e' : i = w.xs.length := by omega
      subst e'
      rw [List.drop_length] at e1
      obtain ⟨hk, e1⟩ := guardW_some e1
      cases e1
      exact .inl ⟨it.stop ρ1 _ H1 (E1.wx r0) r1 hk, q ρ1 σV1 H1 (E0.trans E1) r1 rs1⟩
end
end Em
set_option Elab.async false
set_option maxRecDepth 100000
set_option linter.all false
namespace Em
open PySem L2
section
variable {K : Ct} {X : Cx} {ρ ρ0 ρ1 : List Addr} {H H0 H1 : Hp} {S S1 : Store} {D : Addr}
mutual
theorem RV.grow (t : List Addr) : ∀ {x : M} {v : V}, RV K ρ H x v → RV K (ρ ++ t) H x v
  | _, _, .non => .non
  | _, _, .bl b => .bl b
  | _, _, .int i => .int i
  | _, _, .str x => .str x
  | _, _, .tup h q => .tup h (RVs.grow t q)
  | _, _, .loc h => .loc (by rw [List.getElem?_append_left (List.getElem?_eq_some_iff.mp h).1]; exact h)
  | _, _, .ro h => .ro h
  | _, _, .fz h q => .fz h (RVs.grow t q)
theorem RVs.grow (t : List Addr) : ∀ {xs : List M} {vs : List V}, RVs K ρ H xs vs → RVs K (ρ ++ t) H xs vs
  | _, _, .nil => .nil
  | _, _, .cons a q => .cons (RV.grow t a) (RVs.grow t q)
end
theorem HoR.grow (t : List Addr) {b : Ob} {o : HO} (h : HoR K ρ H b o) : HoR K (ρ ++ t) H b o := by
  cases h with
  | lst h => exact .lst (h.grow t)
  | dK k h => exact .dK k (h.grow t)
  | dT k h => exact .dT k (h.grow t)
  | ins k h => exact .ins k (h.grow t)
/-- a thing that is there gets a number -/
theorem RepS.num (r : RepS K ρ S H) {b : Ob} {o : HO} (hD : D ∉ ρ) (ho : H D = some o) (hb : HoR K ρ H b o) : RepS K (ρ ++ [D]) (S ++ [b]) H := by
  refine ⟨by rw [List.length_append, List.length_append, r.len]; rfl, ?_, fun n a b' h1 h2 => ?_, r.tb⟩
  · rw [List.nodup_append]
    refine ⟨r.nd, by simp, fun a ha c hc z => ?_⟩
    rw [List.mem_singleton] at hc
    subst hc; subst z
    exact hD ha
  · by_cases hn : n < ρ.length
    · rw [List.getElem?_append_left hn] at h1
      rw [List.getElem?_append_left (by rw [← r.len]; exact hn)] at h2
      obtain ⟨u, h3, h4⟩ := r.ob n a b' h1 h2
      exact ⟨u, h3, h4.grow _⟩
    · have hl : n < (ρ ++ [D]).length := (List.getElem?_eq_some_iff.mp h1).1
      rw [List.length_append, List.length_singleton] at hl
      have en : n = ρ.length := by omega
      subst en
      rw [List.getElem?_append_right (Nat.le_refl _), Nat.sub_self] at h1
      rw [List.getElem?_append_right (by rw [r.len]; exact Nat.le_refl _), r.len, Nat.sub_self] at h2
      cases h1
      cases h2
      exact ⟨o, ho, hb.grow _⟩
theorem Ext.num (e : Ext ρ0 H0 ρ H) (h : H0 D = none) : Ext ρ0 H0 (ρ ++ [D]) H := ⟨e.pre.trans (List.prefix_append _ _), e.keep, fun a m n => by
  rcases List.mem_append.mp m with m | m
  · exact e.fresh a m n
  · rw [List.mem_singleton] at m; rw [m]; exact h⟩
mutual
theorem RV.swap {us ws : List V} (hD : H D = some (.lst us)) : ∀ {x : M} {v : V}, RV K ρ H x v → RV K ρ (upd H D (.lst ws)) x v
  | _, _, .non => .non
  | _, _, .bl b => .bl b
  | _, _, .int i => .int i
  | _, _, .str x => .str x
  | _, _, .tup h q => .tup (by
      rcases h with (h | ⟨o, h⟩) | h
      · exact .inl (.inl (by rw [upd_ne (ne_of h hD (by intro z; cases z))]; exact h))
      · exact .inl (.inr ⟨o, by rw [upd_ne (ne_of h hD (by intro z; cases z))]; exact h⟩)
      · exact .inr h) (RVs.swap hD q)
  | _, _, .loc h => .loc h
  | _, _, .ro h => .ro (by
      rcases h with ⟨o, h⟩ | h
      · exact .inl ⟨o, by rw [upd_ne (ne_of h hD (by intro z; cases z))]; exact h⟩
      · exact .inr h)
  | _, _, .fz h q => .fz (by rw [upd_ne (ne_of h hD (by intro z; cases z))]; exact h) (RVs.swap hD q)
theorem RVs.swap {us ws : List V} (hD : H D = some (.lst us)) : ∀ {xs : List M} {vs : List V}, RVs K ρ H xs vs → RVs K ρ (upd H D (.lst ws)) xs vs
  | _, _, .nil => .nil
  | _, _, .cons a q => .cons (RV.swap hD a) (RVs.swap hD q)
end
theorem HoR.swap {us ws : List V} (hD : H D = some (.lst us)) {b : Ob} {o : HO} (h : HoR K ρ H b o) : HoR K ρ (upd H D (.lst ws)) b o := by
  cases h with
  | lst h => exact .lst (h.swap hD)
  | dK k h => exact .dK k (h.swap hD)
  | dT k h => exact .dT k (h.swap hD)
  | ins k h => exact .ins k (h.swap hD)
theorem RepS.swap {us ws : List V} (r : RepS K ρ S H) (hD : H D = some (.lst us)) (hn : D ∉ ρ) : RepS K ρ S (upd H D (.lst ws)) := by
  refine ⟨r.len, r.nd, fun n a b h1 h2 => ?_, fun P hP => ?_⟩
  · obtain ⟨u, h3, h4⟩ := r.ob n a b h1 h2
    exact ⟨u, by rw [upd_ne (fun z : a = D => hn (by rw [← z]; exact List.mem_of_getElem? h1))]; exact h3, h4.swap hD⟩
  · rw [upd_ne (ne_of (r.tb P hP) hD (by intro z; cases z))]
    exact r.tb P hP
/-- the new list D so far -/
structure Acc (K : Ct) (ρ0 : List Addr) (H0 : Hp) (D : Addr) (ρ : List Addr) (S : Store) (H : Hp) (acc : List M) : Prop where
  e : Ext ρ0 H0 ρ H
  r : RepS K ρ S H
  out : D ∉ ρ
  at_ : ∃ vs, H D = some (.lst vs) ∧ RVs K ρ H acc vs
theorem Acc.step {acc : List M} (a : Acc K ρ0 H0 D ρ S H acc) (e : Ext ρ H ρ1 H1) (r : RepS K ρ1 S1 H1) : Acc K ρ0 H0 D ρ1 S1 H1 acc := by
  obtain ⟨vs, h1, h2⟩ := a.at_
  refine ⟨a.e.trans e, r, fun m => ?_, vs, e.keep _ _ h1 a.out, h2.mono a.r e⟩
  have := e.fresh D m a.out
  rw [h1] at this
  cases this
theorem Acc.push {acc : List M} {x : M} {v : V} (a : Acc K ρ0 H0 D ρ S H acc) (h0 : H0 D = none) (rv : RV K ρ H x v) {vs : List V} (hD : H D = some (.lst vs)) : Acc K ρ0 H0 D ρ S (upd H D (.lst (vs ++ [v]))) (acc ++ [x]) := by
  obtain ⟨us, h1, h2⟩ := a.at_
  rw [hD] at h1
  cases h1
  refine ⟨⟨a.e.pre, fun b o h n => ?_, a.e.fresh⟩, a.r.swap hD a.out, a.out, _, upd_same, (h2.swap hD).app (.cons (rv.swap hD) .nil)⟩
  rw [upd_ne (ne_of_none h h0)]
  exact a.e.keep b o h n
/-- an expression that makes a list: its items -/
def tMF (K : Ct) (m : MSt → Mo (List M)) : TE := fun σV H Q => ∃ ρ σ S xs S', RepS K ρ S H ∧ Rσ K ρ H σ σV ∧ m σ S = some (xs, S') ∧ xs.length ≤ sizeLine ∧ ∀ ρ' D vs H', Ext ρ H ρ' H' → RepS K ρ' S' H' → D ∉ ρ' → H D = none → H' D = some (.lst vs) → RVs K ρ' H' xs vs → Q (.ref D) H'
structure MF (K : Ct) (X : Cx) (e : Expr) (m : MSt → Mo (List M)) : Prop where
  pe : PE X e (tMF K m)
def mNewF (m : MSt → Mo (List M)) : MSt → Mo M := fun σ => bnd (m σ) newF
theorem PE.unlk {e : Expr} {t : TE} (h : PE X e t) : PE X e (fun σ H Q => t σ H (LkQ Q)) := fun pins s σ H Q I q => Em.unlk (h pins s σ H (LkQ Q) I q)
theorem tMF_ofF {m : MSt → Mo (List M)} {σV : St} {H : Hp} {Q : VK} (h : tM K (mNewF m) σV H Q) : tMF K m σV H (LkQ Q) := by
  obtain ⟨ρ, σ, S, v, S', r, rs, e, q⟩ := h
  replace e := bnd_some e
  obtain ⟨xs, S1, e1, e⟩ := e
  obtain ⟨hl, rfl, rfl⟩ := newF_some e
  refine ⟨ρ, σ, S, xs, _, r, rs, e1, hl, fun ρ' D vs H' E r' hD hn hv rv => .inl ⟨D, vs, rfl, hv, fun od => ?_⟩⟩
  have st : ∀ a o, H' a = some o → a ≠ D → upd H' D (.frz od (.lst vs)) a = some o := fun a o h n => by rw [upd_ne n]; exact h
  have wx : Wx K ρ' H' ρ' (upd H' D (.frz od (.lst vs))) := ⟨List.prefix_refl _, fun a xs h => by
    rcases h with (h | ⟨o, h⟩) | h
    · exact .inl (.inl (st _ _ h (ne_of h hv (by intro z; cases z))))
    · exact .inl (.inr ⟨o, st _ _ h (ne_of h hv (by intro z; cases z))⟩)
    · exact .inr h, fun a xs h => by
    rcases h with ⟨o, h⟩ | h
    · exact .inl ⟨o, st _ _ h (ne_of h hv (by intro z; cases z))⟩
    · exact .inr h, fun a o xs h => st _ _ h (ne_of h hv (by intro z; cases z))⟩
  refine q ρ' _ _ ⟨E.pre, fun a o h n => st _ _ (E.keep a o h n) (fun z => by rw [z, hn] at h; cases h), E.fresh⟩ ⟨r'.len, r'.nd, fun n a b h1 h2 => ?_, fun P hP => ?_⟩ (.fz upd_same (rv.wx wx))
  · obtain ⟨o, h3, h4⟩ := r'.ob n a b h1 h2
    refine ⟨o, st _ _ h3 (fun z => hD (by rw [← z]; exact List.mem_of_getElem? h1)), ?_⟩
    cases h4 with
    | lst h => exact .lst (h.wx wx)
    | dK k h => exact .dK k (h.wx wx)
    | dT k h => exact .dT k (h.wx wx)
    | ins k h => exact .ins k (h.wx wx)
  · exact st _ _ (r'.tb P hP) (ne_of (r'.tb P hP) hv (by intro z; cases z))
theorem MF.meF {e : Expr} {m : MSt → Mo (List M)} (h : MF K X e m) : ME K X e (mNewF m) := ⟨PE.imp (PE.unlk h.pe) fun σ H Q q => tMF_ofF q⟩
theorem mf_lst {es : List Expr} {ms : MSt → Mo (List M)} {pos : Pos} (h : MA K X es ms) : MF K X (.List es pos) ms :=
  ⟨fun pins s σV H Q I ⟨ρ, σ, S, xs, S', r, rs, e, hl, q⟩ => pe_lst h.pa pins s σV H Q I ⟨ρ, σ, S, xs, S', r, rs, e, fun ρ' vs H' E r' rv => ⟨by rw [← rv.len]; exact hl, fun p hp => by
    obtain ⟨E2, r2⟩ := r'.side (o := .lst vs) hp
    have hp0 : H p = none := by
      cases q : H p with
      | none => rfl
      | some o =>
        by_cases m : p ∈ ρ
        · obtain ⟨b, o', h1, _⟩ := r'.mem (E.pre.subset m)
          rw [hp] at h1; cases h1
        · have := E.keep _ _ q m
          rw [hp] at this; cases this
    exact q ρ' p vs _ (E.trans E2) r2 (r'.new hp) hp0 upd_same (rv.mono r' E2)⟩⟩⟩
noncomputable def compL (w : Wk) (g : M → MSt → Mo MSt) (tt : MSt → Mo Bool) (te : MSt → Mo M) (σ0 : MSt) : List M → Mo (List M)
  | [] => guardW w (ret [])
  | x :: xs => guardW w (bnd (g x σ0) fun σ1 => bnd (tt σ1) fun k => if k = true then bnd (te σ1) fun v => bnd (compL w g tt te σ0 xs) fun vs => ret (v :: vs) else compL w g tt te σ0 xs)
noncomputable def mComp (mi : MSt → Mo Wk) (g : M → MSt → Mo MSt) (tt : MSt → Mo Bool) (te : MSt → Mo M) (vs : List Nat) : MSt → Mo (List M) := fun σ => bnd (mi σ) fun w => compL w g tt te (wipeM σ vs) w.xs
theorem len_app {α : Type} {a b c : List α} (h : a ++ b = c) : a.length + b.length = c.length := by rw [← h, List.length_append]
theorem Wx.swap {us ws : List V} (hD : H D = some (.lst us)) : Wx K ρ H ρ (upd H D (.lst ws)) := ⟨List.prefix_refl _, fun a xs h => by
  rcases h with (h | ⟨o, h⟩) | h
  · exact .inl (.inl (by rw [upd_ne (ne_of h hD (by intro z; cases z))]; exact h))
  · exact .inl (.inr ⟨o, by rw [upd_ne (ne_of h hD (by intro z; cases z))]; exact h⟩)
  · exact .inr h, fun a xs h => by
  rcases h with ⟨o, h⟩ | h
  · exact .inl ⟨o, by rw [upd_ne (ne_of h hD (by intro z; cases z))]; exact h⟩
  · exact .inr h, fun a o xs h => by rw [upd_ne (ne_of h hD (by intro z; cases z))]; exact h⟩
/-- one walk that fills D -/
theorem walk_run {w : Wk} {J : It} {g : M → MSt → Mo MSt} {tt : MSt → Mo Bool} {te : MSt → Mo M} {vs ws : List Nat} (hw : ∀ i ∈ ws, i ∈ vs) {σ : MSt} {σV : St} {ρ5 : List Addr} {H5 : Hp} {S' : Store} {pre out : List M} {Nx : Hp → Prop}
    (it : ItOk K ρ5 H5 J w) (rs : Rσ K ρ5 H5 (wipeM σ vs) (wipe σV vs)) (hD : H0 D = none) {H6 : Hp} {S6 : Store} {ρ6 : List Addr} (x6 : Wx K ρ5 H5 ρ6 H6) (A6 : Acc K ρ0 H0 D ρ6 S6 H6 pre) (e : compL w g tt te (wipeM σ vs) w.xs S6 = some (out, S'))
    (hl : pre.length + out.length ≤ sizeLine) (fin : ∀ ρ H, Acc K ρ0 H0 D ρ S' H (pre ++ out) → Wx K ρ5 H5 ρ H → Nx H) :
    ∃ W : Nat → Nat → Hp → Prop, (∃ m, W 0 m H6) ∧ ∀ i m H, W i m H →
      (J.stop i H ∧ Nx H) ∨ (J.go i H ∧ ∃ Nx1 : Hp → Prop, (∀ H', Nx1 H' → ∃ m', m' < m ∧ W (i + 1) m' H') ∧ ∀ x H', J.yld i H x H' → tMG K g ws x (wipe σV vs) H' fun σ2 H2 => wipe σ2 vs = wipe σV vs ∧ tMT K tt σ2 H2 fun b H3 =>
        if b = true then tM K te σ2 H3 fun y H4 => ∃ acc, H4 D = some (.lst acc) ∧ acc.length < sizeLine ∧ Nx1 (upd H4 D (.lst (acc ++ [y]))) else Nx1 H3) := by
  refine ⟨fun i m H1 => ∃ ρ1 S1 acc rest, Acc K ρ0 H0 D ρ1 S1 H1 (pre ++ acc) ∧ Wx K ρ5 H5 ρ1 H1 ∧ m = w.xs.length - i ∧ i ≤ w.xs.length ∧ compL w g tt te (wipeM σ vs) (w.xs.drop i) S1 = some (rest, S') ∧ acc ++ rest = out,
    ⟨w.xs.length, ρ6, S6, [], out, by rw [List.append_nil]; exact A6, x6, rfl, Nat.zero_le _, e, rfl⟩, ?_⟩
  rintro i m H1 ⟨ρ1, S1, acc, rest, A, x1, rfl, hi, e1, eo⟩
  by_cases hlt : i < w.xs.length
  · obtain ⟨x, hx, hd⟩ := drop_cons hlt
    rw [hd] at e1
    obtain ⟨hk, e1⟩ := guardW_some e1
    replace e1 := bnd_some e1
    obtain ⟨σ2, S2, e2, e1⟩ := e1
    replace e1 := bnd_some e1
    obtain ⟨k, S3, e3, e1⟩ := e1
    obtain ⟨go, yl⟩ := it.go i ρ1 S1 H1 x x1 A.r hk hx
    refine .inr ⟨go, fun H' => ∃ ρ1 S1 acc rest, Acc K ρ0 H0 D ρ1 S1 H' (pre ++ acc) ∧ Wx K ρ5 H5 ρ1 H' ∧ compL w g tt te (wipeM σ vs) (w.xs.drop (i + 1)) S1 = some (rest, S') ∧ acc ++ rest = out, ?_, fun y H2 hy => ?_⟩
    · rintro H' ⟨ρ4, S4, acc4, rest4, A4, x4, e4, eo4⟩
      exact ⟨w.xs.length - (i + 1), by omega, ρ4, S4, acc4, rest4, A4, x4, rfl, hlt, e4, eo4⟩
    · obtain ⟨E2, r2, ry⟩ := yl y H2 hy
      have A2 := A.step E2 r2
      have x2 := x1.trans (E2.wx A.r)
      refine ⟨ρ1, wipeM σ vs, S1, x, σ2, S2, r2, rs.wx x2, ry, e2, fun ρ3 σ3V H3 E3 r3 rs3 w3 => ⟨?_, ?_⟩⟩
      · rw [wipe_more w3 hw, wipe_twice]
      have A3 := A2.step E3 r3
      have x3 := x2.trans (E3.wx r2)
      refine ⟨ρ3, σ2, S2, k, S3, r3, rs3, e3, fun ρ4 H4 E4 r4 => ?_⟩
      have A4 := A3.step E4 r4
      have x4 := x3.trans (E4.wx r3)
      cases k with
      | true =>
        rw [if_pos rfl] at e1
        replace e1 := bnd_some e1
        obtain ⟨v, S5', e5, e1⟩ := e1
        replace e1 := bnd_some e1
        obtain ⟨rest', S6', e6, e1⟩ := e1
        cases e1
        refine (iteT ?_ : if true = true then _ else _)
        refine ⟨ρ4, σ2, S3, v, S5', r4, rs3.mono r3 E4, e5, fun ρ5' v' H5' E5 r5 rv => ?_⟩
        have A5 := A4.step E5 r5
        obtain ⟨us, h1, h2⟩ := A5.at_
        refine ⟨us, h1, ?_, ρ5', S5', acc ++ [v], rest', by rw [← List.append_assoc]; exact A5.push hD rv h1, (x4.trans (E5.wx r4)).trans (Wx.swap h1), e6, by rw [List.append_assoc]; exact eo⟩
        have := len_app eo
        rw [List.length_cons] at this
        rw [← h2.len, List.length_append]
        omega
      | false =>
        rw [if_neg Bool.false_ne_true] at e1
        refine (iteF ?_ : if false = true then _ else _)
        exact ⟨ρ4, S3, acc, rest, A4, x4, e1, eo⟩
  · have e' : i = w.xs.length := by omega
    subst e'
    rw [List.drop_length] at e1
    obtain ⟨hk, e1⟩ := guardW_some e1
    cases e1
    rw [List.append_nil] at eo
    subst eo
    exact .inl ⟨it.stop ρ1 _ H1 x1 A.r hk, fin ρ1 H1 A x1⟩
theorem before {ρ : List Addr} {H : Hp} {S0 : Store} (E0 : Ext ρ H ρ0 H0) (r0 : RepS K ρ0 S0 H0) (hD : H0 D = none) : H D = none := by
  cases q : H D with
  | none => rfl
  | some o =>
    by_cases m : D ∈ ρ
    · obtain ⟨b, o', h1, _⟩ := r0.mem (E0.pre.subset m)
      rw [hD] at h1; cases h1
    · have := E0.keep _ _ q m
      rw [hD] at this; cases this
theorem mf_run {mi : MSt → Mo Wk} {g : M → MSt → Mo MSt} {tt : MSt → Mo Bool} {te : MSt → Mo M} {vs ws : List Nat} (hw : ∀ i ∈ ws, i ∈ vs) {σV : St} {H : Hp} {Q : VK} (h : tMF K (mComp mi g tt te vs) σV H Q) : tLc (tMI K mi) (tMG K g ws) (tMT K tt) (tM K te) vs σV H Q := by
  obtain ⟨ρ, σ, S, out, S', r, rs, e, hl, q⟩ := h
  replace e := bnd_some e
  obtain ⟨w, S0, e0, e⟩ := e
  refine ⟨ρ, σ, S, w, S0, r, rs, e0, fun ρ0 J H0 E0 r0 it D hD => ?_⟩
  obtain ⟨Ed, rd⟩ := r0.side (o := .lst []) hD
  refine walk_run hw it ((rs.mono r E0).wipe vs) hD (Ed.wx r0) (pre := []) ⟨Ed, rd, r0.new hD, [], upd_same, .nil⟩ e (by rw [List.length_nil, Nat.zero_add]; exact hl) fun ρ1 H1 A _ => ?_
  obtain ⟨us, h1, h2⟩ := A.at_
  exact q ρ1 D us H1 (E0.trans A.e) A.r A.out (before E0 r0 hD) h1 h2
theorem mf_lc {elt tg iter : Expr} {ifs : List Expr} {scope : Scope} {own : List (Str × Nat)} {pos : Pos} {mi : MSt → Mo Wk} {g : M → MSt → Mo MSt} {ws : List Nat} {tt : MSt → Mo Bool} {te : MSt → Mo M} (hc : X.calm = true) (hN : X.N.Nodup) (hi : MI K X tg iter mi) (ok : BlkOk X.N X.env.scope scope own)
    (hg : ∀ (s : Shared) (H : Hp) (C : Addr) (cl : List (Str × Addr)) (fp : List Addr), MG K (X.blk s H scope (compEnvC scope cl C X.env) fp) tg g ws) (ht : ∀ (s : Shared) (H : Hp) (C : Addr) (cl : List (Str × Addr)) (fp : List Addr), MTs K (X.blk s H scope (compEnvC scope cl C X.env) fp) ifs tt)
    (he : ∀ (s : Shared) (H : Hp) (C : Addr) (cl : List (Str × Addr)) (fp : List Addr), ME K (X.blk s H scope (compEnvC scope cl C X.env) fp) elt te) (hw : ∀ i ∈ ws, i ∈ own.map (·.2) := by decide) (hs : ∀ x, foldedSetIterable iter X.env x = pure x := by intro _; rfl) :
    MF K X (.ListComp elt [⟨tg, iter, ifs, 0⟩] scope pos) (mComp mi g tt te (own.map (·.2))) :=
  ⟨PE.imp (pe_lc hc hN hi.pi ok (fun s H C cl fp => (hg s H C cl fp).pg) (fun s H C cl fp => (ht s H C cl fp).pts) (fun s H C cl fp => (he s H C cl fp).pe) hs) fun σ H Q q => mf_run hw q⟩
abbrev Fn := List M → Mo M
def startM (n : Nat) (vs : List M) : MSt := vs.map some ++ List.replicate (n - vs.length) none
/-- a def by its body -/
def den (n : Nat) (m : MSt → Mo Out) : Fn := fun vs => bnd (m (startM n vs)) fun o => match o with
  | .nx _ => ret .non
  | .rt v => ret v
  | _ => fail
def spM (K : Ct) (n : Nat) (F : Fn) : Sp := fun vs H Q _ => vs.length = n ∧ ∃ ρ S ms v S', RepS K ρ S H ∧ RVs K ρ H ms vs ∧ F ms S = some (v, S') ∧ Post K ρ H S' v Q
theorem start_ok {N : List Str} {ms : List M} {vs : List V} (h : RVs K ρ H ms vs) : Rσ K ρ H (startM N.length ms) (L2.start N vs) := by
  have hl := h.len
  refine ⟨by unfold startM L2.start; simp [hl], fun i x q => ?_⟩
  unfold startM at q
  unfold L2.start
  by_cases hi : i < ms.length
  · rw [List.getElem?_append_left (by simpa using hi), List.getElem?_map] at q
    cases e : ms[i]? with
    | none => rw [e] at q; cases q
    | some y =>
      rw [e] at q
      cases q
      obtain ⟨v, h1, h2⟩ := h.get e
      exact ⟨v, by rw [List.getElem?_append_left (by rw [List.length_map, ← hl]; exact hi), List.getElem?_map, h1]; rfl, h2⟩
  · rw [List.getElem?_append_right (by simpa using hi), List.getElem?_replicate] at q
    split at q <;> cases q
theorem ends_ok {N : List Str} {n : Nat} {mB : MSt → Mo Out} {vs : List V} {Q : VK} {E : XK} (h : spM K n (den N.length mB) vs H Q E) : tMS K mB { nx := fun _ H' => Q .non H', rt := Q } (L2.start N vs) H := by
  obtain ⟨hl, ρ, S, ms, v, S', r, rv, e, q⟩ := h
  replace e := bnd_some e
  obtain ⟨o, S1, e1, e⟩ := e
  refine ⟨ρ, startM N.length ms, S, o, S1, r, start_ok rv, e1, ?_⟩
  cases o with
  | nx σ' => cases e; exact fun ρ' σV' H' E' r' _ => q ρ' _ H' E' r' .non
  | rt w => cases e; exact q
  | bk σ' => cases e
  | ct σ' => cases e
theorem fun_ok {P : Program} {w : World} {mg : Str → Option Value} {base : Heap} {x qual : Str} {st : Stmt} {f : Addr} {fd : FuncData} {N ps : List Str} {k : Nat} {mB : MSt → Mo Out} (F : Fun K.K x qual st f fd) (Sc : FnScope N ps (defScope st))
    (hbody : ∀ (cdv : Value) (A : Around) (outer : List Env) (s : Shared) (H : Hp) (E : XK), Room k (A.deeper (PyProof.Rows.envOfC qual (defScope st) s.heap.objs.size f cdv)) → MSs K (cxOf CX0 P w K.K mg base N qual (defScope st) f cdv A outer s H E).nox (defBody st) mB) :
    FnOk P w K.K mg base CX0 (k + 1) f fd ps (spM K ps.length (den N.length mB)) :=
  F.ok Sc (fun vs H Q E h => h.1) fun cdv A outer s H vs Q E hr h => ⟨_, (hbody cdv A outer s H E hr).pss, ends_ok h⟩
/-- a def as it stands behind the top -/
structure Def (K : PySem.W.Frag) (mg : Str → Option Value) (x : Str) (st : Stmt) (ps : List Str) (f : Addr) (fd : FuncData) : Prop where
  F : Fun K x x st f fd
  mg : mg x = some (.ref f)
  b : Binds K fd ps []
def mCall (n : Nat) (F : Fn) (ma : MSt → Mo (List M)) : MSt → Mo M := fun σ => bnd (ma σ) fun ms => if ms.length = n then F ms else fail
theorem me_call {k n : Nat} {f : Addr} {fd : FuncData} {ps : List Str} {F : Fn} {x : Str} {st : Stmt} {p pos : Pos} {e : Expr} {es : List Expr} {ma : MSt → Mo (List M)} (hK : X.K = K.K) (G : FnOk X.prog X.w K.K X.mg X.base CX0 k f fd ps (spM K n F)) (D : Def K.K X.mg x st ps f fd) (hr : Room k X.A)
    (ha : MA K X (e :: es) ma) (hg : Gl X x := by rfl) (hdb : (x == ("__debug__" : Str)) = false := by decide) (he : starEach (e :: es) X.env = (false, eval e X.env) :: starEach es X.env := by rfl) (hpl : (backTo pos (starEach es X.env)).any (·.1) = false := by rfl) :
    ME K X (.Call (.Name x p) (e :: es) [] pos) (mCall n F ma) :=
  .of (pe_call (sp := spM K n F) (hK ▸ G) hr hg D.mg (hK ▸ D.F.kp) (hK ▸ D.b) .nil pass0 ha.pa hdb he hpl) fun ρ σ S v S' σV H Q r rs e q => by
    replace e := bnd_some e
    obtain ⟨ms, S1, e1, e⟩ := e
    split at e
    · next hl =>
      refine ⟨ρ, σ, S, ms, S1, r, rs, e1, fun ρ1 vs H1 E1 r1 rv => ⟨by rw [List.append_nil, ← rv.len]; exact hl, ρ1, S1, ms, v, S', r1, by rw [List.append_nil]; exact rv, e, fun ρ2 v' H2 E2 => q ρ2 v' H2 (E1.trans E2)⟩⟩
    · cases e
end
end Em
set_option Elab.async false
set_option maxRecDepth 100000
set_option linter.all false
namespace Eb
open PySem PyProof.Rows L2 HT
section
variable {prog : Program} {w : World} {A : Around} {E : Value → Shared → Prop} {s : Shared}
/-- () + u: u itself -/
theorem cat_none {t b : Addr} {ws : List Value} {Q : Value → Shared → Prop} (ht : IsTup s.heap t ([] : List Value).toArray) (hb : IsTup s.heap b ws.toArray) (h : Q (.ref b) s) : wpAny (model prog w) A (binaryOp .Add (.ref t) (.ref b)) Q E s := by
  obtain ⟨⟨c1, d1, x1, y1⟩, p1, q1, n1, z1⟩ := id ht
  obtain ⟨⟨c2, d2, x2, y2⟩, p2, q2, n2, z2⟩ := id hb
  simp only at q1 z1 q2 z2; subst q1 z1 q2 z2
  exact concat_meets ⟨_, p1, rfl⟩ ⟨_, p2, rfl⟩ noFill_tuple_add seq_tuple_add PySem.F.slot_tuple_add PySem.F.entry_tuple_add (PySem.F.args_tuple_add_2 _ _) (tuple_addW0 t b _ ws.toArray n1 n2 d1 d2 y1 y2 (by simp)) ⟨p1, p2, h⟩
end
section
variable {X : Cx}
theorem op_catE : OpR X (binaryOp .Add) (fun x y H Q => ∃ a b ys, x = .ref a ∧ y = .ref b ∧ SqT X.K H a [] ∧ SqT X.K H b ys ∧ Q (.ref b) H) := by
  intro pins s σ H x y v u Q I rx ry h
  obtain ⟨a, b, ys, rfl, rfl, ha, hb, q⟩ := h
  cases rx; cases ry
  obtain ⟨i1, r1, p1, _⟩ := I.tuple ha
  obtain ⟨i2, r2, p2, _⟩ := I.tuple hb
  cases r1
  exact cat_none p1 p2 ⟨.ref b, H, I, rfl, q⟩
end
end Eb
set_option Elab.async false
set_option maxRecDepth 100000
set_option linter.all false
namespace Em
open PySem L2
section
variable {K : Ct} {X : Cx}
theorem OpM.mk' {f : Value → Value → Sem Value} {o : M → M → Mo M} (h : ∀ pins s σ H x y v u Q ρ S mx my w S', Inv X pins σ H s → RelV x v → RelV y u → RepS K ρ S H → RV K ρ H mx x → RV K ρ H my y → o mx my S = some (w, S') → Post K ρ H S' w Q →
    wpAny (model X.prog X.w) X.A (f v u) (EP X pins σ Q) X.xe s) : OpM K X f o :=
  ⟨fun pins s σ H x y v u Q I rx ry ⟨ρ, S, mx, my, w, S', r, r1, r2, e, q⟩ => h pins s σ H x y v u Q ρ S mx my w S' I rx ry r r1 r2 e q⟩
theorem CallM.mk' {f : Value} {o : List M → Mo M} (h : ∀ pins s σ H xs us Q ρ S ms w S', Inv X pins σ H s → Vals xs us → RepS K ρ S H → RVs K ρ H ms xs → o ms S = some (w, S') → Post K ρ H S' w Q →
    wpAny (model X.prog X.w) X.A (call f us) (EP X pins σ Q) X.xe s) : CallM K X f o :=
  ⟨fun pins s σ H xs us Q I rx ⟨ρ, S, ms, w, S', r, r1, e, q⟩ => h pins s σ H xs us Q ρ S ms w S' I rx r r1 e q⟩
theorem MethM.mk' {id : String} {o : M → List M → Mo M} (h : ∀ pins s σ H x xs v us Q ρ S mx ms w S', Inv X pins σ H s → RelV x v → Vals xs us → RepS K ρ S H → RV K ρ H mx x → RVs K ρ H ms xs → o mx ms S = some (w, S') → Post K ρ H S' w Q →
    wpAny (model X.prog X.w) X.A (call (.builtin id) (v :: us)) (EP X pins σ Q) X.xe s) : MethM K X id o :=
  ⟨fun pins s σ H x xs v us Q I rx rxs ⟨ρ, S, mx, ms, w, S', r, r0, r1, e, q⟩ => h pins s σ H x xs v us Q ρ S mx ms w S' I rx rxs r r0 r1 e q⟩
/-- nothing changed -/
theorem Post.same {ρ : List Addr} {H : Hp} {S : Store} {w : M} {w' : V} {Q : VK} (q : Post K ρ H S w Q) (r : RepS K ρ S H) (rv : RV K ρ H w w') : Q w' H := q ρ w' H (Ext.refl _ _) r rv
theorem Post.tup {ρ : List Addr} {H : Hp} {S : Store} {xs : List M} {vs : List V} {Q : VK} {p : Addr} (q : Post K ρ H S (.tup xs) Q) (r : RepS K ρ S H) (rv : RVs K ρ H xs vs) (hp : H p = none) : Q (.ref p) (upd H p (.tup vs)) := by
  obtain ⟨E2, r2⟩ := r.side (o := .tup vs) hp
  exact q ρ _ _ E2 r2 (.tup (SqT.of upd_same) (rv.mono r E2))
/-- the list at a number -/
def lstAt (S : Store) (n : Nat) : Option (List M) := match S[n]? with
  | some (.lst xs) => some xs
  | _ => none
theorem lstAt_some {S : Store} {n : Nat} {xs : List M} (h : lstAt S n = some xs) : S[n]? = some (.lst xs) := by
  unfold lstAt at h
  split at h
  · cases h; assumption
  · cases h
theorem RepS.lst {ρ : List Addr} {S : Store} {H : Hp} (r : RepS K ρ S H) {n : Nat} {xs : List M} {a : Addr} (h : lstAt S n = some xs) (ha : ρ[n]? = some a) : ∃ vs, H a = some (.lst vs) ∧ RVs K ρ H xs vs := by
  obtain ⟨b, o, h1, h2, h3⟩ := r.at (lstAt_some h)
  rw [ha] at h1; cases h1
  cases h3 with
  | lst h3 => exact ⟨_, h2, h3⟩
/-- a sequence's items -/
def seqOf (S : Store) : M → Option (List M)
  | .tup xs => some xs
  | .loc n => lstAt S n
  | .ro ns => some (ns.map .int)
  | .fz xs => some xs
  | _ => none
theorem seqOf_ok {ρ : List Addr} {S : Store} {H : Hp} (r : RepS K ρ S H) {x : M} {v : V} {xs : List M} (rv : RV K ρ H x v) (h : seqOf S x = some xs) : ∃ a vs, v = .ref a ∧ RVs K ρ H xs vs ∧ ((SqL K.K H a vs ∧ ∀ ys, x ≠ .tup ys) ∨ (SqT K.K H a vs ∧ x = .tup xs)) := by
  cases rv with
  | tup h1 h2 => cases h; exact ⟨_, _, rfl, h2, .inr ⟨h1, rfl⟩⟩
  | loc h1 =>
    obtain ⟨vs, h2, h3⟩ := r.lst (show lstAt S _ = some xs from h) h1
    exact ⟨_, vs, rfl, h3, .inl ⟨SqL.of h2, fun ys z => by cases z⟩⟩
  | ro h1 => cases h; exact ⟨_, _, rfl, RVs.of_ints _, .inl ⟨h1.sq, fun ys z => by cases z⟩⟩
  | fz h1 t => cases h; exact ⟨_, _, rfl, t, .inl ⟨.inl (.inr ⟨_, h1⟩), fun ys z => by cases z⟩⟩
  | _ => cases h
/-- a number that is not great -/
def Sm (j : Int) : Prop := j.natAbs < 4611686018427387904
instance (j : Int) : Decidable (Sm j) := inferInstanceAs (Decidable (j.natAbs < 4611686018427387904))
theorem Sm.of {j : Int} (h0 : -4611686018427387904 < j) (h1 : j < 4611686018427387904) : Sm j := by unfold Sm; omega
theorem Sm.nat {n : Nat} (h : n < 4611686018427387904) : Sm (n : Int) := by unfold Sm; omega
theorem Sm.lo {j : Int} (h : Sm j) : -(2 ^ 62) ≤ j := by unfold Sm at h; omega
theorem Sm.hi {j : Int} (h : Sm j) : j < 2 ^ 62 := by unfold Sm at h; omega
theorem Sm.lo3 {j : Int} (h : Sm j) : -(2 ^ 63) ≤ j := by unfold Sm at h; omega
theorem Sm.hi3 {j : Int} (h : Sm j) : j < 2 ^ 63 := by unfold Sm at h; omega
/-- a list's items, the list in the store or not to be changed -/
def lstOf (S : Store) : M → Option (List M)
  | .loc n => lstAt S n
  | .fz xs => some xs
  | _ => none
theorem lstOf_ok {ρ : List Addr} {S : Store} {H : Hp} (r : RepS K ρ S H) {x : M} {v : V} {xs : List M} (rv : RV K ρ H x v) (h : lstOf S x = some xs) : ∃ a vs, v = .ref a ∧ RVs K ρ H xs vs ∧ Rd H a (.lst vs) := by
  cases rv with
  | loc h1 =>
    obtain ⟨vs, h2, h3⟩ := r.lst (show lstAt S _ = some xs from h) h1
    exact ⟨_, vs, rfl, h3, .inl h2⟩
  | fz h1 t => cases h; exact ⟨_, _, rfl, t, .inr ⟨_, h1⟩⟩
  | _ => cases h
def rCatR : R2 := fun x y H Q => ∃ l b xs zs, x = .ref l ∧ y = .ref b ∧ Rd H l (.lst xs) ∧ Rd H b (.lst zs) ∧ xs.length + zs.length ≤ sizeLine ∧ ∀ p, H p = none → Q (.ref p) (upd H p (.lst (xs ++ zs)))
theorem op_catR : OpR X (binaryOp .Add) rCatR := by
  intro pins s σ H x y v u Q I rx ry h
  obtain ⟨l, b, xs, zs, rfl, rfl, hH, hB, hz, q⟩ := h
  cases rx
  cases ry
  obtain ⟨z, its, n, r, e⟩ := hH.ok I.hok
  obtain ⟨z2, its2, n2, r2, e2⟩ := hB.ok I.hok
  have hl := r.length
  have hl2 := r2.length
  refine PySem.P.add_list e e2 ?_ (by rw [List.size_toArray, List.size_toArray]; omega)
  have ea : its.toArray ++ its2.toArray = (its ++ its2).toArray := by simp
  rw [ea]
  exact ⟨.ref _, _, I.lnew (t' := s.toks) (r.append r2) (by rw [List.length_append]; omega), rfl, q _ I.fresh⟩
def addA (al : List M → Mo M) : M → M → Mo M
  | .int i, .int j => ret (.int (i + j))
  | .str i, .str j => fun S => if i.length + j.length ≤ sizeLine then some (.str (i ++ j), S) else none
  | .tup xs, .tup ys => fun S => if xs.length + ys.length ≤ sizeLine then some (.tup (xs ++ ys), S) else none
  | x, y => fun S => match lstOf S x, lstOf S y with
    | some xs, some ys => al (xs ++ ys) S
    | _, _ => none
theorem om_addA {al : List M → Mo M} (hal : Alc K al) (hK : X.K = K.K) : OpM K X (binaryOp .Add) (addA al) := .mk' fun pins s σ H x y v u Q ρ S mx my w S' I rx ry r r1 r2 e q => by
  unfold addA at e
  split at e
  · cases e; cases r1; cases r2
    exact op_add pins s σ H _ _ v u Q I rx ry ⟨_, _, rfl, rfl, q.same r (.int _)⟩
  · split at e
    · next hl =>
      cases e; cases r1; cases r2
      exact op_add_str pins s σ H _ _ v u Q I rx ry ⟨_, _, rfl, rfl, hl, q.same r (.str _)⟩
    · cases e
  · split at e
    · next hl =>
      cases e
      cases r1 with
      | tup h1 t1 =>
        cases r2 with
        | tup h2 t2 =>
          rename_i xs ys _ _ _ _
          by_cases hx : xs = []
          · subst hx
            cases t1
            exact Eb.op_catE pins s σ H _ _ v u Q I rx ry ⟨_, _, _, rfl, rfl, hK ▸ h1, hK ▸ h2, q.same r (.tup h2 t2)⟩
          · refine op_catT pins s σ H _ _ v u Q I rx ry ⟨_, _, _, _, rfl, rfl, hK ▸ h1, hK ▸ h2, ?_, by rw [← t1.len, ← t2.len]; exact hl, fun z => ?_, fun _ p hp => q.tup r (t1.app t2) hp⟩
            · intro z; subst z; cases t1; exact hx rfl
            · subst z
              cases t2
              rw [List.append_nil] at q
              exact q.same r (.tup h1 t1)
    · cases e
  · dsimp only at e
    split at e
    · next xs ys hx hy =>
      obtain ⟨a, us, rfl, g2, g1⟩ := lstOf_ok r r1 hx
      obtain ⟨b, ws, rfl, k2, k1⟩ := lstOf_ok r r2 hy
      have rv := g2.app k2
      exact unlk (op_catR pins s σ H _ _ v u _ I rx ry ⟨_, _, _, _, rfl, rfl, g1, k1, by rw [← List.length_append, ← rv.len]; exact hal.len e, fun p hp => hal.go q r rv e hp⟩)
    · cases e
def intM (f : Int → Int → Int) : M → M → Mo M
  | .int i, .int j => ret (.int (f i j))
  | _, _ => fail
def intC (C : Int → Int → Prop) [∀ i j, Decidable (C i j)] (f : Int → Int → Int) : M → M → Mo M
  | .int i, .int j => fun S => if C i j then some (.int (f i j), S) else none
  | _, _ => fail
theorem om_int0 {f : Value → Value → Sem Value} {g : Int → Int → Int} (h : OpR X f (rI0 fun i j => .int (g i j))) : OpM K X f (intM g) := .mk' fun pins s σ H x y v u Q ρ S mx my w S' I rx ry r r1 r2 e q => by
  unfold intM at e
  split at e
  · cases e; cases r1; cases r2
    exact h pins s σ H _ _ v u Q I rx ry ⟨_, _, rfl, rfl, q.same r (.int _)⟩
  · cases e
theorem om_intC {f : Value → Value → Sem Value} {C : Int → Int → Prop} [∀ i j, Decidable (C i j)] {g : Int → Int → Int} (h : OpR X f (rI C fun i j => .int (g i j))) : OpM K X f (intC C g) := .mk' fun pins s σ H x y v u Q ρ S mx my w S' I rx ry r r1 r2 e q => by
  unfold intC at e
  split at e
  · split at e
    · cases e; cases r1; cases r2
      exact h pins s σ H _ _ v u Q I rx ry ⟨_, _, rfl, rfl, by assumption, q.same r (.int _)⟩
    · cases e
  · cases e
abbrev subM := intM (· - ·)
theorem om_sub : OpM K X (binaryOp .Sub) subM := om_int0 op_sub
instance (i j : Int) : Decidable (CMul i j) := inferInstanceAs (Decidable (_ ∨ _))
instance (i j : Int) : Decidable (CDiv i j) := inferInstanceAs (Decidable (_ ∧ _))
instance (i j : Int) : Decidable (CPow i j) := inferInstanceAs (Decidable (_ ∧ _))
/-- a product; a list so many times -/
def mulA (al : List M → Mo M) : M → M → Mo M
  | .int i, .int j => fun S => if CMul i j then some (.int (i * j), S) else none
  | x, .int k => fun S => match lstOf S x with
    | some xs => if Sm k ∧ xs.length * k.toNat ≤ sizeLine then al (List.replicate k.toNat xs).flatten S else none
    | none => none
  | _, _ => fail
def rRepR : R2 := fun x y H Q => ∃ l k xs, x = .ref l ∧ y = .int k ∧ Rd H l (.lst xs) ∧ -(2 ^ 63) ≤ k ∧ k < 2 ^ 63 ∧ xs.length * k.toNat ≤ sizeLine ∧
  ∀ p, H p = none → Q (.ref p) (upd H p (.lst (List.replicate k.toNat xs).flatten))
theorem op_repR : OpR X (binaryOp .Mult) rRepR := by
  intro pins s σ H x y v u Q I rx ry h
  obtain ⟨l, k, xs, rfl, rfl, hH, h1, h2, hz, q⟩ := h
  cases rx
  obtain ⟨t, rfl⟩ := ry
  obtain ⟨z, its, n, r, e⟩ := hH.ok I.hok
  have hl := r.length
  have hlen : its.toArray.size * k.toNat ≤ sizeLine := by rw [List.size_toArray, ← hl]; exact hz
  have hcap : ¬ its.toArray.size * k.toNat > (2 ^ 63 - 1) / 8 := by
    have : (sizeLine : Nat) ≤ (2 ^ 63 - 1) / 8 := by decide
    omega
  have hfit : ¬ (!Builtin.List.listFitsIndex k) = true := by
    rw [fitsIndex_both h1 h2]
    exact Bool.false_ne_true
  have hlong : ¬ Builtin.List.listTooLong (its.toArray.size * k.toNat) = true := by
    rw [notLongL hlen]
    exact Bool.false_ne_true
  have hnew : List.foldl (fun x1 x2 => x1 ++ x2) #[] (List.replicate (if its.toArray.isEmpty = true then 0 else k.toNat) its.toArray) = (List.replicate k.toNat its).flatten.toArray := by
    have f0 : ∀ m : Nat, List.foldl (fun x1 x2 => x1 ++ x2) #[] (List.replicate m its.toArray) = (List.replicate m its).flatten.toArray := fun m => by
      have := foldl_rep its m []
      rw [List.nil_append] at this
      exact this
    rw [f0]
    cases its with
    | nil => simp
    | cons a r' => rw [if_neg (by simp)]
  refine wpAny_binaryOp_repeat_ref (T := "list") (U := "int") (by decide) ⟨_, e, rfl⟩ (fun s' => typeIs_int s' k t) noFill_list_mul F.fills_int_mul F.slot_int_rmul repeat_list F.slot_int_index.lookup
    (call_meets F.slot_int_rmul (typeIs_int s k t) F.entry_int_rmul (F.args_int_rmul_2 _ _) (int___rmul___int_list k t l its.toArray n)
      ⟨e, rfl, ⟨_, e, rfl⟩, call_meets F.slot_list_mul ⟨_, e, rfl⟩ F.entry_list_mul (F.args_list_mul_2 _ _) (AutoListH.list___mul___list_int_3 l its.toArray n k t hfit hcap hlong) ⟨e, ?_⟩⟩)
  rw [hnew]
  exact ⟨.ref _, _, I.lnew (t' := s.toks) (r.rep k.toNat) (by rw [len_rep, Nat.mul_comm]; exact hz), rfl, q _ I.fresh⟩
theorem RVs.rep {ρ : List Addr} {H : Hp} {xs : List M} {vs : List V} (h : RVs K ρ H xs vs) : ∀ n : Nat, RVs K ρ H (List.replicate n xs).flatten (List.replicate n vs).flatten
  | 0 => .nil
  | n + 1 => by rw [List.replicate_succ, List.replicate_succ, List.flatten_cons, List.flatten_cons]; exact h.app (RVs.rep h n)
theorem om_mulA {al : List M → Mo M} (hal : Alc K al) : OpM K X (binaryOp .Mult) (mulA al) := .mk' fun pins s σ H x y v u Q ρ S mx my w S' I rx ry r r1 r2 e q => by
  unfold mulA at e
  split at e
  · split at e
    · cases e; cases r1; cases r2
      exact op_mul pins s σ H _ _ v u Q I rx ry ⟨_, _, rfl, rfl, by assumption, q.same r (.int _)⟩
    · cases e
  · dsimp only at e
    split at e
    · next xs hx =>
      split at e
      · next hh =>
        cases r2
        obtain ⟨a, us, rfl, g2, g1⟩ := lstOf_ok r r1 hx
        exact unlk (op_repR pins s σ H _ _ v u _ I rx ry ⟨_, _, _, rfl, rfl, g1, hh.1.lo3, hh.1.hi3, by rw [← g2.len]; exact hh.2, fun p hp => hal.go q r (g2.rep _) e hp⟩)
      · cases e
    · cases e
  · cases e
abbrev modM := intC (fun _ j => 0 < j) (· % ·)
theorem om_mod : OpM K X (binaryOp .Mod) modM := om_intC op_mod
abbrev fdivM := intC CDiv (· / ·)
theorem om_fdiv : OpM K X (binaryOp .FloorDiv) fdivM := om_intC op_fdiv
abbrev powM := intC CPow fun i j => i ^ j.toNat
theorem om_pow : OpM K X (binaryOp .Pow) powM := om_intC op_pow
def mUn (o : M → Mo M) (m : MSt → Mo M) : MSt → Mo M := fun σ => bnd (m σ) o
def ordM (p : Int → Int → Bool) : M → M → Mo M
  | .int i, .int j => ret (.bl (p i j))
  | _, _ => fail
theorem om_ord {f : Value → Value → Sem Value} {g : Int → Int → Bool} (h : OpR X f (rI0 fun i j => .bl (g i j))) : OpM K X f (ordM g) := .mk' fun pins s σ H x y v u Q ρ S mx my w S' I rx ry r r1 r2 e q => by
  unfold ordM at e
  split at e
  · cases e; cases r1; cases r2
    exact h pins s σ H _ _ v u Q I rx ry ⟨_, _, rfl, rfl, q.same r (.bl _)⟩
  · cases e
/-- the numbers of a row of them -/
def intsOf : List M → Option (List Int)
  | [] => some []
  | .int i :: xs => match intsOf xs with
    | some ns => some (i :: ns)
    | none => none
  | _ => none
theorem intsOf_ok : ∀ {xs : List M} {ns : List Int}, intsOf xs = some ns → xs = ns.map M.int
  | [], _, h => by cases h; rfl
  | .int i :: xs, ns, h => by
    unfold intsOf at h
    split at h
    · next ms hm => cases h; rw [intsOf_ok hm]; rfl
    · cases h
  | .non :: _, _, h => by cases h
  | .bl _ :: _, _, h => by cases h
  | .str _ :: _, _, h => by cases h
  | .tup _ :: _, _, h => by cases h
  | .loc _ :: _, _, h => by cases h
  | .ro _ :: _, _, h => by cases h
  | .fz _ :: _, _, h => by cases h
theorem intsOf_map : ∀ ns : List Int, intsOf (ns.map M.int) = some ns
  | [] => rfl
  | n :: ns => by show (match intsOf (ns.map M.int) with | some ms => some (n :: ms) | none => none) = _; rw [intsOf_map ns]
def ltM : M → M → Mo M
  | .int i, .int j => ret (.bl (decide (i < j)))
  | .tup xs, .tup ys => fun S => match intsOf xs, intsOf ys with
    | some ns, some ms => some (.bl (HT.lexLt ns ms), S)
    | _, _ => none
  | _, _ => fail
theorem om_lt (hK : X.K = K.K) (hu : X.A.units < cLine) : OpM K X (compareOp .Lt) ltM := .mk' fun pins s σ H x y v u Q ρ S mx my w S' I rx ry r r1 r2 e q => by
  unfold ltM at e
  split at e
  · cases e; cases r1; cases r2
    exact op_lt pins s σ H _ _ v u Q I rx ry ⟨_, _, rfl, rfl, q.same r (.bl _)⟩
  · split at e
    · next ns ms hn hm =>
      cases e
      cases r1 with
      | tup h1 t1 =>
        cases r2 with
        | tup h2 t2 =>
          rw [intsOf_ok hn] at t1
          rw [intsOf_ok hm] at t2
          rw [t1.ints] at h1
          rw [t2.ints] at h2
          exact op_ltT hu pins s σ H _ _ v u Q I rx ry ⟨_, _, ns, ms, rfl, rfl, hK ▸ h1, hK ▸ h2, q.same r (.bl _)⟩
    · cases e
  · cases e
abbrev gtM := ordM fun i j => decide (j < i)
abbrev geM := ordM fun i j => decide (j ≤ i)
theorem om_gt : OpM K X (compareOp .Gt) gtM := om_ord op_gt
theorem om_ge : OpM K X (compareOp .GtE) geM := om_ord op_ge
/-- a thing as data -/
def mapO {α β : Type} (f : α → Option β) : List α → Option (List β)
  | [] => some []
  | x :: xs => match f x, mapO f xs with
    | some y, some ys => some (y :: ys)
    | _, _ => none
def dat (S : Store) : Nat → M → Option PyData
  | 0, _ => none
  | _ + 1, .non => some .none
  | _ + 1, .bl b => some (.bool b)
  | _ + 1, .int i => some (.int i)
  | _ + 1, .str x => some (.str x)
  | n + 1, .tup xs => match mapO (dat S n) xs with
    | some ds => some (.tuple ds)
    | none => none
  | n + 1, .loc k => match lstAt S k with
    | some xs => match mapO (dat S n) xs with
      | some ds => some (.list ds)
      | none => none
    | none => none
  | n + 1, .fz xs => match mapO (dat S n) xs with
    | some ds => some (.list ds)
    | none => none
  | _ + 1, .ro _ => none
theorem dat_ok {ρ : List Addr} {S : Store} {H : Hp} (r : RepS K ρ S H) : ∀ (n : Nat) {x : M} {v : V} {d : PyData}, dat S n x = some d → RV K ρ H x v → Dp K.K H v d
  | 0, _, _, _, h, _ => by cases h
  | n + 1, x, v, d, h, rv => by
    have all : ∀ {xs : List M} {vs : List V} {ds : List PyData}, mapO (dat S n) xs = some ds → RVs K ρ H xs vs → DpAll K.K H vs ds := by
      intro xs
      induction xs with
      | nil => intro vs ds h t; cases t; cases h; exact .nil
      | cons y ys ih =>
        intro vs ds h t
        unfold mapO at h
        split at h
        · next d' ds' h1 h2 =>
          cases h
          cases t with
          | cons a b => exact .cons (dat_ok r n h1 a) (ih h2 b)
        · cases h
    cases rv with
    | non => cases h; exact .non
    | bl b => cases h; exact .bl b
    | int i => cases h; exact .int i
    | str y => cases h; exact .str y
    | @tup xs a vs h1 h2 =>
      have h' : (match mapO (dat S n) xs with
        | some ds => some (.tuple ds)
        | none => none) = some d := h
      split at h'
      · next ds hds => cases h'; exact .tup h1 (all hds h2)
      · cases h'
    | @loc k a h1 =>
      have h' : (match lstAt S k with
        | some xs => match mapO (dat S n) xs with
          | some ds => some (.list ds)
          | none => none
        | none => none) = some d := h
      split at h'
      · next xs hx =>
        split at h'
        · next ds hds =>
          cases h'
          obtain ⟨vs, g1, g2⟩ := r.lst hx h1
          exact .lst (SqL.of g1) (all hds g2)
        · cases h'
      · cases h'
    | ro h1 => cases h
    | @fz xs a o vs h1 h2 =>
      have h' : (match mapO (dat S n) xs with
        | some ds => some (.list ds)
        | none => none) = some d := h
      split at h'
      · next ds hds => cases h'; exact .lst (.inl (.inr ⟨_, h1⟩)) (all hds h2)
      · cases h'
/-- are two things alike -/
def eqB (S : Store) (x y : M) : Option Bool := match x, y with
  | .int i, .int j => some (decide (i = j))
  | .str i, .str j => some (decide (i = j))
  | .non, .int _ => some false
  | .int _, .non => some false
  | .non, .non => some true
  | .bl i, .bl j => some (decide (i = j))
  | x, y => match dat S 40 x, dat S 40 y with
    | some d, some e => if SeqAt.shaped d = true ∧ SeqAt.shaped e = true then some (PyData.eqv d e) else none
    | _, _ => none
def eqM (x y : M) : Mo M := fun S => match eqB S x y with
  | some b => some (.bl b, S)
  | none => none
def neM (x y : M) : Mo M := fun S => match eqB S x y with
  | some b => some (.bl (!b), S)
  | none => none
theorem om_eq (hK : X.K = K.K) (hu : X.A.units + 64 < cLine) : OpM K X (compareOp .Eq) eqM := .mk' fun pins s σ H x y v u Q ρ S mx my w S' I rx ry r r1 r2 e q => by
  unfold eqM at e
  split at e
  · next b hb =>
    cases e
    unfold eqB at hb
    split at hb
    · cases hb; cases r1; cases r2
      exact op_eq pins s σ H _ _ v u Q I rx ry ⟨rfl, by simpa using q.same r (.bl _)⟩
    · cases hb; cases r1; cases r2
      exact op_eq pins s σ H _ _ v u Q I rx ry ⟨rfl, by simpa using q.same r (.bl _)⟩
    · cases hb; cases r1; cases r2
      exact op_eq pins s σ H _ _ v u Q I rx ry ⟨rfl, by simpa using q.same r (.bl _)⟩
    · cases hb; cases r1; cases r2
      exact op_eq pins s σ H _ _ v u Q I rx ry ⟨rfl, by simpa using q.same r (.bl _)⟩
    · cases hb; cases r1; cases r2
      exact op_eq pins s σ H _ _ v u Q I rx ry ⟨rfl, by simpa using q.same r (.bl _)⟩
    · cases hb; cases r1; cases r2
      exact op_eq pins s σ H _ _ v u Q I rx ry ⟨rfl, by simpa using q.same r (.bl _)⟩
    · split at hb
      · next d e h1 h2 =>
        split at hb
        · next hs =>
          cases hb
          exact op_eqD hu pins s σ H _ _ v u Q I rx ry ⟨d, e, hK ▸ dat_ok r 40 h1 r1, hK ▸ dat_ok r 40 h2 r2, hs.1, hs.2, q.same r (.bl _)⟩
        · cases hb
      · cases hb
  · cases e
theorem om_ne (hK : X.K = K.K) (hu : X.A.units + 64 < cLine) : OpM K X (compareOp .NotEq) neM := .mk' fun pins s σ H x y v u Q ρ S mx my w S' I rx ry r r1 r2 e q => by
  unfold neM at e
  split at e
  · next b hb =>
    cases e
    unfold eqB at hb
    split at hb
    · cases hb; cases r1; cases r2
      exact op_ne pins s σ H _ _ v u Q I rx ry ⟨rfl, by simpa using q.same r (.bl _)⟩
    · cases hb; cases r1; cases r2
      exact op_ne pins s σ H _ _ v u Q I rx ry ⟨rfl, by simpa using q.same r (.bl _)⟩
    · cases hb; cases r1; cases r2
      exact op_ne pins s σ H _ _ v u Q I rx ry ⟨rfl, by simpa using q.same r (.bl _)⟩
    · cases hb; cases r1; cases r2
      exact op_ne pins s σ H _ _ v u Q I rx ry ⟨rfl, by simpa using q.same r (.bl _)⟩
    · cases hb; cases r1; cases r2
      exact op_ne pins s σ H _ _ v u Q I rx ry ⟨rfl, by simpa using q.same r (.bl _)⟩
    · cases hb; cases r1; cases r2
      exact op_ne pins s σ H _ _ v u Q I rx ry ⟨rfl, by simpa using q.same r (.bl _)⟩
    · split at hb
      · next d e h1 h2 =>
        split at hb
        · next hs =>
          cases hb
          exact op_neD hu pins s σ H _ _ v u Q I rx ry ⟨d, e, hK ▸ dat_ok r 40 h1 r1, hK ▸ dat_ok r 40 h2 r2, hs.1, hs.2, q.same r (.bl _)⟩
        · cases hb
      · cases hb
  · cases e
def ixM : M → M → Mo M
  | x, .int i => fun S => match seqOf S x with
    | some xs => match atI xs i with
      | some v => some (v, S)
      | none => none
    | none => none
  | _, _ => fail
theorem RVs.atI {ρ : List Addr} {H : Hp} {xs : List M} {vs : List V} {i : Int} {x : M} (h : RVs K ρ H xs vs) (e : L2.atI xs i = some x) : ∃ v, L2.atI vs i = some v ∧ RV K ρ H x v := by
  unfold L2.atI at e ⊢
  rw [← h.len]
  cases q : ixN xs.length i with
  | none => rw [q] at e; cases e
  | some j =>
    rw [q] at e
    obtain ⟨v, h1, h2⟩ := h.get (show xs[j]? = some x from e)
    exact ⟨v, h1, h2⟩
theorem ixr_seq : IxR X (fun x y H Q => rIxL X.K x y H Q ∨ rIxT X.K x y H Q) := fun value slice pins s σ H x y v u Q I rx ry h hs => by
  rcases h with h | h
  · exact ix_list value slice pins s σ H x y v u Q I rx ry h hs
  · exact ix_tup value slice pins s σ H x y v u Q I rx ry h hs
theorem me_ix {a b : Expr} {ma mb : MSt → Mo M} {pos : Pos} (hK : X.K = K.K) (ha : ME K X a ma) (hb : ME K X b mb) (hs : PlainIx b) : ME K X (.Subscript a b pos) (mOp ixM ma mb) :=
  .of (pe_ix ixr_seq ha.pe hb.pe hs) fun ρ σ S v S' σV H Q r rs e q => by
    refine (fun h => ?_ : (∀ x y H Q, rM K ixM x y H Q → rIxL X.K x y H Q ∨ rIxT X.K x y H Q) → _) ?_
    · have := op_run (o := ixM) r rs e q
      obtain ⟨ρ0, σ0, S0, v0, S0', r0, rs0, e0, q0⟩ := this
      refine ⟨ρ0, σ0, S0, v0, S0', r0, rs0, e0, fun ρ1 v1 H1 E1 r1 rv1 => ?_⟩
      obtain ⟨ρ2, σ2, S2, v2, S2', r2, rs2, e2, q2⟩ := q0 ρ1 v1 H1 E1 r1 rv1
      exact ⟨ρ2, σ2, S2, v2, S2', r2, rs2, e2, fun ρ3 v3 H3 E3 r3 rv3 => h _ _ _ _ (q2 ρ3 v3 H3 E3 r3 rv3)⟩
    · rintro x y H Q ⟨ρ, S, mx, my, w, S', r, r1, r2, e, q⟩
      unfold ixM at e
      split at e
      · next mx i =>
        split at e
        · next xs hx =>
          split at e
          · next v hv =>
            cases e
            cases r2
            obtain ⟨a, vs, rfl, rv, h⟩ := seqOf_ok r r1 hx
            obtain ⟨v', h1, h2⟩ := rv.atI hv
            rcases h with ⟨h, _⟩ | ⟨h, _⟩
            · exact .inl ⟨_, _, _, _, rfl, rfl, hK ▸ h, h1, q.same r h2⟩
            · exact .inr ⟨_, _, _, _, rfl, rfl, hK ▸ h, h1, q.same r h2⟩
          · cases e
        · cases e
      · cases e
end
end Em
set_option Elab.async false
set_option maxRecDepth 100000
set_option linter.all false
namespace Eb
open PySem PyProof.Rows L2 HT
section
variable {prog : Program} {w : World} {A : Around} {E : Value → Shared → Prop} {s : Shared}
/-- t[lo:hi], the whole of t: t itself -/
theorem tuple_whole {t sl : Addr} {its : Array Value} {vl vu : Value} {lo hi : Option Int} {Q : Value → Shared → Prop} (ht : IsTup s.heap t its) (hs : s.heap.IsSliceOf sl vl vu .none) (pl : IsPart vl lo) (pu : IsPart vu hi)
    (hw : sIx its.size 0 lo = 0 ∧ sIx its.size its.size hi = its.size) (h : Q (.ref t) s) : wpAny (model prog w) A (getItem (.ref t) (.ref sl)) Q E s := by
  have z : s.TypeIs (.ref sl) "slice" := let ⟨o, ho, hc, _⟩ := hs; ⟨o, ho, hc⟩
  unfold getItem
  try with_reducible refine wpAny_holding ?_
  first | refine wpAny_bind (wpAny_pure ?_) | skip
  refine wpAny_bind (wpAny_sequenceKey ht.typeIs (by decide) (wpAny_bind (wpAny_callSpecial?_slot (name := Str.ofString "__getitem__") ht.typeIs slot_tuple_getitem
    (wpAny_call_entry slot_tuple_getitem ht.typeIs entry_tuple_getitem (wpAny_bind (m := Builtin.Tuple.tupleItemsOf (.ref t)) (tupleItemsOf_ ht (wpAny_bind (wpAny_typeOf z ?_)))) (args_tuple_getitem _ _)))))
  rw [if_pos (by decide)]
  refine wpAny_bind (sliceApplied_gen hs pl pu ?_)
  have y : ((((sIx its.size 0 lo : Nat) : Int) == 0 && (1 : Int) == 1 && (sIx its.size its.size hi - sIx its.size 0 lo) == its.size) = true) := by
    rw [hw.1, hw.2]; simp
  show wpAny _ _ (if _ then _ else _) _ _ s
  rw [if_pos y]
  refine wpAny_bind (m := Builtin.Tuple.tupleIsExact (.ref t)) (wpAny_bind (wpAny_typeOf ht.typeIs (wpAny_pure ?_)))
  rw [if_pos (by decide)]
  exact wpAny_bind (wpAny_rule (wpAny_pure ⟨_, rfl, wpAny_pure h⟩))
end
section
variable {X : Cx}
def rSlW (K : PySem.W.Frag) : V → Option Int → Option Int → Hp → VK → Prop := fun x lo hi H Q => ∃ a xs, x = .ref a ∧ SqT K H a xs ∧ (HT.sIx xs.length 0 lo = 0 ∧ HT.sIx xs.length xs.length hi = xs.length) ∧ Q (.ref a) H
theorem sl_whole : SlR X (rSlW X.K) := by
  intro pins s σ H x v vl vu lo hi sl Q I rx hs pl pu h
  obtain ⟨a, xs, rfl, hx, hw, q⟩ := h
  cases rx
  obtain ⟨its, r, ht, _⟩ := I.tuple hx
  have e : its.toArray.size = xs.length := by rw [List.size_toArray]; exact r.length.symm
  exact ⟨"tuple", _, PyProof.Rows.slot_tuple_getitem.lookup, ht.typeIs, tuple_whole ht hs pl pu (by rw [e]; exact hw) ⟨.ref a, H, I, rfl, q⟩⟩
end
end Eb
set_option Elab.async false
set_option maxRecDepth 100000
set_option linter.all false
namespace Em
open PySem L2
section
variable {K : Ct} {X : Cx}
def oNone : MSt → Mo (Option Int) := fun _ => ret none
def oSome (m : MSt → Mo M) : MSt → Mo (Option Int) := fun σ => bnd (m σ) fun x => match x with
  | .int i => ret (some i)
  | _ => fail
def tMO (K : Ct) (m : MSt → Mo (Option Int)) : TO := fun σV H Q => ∃ ρ σ S b S', RepS K ρ S H ∧ Rσ K ρ H σ σV ∧ m σ S = some (b, S') ∧ ∀ ρ' H', Ext ρ H ρ' H' → RepS K ρ' S' H' → Q b H'
structure MO (K : Ct) (X : Cx) (e : Option Expr) (m : MSt → Mo (Option Int)) : Prop where
  po : PO X e (tMO K m)
theorem mo_none : MO K X none oNone := ⟨fun pins s σV H Q I ⟨ρ, σ, S, v, S', r, rs, e, q⟩ => po_none pins s σV H Q I (by cases e; exact q ρ H (Ext.refl _ _) r)⟩
theorem mo_some {e : Expr} {m : MSt → Mo M} (h : ME K X e m) : MO K X (some e) (oSome m) := ⟨fun pins s σV H Q I ⟨ρ, σ, S, v, S', r, rs, e, q⟩ => po_some h.pe pins s σV H Q I (by
  replace e := bnd_some e
  obtain ⟨x, S1, e1, e⟩ := e
  refine ⟨ρ, σ, S, x, S1, r, rs, e1, fun ρ1 x' H1 E1 r1 rx => ?_⟩
  split at e
  · cases e; cases rx
    exact ⟨_, rfl, q ρ1 H1 E1 r1⟩
  · cases e)⟩
def cutM (xs : List M) (lo hi : Option Int) : List M := (xs.drop (HT.sIx xs.length 0 lo)).take (HT.sIx xs.length xs.length hi - HT.sIx xs.length 0 lo)
theorem RVs.cut {ρ : List Addr} {H : Hp} {xs : List M} {vs : List V} (h : RVs K ρ H xs vs) (lo hi : Option Int) : RVs K ρ H (cutM xs lo hi) (cutV vs lo hi) := by
  unfold cutM cutV
  rw [h.len]
  exact (h.drop _).take _
def slA (al : List M → Mo M) (x : M) (lo hi : Option Int) : Mo M := fun S => match x with
  | .tup xs => some (.tup (cutM xs lo hi), S)
  | x => match lstOf S x with
    | some xs => al (cutM xs lo hi) S
    | none => none
def mSlA (al : List M → Mo M) (m : MSt → Mo M) (ml mh : MSt → Mo (Option Int)) : MSt → Mo M := fun σ => bnd (m σ) fun x => bnd (ml σ) fun l => bnd (mh σ) fun h => slA al x l h
theorem me_sliceA {al : List M → Mo M} (hal : Alc K al) {e : Expr} {m : MSt → Mo M} {lo hi : Option Expr} {ml mh : MSt → Mo (Option Int)} {pos p2 : Pos} (hK : X.K = K.K) (he : ME K X e m) (hl : MO K X lo ml) (hh : MO K X hi mh) : ME K X (.Subscript e (.Slice lo hi none p2) pos) (mSlA al m ml mh) :=
  .of (PE.unlk (pe_slice (SlR.or sl_list (SlR.or sl_tup Eb.sl_whole)) he.pe hl.po hh.po)) fun ρ σ S v S' σV H Q r rs e q => by
    replace e := bnd_some e
    obtain ⟨x, S1, e1, e⟩ := e
    replace e := bnd_some e
    obtain ⟨l, S2, e2, e⟩ := e
    replace e := bnd_some e
    obtain ⟨h, S3, e3, e⟩ := e
    refine ⟨ρ, σ, S, x, S1, r, rs, e1, fun ρ1 x' H1 E1 r1 rx => ?_⟩
    refine ⟨ρ1, σ, S1, l, S2, r1, rs.mono r E1, e2, fun ρ2 H2 E2 r2 => ?_⟩
    refine ⟨ρ2, σ, S2, h, S3, r2, (rs.mono r E1).mono r1 E2, e3, fun ρ3 H3 E3 r3 => ?_⟩
    have rx3 := (rx.mono r1 E2).mono r2 E3
    have q3 : Post K ρ3 H3 S' v Q := fun ρ4 v' H4 E4 => q ρ4 v' H4 (E1.trans (E2.trans (E3.trans E4)))
    unfold slA at e
    split at e
    · cases e
      cases rx3 with
      | tup h1 t1 =>
        rename_i xs vs _
        by_cases hn : HT.sIx xs.length 0 l = 0 ∧ HT.sIx xs.length xs.length h = xs.length
        · refine .inr (.inr ⟨_, _, rfl, hK ▸ h1, by rw [← t1.len]; exact hn, ?_⟩)
          have e : cutM xs l h = xs := by unfold cutM; rw [hn.1, hn.2]; simp
          rw [e] at q3
          exact q3.lk.same r3 (.tup h1 t1)
        · exact .inr (.inl ⟨_, _, rfl, hK ▸ h1, by rw [← t1.len]; exact hn, fun p hp => q3.lk.tup r3 (t1.cut _ _) hp⟩)
    · split at e
      · next xs hx =>
        obtain ⟨a, us, rfl, g2, g1⟩ := lstOf_ok r3 rx3 hx
        exact .inl ⟨_, _, rfl, .inl g1, fun p hp => hal.go q3 r3 (g2.cut _ _) e hp⟩
      · cases e
def mCb (o : List M → Mo M) (ma : MSt → Mo (List M)) : MSt → Mo M := fun σ => bnd (ma σ) o
theorem cb_run {o : List M → Mo M} {ma : MSt → Mo (List M)} {ρ : List Addr} {σ : MSt} {S S' : Store} {v : M} {σV : St} {H : Hp} {Q : VK} (r : RepS K ρ S H) (rs : Rσ K ρ H σ σV) (e : mCb o ma σ S = some (v, S')) (q : Post K ρ H S' v Q) : tCB (rC K o) (tMA K ma) σV H Q := by
  replace e := bnd_some e
  obtain ⟨xs, S1, e1, e⟩ := e
  exact ⟨ρ, σ, S, xs, S1, r, rs, e1, fun ρ1 vs H1 E1 r1 rv => ⟨ρ1, S1, xs, v, S', r1, rv, e, fun ρ2 v' H2 E2 => q ρ2 v' H2 (E1.trans E2)⟩⟩
section
variable {x : Str} {p pos : Pos} {e : Expr} {es : List Expr} {ma : MSt → Mo (List M)} {id T : String} {o : List M → Mo M}
theorem me_callB (hc : CallM K X (.builtin id) o) (hg : Gl X x) (hm : X.mg x = none) (hv : bootBuiltins x = some (.builtin id)) (ha : MA K X (e :: es) ma) (hn : x ≠ "__name__" := by decide) (hdb : (x == ("__debug__" : Str)) = false := by decide)
    (he : starEach (e :: es) X.env = (false, eval e X.env) :: starEach es X.env := by rfl) (hpl : (backTo pos (starEach es X.env)).any (·.1) = false := by rfl) : ME K X (.Call (.Name x p) (e :: es) [] pos) (mCb o ma) :=
  .of (pe_callB hc.cr hg hm hv ha.pa hn hdb he hpl) fun ρ σ S v S' σV H Q r rs e q => cb_run r rs e q
theorem me_callTy (hc : CallM K X (.type T) o) (hg : Gl X x) (hm : X.mg x = none) (hv : bootBuiltins x = some (.type T)) (ha : MA K X (e :: es) ma) (hn : x ≠ "__name__" := by decide) (hdb : (x == ("__debug__" : Str)) = false := by decide)
    (he : starEach (e :: es) X.env = (false, eval e X.env) :: starEach es X.env := by rfl) (hpl : (backTo pos (starEach es X.env)).any (·.1) = false := by rfl) : ME K X (.Call (.Name x p) (e :: es) [] pos) (mCb o ma) :=
  .of (pe_callTy hc.cr hg hm hv ha.pa hn hdb he hpl) fun ρ σ S v S' σV H Q r rs e q => cb_run r rs e q
end
def lenC (vs : List M) : Mo M := fun S => match vs with
  | [.str y] => if y.length ≤ sizeLine then some (.int y.length, S) else none
  | [x] => match seqOf S x with
    | some xs => some (.int xs.length, S)
    | none => none
  | _ => none
theorem cm_len (hK : X.K = K.K) : CallM K X (.builtin "len") lenC := .mk' fun pins s σ H xs us Q ρ S ms w S' I rx r r1 e q => by
  unfold lenC at e
  split at e
  · split at e
    · next hl =>
      cases e
      cases r1 with
      | cons a b =>
        cases b; cases a
        exact call_len pins s σ H _ us Q I rx ⟨_, _, rfl, ⟨hl, rfl⟩, q.same r (.int _)⟩
    · cases e
  · split at e
    · next x _ zs hx =>
      cases e
      cases r1 with
      | cons a b =>
        cases b
        obtain ⟨ad, vs, rfl, rv, h⟩ := seqOf_ok r a hx
        refine call_len pins s σ H _ us Q I rx ⟨_, vs.length, rfl, ?_, by rw [← rv.len]; exact q.same r (.int _)⟩
        rcases h with ⟨h, _⟩ | ⟨h, _⟩
        · exact .inl ⟨_, hK ▸ h, rfl⟩
        · exact .inr ⟨_, hK ▸ h, rfl⟩
    · cases e
  · cases e
def absC (vs : List M) : Mo M := match vs with
  | [.int i] => ret (.int (if i < 0 then -i else i))
  | _ => fail
theorem cm_abs : CallM K X (.builtin "abs") absC := .mk' fun pins s σ H xs us Q ρ S ms w S' I rx r r1 e q => by
  unfold absC at e
  split at e
  · cases e
    cases r1 with
    | cons a b => cases b; cases a; exact call_abs pins s σ H _ us Q I rx ⟨_, rfl, q.same r (.int _)⟩
  · cases e
def intTy (vs : List M) : Mo M := match vs with
  | [.int i] => ret (.int i)
  | [.bl k] => ret (.int (if k then 1 else 0))
  | _ => fail
theorem cm_int : CallM K X (.type "int") intTy := .mk' fun pins s σ H xs us Q ρ S ms w S' I rx r r1 e q => by
  unfold intTy at e
  split at e
  · cases e
    cases r1 with
    | cons a b => cases b; cases a; exact call_int1 pins s σ H _ us Q I rx (.inl ⟨_, rfl, q.same r (.int _)⟩)
  · cases e
    cases r1 with
    | cons a b => cases b; cases a; exact call_int1 pins s σ H _ us Q I rx (.inr ⟨_, rfl, q.same r (.int _)⟩)
  · cases e
def max2 (vs : List M) : Mo M := match vs with
  | [.int i, .int j] => ret (.int (if j > i then j else i))
  | _ => fail
def min2 (vs : List M) : Mo M := match vs with
  | [.int i, .int j] => ret (.int (if j < i then j else i))
  | _ => fail
theorem cm_max2 (hc : X.calm = true) : CallM K X (.builtin "max") max2 := .mk' fun pins s σ H xs us Q ρ S ms w S' I rx r r1 e q => by
  unfold max2 at e
  split at e
  · cases e
    cases r1 with
    | cons a b =>
      cases a
      cases b with
      | cons a b => cases b; cases a; exact call_max2 hc pins s σ H _ us Q I rx ⟨_, _, rfl, q.same r (.int _)⟩
  · cases e
theorem cm_min2 (hc : X.calm = true) : CallM K X (.builtin "min") min2 := .mk' fun pins s σ H xs us Q ρ S ms w S' I rx r r1 e q => by
  unfold min2 at e
  split at e
  · cases e
    cases r1 with
    | cons a b =>
      cases a
      cases b with
      | cons a b => cases b; cases a; exact call_min2 hc pins s σ H _ us Q I rx ⟨_, _, rfl, q.same r (.int _)⟩
  · cases e
/-- list(xs), tuple(xs) -/
def listA (al : List M → Mo M) (vs : List M) : Mo M := fun S => match vs with
  | [x] => match seqOf S x with
    | some xs => al xs S
    | none => none
  | _ => none
def tupleC (vs : List M) : Mo M := fun S => match vs with
  | [x] => match seqOf S x with
    | some xs => some (.tup xs, S)
    | none => none
  | _ => none
theorem cm_tuple (hK : X.K = K.K) : CallM K X (.type "tuple") tupleC := .mk' fun pins s σ H xs us Q ρ S ms w S' I rx r r1 e q => by
  unfold tupleC at e
  split at e
  · split at e
    · next x _ zs hx =>
      cases e
      cases r1 with
      | cons a b =>
        cases b
        obtain ⟨ad, vs, rfl, rv, h⟩ := seqOf_ok r a hx
        refine call_tuple_of pins s σ H _ us Q I rx ⟨_, vs, rfl, ?_⟩
        rcases h with ⟨h, _⟩ | ⟨h, rfl⟩
        · exact .inl ⟨hK ▸ h, fun l hl => q.tup r rv hl⟩
        · exact .inr ⟨hK ▸ h, q.same r (.tup h rv)⟩
    · cases e
  · cases e
def isiB (T : String) (S : Store) : M → Option Bool
  | .bl _ => some (T == "bool" || T == "int")
  | .int _ => some (T == "int")
  | .str _ => some (T == "str")
  | .non => some false
  | .tup _ => some (T == "tuple")
  | .ro _ => some (T == "list")
  | .fz _ => some (T == "list")
  | .loc n => match lstAt S n with
    | some _ => some (T == "list")
    | none => none
def mIsi (T : String) (m : MSt → Mo M) : MSt → Mo M := fun σ => bnd (m σ) fun x S => match isiB T S x with
  | some b => some (.bl b, S)
  | none => none
theorem isiB_ok {ρ : List Addr} {S : Store} {H : Hp} {T : String} {x : M} {v : V} {b : Bool} (r : RepS K ρ S H) (rv : RV K ρ H x v) (h : isiB T S x = some b) : Eb.isV K.K T v H b := by
  cases rv with
  | non => cases h; rfl
  | bl k => cases h; rfl
  | int i => cases h; rfl
  | str y => cases h; rfl
  | tup h1 h2 => cases h; exact .inr ⟨⟨_, h1⟩, rfl⟩
  | ro h1 => cases h; exact .inl ⟨⟨_, h1.sq⟩, rfl⟩
  | fz h1 t => cases h; exact .inl ⟨⟨_, .inl (.inr ⟨_, h1⟩)⟩, rfl⟩
  | @loc n a h1 =>
    have h' : (match lstAt S n with
      | some _ => some (T == "list")
      | none => none) = some b := h
    split at h'
    · next xs hx =>
      cases h'
      obtain ⟨vs, g1, g2⟩ := r.lst hx h1
      exact .inl ⟨⟨_, SqL.of g1⟩, rfl⟩
    · cases h'
theorem me_isi {T : Str} {e : Expr} {m : MSt → Mo M} {p p2 pos : Pos} (Ts : String) (hT : Ts = "bool" ∨ Ts = "int" ∨ Ts = "list" ∨ Ts = "tuple" ∨ Ts = "str") (hK : X.K = K.K) (hg : Gl X "isinstance") (hm : X.mg "isinstance" = none) (hgT : Gl X T) (hmT : X.mg T = none) (hb : bootBuiltins T = some (.type Ts)) (he : ME K X e m)
    (hn : T ≠ "__name__" := by decide) (hd : (T == ("__debug__" : Str)) = false := by decide)
    (hs : starEach [e, .Name T p2] X.env = (false, eval e X.env) :: starEach [.Name T p2] X.env := by rfl) (hs2 : starEach [.Name T p2] X.env = [(false, eval (.Name T p2) X.env)] := by rfl) (hpl : (backTo pos (starEach [.Name T p2] X.env)).any (·.1) = false := by rfl) :
    ME K X (.Call (.Name "isinstance" p) [e, .Name T p2] [] pos) (mIsi Ts m) :=
  .of (pe_callB (Eb.call_isi hT) hg hm (by decide +kernel) (pa_cons he.pe (pa_cons (pe_bltn (v := .ty Ts) hgT hmT hb rfl hn hd) pa_nil hs2) hs) (by decide) (by decide) hs hpl) fun ρ σ S v S' σV H Q r rs e q => by
    replace e := bnd_some e
    obtain ⟨x, S1, e1, e⟩ := e
    refine ⟨ρ, σ, S, x, S1, r, rs, e1, fun ρ1 x' H1 E1 r1 rx => ?_⟩
    split at e
    · next b hb =>
      cases e
      exact ⟨x', b, rfl, hK ▸ isiB_ok r1 rx hb, q ρ1 _ H1 E1 r1 (.bl _)⟩
    · cases e
/-- a list of the store -/
def isLst (S : Store) : M → Bool
  | .loc n => (lstAt S n).isSome
  | _ => false
def mMtL (o : M → List M → Mo M) (mo : MSt → Mo M) (ma : MSt → Mo (List M)) : MSt → Mo M := fun σ => bnd (mo σ) fun x S => if isLst S x = true then bnd (ma σ) (fun xs => o x xs) S else none
theorem isLst_ok {ρ : List Addr} {S : Store} {H : Hp} {x : M} {v : V} (r : RepS K ρ S H) (rv : RV K ρ H x v) (h : isLst S x = true) : ∃ a xs, v = .ref a ∧ SqL K.K H a xs := by
  cases rv with
  | @loc n a h1 =>
    have h' : (lstAt S n).isSome = true := h
    cases e : lstAt S n with
    | none => rw [e] at h'; cases h'
    | some xs =>
      obtain ⟨vs, g1, g2⟩ := r.lst e h1
      exact ⟨_, vs, rfl, SqL.of g1⟩
  | _ => cases h
section
variable {ob e : Expr} {es : List Expr} {mo : MSt → Mo M} {ma : MSt → Mo (List M)} {name : Str} {apos cpos : Pos} {id : String} {o : M → List M → Mo M}
theorem me_bm (hK : X.K = K.K) (slot : Slot "list" name id) (hty : typeOf (.builtin id) = pure (.type "method_descriptor")) (hm : MethM K X id o) (ho : ME K X ob mo) (ha : MA K X (e :: es) ma)
    (hbase : attributeBase ob name X.env (eval ob X.env) = eval ob X.env := by rfl)
    (hfew : ((backTo cpos (starEach (e :: es) X.env)).all (fun x => !x.1) && (backToKw cpos (keywordEach [] X.env)).all (fun x => x.1.isSome)
      && decide ((e :: es).length + ([] : List Keyword).length + (if ([] : List Keyword).isEmpty then 0 else 1) < 30)) = true := by rfl)
    (hline : (apos.endLine == cpos.line) = true := by rfl) (hs : starEach (e :: es) X.env = (false, eval e X.env) :: starEach es X.env := by rfl) (hplain : (backTo cpos (starEach es X.env)).any (·.1) = false := by rfl) :
    ME K X (.Call (.Attribute ob name apos) (e :: es) [] cpos) (mMtL o mo ma) :=
  .of (pe_bm PySem.F.plainAttrs_list slot hty hm.mt ho.pe ha.pa hbase hfew hline hs hplain) fun ρ σ S v S' σV H Q r rs e q => by
    replace e := bnd_some e
    obtain ⟨x, S1, e1, e⟩ := e
    split at e
    · next hl =>
      replace e := bnd_some e
      obtain ⟨xs, S2, e2, e⟩ := e
      refine ⟨ρ, σ, S, x, S1, r, rs, e1, fun ρ1 x' H1 E1 r1 rx => ?_⟩
      obtain ⟨a, ys, rfl, hq⟩ := isLst_ok r1 rx hl
      refine ⟨.inl ⟨rfl, _, hK ▸ hq⟩, ρ1, σ, S1, xs, S2, r1, rs.mono r E1, e2, fun ρ2 vs H2 E2 r2 rv => ?_⟩
      exact ⟨ρ2, S2, x, xs, v, S', r2, rx.mono r1 E2, rv, e, fun ρ3 v' H3 E3 => q ρ3 v' H3 (E1.trans (E2.trans E3))⟩
    · cases e
end
/-- a list of the store is changed -/
theorem Post.put {ρ : List Addr} {H : Hp} {S : Store} {n : Nat} {a : Addr} {xs : List M} {vs : List V} {w : M} {w' : V} {Q : VK} (q : Post K ρ H (S.set n (.lst xs)) w Q) (r : RepS K ρ S H) (ha : ρ[n]? = some a) (rv : RVs K ρ H xs vs) (rw' : RV K ρ H w w') : Q w' (upd H a (.lst vs)) := by
  obtain ⟨E, r'⟩ := r.put ha (b := .lst xs) (.lst rv)
  exact q ρ _ _ E r' (rw'.mono r E)
def appendC (x : M) (vs : List M) : Mo M := fun S => match x, vs with
  | .loc n, [y] => match lstAt S n with
    | some xs => if xs.length < sizeLine then some (.non, S.set n (.lst (xs ++ [y]))) else none
    | none => none
  | _, _ => none
theorem mm_append : MethM K X "list.append" appendC := .mk' fun pins s σ H x xs v us Q ρ S mx ms w S' I rx rxs r r1 r2 e q => by
  unfold appendC at e
  split at e
  · split at e
    · next zs hz =>
      split at e
      · next hl =>
        cases e
        cases r1 with
        | loc h1 =>
          obtain ⟨ws, g1, g2⟩ := r.lst hz h1
          cases r2 with
          | cons a b =>
            cases b
            exact mt_append pins s σ H _ _ v us Q I rx rxs ⟨_, _, _, rfl, rfl, g1, by rw [← g2.len]; exact hl, q.put r h1 (g2.app (.cons a .nil)) .non⟩
      · cases e
    · cases e
  · cases e
end
end Em
set_option Elab.async false
set_option maxRecDepth 100000
set_option linter.all false
namespace Em
open PySem L2
section
variable {K : Ct} {X : Cx}
theorem MI.of {tg e : Expr} {wi : TI} {m : MSt → Mo Wk} (h : PI X tg e wi) (k : ∀ ρ σ S w S' σV H R, RepS K ρ S H → Rσ K ρ H σ σV → m σ S = some (w, S') → (∀ ρ' J H', Ext ρ H ρ' H' → RepS K ρ' S' H' → ItOk K ρ' H' J w → R J H') → wi σV H R) : MI K X tg e m :=
  ⟨fun pins s σV H R I ⟨ρ, σ, S, w, S', r, rs, e, q⟩ => h pins s σV H R I (k ρ σ S w S' σV H R r rs e q)⟩
/-- a row of numbers -/
def wkR (lo : Int) (n : Nat) : Wk := ⟨(List.range n).map fun i : Nat => M.int (lo + i), []⟩
theorem wkR_ok {ρ : List Addr} {H : Hp} (lo : Int) (n : Nat) : ItOk K ρ H (Itr lo n) (wkR lo n) := by
  have hl : (wkR lo n).xs.length = n := by show ((List.range n).map _).length = n; rw [List.length_map, List.length_range]
  refine ⟨fun i ρ' S' H' x E r hk hx => ?_, fun ρ' S' H' E r hk => by rw [hl]; exact Nat.le_refl _⟩
  have hi : i < n := by rw [← hl]; exact (List.getElem?_eq_some_iff.mp hx).1
  have ex : x = .int (lo + i) := by
    have : ((List.range n).map fun i : Nat => M.int (lo + i))[i]? = some x := hx
    rw [List.getElem?_map, List.getElem?_range hi] at this
    exact (Option.some.inj this).symm
  subst ex
  refine ⟨hi, fun y H'' hy => ?_⟩
  obtain ⟨rfl, rfl⟩ := hy
  exact ⟨Ext.refl _ _, r, .int _⟩
def mRng1 (ma : MSt → Mo (List M)) : MSt → Mo Wk := fun σ => bnd (ma σ) fun vs S => match vs with
  | [.int j] => if Sm j then some (wkR 0 j.toNat, S) else none
  | _ => none
theorem mi_range1 {tg a : Expr} {ma : MSt → Mo (List M)} {p pos : Pos} (hg : Gl X "range") (hm : X.mg "range" = none) (ha : MA K X [a] ma) (hs : starEach [a] X.env = [(false, eval a X.env)] := by rfl) : MI K X tg (.Call (.Name "range" p) [a] [] pos) (mRng1 ma) :=
  .of (pi_range1 hg hm ha.pa hs) fun ρ σ S w S' σV H R r rs e q => by
    replace e := bnd_some e
    obtain ⟨vs, S1, e1, e⟩ := e
    refine ⟨ρ, σ, S, vs, S1, r, rs, e1, fun ρ1 vs' H1 E1 r1 rv => ?_⟩
    split at e
    · split at e
      · next hb =>
        cases e
        cases rv with
        | cons a b => cases b; cases a; exact ⟨_, rfl, hb.lo, hb.hi, q ρ1 _ H1 E1 r1 (wkR_ok _ _)⟩
      · cases e
    · cases e
/-- a list or a tuple -/
theorem pi_seq {tg l : Expr} {tl : TE} (hl : PE X l tl) : PI X tg l (fun σ H R => tl σ H fun x H1 => (∃ a xs, x = .ref a ∧ SqL X.K H1 a xs ∧ R (Itl X.K a) H1) ∨ ∃ a xs, x = .ref a ∧ SqT X.K H1 a xs ∧ R (Itt X.K a) H1) := by
  intro pins s σ H R I h
  refine thn (hl pins s σ H _ I h) fun v s1 ⟨x, H1, I1, r1, q1⟩ => ?_
  rcases q1 with ⟨a, xs, e, hq, q⟩ | ⟨a, xs, e, hq, q⟩
  · subst e
    cases r1
    obtain ⟨its, rv, p, hz⟩ := I1.list hq
    refine wpAny_pyIter_list p.isList ?_
    refine ⟨s1.heap.objs.size, [s1.heap.objs.size], _, _, H1, rfl, I1.kept (t' := s1.toks) fun b o e => Heap.get?_push_of_some _ e, turn_list a _, ⟨_, Heap.get?_push_size _ rfl, rfl, rfl⟩, fun b hb => ?_, q⟩
    have e : b = s1.heap.objs.size := by simpa using hb
    subst e
    exact I1.fpOk (Nat.le_refl _) (I1.hok.fresh (Nat.le_refl _))
  · subst e
    cases r1
    obtain ⟨its, rv, p, hz⟩ := I1.tuple hq
    refine wpAny_pyIter_tuple (show s1.heap.IsTuple a its.toArray from p) ?_
    refine ⟨s1.heap.objs.size, [s1.heap.objs.size], _, _, H1, rfl, I1.kept (t' := s1.toks) fun b o e => Heap.get?_push_of_some _ e, turn_tuple a _, ⟨_, Heap.get?_push_size _ rfl, rfl, rfl⟩, fun b hb => ?_, q⟩
    have e : b = s1.heap.objs.size := by simpa using hb
    subst e
    exact I1.fpOk (Nat.le_refl _) (I1.hok.fresh (Nat.le_refl _))
/-- what of the store a walk wants to stay -/
def keepOf (S : Store) : M → List (Nat × List M)
  | .loc n => match lstAt S n with
    | some xs => [(n, xs)]
    | none => []
  | _ => []
def mSeq (m : MSt → Mo M) : MSt → Mo Wk := fun σ => bnd (m σ) fun x S => match seqOf S x with
  | some xs => some (⟨xs, keepOf S x⟩, S)
  | none => none
/-- the same items at a later heap -/
theorem seq_later {ρ ρ' : List Addr} {S S' : Store} {H H' : Hp} {x : M} {v : V} {xs : List M} (r : RepS K ρ S H) (rv : RV K ρ H x v) (h : seqOf S x = some xs) (E : Wx K ρ H ρ' H') (r' : RepS K ρ' S' H') (hk : ∀ p ∈ keepOf S x, S'[p.1]? = some (.lst p.2)) : RV K ρ' H' x v ∧ seqOf S' x = some xs := by
  refine ⟨rv.wx E, ?_⟩
  cases x with
  | tup ys => exact h
  | ro ns => exact h
  | fz ns => exact h
  | loc n =>
    have h' : lstAt S n = some xs := h
    have hp : (n, xs) ∈ keepOf S (.loc n) := by
      show (n, xs) ∈ (match lstAt S n with | some xs => [(n, xs)] | none => [])
      rw [h']
      exact .head _
    have := hk _ hp
    show lstAt S' n = some xs
    unfold lstAt
    rw [this]
  | _ => cases h
theorem mi_seq {tg l : Expr} {m : MSt → Mo M} (hK : X.K = K.K) (hl : ME K X l m) : MI K X tg l (mSeq m) :=
  .of (pi_seq hl.pe) fun ρ σ S w S' σV H R r rs e q => by
    replace e := bnd_some e
    obtain ⟨x, S1, e1, e⟩ := e
    refine ⟨ρ, σ, S, x, S1, r, rs, e1, fun ρ1 v H1 E1 r1 rx => ?_⟩
    split at e
    · next xs hx =>
      cases e
      obtain ⟨a, vs, rfl, rv, h⟩ := seqOf_ok r1 rx hx
      have now : ∀ {ρ' : List Addr} {S2 : Store} {H' : Hp}, Wx K ρ1 H1 ρ' H' → RepS K ρ' S2 H' → Wk.kept ⟨xs, keepOf S' x⟩ S2 → ∃ vs, RVs K ρ' H' xs vs ∧ ((SqL K.K H' a vs ∧ ∀ ys, x ≠ .tup ys) ∨ (SqT K.K H' a vs ∧ x = .tup xs)) := fun {ρ' S2 H'} E r' hk => by
        obtain ⟨rx', hx'⟩ := seq_later r1 rx hx E r' hk
        obtain ⟨a', vs', e', rv', h'⟩ := seqOf_ok r' rx' hx'
        cases e'
        exact ⟨vs', rv', h'⟩
      rcases h with ⟨h, hne⟩ | ⟨h, he⟩
      · refine .inl ⟨a, vs, rfl, hK ▸ h, q ρ1 _ H1 E1 r1 ⟨fun i ρ' S2 H' y E r' hk hy => ?_, fun ρ' S2 H' E r' hk => ?_⟩⟩
        · obtain ⟨vs', rv', h'⟩ := now E r' hk
          rcases h' with ⟨h', _⟩ | ⟨_, z⟩
          · obtain ⟨y', h1, h2⟩ := rv'.get hy
            refine ⟨⟨vs', y', hK ▸ h', h1⟩, fun z H'' hz => ?_⟩
            obtain ⟨rfl, hz⟩ := hz
            have ez := hz vs' (hK ▸ h')
            rw [h1] at ez
            cases ez
            exact ⟨Ext.refl _ _, r', h2⟩
          · exact absurd z (hne _)
        · obtain ⟨vs', rv', h'⟩ := now E r' hk
          rcases h' with ⟨h', _⟩ | ⟨_, z⟩
          · exact ⟨vs', hK ▸ h', by rw [← rv'.len]; exact Nat.le_refl _⟩
          · exact absurd z (hne _)
      · refine .inr ⟨a, vs, rfl, hK ▸ h, q ρ1 _ H1 E1 r1 ⟨fun i ρ' S2 H' y E r' hk hy => ?_, fun ρ' S2 H' E r' hk => ?_⟩⟩
        · obtain ⟨vs', rv', h'⟩ := now E r' hk
          rcases h' with ⟨_, z⟩ | ⟨h', _⟩
          · exact absurd he (z _)
          · obtain ⟨y', h1, h2⟩ := rv'.get hy
            refine ⟨⟨vs', y', hK ▸ h', h1⟩, fun z H'' hz => ?_⟩
            obtain ⟨rfl, hz⟩ := hz
            have ez := hz vs' (hK ▸ h')
            rw [h1] at ez
            cases ez
            exact ⟨Ext.refl _ _, r', h2⟩
        · obtain ⟨vs', rv', h'⟩ := now E r' hk
          rcases h' with ⟨_, z⟩ | ⟨h', _⟩
          · exact absurd he (z _)
          · exact ⟨vs', hK ▸ h', by rw [← rv'.len]; exact Nat.le_refl _⟩
    · cases e
end
end Em
set_option Elab.async false
set_option maxRecDepth 100000
set_option linter.all false
namespace Em
open PySem L2
section
variable {K : Ct} {X : Cx}
def isTup : M → Bool
  | .tup _ => true
  | _ => false
theorem ms_par {i j : Nat} {x y : Str} {a b : Expr} {ma : MSt → Mo (List M)} {px py pt pos : Pos} {kt k2 pt2} (hc : X.calm = true) (hN : X.N.Nodup) (hi : X.N[i]? = some x) (hj : X.N[j]? = some y) (hij : i ≠ j)
    (hx : X.env.scope.names.lookup x = some .local) (hy : X.env.scope.names.lookup y = some .local) (ha : MA K X [a, b] ma)
    (hw : swappedStores [.Tuple [.Name x px, .Name y py] kt pt] (.Tuple [a, b] k2 pt2) X.env = pure (some [x, y]))
    (hs : swapsWithSole [.Tuple [.Name x px, .Name y py] kt pt] (.Tuple [a, b] k2 pt2) pos.line X.env = pure false := by rfl) :
    MS K X (.Assign [.Tuple [.Name x px, .Name y py] kt pt] (.Tuple [a, b] k2 pt2) pos) (sPar i j ma) :=
  .of (ps_par hc hN hi hj hij hx hy ha.pa hw hs) fun ρ σ S o S' σV H D r rs e q => by
    replace e := bnd_some e
    obtain ⟨ms, S1, e1, e⟩ := e
    refine ⟨ρ, σ, S, ms, S1, r, rs, e1, fun ρ1 vs1 H1 E1 r1 rv1 => ?_⟩
    split at e
    · cases e
      cases rv1 with
      | cons a b =>
        cases b with
        | cons b c =>
          cases c
          exact ⟨_, _, rfl, q ρ1 _ H1 E1 r1 (((rs.mono r E1).set a i).set b j)⟩
    · cases e
end
end Em
set_option Elab.async false
set_option maxRecDepth 100000
set_option linter.all false
namespace Em
open PySem L2
section
variable {α : Type} [DecidableEq α] (lt : α → α → Bool)
def insR (x : α) : List α → List α
  | [] => [x]
  | y :: ys => if lt x y = true then x :: y :: ys else if x = y then y :: ys else y :: insR x ys
def rise (xs : List α) : List α := xs.foldr (insR lt) []
theorem mem_insR {x z : α} : ∀ {ys : List α}, z ∈ insR lt x ys ↔ z = x ∨ z ∈ ys
  | [] => by simp [insR]
  | y :: ys => by
    unfold insR
    split
    · simp
    · split
      · next h =>
        subst h
        constructor
        · exact .inr
        · rintro (rfl | h)
          · exact .head _
          · exact h
      · rw [List.mem_cons, mem_insR (ys := ys), List.mem_cons]
        constructor
        · rintro (h | h | h)
          · exact .inr (.inl h)
          · exact .inl h
          · exact .inr (.inr h)
        · rintro (h | h | h)
          · exact .inr (.inl h)
          · exact .inl h
          · exact .inr (.inr h)
theorem mem_rise {z : α} : ∀ {xs : List α}, z ∈ rise lt xs ↔ z ∈ xs
  | [] => by simp [rise]
  | x :: xs => by
    show z ∈ insR lt x (rise lt xs) ↔ _
    rw [mem_insR, mem_rise (xs := xs), List.mem_cons]
theorem len_insR {x : α} : ∀ {ys : List α}, (insR lt x ys).length ≤ ys.length + 1
  | [] => Nat.le_refl _
  | y :: ys => by
    unfold insR
    split
    · exact Nat.le_refl _
    · split
      · exact Nat.le_succ _
      · have := len_insR (x := x) (ys := ys)
        simp only [List.length_cons]
        omega
theorem len_rise : ∀ {xs : List α}, (rise lt xs).length ≤ xs.length
  | [] => Nat.le_refl _
  | x :: xs => by
    show (insR lt x (rise lt xs)).length ≤ _
    have h1 := len_insR lt (x := x) (ys := rise lt xs)
    have h2 := len_rise (xs := xs)
    simp only [List.length_cons]
    omega
variable {lt} (tr : ∀ a b c : α, lt a b = true → lt b c = true → lt a c = true) (tri : ∀ a b : α, a ≠ b → lt a b = false → lt b a = true) (irr : ∀ a, lt a a = false)
include tr tri in
theorem insR_up {x : α} : ∀ {ys : List α}, ys.Pairwise (fun a b => lt a b = true) → (insR lt x ys).Pairwise fun a b => lt a b = true
  | [], _ => by simp [insR]
  | y :: ys, h => by
    rw [List.pairwise_cons] at h
    unfold insR
    split
    · next hl =>
      rw [List.pairwise_cons, List.pairwise_cons]
      refine ⟨fun z hz => ?_, h⟩
      rcases List.mem_cons.mp hz with rfl | hz
      · exact hl
      · exact tr _ _ _ hl (h.1 z hz)
    · next hl =>
      split
      · rw [List.pairwise_cons]; exact h
      · next hne =>
        rw [List.pairwise_cons]
        refine ⟨fun z hz => ?_, insR_up h.2⟩
        rcases (mem_insR lt).mp hz with rfl | hz
        · exact tri _ _ hne (Bool.eq_false_iff.mpr hl)
        · exact h.1 z hz
include tr tri in
theorem rise_up : ∀ (xs : List α), (rise lt xs).Pairwise fun a b => lt a b = true
  | [] => .nil
  | x :: xs => insR_up tr tri (rise_up xs)
include tr irr in
theorem up_unique : ∀ {l1 l2 : List α}, (l1.Pairwise fun a b => lt a b = true) → (l2.Pairwise fun a b => lt a b = true) → (∀ v, v ∈ l1 ↔ v ∈ l2) → l1 = l2
  | [], [], _, _, _ => rfl
  | [], b :: r, _, _, h => absurd ((h b).mpr (.head _)) (by simp)
  | a :: r, [], _, _, h => absurd ((h a).mp (.head _)) (by simp)
  | a :: r1, b :: r2, h1, h2, h => by
    rw [List.pairwise_cons] at h1 h2
    have irr' : ∀ x, ¬ lt x x = true := fun x z => by rw [irr] at z; cases z
    have e : a = b := by
      rcases List.mem_cons.mp ((h a).mp (.head _)) with e | e
      · exact e
      · rcases List.mem_cons.mp ((h b).mpr (.head _)) with e' | e'
        · exact e'.symm
        · exact absurd (tr _ _ _ (h1.1 b e') (h2.1 a e)) (irr' a)
    subst e
    congr 1
    refine up_unique h1.2 h2.2 fun v => ⟨fun hv => ?_, fun hv => ?_⟩
    · rcases List.mem_cons.mp ((h v).mp (.tail _ hv)) with e | e
      · subst e; exact absurd (h1.1 v hv) (irr' v)
      · exact e
    · rcases List.mem_cons.mp ((h v).mpr (.tail _ hv)) with e | e
      · subst e; exact absurd (h2.1 v hv) (irr' v)
      · exact e
end
def ltI (a b : Int) : Bool := decide (a < b)
theorem ltI_tr (a b c : Int) (h : ltI a b = true) (g : ltI b c = true) : ltI a c = true := by
  unfold ltI at *
  simp only [decide_eq_true_eq] at *
  omega
theorem ltI_tri (a b : Int) (h : a ≠ b) (g : ltI a b = false) : ltI b a = true := by
  unfold ltI at *
  simp only [decide_eq_true_eq, decide_eq_false_iff_not] at *
  omega
theorem ltI_irr (a : Int) : ltI a a = false := by simp [ltI]
abbrev riseI : List Int → List Int := rise ltI
abbrev riseT : List (List Int) → List (List Int) := rise Eb.lexL
theorem riseI_up (xs : List Int) : (riseI xs).Pairwise fun a b => ltI a b = true := rise_up ltI_tr ltI_tri xs
theorem riseT_up (xs : List (List Int)) : (riseT xs).Pairwise fun a b => Eb.lexL a b = true := rise_up (lt := Eb.lexL) (fun _ _ _ => Eb.lexL_trans) (fun _ _ => Eb.lexL_tri) xs
theorem riseI_eq {l xs : List Int} (h : l.Pairwise fun a b => ltI a b = true) (m : ∀ v, v ∈ l ↔ v ∈ xs) : l = riseI xs := up_unique ltI_tr ltI_irr h (riseI_up xs) fun v => by rw [m, mem_rise]
theorem riseT_eq {l xs : List (List Int)} (h : l.Pairwise fun a b => Eb.lexL a b = true) (m : ∀ v, v ∈ l ↔ v ∈ xs) : l = riseT xs := up_unique (lt := Eb.lexL) (fun _ _ _ => Eb.lexL_trans) Eb.lexL_irrefl h (riseT_up xs) fun v => by rw [m, mem_rise]
section
variable {K : Ct} {X : Cx}
abbrev tup (ns : List Int) : M := .tup (ns.map .int)
/-- the tuples of numbers in a row -/
def tupsOf : List M → Option (List (List Int))
  | [] => some []
  | .tup xs :: r => match intsOf xs, tupsOf r with
    | some ns, some ks => some (ns :: ks)
    | _, _ => none
  | _ => none
theorem tupsOf_ok : ∀ {xs : List M} {ks : List (List Int)}, tupsOf xs = some ks → xs = ks.map tup
  | [], _, h => by cases h; rfl
  | .tup ys :: r, ks, h => by
    unfold tupsOf at h
    split at h
    · next ns ms h1 h2 => cases h; rw [intsOf_ok h1, tupsOf_ok h2]; rfl
    · cases h
  | .non :: _, _, h => by cases h
  | .int _ :: _, _, h => by cases h
  | .bl _ :: _, _, h => by cases h
  | .str _ :: _, _, h => by cases h
  | .loc _ :: _, _, h => by cases h
  | .ro _ :: _, _, h => by cases h
  | .fz _ :: _, _, h => by cases h
theorem tupsOf_map : ∀ ks : List (List Int), tupsOf (ks.map tup) = some ks
  | [] => rfl
  | k :: ks => by
    show (match intsOf (k.map M.int), tupsOf (ks.map tup) with | some ns, some ks => some (ns :: ks) | _, _ => none) = _
    rw [intsOf_map, tupsOf_map ks]
theorem sqT_inj {pins : List (Addr × Obj)} {s : Shared} {σ : St} {H : Hp} (I : Inv X pins σ H s) {a : Addr} {xs ys : List V} (h : SqT X.K H a xs) (g : SqT X.K H a ys) : xs = ys := by
  obtain ⟨i1, r1, ⟨o1, e1, _, n1, d1⟩, _⟩ := I.tuple h
  obtain ⟨i2, r2, ⟨o2, e2, _, n2, d2⟩, _⟩ := I.tuple g
  rw [e1] at e2
  cases e2
  rw [d1] at d2
  have : i1.toArray = i2.toArray := by injection d2
  have e : i1 = i2 := by simpa using this
  subst e
  exact r1.inj r2
open Classical in
noncomputable def keyAt (K : PySem.W.Frag) (H : Hp) (a : Addr) : List Int := if h : ∃ ns : List Int, SqT K H a (ns.map V.int) then Classical.choose h else []
theorem keyAt_eq {pins : List (Addr × Obj)} {s : Shared} {σ : St} {H : Hp} (I : Inv X pins σ H s) {a : Addr} {ns : List Int} (h : SqT X.K H a (ns.map V.int)) : keyAt X.K H a = ns := by
  have hx : ∃ ns : List Int, SqT X.K H a (ns.map V.int) := ⟨ns, h⟩
  unfold keyAt
  rw [dif_pos hx]
  have e := sqT_inj I (Classical.choose_spec hx) h
  exact List.map_inj_right (fun a b e => by cases e; rfl) |>.mp e
/-- tuples of numbers and their addresses -/
theorem RVs.tups {ρ : List Addr} {H : Hp} : ∀ {ks : List (List Int)} {vs : List V}, RVs K ρ H (ks.map tup) vs → ∃ as : List Addr, vs = as.map V.ref ∧ Paired (fun a k => SqT K.K H a (k.map V.int)) as ks
  | [], _, r => by cases r; exact ⟨[], rfl, .nil⟩
  | k :: ks, _, r => by
    rw [List.map_cons] at r
    cases r with
    | cons a t =>
      obtain ⟨as, rfl, p⟩ := RVs.tups t
      cases a with
      | tup h1 h2 => exact ⟨_ :: as, rfl, .cons (by rw [← h2.ints]; exact h1) p⟩
theorem RVs.of_tups {ρ : List Addr} {H : Hp} : ∀ {ks : List (List Int)} {as : List Addr}, Paired (fun a k => SqT K.K H a (k.map V.int)) as ks → RVs K ρ H (ks.map tup) (as.map V.ref)
  | _, _, .nil => .nil
  | _, _, .cons h t => .cons (.tup h (RVs.of_ints _)) (RVs.of_tups t)
theorem CallR.or {f : Value} {r1 r2 : List V → Hp → VK → Prop} (h1 : CallR X f r1) (h2 : CallR X f r2) : CallR X f (fun vs H Q => r1 vs H Q ∨ r2 vs H Q) := fun pins s σ H xs us Q I r h => h.elim (h1 pins s σ H xs us Q I r) (h2 pins s σ H xs us Q I r)
/-- sorted(set(xs)) -/
def sortSetA (al : List M → Mo M) (x : M) : Mo M := fun S => match seqOf S x with
  | some xs => if xs.length < 64 then match tupsOf xs with
      | some ks => if ks.all (fun k => !k.isEmpty) = true then al ((riseT ks).map tup) S else none
      | none => match intsOf xs with
        | some ns => if isTup x = false then al ((riseI ns).map .int) S else none
        | none => none
    else none
  | none => none
theorem paired_mem {α β : Type} {R : α → β → Prop} : ∀ {xs : List α} {ys : List β}, Paired R xs ys → ∀ x ∈ xs, ∃ y ∈ ys, R x y
  | _, _, .nil, _, h => by cases h
  | _, _, .cons r t, x, h => by
    rcases List.mem_cons.mp h with rfl | h
    · exact ⟨_, .head _, r⟩
    · obtain ⟨y, hy, q⟩ := paired_mem t x h
      exact ⟨y, .tail _ hy, q⟩
theorem paired_keys {K' : PySem.W.Frag} {H : Hp} {kf : Addr → List Int} (hk : ∀ a k, SqT K' H a (k.map V.int) → kf a = k) : ∀ {as : List Addr} {ks : List (List Int)}, Paired (fun a k => SqT K' H a (k.map V.int)) as ks → as.map kf = ks
  | _, _, .nil => rfl
  | _, _, .cons h t => by rw [List.map_cons, hk _ _ h, paired_keys hk t]
theorem paired_of_mem {K' : PySem.W.Frag} {H : Hp} {kf : Addr → List Int} : ∀ {out : List Addr}, (∀ a ∈ out, SqT K' H a ((kf a).map V.int)) → Paired (fun a k => SqT K' H a (k.map V.int)) out (out.map kf)
  | [], _ => .nil
  | a :: r, h => .cons (h a (.head _)) (paired_of_mem fun b hb => h b (.tail _ hb))
theorem pw_map {α β : Type} {R : β → β → Prop} {f : α → β} {l : List α} (h : l.Pairwise fun x y => R (f x) (f y)) : (l.map f).Pairwise R := List.pairwise_map.mpr h
def rSetM (K : Ct) (P : Program) (w : World) (KK : PySem.W.Frag) : List V → Hp → VK → Prop := fun vs H Q => ∃ ρ S x xs v, RepS K ρ S H ∧ vs = [v] ∧ RV K ρ H x v ∧ seqOf S x = some xs ∧ xs.length < 64 ∧
  ((∃ ks, tupsOf xs = some ks ∧ ∀ (p : Addr) (as : List Addr) (kf : Addr → List Int), H p = none → (∀ a ∈ as, SqT KK H a ((kf a).map V.int)) → (as.map kf).Nodup → (∀ k, k ∈ as.map kf ↔ k ∈ ks) → as.length < 64 → Q (.ref p) (upd H p (Eb.setT P w p as kf))) ∨
   (∃ ns, intsOf xs = some ns ∧ isTup x = false ∧ ∀ (p : Addr) (ms : List Int), H p = none → ms.Nodup → (∀ k, k ∈ ms ↔ k ∈ ns) → ms.length < 64 → Q (.ref p) (upd H p (Eb.setI P w p ms))))
theorem call_setM (hK : X.K = K.K) (hc : X.calm = true) (hu : X.A.units + 64 < cLine) : CallR X (.type "set") (rSetM K X.prog X.w X.K) := by
  intro pins s σ H vs us Q I rv h
  obtain ⟨ρ, S, x, xs, v, r, rfl, rx, hx, hl, h⟩ := h
  obtain ⟨a, ws, rfl, rw', h'⟩ := seqOf_ok r rx hx
  rcases h with ⟨ks, hks, q⟩ | ⟨ns, hns, hnt, q⟩
  · rw [tupsOf_ok hks] at rw'
    obtain ⟨as, rfl, pa⟩ := rw'.tups
    have pa' : Paired (fun a k => SqT X.K H a (k.map V.int)) as ks := hK ▸ pa
    have hlen : as.length = ks.length := pa'.length
    have hlk : ks.length = xs.length := by rw [tupsOf_ok hks, List.length_map]
    have kk : ∀ a k, SqT X.K H a (k.map V.int) → keyAt X.K H a = k := fun a k h => keyAt_eq I h
    have e := paired_keys kk pa'
    have sq : ∀ a ∈ as, SqT X.K H a ((keyAt X.K H a).map V.int) := fun a ha => by
      obtain ⟨k, _, hk⟩ := paired_mem pa' a ha
      rw [kk a k hk]
      exact hk
    refine Eb.call_setTT hc hu pins s σ H _ us Q I rv ⟨a, as, keyAt X.K H, rfl, ?_, sq, by omega, fun p hp => q p _ _ hp (fun b hb => sq b (Eb.dedupK_mem hb)) (Eb.dedupK_nodup _ _) (fun k => ?_) (Nat.lt_of_le_of_lt (Eb.dedupK_len _ _) (by omega))⟩
    · rcases h' with ⟨h', _⟩ | ⟨h', _⟩
      · exact .inl (hK ▸ h')
      · exact .inr (hK ▸ h')
    · rw [Eb.dedupK_keys, e]
  · rw [intsOf_ok hns] at rw'
    rw [rw'.ints] at h'
    have hlk : ns.length = xs.length := by rw [intsOf_ok hns, List.length_map]
    have h1 : SqL X.K H a (ns.map V.int) := h'.elim (fun z => hK ▸ z.1) fun z => by rw [z.2] at hnt; cases hnt
    refine Eb.call_setI hc hu pins s σ H _ us Q I rv ⟨a, ns, rfl, h1, by omega, fun p hp => q p _ hp ?_ (fun k => ?_) (Nat.lt_of_le_of_lt (Eb.dedupK_len _ _) (by omega))⟩
    · have := Eb.dedupK_nodup id ns
      rwa [List.map_id] at this
    · have := Eb.dedupK_keys id ns k
      rwa [List.map_id, List.map_id] at this
theorem me_sortSetA {al : List M → Mo M} (hal : Alc K al) {e : Expr} {m : MSt → Mo M} {p p2 pos pos2 : Pos} (hK : X.K = K.K) (hc : X.calm = true) (hu : X.A.units + 64 < cLine) (g1 : Gl X "sorted") (m1 : X.mg "sorted" = none) (g2 : Gl X "set") (m2 : X.mg "set" = none) (he : ME K X e m)
    (hs : starEach [e] X.env = (false, eval e X.env) :: starEach [] X.env := by rfl) (hpl : (backTo pos2 (starEach [] X.env)).any (·.1) = false := by rfl)
    (hs' : starEach [.Call (.Name "set" p2) [e] [] pos2] X.env = (false, eval (.Call (.Name "set" p2) [e] [] pos2) X.env) :: starEach [] X.env := by rfl) (hpl' : (backTo pos (starEach [] X.env)).any (·.1) = false := by rfl) :
    ME K X (.Call (.Name "sorted" p) [.Call (.Name "set" p2) [e] [] pos2] [] pos) (mUn (sortSetA al) m) :=
  .of (PE.unlk <| pe_callB (CallR.or (Eb.call_sortI hc) (Eb.call_sortT hc)) g1 m1 (by decide +kernel) (pa_cons (pe_callTy (call_setM hK hc hu) g2 m2 (by decide +kernel) (pa_cons he.pe pa_nil hs) (by decide) (by decide) hs hpl) pa_nil hs') (by decide) (by decide) hs' hpl') fun ρ σ S v S' σV H Q r rs e q => by
    replace e := bnd_some e
    obtain ⟨x, S1, e1, e⟩ := e
    refine ⟨ρ, σ, S, x, S1, r, rs, e1, fun ρ1 v1 H1 E1 r1 rx => ?_⟩
    unfold sortSetA at e
    split at e
    · next xs hx =>
      split at e
      · next hl =>
        split at e
        · next ks hks =>
          split at e
          · next hne =>
            refine ⟨ρ1, S1, x, xs, v1, r1, rfl, rx, hx, hl, .inl ⟨ks, hks, fun p0 as kf hp hsq hnd hmem hlen => ?_⟩⟩
            obtain ⟨E2, r2⟩ := r1.side (o := Eb.setT X.prog X.w p0 as kf) hp
            have hsq2 : ∀ a ∈ as, SqT K.K (upd H1 p0 (Eb.setT X.prog X.w p0 as kf)) a ((kf a).map V.int) := fun a ha => E2.tup r1 (hK ▸ hsq a ha)
            refine .inr ⟨p0, as, kf, rfl, upd_same, fun a ha => ⟨hK ▸ hsq2 a ha, fun z => ?_⟩, hnd, hlen, fun out p1 pm pw hp1 => ?_⟩
            · have : kf a ∈ ks := (hmem _).mp (List.mem_map_of_mem ha)
              rw [z] at this
              have := List.all_eq_true.mp hne _ this
              cases this
            · have eo : out.map kf = riseT ks := riseT_eq (pw_map pw) fun k => by
                rw [← hmem k]
                exact ⟨fun h => by obtain ⟨b, hb, rfl⟩ := List.mem_map.mp h; exact List.mem_map_of_mem (pm.mem_iff.mp hb), fun h => by obtain ⟨b, hb, rfl⟩ := List.mem_map.mp h; exact List.mem_map_of_mem (pm.mem_iff.mpr hb)⟩
              have rv : RVs K ρ1 (upd H1 p0 (Eb.setT X.prog X.w p0 as kf)) ((riseT ks).map tup) (out.map V.ref) := by
                rw [← eo]
                exact RVs.of_tups (paired_of_mem fun a ha => hsq2 a (pm.mem_iff.mp ha))
              exact hal.go (fun ρ2 v' H2 E3 => q ρ2 v' H2 (E1.trans (E2.trans E3))) r2 rv e hp1
          · cases e
        · split at e
          · next ns hns =>
            split at e
            · next hnt =>
              refine ⟨ρ1, S1, x, xs, v1, r1, rfl, rx, hx, hl, .inr ⟨ns, hns, hnt, fun p0 ms hp hnd hmem hlen => ?_⟩⟩
              obtain ⟨E2, r2⟩ := r1.side (o := Eb.setI X.prog X.w p0 ms) hp
              refine .inl ⟨p0, ms, rfl, upd_same, hlen, fun out p1 pm pw hp1 => ?_⟩
              have hnd' : out.Nodup := (pm.nodup_iff).mpr hnd
              have up : out.Pairwise fun a b => ltI a b = true := by
                refine List.Pairwise.imp₂ (fun {a b} h1 h2 => ?_) pw hnd'
                have h1 : a ≤ b := h1
                have h2 : a ≠ b := h2
                exact decide_eq_true (by omega)
              have eo : out = riseI ns := riseI_eq up fun k => by rw [pm.mem_iff, hmem]
              have rv : RVs K ρ1 (upd H1 p0 (Eb.setI X.prog X.w p0 ms)) ((riseI ns).map M.int) (out.map V.int) := by rw [← eo]; exact RVs.of_ints _
              exact hal.go (fun ρ2 v' H2 E3 => q ρ2 v' H2 (E1.trans (E2.trans E3))) r2 rv e hp1
            · cases e
          · cases e
      · cases e
    · cases e
def lrng1A (al : List M → Mo M) (vs : List M) : Mo M := fun S => match vs with
  | [.int n] => if 0 ≤ n ∧ n < 17 then al ((List.range n.toNat).map fun i : Nat => M.int (i : Int)) S else none
  | _ => none
theorem RVs.nats {ρ : List Addr} {H : Hp} (n : Nat) : RVs K ρ H ((List.range n).map fun i : Nat => M.int (i : Int)) (((List.range n).map fun i : Nat => (i : Int)).map V.int) := by
  have : ((List.range n).map fun i : Nat => M.int (i : Int)) = ((List.range n).map fun i : Nat => (i : Int)).map M.int := by rw [List.map_map]; rfl
  rw [this]
  exact RVs.of_ints _
theorem me_lrng1A {al : List M → Mo M} (hal : Alc K al) {a : Expr} {ma : MSt → Mo (List M)} {p p2 pos pos2 : Pos} (hc : X.calm = true) (g1 : Gl X "list") (m1 : X.mg "list" = none) (g2 : Gl X "range") (m2 : X.mg "range" = none) (ha : MA K X [a] ma)
    (hs : starEach [a] X.env = (false, eval a X.env) :: starEach [] X.env := by rfl) (hpl : (backTo pos2 (starEach [] X.env)).any (·.1) = false := by rfl)
    (hs' : starEach [.Call (.Name "range" p2) [a] [] pos2] X.env = (false, eval (.Call (.Name "range" p2) [a] [] pos2) X.env) :: starEach [] X.env := by rfl) (hpl' : (backTo pos (starEach [] X.env)).any (·.1) = false := by rfl) :
    ME K X (.Call (.Name "list" p) [.Call (.Name "range" p2) [a] [] pos2] [] pos) (mCb (lrng1A al) ma) :=
  .of (PE.unlk <| pe_callTy (Eb.call_lrng hc) g1 m1 (by decide +kernel) (pa_cons (pe_callTy Eb.call_rng g2 m2 (by decide +kernel) ha.pa (by decide) (by decide) hs hpl) pa_nil hs') (by decide) (by decide) hs' hpl') fun ρ σ S v S' σV H Q r rs e q => by
    replace e := bnd_some e
    obtain ⟨ms, S1, e1, e⟩ := e
    refine ⟨ρ, σ, S, ms, S1, r, rs, e1, fun ρ1 vs H1 E1 r1 rv => ?_⟩
    unfold lrng1A at e
    split at e
    · next n =>
      split at e
      · next hn =>
        cases rv with
        | cons a b =>
          cases b; cases a
          refine ⟨n, rfl, fun p0 hp => ?_⟩
          obtain ⟨E2, r2⟩ := r1.side (o := .rng 0 n) hp
          refine ⟨p0, n.toNat, rfl, by rw [upd_same, Int.toNat_of_nonneg hn.1], by omega, fun p1 hp1 => ?_⟩
          exact hal.go (fun ρ2 v' H2 E3 => q ρ2 v' H2 (E1.trans (E2.trans E3))) r2 (RVs.nats _) e hp1
      · cases e
    · cases e
end
end Em
set_option Elab.async false
set_option maxRecDepth 100000
set_option linter.all false
namespace Em
open PySem L2
mutual
def Below (n : Nat) : M → Prop
  | .loc k => k < n
  | .tup xs => Belows n xs
  | .non => True
  | .bl _ => True
  | .int _ => True
  | .str _ => True
  | .ro _ => True
  | .fz xs => Belows n xs
def Belows (n : Nat) : List M → Prop
  | [] => True
  | x :: xs => Below n x ∧ Belows n xs
end
def BelowOb (n : Nat) : Ob → Prop
  | .lst xs => Belows n xs
  | .dK kvs => Belows n (kvs.map (·.2))
  | .dT kvs => Belows n (kvs.map (·.2))
  | .ins _ fs => Belows n (fs.map (·.2))
section
variable {K : Ct} {ρ : List Addr} {H : Hp}
mutual
theorem RV.bel : ∀ {x : M} {v : V}, RV K ρ H x v → Below ρ.length x
  | _, _, .non => trivial
  | _, _, .bl _ => trivial
  | _, _, .int _ => trivial
  | _, _, .str _ => trivial
  | _, _, .tup _ t => RVs.bel t
  | _, _, .loc h => (List.getElem?_eq_some_iff.mp h).1
  | _, _, .ro _ => trivial
  | _, _, .fz _ t => RVs.bel t
theorem RVs.bel : ∀ {xs : List M} {vs : List V}, RVs K ρ H xs vs → Belows ρ.length xs
  | _, _, .nil => trivial
  | _, _, .cons a t => ⟨RV.bel a, RVs.bel t⟩
end
theorem HoR.bel {b : Ob} {o : HO} (h : HoR K ρ H b o) : BelowOb ρ.length b := by
  cases h with
  | lst h => exact h.bel
  | dK _ h => exact h.bel
  | dT _ h => exact h.bel
  | ins _ h => exact h.bel
variable {ρ' : List Addr}
mutual
theorem RV.less (p : ρ <+: ρ') : ∀ {x : M} {v : V}, RV K ρ' H x v → Below ρ.length x → RV K ρ H x v
  | _, _, .non, _ => .non
  | _, _, .bl b, _ => .bl b
  | _, _, .int i, _ => .int i
  | _, _, .str x, _ => .str x
  | _, _, .tup h t, b => .tup h (RVs.less p t b)
  | _, _, .loc h, b => .loc (by
      obtain ⟨t, rfl⟩ := p
      rwa [List.getElem?_append_left b] at h)
  | _, _, .ro h, _ => .ro (h.elim .inl .inr)
  | _, _, .fz h t, b => .fz h (RVs.less p t b)
theorem RVs.less (p : ρ <+: ρ') : ∀ {xs : List M} {vs : List V}, RVs K ρ' H xs vs → Belows ρ.length xs → RVs K ρ H xs vs
  | _, _, .nil, _ => .nil
  | _, _, .cons a t, b => .cons (RV.less p a b.1) (RVs.less p t b.2)
end
theorem HoR.less (p : ρ <+: ρ') {b : Ob} {o : HO} (h : HoR K ρ' H b o) (hb : BelowOb ρ.length b) : HoR K ρ H b o := by
  cases h with
  | lst h => exact .lst (h.less p hb)
  | dK k h => exact .dK k (h.less p hb)
  | dT k h => exact .dT k (h.less p hb)
  | ins k h => exact .ins k (h.less p hb)
end
/-- what was there is as it was, or speaks of nothing new -/
def Gc (S S' : Store) : Prop := S.length ≤ S'.length ∧ ∀ (i : Nat) (b : Ob), i < S.length → S'[i]? = some b → S[i]? = some b ∨ BelowOb S.length b
theorem Gc.app (S G : Store) : Gc S (S ++ G) := ⟨by rw [List.length_append]; omega, fun i b hi h => by rw [List.getElem?_append_left hi] at h; exact .inl h⟩
open Classical in
noncomputable def gcR (S : Store) (v : M) (S' : Store) : M × Store :=
  if Gc S S' then
    if Below S.length v then (v, S'.take S.length) else match v with
      | .loc n => match S'[n]? with
        | some (.lst xs) => if Belows S.length xs then (.loc S.length, S'.take S.length ++ [.lst xs]) else (v, S')
        | _ => (v, S')
      | .tup [.int i, .loc n] => match S'[n]? with
        | some (.lst xs) => if Belows S.length xs then (.tup [.int i, .loc S.length], S'.take S.length ++ [.lst xs]) else (v, S')
        | _ => (v, S')
      | _ => (v, S')
  else (v, S')
/-- a def's word without what it leaves lying about -/
noncomputable def gcF (F : Fn) : Fn := fun vs S => match F vs S with
  | some (v, S') => some (gcR S v S')
  | none => none
theorem gcF_new {F : Fn} {vs : List M} {S S' : Store} {n : Nat} {xs : List M} (h : F vs S = some (.loc n, S')) (g : Gc S S') (hn : S.length ≤ n) (hx : S'[n]? = some (.lst xs)) (b : Belows S.length xs) : gcF F vs S = some (.loc S.length, S'.take S.length ++ [.lst xs]) := by
  unfold gcF gcR
  rw [h]
  have hb : ¬ Below S.length (.loc n) := fun z => absurd (show n < S.length from z) (Nat.not_lt.mpr hn)
  simp only [if_pos g, if_neg hb, hx, if_pos b]
section
variable {K : Ct}
theorem gc_rep {ρ ρ' : List Addr} {S S' : Store} {H H' : Hp} (r : RepS K ρ S H) (E : Ext ρ H ρ' H') (r' : RepS K ρ' S' H') (g : Gc S S') : Ext ρ H ρ H' ∧ RepS K ρ (S'.take S.length) H' := by
  refine ⟨⟨List.prefix_refl _, E.keep, fun a m n => absurd m n⟩, by rw [List.length_take, Nat.min_eq_left g.1]; exact r.len, r.nd, fun n a b h1 h2 => ?_, r'.tb⟩
  have hn : n < S.length := by rw [← r.len]; exact (List.getElem?_eq_some_iff.mp h1).1
  rw [List.getElem?_take_of_lt hn] at h2
  obtain ⟨o, h3, h4⟩ := r'.ob n a b (E.get h1) h2
  refine ⟨o, h3, h4.less E.pre ?_⟩
  rcases g.2 n b hn h2 with z | z
  · obtain ⟨o', _, h5⟩ := r.ob n a b h1 z
    exact h5.bel
  · rw [r.len]; exact z
/-- a list kept behind what was there -/
theorem gc_kept {ρ ρ' : List Addr} {S S' : Store} {H H' : Hp} {n : Nat} {xs : List M} {a : Addr} (r : RepS K ρ S H) (E : Ext ρ H ρ' H') (r' : RepS K ρ' S' H') (g : Gc S S') (hn : S.length ≤ n) (hx : S'[n]? = some (.lst xs)) (b : Belows S.length xs) (ha : ρ'[n]? = some a) :
    Ext ρ H (ρ ++ [a]) H' ∧ RepS K (ρ ++ [a]) (S'.take S.length ++ [.lst xs]) H' ∧ (ρ ++ [a])[S.length]? = some a := by
  obtain ⟨E1, r1⟩ := gc_rep r E r' g
  have hna : a ∉ ρ := fun m => by
    obtain ⟨j, hj⟩ := List.getElem?_of_mem m
    have := nd_ix r'.nd (E.get hj) ha
    have hl := (List.getElem?_eq_some_iff.mp hj).1
    rw [r.len] at hl
    omega
  have hfr : H a = none := E.fresh a (List.mem_of_getElem? ha) hna
  obtain ⟨o, h3, h4⟩ := r'.ob n a _ ha hx
  refine ⟨E1.num hfr, ?_, by rw [← r.len, List.getElem?_append_right (Nat.le_refl _), Nat.sub_self]; rfl⟩
  exact r1.num hna h3 (h4.less E.pre (by rw [r.len]; exact b))
theorem FnOk.gc {P : Program} {w : World} {mg : Str → Option Value} {base : Heap} {f : Addr} {fd : FuncData} {ps : List Str} {k n : Nat} {F : Fn} (h : FnOk P w K.K mg base CX0 k f fd ps (spM K n F)) : FnOk P w K.K mg base CX0 k f fd ps (spM K n (gcF F)) :=
  h.imp fun vs H Q E ⟨hl, ρ, S, ms, v, S', r, rv, e, q⟩ => by
    unfold gcF at e
    cases eF : F ms S with
    | none => rw [eF] at e; cases e
    | some p =>
      obtain ⟨v0, S0⟩ := p
      rw [eF] at e
      have e' : gcR S v0 S0 = (v, S') := Option.some.inj e
      refine ⟨hl, ρ, S, ms, v0, S0, r, rv, eF, fun ρ' v' H' E' r' rv' => ?_⟩
      unfold gcR at e'
      split at e'
      · next g =>
        split at e'
        · next hb =>
          cases e'
          obtain ⟨E1, r1⟩ := gc_rep r E' r' g
          exact q ρ v' H' E1 r1 (rv'.less E'.pre (by rw [r.len]; exact hb))
        · next hb =>
          split at e'
          · next n' =>
            split at e'
            · next xs hx =>
              split at e'
              · next hbs =>
                cases e'
                have hn : S.length ≤ n' := Nat.le_of_not_lt hb
                cases rv' with
                | loc ha =>
                  obtain ⟨E1, r1, e1⟩ := gc_kept r E' r' g hn hx hbs ha
                  exact q _ _ H' E1 r1 (.loc e1)
              · cases e'
                exact q ρ' v' H' E' r' rv'
            · cases e'
              exact q ρ' v' H' E' r' rv'
          · next i n' =>
            split at e'
            · next xs hx =>
              split at e'
              · next hbs =>
                cases e'
                have hn : S.length ≤ n' := Nat.le_of_not_lt fun z => hb ⟨trivial, z, trivial⟩
                cases rv' with
                | tup h1 h2 =>
                  cases h2 with
                  | cons ri h2 =>
                    cases h2 with
                    | cons ra h2 =>
                      cases h2
                      cases ri
                      cases ra with
                      | loc ha =>
                        obtain ⟨E1, r1, e1⟩ := gc_kept r E' r' g hn hx hbs ha
                        exact q _ _ H' E1 r1 (.tup h1 (.cons (.int _) (.cons (.loc e1) .nil)))
              · cases e'
                exact q ρ' v' H' E' r' rv'
            · cases e'
              exact q ρ' v' H' E' r' rv'
          · cases e'
            exact q ρ' v' H' E' r' rv'
      · cases e'
        exact q ρ' v' H' E' r' rv'
theorem law_sp {K' : PySem.W.Frag} {F : Fn} {H : Hp} {a : Addr} {ns : List Int} {Tb : List Addr} (hO : ∀ b, b ∉ Tb → H b = none ∨ ∃ o xs, H b = some (.frz o (.lst xs))) (hT : ∀ P ∈ Tb, H P = some (Eb.tabO P)) (hS : SqL K' H a (ns.map V.int)) (h : ∃ S', F [.ro ns] [] = some (.bl true, S')) :
    spM ⟨K', Tb⟩ 1 F [.ref a] H (fun v H' => v = .bl true ∧ ∀ P ∈ Tb, H' P = some (Eb.tabO P)) fun _ _ _ => False := by
  obtain ⟨S', h⟩ := h
  refine ⟨rfl, [], [], [.ro ns], .bl true, S', ⟨rfl, List.nodup_nil, fun n a b h => by simp at h, hT⟩, .cons (.ro ?_) .nil, h, fun ρ' v' H' E r rv => ⟨by cases rv; rfl, r.tb⟩⟩
  rcases hS with (h1 | ⟨o, h1⟩) | h1
  · exfalso
    by_cases ha : a ∈ Tb
    · rw [hT a ha] at h1; cases h1
    · rcases hO a ha with z | ⟨o, xs, z⟩ <;> rw [z] at h1 <;> cases h1
  · exact .inl ⟨o, h1⟩
  · exact .inr h1
end
end Em
set_option Elab.async false
set_option maxRecDepth 100000
set_option linter.all false
namespace Em
open PySem L2
section
variable {K : Ct} {X : Cx}
end
end Em
namespace Em
open PySem L2
/-- the built-in names that a text leans on -/
structure Txt (mg : Str → Option Value) : Prop where
  len : mg "len" = none
  abs : mg "abs" = none
  int : mg "int" = none
  min : mg "min" = none
  max : mg "max" = none
  range : mg "range" = none
  list : mg "list" = none
  tuple : mg "tuple" = none
  sorted : mg "sorted" = none
  set : mg "set" = none
  enumerate : mg "enumerate" = none
  isinstance : mg "isinstance" = none
  bool : mg "bool" = none
  zip : mg "zip" = none
  all : mg "all" = none
  str : mg "str" = none
  any : mg "any" = none
  repr : mg "repr" = none
  sum : mg "sum" = none
end Em
set_option Elab.async false
set_option maxRecDepth 100000
set_option linter.all false
namespace Em
open PySem L2
section
variable {α β : Type} {S S' : Store} {σ : MSt}
@[simp] theorem ret_ap (a : α) (S : Store) : ret a S = some (a, S) := rfl
@[simp] theorem fail_ap (S : Store) : (fail : Mo α) S = none := rfl
@[simp] theorem bnd_ap (c : Mo α) (f : α → Mo β) (S : Store) : bnd c f S = match c S with
  | some (a, S') => f a S'
  | none => none := rfl
@[simp] theorem mVar_ap (i : Nat) (σ : MSt) (S : Store) : mVar i σ S = match σ[i]? with
  | some (some v) => some (v, S)
  | _ => none := rfl
@[simp] theorem mC_ap (v : M) (σ : MSt) : mC v σ = ret v := rfl
@[simp] theorem mOp_ap (o : M → M → Mo M) (ma mb : MSt → Mo M) (σ : MSt) : mOp o ma mb σ = bnd (ma σ) fun x => bnd (mb σ) fun y => o x y := rfl
@[simp] theorem mUn_ap (o : M → Mo M) (m : MSt → Mo M) (σ : MSt) : mUn o m σ = bnd (m σ) o := rfl
@[simp] theorem isB_bl (b : Bool) : isB (.bl b) = ret b := rfl
@[simp] theorem mB_ap (m : MSt → Mo M) (σ : MSt) : mB m σ = bnd (m σ) isB := rfl
@[simp] theorem truM_bl (b : Bool) (S : Store) : truM (.bl b) S = some (b, S) := rfl
@[simp] theorem truM_int (i : Int) (S : Store) : truM (.int i) S = some (i != 0, S) := rfl
@[simp] theorem truM_non (S : Store) : truM .non S = some (false, S) := rfl
@[simp] theorem truM_fz (xs : List M) (S : Store) : truM (.fz xs) S = some (!xs.isEmpty, S) := rfl
@[simp] theorem truM_tup (xs : List M) (S : Store) : truM (.tup xs) S = some (!xs.isEmpty, S) := rfl
@[simp] theorem mTru_ap (m : MSt → Mo M) (σ : MSt) : mTru m σ = bnd (m σ) truM := rfl
@[simp] theorem mAndT_ap (ta tb : MSt → Mo Bool) (σ : MSt) : mAndT ta tb σ = bnd (ta σ) fun k => if k = true then tb σ else ret false := rfl
@[simp] theorem mOrT_ap (ta tb : MSt → Mo Bool) (σ : MSt) : mOrT ta tb σ = bnd (ta σ) fun k => if k = true then ret true else tb σ := rfl
@[simp] theorem mNotT_ap (ta : MSt → Mo Bool) (σ : MSt) : mNotT ta σ = bnd (ta σ) fun k => ret (!k) := rfl
@[simp] theorem mYes_ap (σ : MSt) : mYes σ = ret true := rfl
@[simp] theorem aNil_ap (σ : MSt) : aNil σ = ret [] := rfl
@[simp] theorem aCons_ap (m : MSt → Mo M) (ms : MSt → Mo (List M)) (σ : MSt) : aCons m ms σ = bnd (m σ) fun x => bnd (ms σ) fun xs => ret (x :: xs) := rfl
theorem line_big : (1000000 : Nat) ≤ sizeLine := by rw [sizeLine_eq]; decide
theorem small_ok {n : Nat} (h : n ≤ 1000000) : n ≤ sizeLine := Nat.le_trans h line_big
theorem newL_ap {xs : List M} (h : xs.length ≤ 1000000) (S : Store) : newL xs S = some (.loc S.length, S ++ [.lst xs]) := by
  unfold newL
  rw [if_pos (small_ok h)]
@[simp] theorem newL0 (S : Store) : newL [] S = some (.loc S.length, S ++ [.lst []]) := newL_ap (by decide) S
@[simp] theorem newL1 (a : M) (S : Store) : newL [a] S = some (.loc S.length, S ++ [.lst [a]]) := newL_ap (by simp) S
@[simp] theorem newL2 (a b : M) (S : Store) : newL [a, b] S = some (.loc S.length, S ++ [.lst [a, b]]) := newL_ap (by simp) S
@[simp] theorem newL3 (a b c : M) (S : Store) : newL [a, b, c] S = some (.loc S.length, S ++ [.lst [a, b, c]]) := newL_ap (by simp) S
@[simp] theorem newL4 (a b c d : M) (S : Store) : newL [a, b, c, d] S = some (.loc S.length, S ++ [.lst [a, b, c, d]]) := newL_ap (by simp) S
theorem newF_ap {xs : List M} (h : xs.length ≤ 1000000) (S : Store) : newF xs S = some (.fz xs, S) := by
  unfold newF
  rw [if_pos (small_ok h)]
@[simp] theorem newF0 (S : Store) : newF [] S = some (.fz [], S) := newF_ap (by decide) S
@[simp] theorem newF1 (a : M) (S : Store) : newF [a] S = some (.fz [a], S) := newF_ap (by simp) S
@[simp] theorem newF2 (a b : M) (S : Store) : newF [a, b] S = some (.fz [a, b], S) := newF_ap (by simp) S
@[simp] theorem newF3 (a b c : M) (S : Store) : newF [a, b, c] S = some (.fz [a, b, c], S) := newF_ap (by simp) S
@[simp] theorem newF4 (a b c d : M) (S : Store) : newF [a, b, c, d] S = some (.fz [a, b, c, d], S) := newF_ap (by simp) S
@[simp] theorem newF5 (a b c d e : M) (S : Store) : newF [a, b, c, d, e] S = some (.fz [a, b, c, d, e], S) := newF_ap (by simp) S
@[simp] theorem mNewF_ap (ms : MSt → Mo (List M)) (σ : MSt) : mNewF ms σ = bnd (ms σ) newF := rfl
@[simp] theorem mLst_ap (ms : MSt → Mo (List M)) (σ : MSt) : mLst ms σ = bnd (ms σ) newL := rfl
def tupC (xs : List M) : Mo M := fun S => if xs.length ≤ sizeLine then some (.tup xs, S) else none
theorem tupC_ap {xs : List M} (h : xs.length ≤ 1000000) (S : Store) : tupC xs S = some (.tup xs, S) := by
  unfold tupC
  rw [if_pos (small_ok h)]
@[simp] theorem mTup_ap (ms : MSt → Mo (List M)) (σ : MSt) : mTup ms σ = bnd (ms σ) tupC := rfl
@[simp] theorem tupC0 (S : Store) : tupC [] S = some (.tup [], S) := tupC_ap (by decide) S
@[simp] theorem tupC1 (a : M) (S : Store) : tupC [a] S = some (.tup [a], S) := tupC_ap (by simp) S
@[simp] theorem tupC2 (a b : M) (S : Store) : tupC [a, b] S = some (.tup [a, b], S) := tupC_ap (by simp) S
@[simp] theorem tupC3 (a b c : M) (S : Store) : tupC [a, b, c] S = some (.tup [a, b, c], S) := tupC_ap (by simp) S
@[simp] theorem tupC4 (a b c d : M) (S : Store) : tupC [a, b, c, d] S = some (.tup [a, b, c, d], S) := tupC_ap (by simp) S
@[simp] theorem gN_ap (i : Nat) (v : M) (σ : MSt) : gN i v σ = ret (σ.set i (some v)) := rfl
@[simp] theorem gsNil_ap (σ : MSt) : gsNil [] σ = ret σ := rfl
@[simp] theorem gsCons_ap (g : M → MSt → Mo MSt) (gs : List M → MSt → Mo MSt) (v : M) (r : List M) (σ : MSt) : gsCons g gs (v :: r) σ = bnd (g v σ) fun σ' => gs r σ' := rfl
@[simp] theorem gT_ap (n : Nat) (gs : List M → MSt → Mo MSt) (xs : List M) (σ : MSt) : gT n gs (.tup xs) σ = if xs.length = n then gs xs σ else fail := rfl
@[simp] theorem gS_ap (mo mi : MSt → Mo M) (v : M) (σ : MSt) : gS mo mi v σ = bnd (mo σ) fun o => bnd (mi σ) fun i => bnd (setM o i v) fun _ => ret σ := rfl
@[simp] theorem sNext_ap (σ : MSt) : sNext σ = ret (.nx σ) := rfl
@[simp] theorem sSeq_ap (m1 m2 : MSt → Mo Out) (σ : MSt) : sSeq m1 m2 σ = bnd (m1 σ) fun o => match o with
  | .nx σ' => m2 σ'
  | .rt v => ret (.rt v)
  | .bk σ' => ret (.bk σ')
  | .ct σ' => ret (.ct σ') := rfl
@[simp] theorem sDrop_ap (m : MSt → Mo M) (σ : MSt) : sDrop m σ = bnd (m σ) fun _ => ret (.nx σ) := rfl
@[simp] theorem sRet_ap (m : MSt → Mo M) (σ : MSt) : sRet m σ = bnd (m σ) fun v => ret (.rt v) := rfl
@[simp] theorem sIf_ap (mt : MSt → Mo Bool) (m1 m2 : MSt → Mo Out) (σ : MSt) : sIf mt m1 m2 σ = bnd (mt σ) fun k => if k = true then m1 σ else m2 σ := rfl
@[simp] theorem sAsg_ap (m : MSt → Mo M) (g : M → MSt → Mo MSt) (σ : MSt) : sAsg m g σ = bnd (m σ) fun v => bnd (g v σ) fun σ' => ret (.nx σ') := rfl
@[simp] theorem sPar_ap (i j : Nat) (ma : MSt → Mo (List M)) (σ : MSt) : sPar i j ma σ = bnd (ma σ) fun vs => match vs with
  | [v, w] => ret (.nx ((σ.set i (some v)).set j (some w)))
  | _ => fail := rfl
@[simp] theorem sFor_ap (mi : MSt → Mo Wk) (g : M → MSt → Mo MSt) (mb : MSt → Mo Out) (σ : MSt) : sFor mi g mb σ = bnd (mi σ) fun w => forL w g mb w.xs σ := rfl
@[simp] theorem mComp_ap (mi : MSt → Mo Wk) (g : M → MSt → Mo MSt) (tt : MSt → Mo Bool) (te : MSt → Mo M) (vs : List Nat) (σ : MSt) : mComp mi g tt te vs σ = bnd (mi σ) fun w => compL w g tt te (wipeM σ vs) w.xs := rfl
@[simp] theorem wipeM_nil (σ : MSt) : wipeM σ [] = σ := rfl
@[simp] theorem wipeM_cons (σ : MSt) (v : Nat) (vs : List Nat) : wipeM σ (v :: vs) = (wipeM σ vs).set v none := rfl
@[simp] theorem den_ap (n : Nat) (m : MSt → Mo Out) (vs : List M) : den n m vs = bnd (m (startM n vs)) fun o => match o with
  | .nx _ => ret .non
  | .rt v => ret v
  | _ => fail := rfl
@[simp] theorem mCall_ap (n : Nat) (F : Fn) (ma : MSt → Mo (List M)) (σ : MSt) : mCall n F ma σ = bnd (ma σ) fun ms => if ms.length = n then F ms else fail := rfl
@[simp] theorem mCb_ap (o : List M → Mo M) (ma : MSt → Mo (List M)) (σ : MSt) : mCb o ma σ = bnd (ma σ) o := rfl
@[simp] theorem mMtL_ap (o : M → List M → Mo M) (mo : MSt → Mo M) (ma : MSt → Mo (List M)) (σ : MSt) : mMtL o mo ma σ = bnd (mo σ) fun x S => if isLst S x = true then bnd (ma σ) (fun xs => o x xs) S else none := rfl
@[simp] theorem addM_int (al : List M → Mo M) (i j : Int) : addA al (.int i) (.int j) = ret (.int (i + j)) := rfl
@[simp] theorem lstOf_loc (S : Store) (n : Nat) : lstOf S (.loc n) = lstAt S n := rfl
@[simp] theorem lstOf_fz (S : Store) (xs : List M) : lstOf S (.fz xs) = some xs := rfl
@[simp] theorem addM_fz (al : List M → Mo M) (xs ys : List M) : addA al (.fz xs) (.fz ys) = al (xs ++ ys) := rfl
@[simp] theorem mulM_fz (al : List M → Mo M) (xs : List M) (k : Int) (S : Store) : mulA al (.fz xs) (.int k) S = if Sm k ∧ xs.length * k.toNat ≤ sizeLine then al (List.replicate k.toNat xs).flatten S else none := rfl
@[simp] theorem intM_int (f : Int → Int → Int) (i j : Int) : intM f (.int i) (.int j) = ret (.int (f i j)) := rfl
@[simp] theorem intC_int (C : Int → Int → Prop) [∀ i j, Decidable (C i j)] (f : Int → Int → Int) (i j : Int) (S : Store) : intC C f (.int i) (.int j) S = if C i j then some (.int (f i j), S) else none := rfl
@[simp] theorem mulM_int (al : List M → Mo M) (i j : Int) (S : Store) : mulA al (.int i) (.int j) S = if CMul i j then some (.int (i * j), S) else none := rfl
@[simp] theorem ordM_int (p : Int → Int → Bool) (i j : Int) : ordM p (.int i) (.int j) = ret (.bl (p i j)) := rfl
@[simp] theorem ltM_int (i j : Int) : ltM (.int i) (.int j) = ret (.bl (decide (i < j))) := rfl
@[simp] theorem eqM_int (i j : Int) (S : Store) : eqM (.int i) (.int j) S = some (.bl (decide (i = j)), S) := rfl
@[simp] theorem neM_int (i j : Int) (S : Store) : neM (.int i) (.int j) S = some (.bl (!decide (i = j)), S) := rfl
@[simp] theorem eqM_str (i j : Str) (S : Store) : eqM (.str i) (.str j) S = some (.bl (decide (i = j)), S) := rfl
@[simp] theorem neM_str (i j : Str) (S : Store) : neM (.str i) (.str j) S = some (.bl (!decide (i = j)), S) := rfl
@[simp] theorem eqM_bl (i j : Bool) (S : Store) : eqM (.bl i) (.bl j) S = some (.bl (decide (i = j)), S) := rfl
@[simp] theorem neM_bl (i j : Bool) (S : Store) : neM (.bl i) (.bl j) S = some (.bl (!decide (i = j)), S) := rfl
@[simp] theorem seqOf_tup (S : Store) (xs : List M) : seqOf S (.tup xs) = some xs := rfl
@[simp] theorem seqOf_fz (S : Store) (xs : List M) : seqOf S (.fz xs) = some xs := rfl
@[simp] theorem seqOf_ro (S : Store) (ns : List Int) : seqOf S (.ro ns) = some (ns.map .int) := rfl
@[simp] theorem seqOf_loc (S : Store) (n : Nat) : seqOf S (.loc n) = lstAt S n := rfl
theorem ixM_ap {S : Store} {x : M} {xs : List M} {i : Int} {v : M} (h : seqOf S x = some xs) (hi : atI xs i = some v) : ixM x (.int i) S = some (v, S) := by
  show (match seqOf S x with
    | some xs => match atI xs i with
      | some v => some (v, S)
      | none => none
    | none => none) = _
  rw [h]
  simp only []
  rw [hi]
@[simp] theorem ixM_tup (xs : List M) (i : Int) (S : Store) : ixM (.tup xs) (.int i) S = match atI xs i with
  | some v => some (v, S)
  | none => none := rfl
@[simp] theorem ixM_loc (n : Nat) (i : Int) (S : Store) : ixM (.loc n) (.int i) S = match lstAt S n with
  | some xs => match atI xs i with
    | some v => some (v, S)
    | none => none
  | none => none := rfl
@[simp] theorem ixM_fz (xs : List M) (i : Int) (S : Store) : ixM (.fz xs) (.int i) S = match atI xs i with
  | some v => some (v, S)
  | none => none := rfl
@[simp] theorem ixM_ro (ns : List Int) (i : Int) (S : Store) : ixM (.ro ns) (.int i) S = match atI (ns.map M.int) i with
  | some v => some (v, S)
  | none => none := rfl
theorem atI_of {α : Type} {xs : List α} {j : Nat} {v : α} (h : xs[j]? = some v) : atI xs (j : Int) = some v := by
  have hl := (List.getElem?_eq_some_iff.mp h).1
  unfold atI ixN
  rw [if_pos (by omega), if_pos (by omega), Int.toNat_natCast]
  exact h
@[simp] theorem atI0 {α : Type} (a : α) (r : List α) : atI (a :: r) 0 = some a := atI_of (j := 0) rfl
@[simp] theorem atI1 {α : Type} (a b : α) (r : List α) : atI (a :: b :: r) 1 = some b := atI_of (j := 1) rfl
@[simp] theorem atI2 {α : Type} (a b c : α) (r : List α) : atI (a :: b :: c :: r) 2 = some c := atI_of (j := 2) rfl
@[simp] theorem atI3 {α : Type} (a b c d : α) (r : List α) : atI (a :: b :: c :: d :: r) 3 = some d := atI_of (j := 3) rfl
@[simp] theorem lenC_tup (xs : List M) (S : Store) : lenC [.tup xs] S = some (.int xs.length, S) := rfl
@[simp] theorem lenC_fz (xs : List M) (S : Store) : lenC [.fz xs] S = some (.int xs.length, S) := rfl
@[simp] theorem lenC_ro (ns : List Int) (S : Store) : lenC [.ro ns] S = some (.int (ns.map M.int).length, S) := rfl
@[simp] theorem lenC_loc (n : Nat) (S : Store) : lenC [.loc n] S = match lstAt S n with
  | some xs => some (.int xs.length, S)
  | none => none := rfl
@[simp] theorem absC_ap (i : Int) : absC [.int i] = ret (.int (if i < 0 then -i else i)) := rfl
@[simp] theorem intTy_int (i : Int) : intTy [.int i] = ret (.int i) := rfl
@[simp] theorem intTy_bl (b : Bool) : intTy [.bl b] = ret (.int (if b then 1 else 0)) := rfl
@[simp] theorem max2_ap (i j : Int) : max2 [.int i, .int j] = ret (.int (if j > i then j else i)) := rfl
@[simp] theorem min2_ap (i j : Int) : min2 [.int i, .int j] = ret (.int (if j < i then j else i)) := rfl
@[simp] theorem isLst_loc (S : Store) (n : Nat) : isLst S (.loc n) = (lstAt S n).isSome := rfl
theorem lstAt_of {S : Store} {n : Nat} {xs : List M} (h : S[n]? = some (.lst xs)) : lstAt S n = some xs := by unfold lstAt; rw [h]
@[simp] theorem lstAt_last (S : Store) (xs : List M) : lstAt (S ++ [.lst xs]) S.length = some xs := lstAt_of (by rw [List.getElem?_append_right (Nat.le_refl _), Nat.sub_self]; rfl)
@[simp] theorem kept_nil (xs : List M) (S : Store) : Wk.kept ⟨xs, []⟩ S := fun p hp => by cases hp
theorem guard_ok {α : Type} {w : Wk} {c : Mo α} {S : Store} (h : w.kept S) : guardW w c S = c S := by unfold guardW; rw [if_pos h]
@[simp] theorem sm10 : Sm 10 := by decide
@[simp] theorem sm0 : Sm 0 := by decide
@[simp] theorem sm1 : Sm 1 := by decide
@[simp] theorem sm2 : Sm 2 := by decide
@[simp] theorem sm3 : Sm 3 := by decide
@[simp] theorem sm4 : Sm 4 := by decide
@[simp] theorem sm5 : Sm 5 := by decide
@[simp] theorem sm6 : Sm 6 := by decide
@[simp] theorem sm8 : Sm 8 := by decide
@[simp] theorem sm12 : Sm 12 := by decide
@[simp] theorem mRng1_ap (ma : MSt → Mo (List M)) (σ : MSt) : mRng1 ma σ = bnd (ma σ) fun vs S => match vs with
  | [.int j] => if Sm j then some (wkR 0 j.toNat, S) else none
  | _ => none := rfl
@[simp] theorem mSeq_ap (m : MSt → Mo M) (σ : MSt) : mSeq m σ = bnd (m σ) fun x S => match seqOf S x with
  | some xs => some (⟨xs, keepOf S x⟩, S)
  | none => none := rfl
@[simp] theorem keepOf_tup (S : Store) (xs : List M) : keepOf S (.tup xs) = [] := rfl
@[simp] theorem keepOf_fz (S : Store) (xs : List M) : keepOf S (.fz xs) = [] := rfl
@[simp] theorem keepOf_ro (S : Store) (xs : List Int) : keepOf S (.ro xs) = [] := rfl
theorem compL_pure {w : Wk} {g : M → MSt → Mo MSt} {tt : MSt → Mo Bool} {te : MSt → Mo M} {σ0 : MSt} {S : Store} (hk : w.kept S) {γ : Type} (h : γ → M) (p : γ → Bool) (f : γ → M) : ∀ (ks : List γ),
    (∀ k ∈ ks, ∃ σ1, g (h k) σ0 S = some (σ1, S) ∧ tt σ1 S = some (p k, S) ∧ (p k = true → te σ1 S = some (f k, S))) → compL w g tt te σ0 (ks.map h) S = some ((ks.filter p).map f, S)
  | [], _ => by
    show guardW w (ret []) S = _
    rw [guard_ok hk]
    rfl
  | k :: ks, H => by
    have ih := compL_pure hk h p f ks fun k' hk' => H k' (.tail _ hk')
    obtain ⟨σ1, h1, h2, h3⟩ := H k (.head _)
    show guardW w _ S = _
    rw [guard_ok hk]
    simp only [bnd_ap, h1, h2]
    by_cases hp : p k = true
    · simp [hp, h3 hp, ih]
    · simp [hp, ih]
/-- all of them -/
theorem compL_map {w : Wk} {g : M → MSt → Mo MSt} {te : MSt → Mo M} {σ0 : MSt} {S : Store} (hk : w.kept S) {γ : Type} (h : γ → M) (f : γ → M) (ks : List γ)
    (H : ∀ k ∈ ks, ∃ σ1, g (h k) σ0 S = some (σ1, S) ∧ te σ1 S = some (f k, S)) : compL w g mYes te σ0 (ks.map h) S = some (ks.map f, S) := by
  rw [compL_pure hk h (fun _ => true) f ks fun k hk' => by
    obtain ⟨σ1, h1, h2⟩ := H k hk'
    exact ⟨σ1, h1, rfl, fun _ => h2⟩]
  rw [List.filter_eq_self.mpr fun _ _ => rfl]
theorem wkR_xs (lo : Int) (n : Nat) : (wkR lo n).xs = (List.range n).map fun i : Nat => M.int (lo + i) := rfl
theorem wkR_kept (lo : Int) (n : Nat) (S : Store) : (wkR lo n).kept S := kept_nil _ _
/-- a loop whose body comes to its end each time, by an invariant -/
theorem forL_ok {w : Wk} {g : M → MSt → Mo MSt} {mb : MSt → Mo Out} (Iv : Nat → MSt → Store → Prop) (hk : ∀ i σ S, Iv i σ S → w.kept S) : ∀ (xs : List M) (i : Nat) (σ : MSt) (S : Store), Iv i σ S →
    (∀ j x σ S, xs[j]? = some x → Iv (i + j) σ S → ∃ σ1 S1, g x σ S = some (σ1, S1) ∧ ∃ σ2 S2, mb σ1 S1 = some (.nx σ2, S2) ∧ Iv (i + j + 1) σ2 S2) →
    ∃ σ' S', forL w g mb xs σ S = some (.nx σ', S') ∧ Iv (i + xs.length) σ' S'
  | [], i, σ, S, h, _ => ⟨σ, S, by show guardW w _ S = _; rw [guard_ok (hk _ _ _ h)]; rfl, h⟩
  | x :: xs, i, σ, S, h, H => by
    obtain ⟨σ1, S1, e1, σ2, S2, e2, h2⟩ := H 0 x σ S rfl h
    obtain ⟨σ', S', e3, h3⟩ := forL_ok Iv hk xs (i + 1) σ2 S2 h2 fun j y σ S hy hv => by
      have e : i + 1 + j = i + (j + 1) := by omega
      rw [e] at hv ⊢
      exact H (j + 1) y σ S (by rw [List.getElem?_cons_succ]; exact hy) hv
    refine ⟨σ', S', ?_, by rw [List.length_cons, show i + (xs.length + 1) = i + 1 + xs.length by omega]; exact h3⟩
    show guardW w _ S = _
    rw [guard_ok (hk _ _ _ h)]
    simp only [bnd_ap, e1, e2]
    exact e3
/-- a walk whose items change the store -/
theorem compL_ok {w : Wk} {g : M → MSt → Mo MSt} {te : MSt → Mo M} {σ0 : MSt} (Iv : Nat → Store → Prop) (Gd : M → Prop) (hk : ∀ i S, Iv i S → w.kept S) : ∀ (xs : List M) (i : Nat) (S : Store), Iv i S →
    (∀ j x S, xs[j]? = some x → Iv (i + j) S → ∃ σ1, g x σ0 S = some (σ1, S) ∧ ∃ v S2, te σ1 S = some (v, S2) ∧ Gd v ∧ Iv (i + j + 1) S2) →
    ∃ vs S', compL w g mYes te σ0 xs S = some (vs, S') ∧ Iv (i + xs.length) S' ∧ vs.length = xs.length ∧ ∀ v ∈ vs, Gd v
  | [], i, S, h, _ => ⟨[], S, by show guardW w _ S = _; rw [guard_ok (hk _ _ h)]; rfl, h, rfl, fun v hv => by cases hv⟩
  | x :: xs, i, S, h, H => by
    obtain ⟨σ1, e1, v, S2, e2, gd, h2⟩ := H 0 x S rfl h
    obtain ⟨vs, S', e3, h3, hl, hg⟩ := compL_ok Iv Gd hk xs (i + 1) S2 h2 fun j y S hy hv => by
      have e : i + 1 + j = i + (j + 1) := by omega
      rw [e] at hv ⊢
      exact H (j + 1) y S (by rw [List.getElem?_cons_succ]; exact hy) hv
    refine ⟨v :: vs, S', ?_, by rw [List.length_cons, show i + (xs.length + 1) = i + 1 + xs.length by omega]; exact h3, by rw [List.length_cons, List.length_cons, hl], fun z hz => ?_⟩
    · show guardW w _ S = _
      rw [guard_ok (hk _ _ h)]
      simp [e1, e2, e3]
    · rcases List.mem_cons.mp hz with rfl | hz
      · exact gd
      · exact hg z hz
end
end Em
set_option Elab.async false
set_option maxRecDepth 100000
set_option linter.all false
namespace Em
open PySem L2
section
variable {K : Ct} {X : Cx}
def lrng2A (al : List M → Mo M) (vs : List M) : Mo M := fun S => match vs with
  | [.int a, .int b] => if 0 ≤ a ∧ a < 4 ∧ a ≤ b ∧ b - a < 17 then al ((List.range (b - a).toNat).map fun i : Nat => M.int (a + (i : Int))) S else none
  | _ => none
end
@[simp] theorem mSl_ap (al : List M → Mo M) (m : MSt → Mo M) (ml mh : MSt → Mo (Option Int)) (σ : MSt) : mSlA al m ml mh σ = bnd (m σ) fun x => bnd (ml σ) fun l => bnd (mh σ) fun h => slA al x l h := rfl
@[simp] theorem slA_fz (al : List M → Mo M) (xs : List M) (lo hi : Option Int) (S : Store) : slA al (.fz xs) lo hi S = al (cutM xs lo hi) S := rfl
@[simp] theorem oNone_ap (σ : MSt) : oNone σ = ret none := rfl
@[simp] theorem oSome_ap (m : MSt → Mo M) (σ : MSt) : oSome m σ = bnd (m σ) fun x => match x with
  | .int i => ret (some i)
  | _ => fail := rfl
@[simp] theorem slA_tup (al : List M → Mo M) (xs : List M) (lo hi : Option Int) (S : Store) : slA al (.tup xs) lo hi S = some (.tup (cutM xs lo hi), S) := rfl
@[simp] theorem listA_tup (al : List M → Mo M) (xs : List M) (S : Store) : listA al [.tup xs] S = al xs S := rfl
theorem cut_take (xs : List M) (k : Nat) : cutM xs none (some (k : Int)) = xs.take k := by
  unfold cutM
  rw [HT.sIx_nat, HT.sIx_none, List.drop_zero, Nat.sub_zero]
  by_cases h : k ≤ xs.length
  · rw [Nat.min_eq_left h]
  · rw [Nat.min_eq_right (by omega), List.take_of_length_le (Nat.le_refl _), List.take_of_length_le (by omega)]
end Em
set_option Elab.async false
set_option maxRecDepth 100000
set_option linter.all false
namespace Em
open PySem L2
section
variable {K : Ct} {X : Cx}
end
end Em
set_option Elab.async false
set_option maxRecDepth 100000
set_option linter.all false
namespace Em
open PySem L2
section
variable {K : Ct} {X : Cx}
theorem fun_okT {P : Program} {w : World} {mg : Str → Option Value} {base : Heap} {x qual : Str} {st : Stmt} {f Pt : Addr} {fd : FuncData} {N ps : List Str} {k : Nat} {mB : MSt → Mo Out} (F : Eb.FunT K.K x qual st f fd Pt) (Sc : FnScope N ps (defScope st))
    (hbody : ∀ (c : Addr) (A : Around) (outer : List Env) (s : Shared) (H : Hp) (E : XK), Eb.tabIn K.K c = some Pt → Room k (A.deeper (PyProof.Rows.envOfC qual (defScope st) s.heap.objs.size f (.ref c))) → MSs K (cxOf CX0 P w K.K mg base N qual (defScope st) f (.ref c) A outer s H E).nox (defBody st) mB) :
    FnOk P w K.K mg base CX0 (k + 1) f fd ps (spM K ps.length (den N.length mB)) :=
  F.ok Sc (fun vs H Q E h => h.1) fun c A outer s H vs Q E ht hr h => ⟨_, (hbody c A outer s H E ht hr).pss, ends_ok h⟩
end
open Classical in
noncomputable def fzR (S : Store) (v : M) (S' : Store) : M × Store :=
  if Gc S S' then
    if Below S.length v then (v, S'.take S.length) else match v with
      | .loc n => match S'[n]? with
        | some (.lst xs) => if Belows S.length xs then (.fz xs, S'.take S.length) else (v, S')
        | _ => (v, S')
      | _ => (v, S')
  else (v, S')
noncomputable def fzF (F : Fn) : Fn := fun vs S => match F vs S with
  | some (v, S') => some (fzR S v S')
  | none => none
theorem fzF_pure {F : Fn} {vs : List M} {S S' : Store} {v : M} (h : F vs S = some (v, S')) (g : Gc S S') (b : Below S.length v) : fzF F vs S = some (v, S'.take S.length) := by
  unfold fzF fzR
  rw [h]
  simp only [if_pos g, if_pos b]
section
variable {K : Ct} {X : Cx}
/-- what is locked and has no number -/
theorem lock_rep {ρ0 ρ : List Addr} {H0 H : Hp} {S : Store} {D : Addr} {od : Obj} {xs : List M} {vs : List V} (E : Ext ρ0 H0 ρ H) (r : RepS K ρ S H) (hD : D ∉ ρ) (hn : D ∉ ρ0 → H0 D = none) (hv : H D = some (.lst vs)) (rv : RVs K ρ H xs vs) :
    Ext ρ0 H0 ρ (upd H D (.frz od (.lst vs))) ∧ RepS K ρ S (upd H D (.frz od (.lst vs))) ∧ RV K ρ (upd H D (.frz od (.lst vs))) (.fz xs) (.ref D) := by
  have st : ∀ a o, H a = some o → a ≠ D → upd H D (.frz od (.lst vs)) a = some o := fun a o h n => by rw [upd_ne n]; exact h
  have wx : Wx K ρ H ρ (upd H D (.frz od (.lst vs))) := ⟨List.prefix_refl _, fun a xs h => by
    rcases h with (h | ⟨o, h⟩) | h
    · exact .inl (.inl (st _ _ h (ne_of h hv (by intro z; cases z))))
    · exact .inl (.inr ⟨o, st _ _ h (ne_of h hv (by intro z; cases z))⟩)
    · exact .inr h, fun a xs h => by
    rcases h with ⟨o, h⟩ | h
    · exact .inl ⟨o, st _ _ h (ne_of h hv (by intro z; cases z))⟩
    · exact .inr h, fun a o xs h => st _ _ h (ne_of h hv (by intro z; cases z))⟩
  refine ⟨⟨E.pre, fun a o h n => st _ _ (E.keep a o h n) (fun z => by rw [z] at h n; rw [hn n] at h; cases h), E.fresh⟩, ⟨r.len, r.nd, fun n a b h1 h2 => ?_, fun P hP => ?_⟩, .fz upd_same (rv.wx wx)⟩
  · obtain ⟨o, h3, h4⟩ := r.ob n a b h1 h2
    refine ⟨o, st _ _ h3 (fun z => hD (by rw [← z]; exact List.mem_of_getElem? h1)), ?_⟩
    cases h4 with
    | lst h => exact .lst (h.wx wx)
    | dK k h => exact .dK k (h.wx wx)
    | dT k h => exact .dT k (h.wx wx)
    | ins k h => exact .ins k (h.wx wx)
  · exact st _ _ (r.tb P hP) (ne_of (r.tb P hP) hv (by intro z; cases z))
theorem fz_post {F : Fn} {ms : List M} {ρ : List Addr} {H : Hp} {S S' : Store} {v : M} {Q : VK} (r : RepS K ρ S H) (e : fzF F ms S = some (v, S')) (q : Post K ρ H S' v Q) : ∃ v0 S0, F ms S = some (v0, S0) ∧ Post K ρ H S0 v0 (LkQ Q) := by
  unfold fzF at e
  cases eF : F ms S with
  | none => rw [eF] at e; cases e
  | some p =>
    obtain ⟨v0, S0⟩ := p
    rw [eF] at e
    have e' : fzR S v0 S0 = (v, S') := Option.some.inj e
    refine ⟨v0, S0, rfl, fun ρ' v' H' E' r' rv' => ?_⟩
    unfold fzR at e'
    split at e'
    · next g =>
      split at e'
      · next hb =>
        cases e'
        obtain ⟨E1, r1⟩ := gc_rep r E' r' g
        exact .inr (q ρ v' H' E1 r1 (rv'.less E'.pre (by rw [r.len]; exact hb)))
      · next hb =>
        split at e'
        · next n' =>
          split at e'
          · next xs hx =>
            split at e'
            · next hbs =>
              cases e'
              have hn : S.length ≤ n' := Nat.le_of_not_lt hb
              cases rv' with
              | @loc _ a ha =>
                obtain ⟨E1, r1⟩ := gc_rep r E' r' g
                have hna : a ∉ ρ := fun m => by
                  obtain ⟨j, hj⟩ := List.getElem?_of_mem m
                  have := nd_ix r'.nd (E'.get hj) ha
                  have hl := (List.getElem?_eq_some_iff.mp hj).1
                  rw [r.len] at hl
                  omega
                have hfr : H a = none := E'.fresh a (List.mem_of_getElem? ha) hna
                obtain ⟨o, h3, h4⟩ := r'.ob n' a _ ha hx
                cases h4 with
                | @lst _ vs h4 =>
                  refine .inl ⟨a, vs, rfl, h3, fun od => ?_⟩
                  obtain ⟨E2, r2, rv2⟩ := lock_rep (od := od) E1 r1 hna (fun _ => hfr) h3 (h4.less E'.pre (by rw [r.len]; exact hbs))
                  exact q ρ _ _ E2 r2 rv2
            · cases e'
              exact .inr (q ρ' v' H' E' r' rv')
          · cases e'
            exact .inr (q ρ' v' H' E' r' rv')
        · cases e'
          exact .inr (q ρ' v' H' E' r' rv')
    · cases e'
      exact .inr (q ρ' v' H' E' r' rv')
theorem me_callF {k n : Nat} {f : Addr} {fd : FuncData} {ps : List Str} {F : Fn} {x : Str} {st : Stmt} {p pos : Pos} {e : Expr} {es : List Expr} {ma : MSt → Mo (List M)} (hK : X.K = K.K) (G : FnOk X.prog X.w K.K X.mg X.base CX0 k f fd ps (spM K n F)) (D : Def K.K X.mg x st ps f fd) (hr : Room k X.A)
    (ha : MA K X (e :: es) ma) (hg : Gl X x := by rfl) (hdb : (x == ("__debug__" : Str)) = false := by decide) (he : starEach (e :: es) X.env = (false, eval e X.env) :: starEach es X.env := by rfl) (hpl : (backTo pos (starEach es X.env)).any (·.1) = false := by rfl) :
    ME K X (.Call (.Name x p) (e :: es) [] pos) (mCall n (fzF F) ma) :=
  .of (PE.unlk (pe_call (sp := spM K n F) (hK ▸ G) hr hg D.mg (hK ▸ D.F.kp) (hK ▸ D.b) .nil pass0 ha.pa hdb he hpl)) fun ρ σ S v S' σV H Q r rs e q => by
    replace e := bnd_some e
    obtain ⟨ms, S1, e1, e⟩ := e
    split at e
    · next hl =>
      refine ⟨ρ, σ, S, ms, S1, r, rs, e1, fun ρ1 vs H1 E1 r1 rv => ?_⟩
      obtain ⟨v0, S0, e0, q0⟩ := fz_post r1 e (fun ρ2 v' H2 E2 => q ρ2 v' H2 (E1.trans E2))
      exact ⟨by rw [List.append_nil, ← rv.len]; exact hl, ρ1, S1, ms, v0, S0, r1, by rw [List.append_nil]; exact rv, e0, q0⟩
    · cases e
end
end Em
set_option Elab.async false
set_option maxRecDepth 100000
set_option linter.all false
namespace Eb
open PySem L2 PyProof.Rows
section
open PySem.W PySem.Calls PySem.Spec
variable {prog : Program} {w : World} {A : Around} {E : Value → Shared → Prop} {s : Shared}
end
section
variable {X : Cx}
end
end Eb
set_option Elab.async false
set_option maxRecDepth 100000
set_option linter.all false
namespace Em
open PySem L2
section
variable {κ : Type} [DecidableEq κ]
end
section
variable {K : Ct} {X : Cx} {ρ : List Addr} {H : Hp} {S : Store}
section
variable {κ : Type} [DecidableEq κ]
end
end
end Em
set_option Elab.async false
set_option maxRecDepth 100000
set_option linter.all false
namespace Em
open PySem L2
section
variable {K : Ct} {X : Cx}
def LkN (N : St → Hp → Prop) : St → Hp → Prop := fun σ H => (∃ d xs, H d = some (.lst xs) ∧ ∀ od, N σ (upd H d (.frz od (.lst xs)))) ∨ N σ H
theorem PS.unlk {st : Stmt} {t : TS} (h : PS X st t) : PS X st (fun D σ H => t { D with nx := LkN D.nx } σ H) := fun pins s σ H D I q =>
  thn (h pins s σ H _ I q) fun f s' z => by
    cases f with
    | next =>
      obtain ⟨σ', H', I', z⟩ := z
      rcases z with ⟨d, xs, hd, z⟩ | z
      · obtain ⟨od, I2⟩ := I'.lock hd trivial
        exact ⟨σ', _, I2, z od⟩
      · exact ⟨σ', H', I', z⟩
    | brk => exact z
    | cont => exact z
    | ret u => exact z
theorem asg_nameF {i : Nat} {m : MSt → Mo (List M)} {ρ : List Addr} {σ : MSt} {S S' : Store} {o : Out} {σV : St} {H : Hp} {D : Ends} (r : RepS K ρ S H) (rs : Rσ K ρ H σ σV) (e : sAsg (mNewF m) (gN i) σ S = some (o, S')) (q : OutOk K ρ H S' D o) {te : TE}
    (ht : ∀ Q, tMF K m σV H Q → te σV H Q) : tAsg te (gName i) { D with nx := LkN D.nx } σV H := by
  replace e := bnd_some e
  obtain ⟨v, S1, e1, e⟩ := e
  cases e
  replace e1 := bnd_some e1
  obtain ⟨xs, S2, e1, e2⟩ := e1
  obtain ⟨hl, rfl, rfl⟩ := newF_some e2
  refine ht _ ⟨ρ, σ, S, xs, _, r, rs, e1, hl, fun ρ' A vs H' E r' hA hn hv rv => ?_⟩
  refine .inl ⟨A, vs, hv, fun od => ?_⟩
  obtain ⟨E2, r2, rv2⟩ := lock_rep (od := od) E r' hA (fun _ => hn) hv rv
  exact q ρ' _ _ E2 r2 ((rs.mono r E2).set rv2 i)
theorem ms_setLcF {i : Nat} {y : Str} {py : Pos} {elt tg iter : Expr} {ifs : List Expr} {scope : Scope} {own : List (Str × Nat)} {pos spos : Pos} {mi : MSt → Mo Wk} {g : M → MSt → Mo MSt} {ws : List Nat} {tt : MSt → Mo Bool} {te : MSt → Mo M} (hc : X.calm = true) (hN : X.N.Nodup) (hy : X.N[i]? = some y) (hyl : X.env.scope.names.lookup y = some .local)
    (hsw : swapsWith (.ListComp elt [⟨tg, iter, ifs, 0⟩] scope pos) (some (.Name y py)) spos.line X.env = pure true) (hi : MI K X tg iter mi) (ok : BlkOk X.N X.env.scope scope own)
    (hg : ∀ (s : Shared) (H : Hp) (C : Addr) (cl : List (Str × Addr)) (fp : List Addr), MG K (X.blk s H scope (compEnvC scope cl C X.env) fp) tg g ws) (ht : ∀ (s : Shared) (H : Hp) (C : Addr) (cl : List (Str × Addr)) (fp : List Addr), MTs K (X.blk s H scope (compEnvC scope cl C X.env) fp) ifs tt)
    (he : ∀ (s : Shared) (H : Hp) (C : Addr) (cl : List (Str × Addr)) (fp : List Addr), ME K (X.blk s H scope (compEnvC scope cl C X.env) fp) elt te) (hw : ∀ i ∈ ws, i ∈ own.map (·.2) := by decide) (hs : ∀ x, foldedSetIterable iter X.env x = pure x := by intro _; rfl) :
    MS K X (.Assign [.Name y py] (.ListComp elt [⟨tg, iter, ifs, 0⟩] scope pos) spos) (sAsg (mNewF (mComp mi g tt te (own.map (·.2)))) (gN i)) :=
  .of (PS.unlk (ps_setLc hc hN hy hyl hsw hi.pi ok (fun s H C cl fp => (hg s H C cl fp).pg) (fun s H C cl fp => (ht s H C cl fp).pts) (fun s H C cl fp => (he s H C cl fp).pe) hs)) fun ρ σ S o S' σV H D r rs e q => asg_nameF r rs e q fun Q h => mf_run hw h
end
def tabV (vs : Array Value) : Option Addr := match vs.getD 11 .none, vs.getD 18 .none, vs.getD 7 .none, vs.getD 9 .none, vs.getD 10 .none with
    | .ref P, .str _ _, .int _ _, .bool _, .int _ _ => some P
    | _, _, _, _, _ => none
theorem tabIn_of {K : PySem.W.Frag} {c P : Addr} {od : Option Addr} {vs : Array Value} {sl : Array (Option Value)} (u : K.lookup c = some ⟨.type "code", od, .fields vs, sl⟩) (p : tabV vs = some P) : Eb.tabIn K c = some P := by
  unfold Eb.tabIn
  rw [u]
  exact p
end Em
namespace L2
open PySem
end L2
set_option Elab.async false
set_option maxRecDepth 100000
set_option linter.all false
namespace Eb
open PySem PyProof.Rows L2
section
variable {prog : Program} {w : World} {A : Around} {E : Value → Shared → Prop} {s : Shared}
end
section
variable {prog : Program} {w : World} {A : Around} {R : Result → Shared → Prop} {I S : Addr} {fp wr : List Addr} {n : Nat} {P : Nat → Value → Prop} {St : Nat → Heap → Prop} {h0 : Heap} {bt : Nat → Nat → Bool} {kw : List (Str × Value)}
end
section
variable {prog : Program} {w : World} {A : Around} {R : Result → Shared → Prop} {I S : Addr} {fp wr : List Addr} {n : Nat} {P : Nat → Value → Prop} {St : Nat → Heap → Prop} {h0 : Heap} {bt : Nat → Nat → Bool} {kw : List (Str × Value)}
end
end Eb
set_option Elab.async false
set_option maxRecDepth 100000
set_option linter.all false
namespace L2
open PySem PySem.Spec PyProof.Rows
section
variable {X : Cx} {x : Str} {p pos kpos : Pos} {a d : Expr} {ta td : TE} {id : String} {r : R2}
end
end L2
namespace Em
open PySem L2
section
variable {K : Ct} {X : Cx}
end
end Em
set_option Elab.async false
set_option maxRecDepth 100000
set_option linter.all false
namespace Em
open PySem L2
section
variable {K : Ct} {X : Cx}
end
end Em
set_option Elab.async false
set_option maxRecDepth 100000
set_option linter.all false
namespace Eb
open PySem PyProof.Rows L2
section
variable {prog : Program} {w : World} {A : Around} {E : Value → Shared → Prop} {s : Shared}
end
end Eb
namespace Em
open PySem L2
section
variable {K : Ct} {X : Cx}
end
end Em
set_option Elab.async false
set_option maxRecDepth 100000
set_option linter.all false
namespace Em
open PySem L2
section
variable {K : Ct} {X : Cx}
end
end Em
set_option Elab.async false
set_option maxRecDepth 100000
set_option linter.all false
namespace Eb
open PySem L2
end Eb
namespace Em
open PySem L2
section
variable {K : Ct} {X : Cx}
end
end Em
set_option Elab.async false
set_option maxRecDepth 100000
set_option linter.all false
namespace Eb
open PySem PyProof.Rows L2
section
variable {prog : Program} {w : World} {A : Around} {E : Value → Shared → Prop} {s : Shared}
end
end Eb
namespace Em
open PySem L2
section
variable {K : Ct} {X : Cx}
end
end Em
set_option Elab.async false
set_option maxRecDepth 100000
set_option linter.all false
namespace Em
open PySem L2
section
variable {K : Ct} {X : Cx}
end
end Em
set_option Elab.async false
set_option maxRecDepth 100000
set_option linter.all false
namespace Em
open PySem L2
section
variable {K : Ct} {X : Cx}
theorem Room.guards {k : Nat} {A : Around} (r : Room k A) : A.guards = some [] := r.gd
def isRef : M → Bool
  | .tup _ => true
  | .loc _ => true
  | .fz _ => true
  | _ => false
/-- what repr says of a list or a tuple -/
def reprB (S : Store) (x : M) : Option Str := match dat S 40 x with
  | some d => if d.showable = true ∧ d.hasDict = false ∧ d.shown.length ≤ sizeLine ∧ d.depth ≤ 50 then some d.shown else none
  | none => none
def reprC (vs : List M) : Mo M := fun S => match vs with
  | [x] => match reprB S x with
    | some t => some (.str t, S)
    | none => none
  | _ => none
theorem ref_of {ρ : List Addr} {H : Hp} {x : M} {v : V} {u : Value} (h : isRef x = true) (r : RV K ρ H x v) (ru : RelV v u) : ∃ a, u = .ref a := by
  cases r with
  | tup _ _ => cases ru; exact ⟨_, rfl⟩
  | loc _ => cases ru; exact ⟨_, rfl⟩
  | fz _ _ => cases ru; exact ⟨_, rfl⟩
  | _ => cases h
def strC (vs : List M) : Mo M := fun S => match vs with
  | [.int i] => if i.natAbs.log2 < 1920 then some (.str (toString i), S) else none
  | [x] => if isRef x = true then match reprB S x with
      | some t => some (.str t, S)
      | none => none
    else none
  | _ => none
theorem cm_str (hK : X.K = K.K) (hu : X.A.units + 64 < cLine) (hg : X.A.guards = some []) : CallM K X (.type "str") strC := .mk' fun pins s σ H xs us Q ρ S ms w S' I rx r r1 e q => by
  unfold strC at e
  split at e
  · split at e
    · next i hi =>
      cases e
      cases r1 with
      | cons a b =>
        cases b
        cases a
        exact call_str_int pins s σ H _ us Q I rx ⟨i, rfl, hi, q.same r (.str _)⟩
    · cases e
  · next x _ =>
    split at e
    · next hr =>
      split at e
      · next t hb =>
        cases e
        unfold reprB at hb
        split at hb
        · next d hd =>
          split at hb
          · next hc =>
            cases hb
            cases r1 with
            | cons a b =>
              cases b
              obtain ⟨u, rfl, ru⟩ := vals1 rx
              obtain ⟨as, rd⟩ := Dp.reads I d _ u (hK ▸ dat_ok r 40 hd a) ru
              obtain ⟨ad, rfl⟩ := ref_of hr a ru
              exact str_of_reads rd hc.1 (PyData.noDict_hsm hc.2.1) hg (by omega) (fun _ _ e => e) (fun h' u tk hk => ⟨.str d.shown, H, I.kept hk, ⟨u, rfl⟩, q.same r (.str _)⟩) hc.2.2.1
          · cases hb
        · cases hb
      · cases e
    · cases e
  · cases e
end
end Em
set_option Elab.async false
set_option maxRecDepth 100000
set_option linter.all false
namespace Eb
open PySem PyProof.Rows L2 HT PySem.W
section
variable {prog : Program} {w : World} {A : Around} {E : Value → Shared → Prop} {s : Shared}
end
section
variable {X : Cx} {e st : Expr} {te ts : TE} {pos p2 : Pos} {r : R2}
end
end Eb
namespace Em
open PySem L2
section
variable {K : Ct} {X : Cx}
end
end Em
set_option maxRecDepth 100000
set_option linter.all false
namespace Eb
open PySem
section
variable {prog : Program} {w : World} {A : Around} {E : Value → Shared → Prop} {s : Shared}
end
end Eb
set_option Elab.async false
set_option maxRecDepth 100000
set_option linter.all false
namespace Eb
open PySem L2
section
variable {X : Cx} {pins : List (Addr × Obj)} {σ : L2.St} {A : Around} {z TI TO i1 i2 a b D : Addr} {xs ys : List V} {its its2 : List Value} {R : Result → Shared → Prop} {res : Value}
theorem zip_no_len : typeLookup (Value.type "zip") (Str.ofString "__len__") = pure none := by rfl
theorem zip_no_hint : typeLookup (Value.type "zip") (Str.ofString "__length_hint__") = pure none := by rfl
end
end Eb
set_option Elab.async false
set_option maxRecDepth 100000
set_option linter.all false
namespace Em
open PySem L2
section
variable {K : Ct} {X : Cx}
end
end Em
set_option Elab.async false
set_option maxRecDepth 100000
set_option linter.all false
namespace Em
open PySem L2
section
variable {K : Ct} {X : Cx} {a b : Expr} {rest : List Expr} {pos : Pos} {ma mb : MSt → Mo M}
end
end Em
set_option Elab.async false
set_option maxRecDepth 100000
set_option linter.all false
namespace Eb
open PySem L2 PyProof.Rows
section
open PySem.W PySem.Calls PySem.Spec
variable {prog : Program} {w : World} {A : Around} {E : Value → Shared → Prop} {s : Shared}
end
end Eb
set_option Elab.async false
set_option maxRecDepth 100000
set_option linter.all false
namespace Eb
open PySem L2 PyProof.Rows
section
open PySem.W PySem.Calls PySem.Spec
variable {prog : Program} {w : World} {A : Around} {E : Value → Shared → Prop} {s : Shared}
end
section
variable {X : Cx}
end
end Eb
set_option Elab.async false
set_option maxRecDepth 100000
set_option linter.all false
namespace Em
open PySem L2
section
variable {K : Ct} {X : Cx}
end
end Em
set_option Elab.async false
set_option maxRecDepth 100000
set_option linter.all false
namespace Eb
open PySem L2 PyProof.Rows
section
open PySem.W PySem.Calls PySem.Spec
variable {prog : Program} {w : World} {A : Around} {E : Value → Shared → Prop} {s : Shared}
end
end Eb
set_option Elab.async false
set_option maxRecDepth 100000
set_option linter.all false
namespace Eb
open PySem L2 PySem.Spec PyProof.Rows
section
variable {X : Cx} {pins : List (Addr × Obj)} {σ : L2.St} {H : Hp} {s : Shared}
end
section
variable {prog : Program} {w : World} {A : Around} {R : Result → Shared → Prop} {s : Shared} {elt t0 i0 : Expr} {ifs0 : List Expr} {scope : Scope} {pos : Pos} {it acc : Value} {env : Env}
end
section
variable {X : Cx}
end
end Eb
set_option Elab.async false
set_option maxRecDepth 100000
set_option linter.all false
namespace Eb
open PySem L2 PyProof.Rows
section
variable {X : Cx}
end
end Eb
namespace Em
open PySem L2
section
variable {K : Ct} {X : Cx} {ρ ρ0 ρ1 ρ2 : List Addr} {H H0 H1 H2 : Hp} {S S1 : Store} {D : Addr}
variable {P : Program} {w : World}
end
end Em
set_option Elab.async false
set_option maxRecDepth 100000
set_option linter.all false
namespace Eb
open PySem L2 PyProof.Rows
section
variable {X : Cx}
end
end Eb
namespace Em
open PySem L2
section
variable {K : Ct} {X : Cx}
end
end Em
set_option Elab.async false
set_option maxRecDepth 100000
set_option linter.all false
namespace Em
open PySem L2
section
variable {K : Ct} {X : Cx}
end
end Em
set_option Elab.async false
set_option maxRecDepth 100000
set_option linter.all false
namespace Eb
open PySem L2
section
open PyProof.Rows PySem.Calls PySem.Spec PySem.W
theorem strs_pairs : ∀ {ys : List Str} {its : List Value}, Vals (ys.map V.str) its → ∃ l : List (Str × Tok), its = strValues l ∧ l.map (·.1) = ys
  | [], _, .nil => ⟨[], rfl, rfl⟩
  | y :: ys, _, .cons r rs => by
    obtain ⟨l, e1, e2⟩ := strs_pairs rs
    obtain ⟨t, rfl⟩ := r
    exact ⟨(y, t) :: l, by rw [e1]; rfl, by rw [List.map_cons, e2]⟩
theorem fold_len (a : Str) : ∀ (ys : List Str) (n : Nat), ys.foldl (fun x1 x2 => x1 + x2.length + a.length) n = n + (ys.map (·.length)).sum + ys.length * a.length
  | [], n => by simp
  | y :: ys, n => by
    rw [List.foldl_cons, fold_len a ys, List.map_cons, List.sum_cons, List.length_cons, Nat.succ_mul]
    omega
section
variable {X : Cx} {A : Around} {E : Value → Shared → Prop} {s : Shared}
theorem join_gen {g gi : Addr} {a : Str} {t : Tok} {R : Value → Shared → Prop} (hisg : s.heap.IsGen g gi)
    (col : ∀ {Q' : List Value → Shared → Prop} {E' : Value → Shared → Prop}, (∀ s' l, (((l : List (Str × Tok)).map (·.1)).map (·.length)).sum + l.length * a.length ≤ 16777216 → (∀ t' k, R (.str (Txt.join a (l.map (·.1))) t') { s' with toks := k }) → Q' (strValues l) s') → wpAny (model X.prog X.w) A.in1 (collect (.ref g)) Q' E' s) :
    wpAny (model X.prog X.w) A (call (.builtin "str.join") [.str a t, .ref g]) R E s := by
  refine wpAny_call_entry F.slot_str_join (typeIs_str _ _ _) F.entry_str_join ?_ (F.args_str_join_2 _ _)
  unfold Builtin.«str.join»
  have e1 : Builtin.Str.strOneArg "join" ⟨[.str a t, .ref g], []⟩ = pure (.str a t, a, .ref g) := rfl
  rw [e1]
  refine wpAny_bind (wpAny_pure ?_)
  dsimp only
  refine wpAny_bind (wpAny_typeOf hisg.typeIs ?_)
  have h2 : (Value.type "generator" == Value.type "list") = false := by decide
  have h3 : (Value.type "generator" == Value.type "tuple") = false := by decide
  simp only [h2, h3, Bool.or_false, Bool.false_eq_true, if_false]
  refine wpAny_bind (wpAny_tryCatch (wpAny_pyIter_gen hisg ?_))
  refine wpAny_bind (col fun s' l hz hR => ?_)
  have tl : Builtin.Str.tooLong (Array.foldl (fun x1 x2 => x1 + x2.length + a.length) 0 (l.map (·.1)).toArray) = false := by
    rw [List.foldl_toArray, fold_len]
    rw [List.length_map]
    unfold Builtin.Str.tooLong
    exact decide_eq_false (by rw [sizeLine_eq]; omega)
  have rest : wpAny (model X.prog X.w) A.in1 (do
      let parts ← forIn ((strValues l).zipIdx 0) #[] joinBody
      if Builtin.Str.tooLong (Array.foldl (fun x1 x2 => x1 + x2.length + a.length) 0 parts) = true then do
        let __r ← unsupported "str.join:memory"
        (fun (_ : Unit) => retStr (Builtin.Str.glued a parts.toList)) __r
      else (fun (_ : Unit) => retStr (Builtin.Str.glued a parts.toList)) ()) (fun f s₁ => ∃ v, f = .done (.ret v) ∧ R v s₁) E s' := by
    rw [join_loop]
    refine wpAny_bind (wpAny_pure ?_)
    have e0 : (#[] ++ (l.map (·.1)).toArray : Array Str) = (l.map (·.1)).toArray := by simp
    rw [e0, tl]
    simp only [Bool.false_eq_true, if_false]
    unfold retStr
    refine wpAny_bind (wpAny_mkStr (wpAny_pure ⟨_, rfl, hR _ _⟩) ?_)
    rw [size_glued, List.length_map, sizeLine_eq]
    have : (l.length - 1) * a.length ≤ l.length * a.length := Nat.mul_le_mul_right _ (by omega)
    omega
  match l, hz, hR, rest with
  | [], _, _, rest => exact rest
  | [(y, t')], _, hR, _ =>
    show wpAny _ _ (if Builtin.Str.isExactStr (.str y t') = true then _ else _) _ _ _
    rw [if_pos (show Builtin.Str.isExactStr (.str y t') = true from rfl)]
    refine wpAny_bind (wpAny_rule ?_)
    exact wpAny_pure ⟨_, rfl, hR t' _⟩
  | x :: y :: r, _, _, rest => exact rest
end
end
open PyProof.Rows (AllBare BMod)
section
variable {X : Cx} {c P : Addr}
/-- the text of what the items of a walk are, glued -/
def tJoinG (P : Addr) (to : TE) (wi : TI) (g : TG) (tt : TT) (te : TE) (vs : List Nat) : TE := fun σ H Q => to σ H fun x H0 => ∃ a, x = .str a ∧ wi σ H0 fun J H1 => H1 P = some (tabO P) ∧ ∀ D, H1 D = none → ∃ W : Nat → Nat → Hp → Prop, (∃ m, W 0 m (upd H1 D (.lst []))) ∧ ∀ i m H, W i m H →
  (J.stop i H ∧ ∃ ys : List Str, H D = some (.lst (ys.map V.str)) ∧ (ys.map (·.length)).sum + ys.length * a.length ≤ 16777216 ∧ Q (.str (Txt.join a ys)) H) ∨ (J.go i H ∧ ∃ Nx : Hp → Prop, (∀ H', Nx H' → ∃ m', m' < m ∧ W (i + 1) m' H') ∧ ∀ x H', J.yld i H x H' → g x (wipe σ vs) H' fun σ2 H2 => wipe σ2 vs = wipe σ vs ∧ tt σ2 H2 fun b H3 =>
    if b = true then te σ2 H3 fun y H4 => ∃ acc, H4 D = some (.lst acc) ∧ acc.length < sizeLine ∧ Nx (upd H4 D (.lst (acc ++ [y]))) else Nx H3)
theorem Room.gen3 {k : Nat} {A : Around} (r : Room (k + 1) A) (env : Env) : Room k (A.in1.in1.in1.deeper env) :=
  ⟨r.hd, by have := r.dp; show A.depth + 1 + 3 * k + 5 < _; omega, by have := r.un; show A.units + 1 + 1 + 1 + 3 + 16 * k + 200 < _; omega, r.gd⟩
/-- sep.join(elt for target in iter if ..) -/
theorem pe_joinGen {o elt tg iter : Expr} {to : TE} {ifs : List Expr} {scope : Scope} {own : List (Str × Nat)} {apos pos gpos : Pos} {wi : TI} {g : TG} {tt : TT} {te : TE} (hc : X.calm = true) (hN : X.N.Nodup) (ho : PE X o to) (hcd : X.env.code = .ref c) (hkt : tabIn X.K c = some P)
    (hbm : ∃ bm ob, BMod X.base mainGlobals X.mg bm ob) (hroom : X.A.depth < recursionLimit) (hi : PI X tg iter wi) (ok : BlkOk X.N X.env.scope scope own) (hcell : ∀ y ∈ scope.names, y.2 ≠ .cell) (hco : scope.isCoroutine = false) (h0 : scope.names.lookup (".0" : Str) = some NameKind.local)
    (hg : ∀ (s : Shared) (H : Hp) (C : Addr) (cl : List (Str × Addr)) (code : Value) (fp : List Addr), PG (gblk X (X.A.in1.in1.in1.deeper (genEnv scope cl C code builtinsNs X.env)) s H (genEnv scope cl C code builtinsNs X.env) fp) tg g)
    (ht : ∀ (s : Shared) (H : Hp) (C : Addr) (cl : List (Str × Addr)) (code : Value) (fp : List Addr), PTs (gblk X (X.A.in1.in1.in1.deeper (genEnv scope cl C code builtinsNs X.env)) s H (genEnv scope cl C code builtinsNs X.env) fp) ifs tt)
    (he : ∀ (s : Shared) (H : Hp) (C : Addr) (cl : List (Str × Addr)) (code : Value) (fp : List Addr), PE (gblk X (X.A.in1.in1.in1.deeper (genEnv scope cl C code builtinsNs X.env)) s H (genEnv scope cl C code builtinsNs X.env) fp) elt te) (hs : ∀ x, genFold iter X.env x = pure x := by intro _; rfl)
    (hbase : attributeBase o "join" X.env (eval o X.env) = eval o X.env := by rfl) (hline : (apos.endLine == pos.line) = true := by rfl) (hst : starEach [.GeneratorExp elt [⟨tg, iter, ifs, 0⟩] scope gpos] X.env = [(false, eval (.GeneratorExp elt [⟨tg, iter, ifs, 0⟩] scope gpos) X.env)] := by rfl) :
    PE X (.Call (.Attribute o "join" apos) [.GeneratorExp elt [⟨tg, iter, ifs, 0⟩] scope gpos] [] pos) (tJoinG P to wi g tt te (own.map (·.2))) := by
  intro pins s0 σ H0 Q I0 h
  refine PySem.Call_method1 hbase hst hline (thn (ho pins s0 σ H0 _ I0 h) fun v s ⟨x, H, I, r1, a, ex, h⟩ => ?_)
  subst ex
  obtain ⟨t0, rfl⟩ := _root_.id r1
  refine ⟨"str", _, F.plainAttrs_str, F.slot_str_join, F.type_str_join, typeIs_str _ _ _, (fun _ e => nomatch e), Calls.callWith_builtin rfl (Calls.evalArgs_plain ?_)⟩
  have hfree : ∀ y ∈ scope.names, y.2 = .free → ∃ c, X.env.cells.lookup y.1 = some c := fun y hy e => by
    rcases ok.free y hy e with k | k
    · exact I.ok.has _ (.inl k)
    · exact I.ok.has _ (.inr k)
  refine Calls.spliced_cons (wpAny_GeneratorExp_make hco (closure_ok hfree) hcell h0 ok.kind hroom (thn (hi pins s σ H _ I h) fun xv s1 hx => thn hx fun itv s2 h2 => ?_) hs)
  obtain ⟨it, fp, tn, J, H2, e, I2, T, st2, f2, hP2, qD⟩ := h2
  subst e
  refine ⟨I2.nolimit, thn (code_step I2 hcd hkt hP2) fun code s3 ⟨I3, k3, z3⟩ => ?_⟩
  obtain ⟨bm, ob, M⟩ := hbm
  have M3 := M.keeps I3.bk
  have hgl0 : X.env.globals = mainGlobals := I3.ok.glob
  rw [hgl0]
  refine wpAny_builtinsFor M3.ns M3.name M3.ne M3.obj M3.cls M3.dict M3.data ?_
  intro h' hn' hs'
  have neP : ∀ b ∈ fp, b ≠ P := fun b hb z => by
    have := (f2 b hb).1
    rw [z, hP2] at this
    cases this
  have hsz : h'.objs.size = s3.heap.objs.size + 1 := by rw [hs'.1, Heap.size_push]
  have keep' : ∀ b o, s3.heap.get? b = some o → h'.get? b = some o := fun b o e => hs'.extBut b o (Nat.ne_of_lt (Heap.lt_size e)) (Heap.get?_push_of_some _ e)
  have sz : ∀ b ∈ fp, b < s2.heap.objs.size := fun b hb => by
    obtain ⟨o, e, _⟩ := T.obj _ _ st2 b hb
    exact Heap.lt_size e
  have f3 : ∀ b ∈ fp, FpOk X pins H2 b ∧ b < s3.heap.objs.size := fun b hb => ⟨f2 b hb, Nat.lt_of_lt_of_le (sz b hb) z3⟩
  have st3 : tn 0 s3.heap := T.keep _ _ _ st2 fun b hb o e => k3 b o (neP b hb) e
  refine Calls.spliced_nil ?_
  generalize hob : ({ cls := .type "generator", data := .fields #[.int s3.gens.size 0, .str "<genexpr>" (s3.toks + 1), .str (X.env.qual ++ "<genexpr>") (s3.toks + 1 + 1)] } : Obj) = gob
  generalize hce : genEnv scope (cloFrom X.env.cells scope.names []) s3.heap.objs.size code builtinsNs X.env = cenv
  generalize hs5 : ({ s3 with gens := s3.gens.push (.fresh (.compStart (.GeneratorExp elt [⟨tg, iter, ifs, 0⟩] scope gpos) 0 (.ref it) .none cenv)), toks := s3.toks + 1 + 1 + 1, heap := h'.push gob } : Shared) = s5
  have kp5 : ∀ b o, s3.heap.get? b = some o → s5.heap.get? b = some o := fun b o e => by rw [← hs5]; exact Heap.get?_push_of_some _ (keep' b o e)
  have hget : s5.heap.get? h'.objs.size = some gob := by rw [← hs5, ← hob]; exact Heap.get?_push_size _ rfl
  have I5 : Inv (gblk X (X.A.in1.in1.in1.deeper cenv) s3 H2 cenv fp) [(h'.objs.size, gob)] (wipe σ (own.map (·.2))) H2 s5 := by
    refine gblk_start (code := code) I3 ok hcell hN f3 hce.symm ?_ (fun z => I3.ok.hd z) kp5 (by rw [← hs5]) ?_ (m := _) (by rw [← hs5]; exact hn'.push _) hget (by omega) (by rw [← hob]; intro v z; cases z)
    · show X.A.frames.map (cenv :: ·) = _
      rw [I3.ok.frames]
      rfl
    · rw [← hs5]
      exact I3.bare.push rfl
  have go5 : GoH (gblk X (X.A.in1.in1.in1.deeper cenv) s3 H2 cenv fp) h'.objs.size gob s3.gens.size (wipe σ (own.map (·.2))) fp tn 0 H2 s5 :=
    ⟨I5, T.keep _ _ _ st3 fun b _ o e => kp5 b o e, fun b hb => (f2 b hb).1, by rw [← hs5]; show s3.gens.size < (s3.gens.push _).size; simp⟩
  have pg := hg s3 H2 s3.heap.objs.size (cloFrom X.env.cells scope.names []) code fp
  have pt := ht s3 H2 s3.heap.objs.size (cloFrom X.env.cells scope.names []) code fp
  have pe := he s3 H2 s3.heap.objs.size (cloFrom X.env.cells scope.names []) code fp
  rw [hce] at pg pt pe
  have hcoE : cenv.scope.isCoroutine = false := by rw [← hce]; exact hco
  have back : ∀ {H' : Hp} {s' : Shared}, Inv (gblk X (X.A.in1.in1.in1.deeper cenv) s3 H2 cenv fp) [(h'.objs.size, gob)] (wipe σ (own.map (·.2))) H' s' → Inv X pins σ H' s' := fun {H' s'} I' =>
    I3.call' (ch := fp) I'.os I'.base I'.hok I'.bare fun b hb => ⟨(f2 b hb).2.2.2.1, (f2 b hb).2.1, (f2 b hb).2.2.2.2.1, (f2 b hb).2.2.2.2.2⟩
  have hisg : s5.heap.IsGen h'.objs.size s3.gens.size := ⟨gob, _, _, hget, by rw [← hob], by rw [← hob], by rw [← hob]⟩
  have hgs5 : s5.gens[s3.gens.size]? = some (.fresh (.compStart (.GeneratorExp elt [⟨tg, iter, ifs, 0⟩] scope gpos) 0 (.ref it) .none cenv)) := by rw [← hs5]; exact Array.getElem?_push_size ..
  have hne5 : s5.heap.objs.size = h'.objs.size + 1 := by rw [← hs5]; exact Heap.size_push _ _
  obtain ⟨W, ⟨m0, w0⟩, turn⟩ := qD s5.heap.objs.size (I5.hok.fresh (Nat.le_refl _))
  have hroom' : X.A.in1.depth < recursionLimit := hroom
  have hfp5 : ∀ b ∈ fp, b < s5.heap.objs.size := fun b hb => by
    refine Nat.lt_of_lt_of_le (f3 b hb).2 ?_
    rw [hne5, hsz]
    omega
  refine join_gen (X := X) (A := X.A) hisg fun {Q' E'} hQ' => ?_
  refine collect_gen (Xg := gblk X (X.A.in1.in1.in1.deeper cenv) s3 H2 cenv fp) (A := X.A.in1) (n := m0 + 1) (Dn := fun H' => ∃ ys : List Str, H' s5.heap.objs.size = some (.lst (ys.map V.str)) ∧ (ys.map (·.length)).sum + ys.length * a.length ≤ 16777216 ∧ Q (.str (Txt.join a ys)) H') (I3.ok.hd hc) hroom' ⟨_, _, by rw [← hob], by rw [← hob], by rw [← hob]⟩ hfp5 (by rw [hne5]; exact Nat.lt_succ_self _) T.keep go5 hgs5
      (fun s'' go'' => ⟨rfl, gen_start (fun A' Q' E' q' => T.self A' 0 s'' Q' E' go''.2.1 q') (gen_loopT (A := X.A.in1.in1.in1) (D := s5.heap.objs.size) hc T (fun b hb => (f3 b hb).2) (by omega) hcoE pg pt pe turn m0 (m0 + 1) 0 _ s'' s'' (Nat.lt_succ_self _) go'' w0)⟩)
      (fun H' ⟨ys, e, _⟩ => ⟨_, e⟩) fun H' s' acc its I' ⟨ys, e', hz, q'⟩ hacc r => ?_
  rw [hacc] at e'
  cases e'
  obtain ⟨l, rfl, rfl⟩ := strs_pairs r
  rw [List.length_map] at hz
  exact hQ' s' l hz fun t' k => ⟨.str _, H', (back I').tok k, ⟨t', rfl⟩, q'⟩
end
end Eb
set_option Elab.async false
set_option maxRecDepth 100000
set_option linter.all false
namespace Em
open PySem L2
section
variable {K : Ct} {X : Cx}
def strsM : List M → Option (List Str)
  | [] => some []
  | .str y :: r => match strsM r with
    | some ys => some (y :: ys)
    | none => none
  | _ => none
theorem strsM_map : ∀ ys : List Str, strsM (ys.map M.str) = some ys
  | [] => rfl
  | y :: ys => by
    show (match strsM (ys.map M.str) with | some ys => some (y :: ys) | none => none) = _
    rw [strsM_map ys]
theorem strsM_ok : ∀ {xs : List M} {ys : List Str}, strsM xs = some ys → xs = ys.map M.str
  | [], _, h => by cases h; rfl
  | .str y :: r, ys, h => by
    unfold strsM at h
    split at h
    · next ms hm => cases h; rw [List.map_cons, strsM_ok hm]
    · cases h
  | .non :: _, _, h => by cases h
  | .bl _ :: _, _, h => by cases h
  | .int _ :: _, _, h => by cases h
  | .tup _ :: _, _, h => by cases h
  | .fz _ :: _, _, h => by cases h
  | .loc _ :: _, _, h => by cases h
  | .ro _ :: _, _, h => by cases h
theorem RVs.strsV {ρ : List Addr} {H : Hp} : ∀ {ys : List Str} {vs : List V}, RVs K ρ H (ys.map M.str) vs → vs = ys.map V.str
  | [], _, .nil => rfl
  | y :: ys, _, .cons r rs => by
    cases r
    rw [List.map_cons, RVs.strsV rs]
def joinL (a : Str) (xs : List M) : Mo M := fun S => match strsM xs with
  | some ys => if (ys.map (·.length)).sum + ys.length * a.length ≤ 16777216 ∧ ys.length ≤ 1000000 then some (.str (Txt.join a ys), S) else none
  | none => none
theorem joinL_ap {a : Str} {ys : List Str} (h : (ys.map (·.length)).sum + ys.length * a.length ≤ 16777216) (hl : ys.length ≤ 1000000) (S : Store) : joinL a (ys.map M.str) S = some (.str (Txt.join a ys), S) := by
  unfold joinL
  simp only [strsM_map, h, hl, and_self, if_true]
def joinC (a : Str) (x : M) : Mo M := fun S => match seqOf S x with
  | some xs => joinL a xs S
  | none => none
def onStr (x : M) (f : Str → Mo M) : Mo M := match x with
  | .str a => f a
  | _ => fail
@[simp] theorem onStr_str (a : Str) (f : Str → Mo M) : onStr (.str a) f = f a := rfl
def mJoin (mo me : MSt → Mo M) : MSt → Mo M := fun σ => bnd (mo σ) fun x => onStr x fun a => bnd (me σ) (joinC a)
@[simp] theorem mJoin_ap (mo me : MSt → Mo M) (σ : MSt) : mJoin mo me σ = bnd (mo σ) fun x => onStr x fun a => bnd (me σ) (joinC a) := rfl
theorem onStr_some {x : M} {f : Str → Mo M} {S S' : Store} {v : M} (h : onStr x f S = some (v, S')) : ∃ a, x = .str a ∧ f a S = some (v, S') := by
  cases x with
  | str a => exact ⟨a, rfl, h⟩
  | _ => cases h
theorem me_join {o e : Expr} {mo me : MSt → Mo M} {apos pos : Pos} (hK : X.K = K.K) (ho : ME K X o mo) (he : ME K X e me)
    (hs : starEach [e] X.env = [(false, eval e X.env)] := by rfl) (hbase : attributeBase o "join" X.env (eval o X.env) = eval o X.env := by rfl) (hline : (apos.endLine == pos.line) = true := by rfl) :
    ME K X (.Call (.Attribute o "join" apos) [e] [] pos) (mJoin mo me) :=
  .of (pe_join ho.pe he.pe hs hbase hline) fun ρ σ S v S' σV H Q r rs e q => by
    replace e := bnd_some e
    obtain ⟨x, S1, e1, e⟩ := e
    obtain ⟨a, rfl, e⟩ := onStr_some e
    replace e := bnd_some e
    obtain ⟨y, S2, e2, e⟩ := e
    refine ⟨ρ, σ, S, .str a, S1, r, rs, e1, fun ρ1 v1 H1 E1 r1 rx => ?_⟩
    cases rx
    refine ⟨⟨a, rfl⟩, ρ1, σ, S1, y, S2, r1, rs.mono r E1, e2, fun ρ2 v2 H2 E2 r2 ry => ?_⟩
    unfold joinC at e
    split at e
    · next xs hx =>
      unfold joinL at e
      split at e
      · next ys hys =>
        split at e
        · next hz =>
          cases e
          obtain ⟨ad, vs, rfl, rv, h⟩ := seqOf_ok r2 ry hx
          rw [strsM_ok hys] at rv
          rw [rv.strsV] at h
          refine ⟨a, ad, ys, rfl, rfl, ?_, hz.1, q ρ2 _ H2 (E1.trans E2) r2 (.str _)⟩
          rcases h with ⟨h, _⟩ | ⟨h, _⟩
          · exact .inl (hK ▸ h)
          · exact .inr (hK ▸ h)
        · cases e
      · cases e
    · cases e
noncomputable def mJoinG (mo : MSt → Mo M) (mi : MSt → Mo Wk) (g : M → MSt → Mo MSt) (tt : MSt → Mo Bool) (te : MSt → Mo M) (vs : List Nat) : MSt → Mo M := fun σ => bnd (mo σ) fun x => onStr x fun a => bnd (mComp mi g tt te vs σ) (joinL a)
@[simp] theorem mJoinG_ap (mo : MSt → Mo M) (mi : MSt → Mo Wk) (g : M → MSt → Mo MSt) (tt : MSt → Mo Bool) (te : MSt → Mo M) (vs : List Nat) (σ : MSt) : mJoinG mo mi g tt te vs σ = bnd (mo σ) fun x => onStr x fun a => bnd (mComp mi g tt te vs σ) (joinL a) := rfl
theorem me_joinGen {o elt tg iter : Expr} {mo : MSt → Mo M} {ifs : List Expr} {scope : Scope} {own : List (Str × Nat)} {apos pos gpos : Pos} {P c : Addr} {mi : MSt → Mo Wk} {g : M → MSt → Mo MSt} {ws : List Nat} {tt : MSt → Mo Bool} {te : MSt → Mo M} (hP : P ∈ K.Tb) (hc : X.calm = true) (hN : X.N.Nodup) (ho : ME K X o mo) (hcd : X.env.code = .ref c) (hkt : Eb.tabIn X.K c = some P)
    (hbm : ∃ bm ob, PyProof.Rows.BMod X.base mainGlobals X.mg bm ob) (hroom : X.A.depth < recursionLimit) (hi : MI K X tg iter mi) (ok : BlkOk X.N X.env.scope scope own) (hcell : ∀ y ∈ scope.names, y.2 ≠ .cell) (hco : scope.isCoroutine = false) (h0 : scope.names.lookup (".0" : Str) = some NameKind.local)
    (hg : ∀ (s : Shared) (H : Hp) (C : Addr) (cl : List (Str × Addr)) (code : Value) (fp : List Addr), MG K (Eb.gblk X (X.A.in1.in1.in1.deeper (genEnv scope cl C code builtinsNs X.env)) s H (genEnv scope cl C code builtinsNs X.env) fp) tg g ws)
    (ht : ∀ (s : Shared) (H : Hp) (C : Addr) (cl : List (Str × Addr)) (code : Value) (fp : List Addr), MTs K (Eb.gblk X (X.A.in1.in1.in1.deeper (genEnv scope cl C code builtinsNs X.env)) s H (genEnv scope cl C code builtinsNs X.env) fp) ifs tt)
    (he : ∀ (s : Shared) (H : Hp) (C : Addr) (cl : List (Str × Addr)) (code : Value) (fp : List Addr), ME K (Eb.gblk X (X.A.in1.in1.in1.deeper (genEnv scope cl C code builtinsNs X.env)) s H (genEnv scope cl C code builtinsNs X.env) fp) elt te) (hw : ∀ i ∈ ws, i ∈ own.map (·.2) := by decide) (hs : ∀ x, genFold iter X.env x = pure x := by intro _; rfl)
    (hbase : attributeBase o "join" X.env (eval o X.env) = eval o X.env := by rfl) (hline : (apos.endLine == pos.line) = true := by rfl) (hst : starEach [.GeneratorExp elt [⟨tg, iter, ifs, 0⟩] scope gpos] X.env = [(false, eval (.GeneratorExp elt [⟨tg, iter, ifs, 0⟩] scope gpos) X.env)] := by rfl) :
    ME K X (.Call (.Attribute o "join" apos) [.GeneratorExp elt [⟨tg, iter, ifs, 0⟩] scope gpos] [] pos) (mJoinG mo mi g tt te (own.map (·.2))) :=
  .of (Eb.pe_joinGen hc hN ho.pe hcd hkt hbm hroom hi.pi ok hcell hco h0 (fun s H C cl cd fp => (hg s H C cl cd fp).pg) (fun s H C cl cd fp => (ht s H C cl cd fp).pts) (fun s H C cl cd fp => (he s H C cl cd fp).pe) hs hbase hline hst) fun ρ σ S v S' σV H Q r rs e q => by
    replace e := bnd_some e
    obtain ⟨x, Sx, ex, e⟩ := e
    obtain ⟨a, rfl, e⟩ := onStr_some e
    replace e := bnd_some e
    obtain ⟨out, S1, e1, e⟩ := e
    replace e1 := bnd_some e1
    obtain ⟨w, S0, e0, e1⟩ := e1
    refine ⟨ρ, σ, S, .str a, Sx, r, rs, ex, fun ρx vx Hx Ex rx rvx => ?_⟩
    cases rvx
    unfold joinL at e
    split at e
    · next ys hys =>
      split at e
      · next hz =>
        cases e
        have eo := strsM_ok hys
        subst eo
        refine ⟨a, rfl, ρx, σ, Sx, w, S0, rx, rs.mono r Ex, e0, fun ρ0 J H0 E0 r0 it => ⟨r0.tb P hP, fun D hD => ?_⟩⟩
        obtain ⟨Ed, rd⟩ := r0.side (o := .lst []) hD
        refine walk_run (Nx := fun H => ∃ ys : List Str, H D = some (.lst (ys.map V.str)) ∧ (ys.map (·.length)).sum + ys.length * a.length ≤ 16777216 ∧ Q (.str (Txt.join a ys)) H) hw it (((rs.mono r Ex).mono rx E0).wipe _) hD (Ed.wx r0) (pre := []) ⟨Ed, rd, r0.new hD, [], upd_same, .nil⟩ e1 (by rw [List.length_nil, Nat.zero_add, List.length_map]; have := hz.2; rw [sizeLine_eq]; omega) fun ρ1 H1 A _ => ?_
        obtain ⟨us, h1, h2⟩ := A.at_
        rw [List.nil_append] at h2
        rw [h2.strsV] at h1
        exact ⟨ys, h1, hz.1, q ρ1 _ _ (Ex.trans (E0.trans A.e)) A.r (.str _)⟩
      · cases e
    · cases e
end
end Em
set_option Elab.async false
set_option maxRecDepth 100000
set_option linter.all false
namespace Em
open PySem L2
noncomputable def bKindOf : MSt → Mo Out := (sSeq (sAsg (mVar 0) (gT 4 (gsCons (gN 1) (gsCons (gN 2) (gsCons (gN 3) (gsCons (gN 4) gsNil))))))
    (sSeq (sIf (mAndT (mB (mOp eqM (mVar 1) (mVar 3))) (mB (mOp eqM (mVar 2) (mVar 4)))) (sRet (mC (.str ("point" : Str)))) sNext)
    (sSeq (sIf (mOrT (mB (mOp eqM (mVar 1) (mVar 3))) (mB (mOp eqM (mVar 2) (mVar 4)))) (sRet (mC (.str ("straight" : Str)))) sNext)
    (sRet (mC (.str ("block" : Str)))))))
noncomputable def fKindOf : Fn := den 5 bKindOf
noncomputable def bLTake : MSt → Mo Out := (sSeq (sIf (mB (mOp gtM (mOp ixM (mVar 0) (mC (.int 0))) (mC (.int 0)))) (sSeq (sAsg (mOp modM (mOp ixM (mVar 0) (mC (.int 0))) (mVar 1)) (gN 4))
    (sSeq (sAsg (mOp fdivM (mOp ixM (mVar 0) (mC (.int 0))) (mVar 1)) (gS (mVar 0) (mC (.int 0))))
    (sRet (mVar 4)))) sNext)
    (sSeq (sAsg (mOp (addA newF) (mOp ixM (mVar 0) (mC (.int 2))) (mC (.int 1))) (gS (mVar 0) (mC (.int 2))))
    (sSeq (sAsg (mOp modM (mOp (mulA newF) (mOp (addA newF) (mOp ixM (mVar 0) (mC (.int 1))) (mOp (mulA newF) (mC (.int 48271)) (mOp ixM (mVar 0) (mC (.int 2))))) (mOp (addA newF) (mC (.int 39373)) (mOp ixM (mVar 0) (mC (.int 2))))) (mC (.int 2147483647))) (gN 2))
    (sSeq (sAsg (mOp modM (mOp (mulA newF) (mOp (addA newF) (mVar 2) (mOp ixM (mVar 0) (mC (.int 2)))) (mOp (addA newF) (mOp modM (mVar 2) (mC (.int 40009))) (mC (.int 7)))) (mC (.int 2147483629))) (gN 3))
    (sRet (mOp modM (mOp fdivM (mOp modM (mOp (addA newF) (mOp (mulA newF) (mVar 3) (mC (.int 48271))) (mVar 2)) (mC (.int 2147483587))) (mC (.int 64))) (mVar 1)))))))
noncomputable def fLTake : Fn := den 5 bLTake
noncomputable def bLMarks_e1 (f0 : Fn) : MSt → Mo M := (mCall 2 f0 (aCons (mVar 0) (aCons (mOp (addA newF) (mVar 1) (mC (.int 1))) aNil)))
noncomputable def bLMarks (f0 : Fn) : MSt → Mo Out := (sSeq (sIf (mB (mOp ltM (mVar 1) (mC (.int 9)))) (sRet (mCb (lrng1A newF) (aCons (mOp (addA newF) (mVar 1) (mC (.int 1))) aNil))) sNext)
    (sRet (mUn (sortSetA newF) (mOp (addA newF) (mNewF (aCons (mC (.int 0)) (aCons (mVar 1) aNil))) (mNewF (mComp (mRng1 (aCons (mC (.int 10)) aNil)) (gN 2) mYes (bLMarks_e1 f0) [2]))))))
noncomputable def fLMarks : Fn := den 3 (bLMarks fLTake)
noncomputable def bLShut (f0 : Fn) : MSt → Mo Out := (sSeq (sPar 4 5 (aCons (mOp ixM (mVar 1) (mCall 2 f0 (aCons (mVar 0) (aCons (mCb lenC (aCons (mVar 1) aNil)) aNil)))) (aCons (mOp ixM (mVar 1) (mCall 2 f0 (aCons (mVar 0) (aCons (mCb lenC (aCons (mVar 1) aNil)) aNil)))) aNil)))
    (sSeq (sPar 6 7 (aCons (mOp ixM (mVar 2) (mCall 2 f0 (aCons (mVar 0) (aCons (mCb lenC (aCons (mVar 2) aNil)) aNil)))) (aCons (mOp ixM (mVar 2) (mCall 2 f0 (aCons (mVar 0) (aCons (mCb lenC (aCons (mVar 2) aNil)) aNil)))) aNil)))
    (sSeq (sAsg (mCall 2 f0 (aCons (mVar 0) (aCons (mC (.int 8)) aNil))) (gN 3))
    (sSeq (sIf (mB (mOp ltM (mVar 3) (mC (.int 6)))) (sAsg (mVar 4) (gN 5)) sNext)
    (sSeq (sIf (mOrT (mB (mOp ltM (mVar 3) (mC (.int 5)))) (mB (mOp eqM (mVar 3) (mC (.int 6))))) (sAsg (mVar 6) (gN 7)) sNext)
    (sRet (mTup (aCons (mCb min2 (aCons (mVar 4) (aCons (mVar 5) aNil))) (aCons (mCb min2 (aCons (mVar 6) (aCons (mVar 7) aNil))) (aCons (mCb max2 (aCons (mVar 4) (aCons (mVar 5) aNil))) (aCons (mCb max2 (aCons (mVar 6) (aCons (mVar 7) aNil))) aNil)))))))))))
noncomputable def fLShut : Fn := den 8 (bLShut fLTake)
noncomputable def bLCellAt : MSt → Mo Out := (sSeq (sIf (mB (mOp ltM (mVar 1) (mCb lenC (aCons (mVar 0) aNil)))) (sRet (mOp ixM (mVar 0) (mVar 1))) sNext)
    (sRet (mC (.int 0))))
noncomputable def fLCellAt : Fn := den 2 bLCellAt
noncomputable def bLRoom_e1 (f0 f1 f2 : Fn) : MSt → Mo M := (mCall 3 f2 (aCons (mVar 0) (aCons (mVar 6) (aCons (mVar 7) aNil))))
noncomputable def bLRoom (f0 f1 f2 : Fn) : MSt → Mo Out := (sSeq (sAsg (mOp ixM (mNewF (aCons (mOp (addA newF) (mC (.int 1)) (mCall 2 f0 (aCons (mVar 0) (aCons (mC (.int 8)) aNil)))) (aCons (mOp (addA newF) (mC (.int 9)) (mCall 2 f0 (aCons (mVar 0) (aCons (mOp ixM (mNewF (aCons (mC (.int 12)) (aCons (mOp subM (mOp powM (mC (.int 10)) (mC (.int 6))) (mC (.int 8))) aNil))) (mCall 2 f0 (aCons (mVar 0) (aCons (mC (.int 2)) aNil)))) aNil)))) aNil))) (mCb intTy (aCons (mVar 1) aNil))) (gN 2))
    (sSeq (sAsg (mOp ixM (mNewF (aCons (mOp (addA newF) (mC (.int 1)) (mCall 2 f0 (aCons (mVar 0) (aCons (mC (.int 8)) aNil)))) (aCons (mOp (addA newF) (mC (.int 9)) (mCall 2 f0 (aCons (mVar 0) (aCons (mOp ixM (mNewF (aCons (mC (.int 12)) (aCons (mOp subM (mOp powM (mC (.int 10)) (mC (.int 6))) (mC (.int 8))) aNil))) (mCall 2 f0 (aCons (mVar 0) (aCons (mC (.int 2)) aNil)))) aNil)))) aNil))) (mCb intTy (aCons (mVar 1) aNil))) (gN 3))
    (sSeq (sAsg (mTup (aCons (mCall 2 f1 (aCons (mVar 0) (aCons (mVar 2) aNil))) (aCons (mCall 2 f1 (aCons (mVar 0) (aCons (mVar 3) aNil))) aNil))) (gT 2 (gsCons (gN 6) (gsCons (gN 7) gsNil))))
    (sSeq (sAsg (mOp ixM (mNewF (aCons (mCall 2 f0 (aCons (mVar 0) (aCons (mC (.int 10)) aNil))) (aCons (mOp (addA newF) (mC (.int 7)) (mCall 2 f0 (aCons (mVar 0) (aCons (mC (.int 24)) aNil)))) aNil))) (mCb intTy (aCons (mVar 1) aNil))) (gN 4))
    (sSeq (sAsg (mNewF (mComp (mRng1 (aCons (mVar 4) aNil)) (gN 8) mYes (bLRoom_e1 f0 f1 f2) [8])) (gN 5))
    (sRet (mTup (aCons (mVar 2) (aCons (mVar 3) (aCons (mCb tupleC (aCons (mUn (sortSetA newF) (mVar 5)) aNil)) aNil))))))))))
noncomputable def fLRoom : Fn := den 9 (bLRoom fLTake fLMarks fLShut)
noncomputable def bLTape (f0 : Fn) : MSt → Mo Out := (sSeq (sAsg (mCall 2 f0 (aCons (mVar 0) (aCons (mVar 1) aNil))) (gN 2))
    (sRet (mLst (aCons (mOp (mulA newF) (mCb absC (aCons (mVar 2) aNil)) (mCb intTy (aCons (mOp geM (mCb absC (aCons (mVar 2) aNil)) (mOp powM (mC (.int 10)) (mC (.int 18)))) aNil))) (aCons (mOp (addA newF) (mOp (addA newF) (mOp modM (mVar 2) (mC (.int 2305843009213693951))) (mOp (mulA newF) (mC (.int 39373)) (mVar 1))) (mC (.int 17))) (aCons (mC (.int 0)) aNil))))))
noncomputable def fLTape : Fn := den 3 (bLTape fLCellAt)
end Em
set_option Elab.async false
set_option maxRecDepth 100000
set_option linter.all false
namespace Em
open PySem L2
def TapeO (n : Nat) (o : Ob) : Prop := ∃ a b c : Int, o = .lst [.int a, .int b, .int c] ∧ 0 ≤ a ∧ 0 ≤ c ∧ c ≤ n
def Tape (S : Store) (t n : Nat) : Prop := ∃ o, S[t]? = some o ∧ TapeO n o
/-- what was there is as it was, but what stands at t -/
def Bt (t : Nat) (S S' : Store) : Prop := S.length ≤ S'.length ∧ ∀ i, i < S.length → i ≠ t → S'[i]? = S[i]?
theorem Bt.refl (t : Nat) (S : Store) : Bt t S S := ⟨Nat.le_refl _, fun _ _ _ => rfl⟩
theorem Bt.trans {t : Nat} {S S1 S2 : Store} (a : Bt t S S1) (b : Bt t S1 S2) : Bt t S S2 := ⟨Nat.le_trans a.1 b.1, fun i hi hn => (b.2 i (Nat.lt_of_lt_of_le hi a.1) hn).trans (a.2 i hi hn)⟩
theorem Bt.set (t : Nat) (S : Store) (o : Ob) : Bt t S (S.set t o) := ⟨by rw [List.length_set]; exact Nat.le_refl _, fun i _ hn => List.getElem?_set_ne (Ne.symm hn)⟩
theorem Tape.le {S : Store} {t n m : Nat} (h : Tape S t n) (l : n ≤ m) : Tape S t m := by
  obtain ⟨o, h1, a, b, c, rfl, h2, h3, h4⟩ := h
  exact ⟨_, h1, a, b, c, rfl, h2, h3, by omega⟩
/-- drawn: the tape alone is another one, by at most k draws -/
structure Dw (t n : Nat) (S S' : Store) : Prop where
  bt : Bt t S S'
  tp : Tape S' t n
  len : S'.length = S.length
theorem Dw.refl {t n : Nat} {S : Store} (h : Tape S t n) : Dw t n S S := ⟨Bt.refl _ _, h, rfl⟩
theorem Dw.trans {t n m : Nat} {S S1 S2 : Store} (a : Dw t n S S1) (b : Dw t m S1 S2) : Dw t m S S2 := ⟨a.bt.trans b.bt, b.tp, b.len.trans a.len⟩
theorem Dw.le {t n m : Nat} {S S' : Store} (a : Dw t n S S') (l : n ≤ m) : Dw t m S S' := ⟨a.bt, a.tp.le l, a.len⟩
theorem take_run {S : Store} {t n : Nat} {m : Int} (h : Tape S t n) (hn : n ≤ 1000000) (h0 : 0 < m) (h1 : m < 1073741824) :
    ∃ x S', fLTake [.loc t, .int m] S = some (.int x, S') ∧ 0 ≤ x ∧ x < m ∧ Dw t (n + 1) S S' := by
  obtain ⟨o, hS, a, b, c, rfl, ha, hc, hcn⟩ := h
  have hl : lstAt S t = some [.int a, .int b, .int c] := lstAt_of hS
  have ht : t < S.length := (List.getElem?_eq_some_iff.mp hS).1
  by_cases hp : 0 < a
  · refine ⟨a % m, S.set t (.lst [.int (a / m), .int b, .int c]), ?_, Int.emod_nonneg _ (by omega), Int.emod_lt_of_pos _ h0, Bt.set _ _ _, ⟨_, List.getElem?_set_self ht, _, _, _, rfl, Int.ediv_nonneg ha (by omega), hc, by omega⟩, List.length_set ..⟩
    have hd : CDiv a m := ⟨h0, h1⟩
    simp [fLTake, bLTake, startM, hl, setM, hS, hp, hd, h0, ixN]
  · have hl2 : lstAt (S.set t (.lst [.int a, .int b, .int (c + 1)])) t = some [.int a, .int b, .int (c + 1)] := lstAt_of (List.getElem?_set_self ht)
    have m1 : CMul 48271 (c + 1) := .inl ⟨by decide, by decide⟩
    have m2 : CMul (b + 48271 * (c + 1)) (39373 + (c + 1)) := .inr ⟨by omega, by omega⟩
    generalize hw : (b + 48271 * (c + 1)) * (39373 + (c + 1)) % 2147483647 = once
    have o1 := Int.emod_nonneg once (show (40009 : Int) ≠ 0 by decide)
    have o2 := Int.emod_lt_of_pos once (show (0 : Int) < 40009 by decide)
    have m3 : CMul (once + (c + 1)) (once % 40009 + 7) := .inr ⟨by omega, by omega⟩
    generalize hv : (once + (c + 1)) * (once % 40009 + 7) % 2147483629 = twice
    have m4 : CMul twice 48271 := .inr ⟨by decide, by decide⟩
    have d1 : CDiv ((twice * 48271 + once) % 2147483587) 64 := ⟨by decide, by decide⟩
    refine ⟨(twice * 48271 + once) % 2147483587 / 64 % m, S.set t (.lst [.int a, .int b, .int (c + 1)]), ?_, Int.emod_nonneg _ (by omega), Int.emod_lt_of_pos _ h0, Bt.set _ _ _, ⟨_, List.getElem?_set_self ht, _, _, _, rfl, ha, by omega, by omega⟩, List.length_set ..⟩
    simp [fLTake, bLTake, startM, hl, setM, hS, hp, h0, ixN, hl2, m1, m2, hw, m3, hv, m4, d1]
theorem cell_run (ns : List Int) (k : Nat) (S : Store) : ∃ x, fLCellAt [.ro ns, .int k] S = some (.int x, S) := by
  by_cases h : k < ns.length
  · refine ⟨ns[k], ?_⟩
    have : atI (ns.map M.int) (k : Int) = some (.int ns[k]) := atI_of (by rw [List.getElem?_map, List.getElem?_eq_getElem h]; rfl)
    simp [fLCellAt, bLCellAt, startM, h, this]
  · exact ⟨0, by simp [fLCellAt, bLCellAt, startM, h]⟩
theorem flag (c : Prop) [Decidable c] : -(2 ^ 64) < (if c then (1 : Int) else 0) ∧ (if c then (1 : Int) else 0) < 2 ^ 64 := by split <;> decide
/-- a new tape, behind all that is there -/
theorem tape_run (ns : List Int) (k : Nat) (S : Store) : ∃ o, TapeO 0 o ∧ gcF fLTape [.ro ns, .int k] S = some (.loc S.length, S ++ [o]) := by
  obtain ⟨x, hx⟩ := cell_run ns k S
  have m1 : CMul (if x < 0 then -x else x) (if (10 : Int) ^ (18 : Int).toNat ≤ (if x < 0 then -x else x) then 1 else 0) := .inr (flag _)
  have m2 : CMul 39373 (k : Int) := .inl ⟨by decide, by decide⟩
  have p1 : CPow 10 18 := ⟨by decide, by decide, by decide⟩
  refine ⟨.lst [.int ((if x < 0 then -x else x) * (if (10 : Int) ^ (18 : Int).toNat ≤ (if x < 0 then -x else x) then 1 else 0)), .int (x % 2305843009213693951 + 39373 * k + 17), .int 0], ⟨_, _, _, rfl, ?_, by decide, by decide⟩, ?_⟩
  · refine Int.mul_nonneg ?_ ?_ <;> split <;> omega
  · have e := gcF_new (F := fLTape) (vs := [.ro ns, .int k]) (S := S) (S' := S ++ [Ob.lst [.int ((if x < 0 then -x else x) * (if (10 : Int) ^ (18 : Int).toNat ≤ (if x < 0 then -x else x) then 1 else 0)), .int (x % 2305843009213693951 + 39373 * k + 17), .int 0]]) (n := S.length) (xs := [.int ((if x < 0 then -x else x) * (if (10 : Int) ^ (18 : Int).toNat ≤ (if x < 0 then -x else x) then 1 else 0)), .int (x % 2305843009213693951 + 39373 * k + 17), .int 0])
      (by
        simp [fLTape, bLTape, startM, hx, m2, p1]
        have := m1
        simp at this
        simp [this]) (Gc.app _ _) (Nat.le_refl _) (by rw [List.getElem?_append_right (Nat.le_refl _), Nat.sub_self]; rfl) ⟨trivial, trivial, trivial, trivial⟩
    rw [e, List.take_append_of_le_length (Nat.le_refl _), List.take_length]
theorem Tape.new {S : Store} {o : Ob} (h : TapeO 0 o) : Tape (S ++ [o]) S.length 0 := ⟨o, by rw [List.getElem?_append_right (Nat.le_refl _), Nat.sub_self]; rfl, h⟩
end Em
set_option Elab.async false
set_option maxRecDepth 100000
set_option linter.all false
namespace Em
open PySem L2
theorem ints_of_good {P : Int → Prop} : ∀ {vs : List M}, (∀ v ∈ vs, ∃ x, v = .int x ∧ P x) → ∃ ns : List Int, vs = ns.map .int ∧ ∀ x ∈ ns, P x
  | [], _ => ⟨[], rfl, fun x h => by cases h⟩
  | v :: vs, h => by
    obtain ⟨x, rfl, px⟩ := h v (.head _)
    obtain ⟨ns, rfl, p⟩ := ints_of_good fun v hv => h v (.tail _ hv)
    exact ⟨x :: ns, rfl, fun y hy => by rcases List.mem_cons.mp hy with rfl | hy; exact px; exact p y hy⟩
theorem sortSetA_ints {al : List M → Mo M} {S : Store} {x : M} {ns : List Int} (h : seqOf S x = some (ns.map .int)) (ht : isTup x = false) (hl : ns.length < 64) (hne : ns ≠ []) : sortSetA al x S = al ((riseI ns).map .int) S := by
  have hn : tupsOf (ns.map M.int) = none := by
    cases ns with
    | nil => exact absurd rfl hne
    | cons a r => rfl
  unfold sortSetA
  simp only [h, hn, intsOf_map, List.length_map, hl, if_true, ht]
theorem sortSetA_tups {al : List M → Mo M} {S : Store} {x : M} {ks : List (List Int)} (h : seqOf S x = some (ks.map tup)) (hl : ks.length < 64) (hne : ∀ k ∈ ks, k ≠ []) : sortSetA al x S = al ((riseT ks).map tup) S := by
  have ha : ks.all (fun k => !k.isEmpty) = true := List.all_eq_true.mpr fun k hk => by
    cases k with
    | nil => exact absurd rfl (hne _ hk)
    | cons _ _ => rfl
  unfold sortSetA
  simp only [h, tupsOf_map, List.length_map, hl, if_true, ha]
/-- marks: rising numbers from nought to the most -/
structure Marks (most : Int) (ns : List Int) : Prop where
  up : ns.Pairwise fun a b => ltI a b = true
  lo : ∀ x ∈ ns, 0 ≤ x ∧ x ≤ most
  len : ns.length ≤ 12
  zero : 0 ∈ ns
  top : most ∈ ns
theorem Marks.pos {most : Int} {ns : List Int} (h : Marks most ns) : 0 < ns.length := List.length_pos_of_mem h.zero
/-- draws one behind the other, each with its own word of what is drawn -/
theorem draws_gen {P : M → Prop} {t n c : Nat} (k : Nat) {S : Store} (h : Tape S t n) {w : Wk} (hw : ∀ S, w.kept S) {g : M → MSt → Mo MSt} {te : MSt → Mo M} {σ0 : MSt} (xs : List M) (hx : xs.length = k)
    (H : ∀ (j : Nat) (x : M), xs[j]? = some x → ∀ S m, Tape S t m → m ≤ n + c * k → ∃ σ1, g x σ0 S = some (σ1, S) ∧ ∃ v S', te σ1 S = some (v, S') ∧ P v ∧ Dw t (m + c) S S') :
    ∃ (vs : List M) (S' : Store), compL w g mYes te σ0 xs S = some (vs, S') ∧ vs.length = k ∧ (∀ v ∈ vs, P v) ∧ Dw t (n + c * k) S S' := by
  obtain ⟨vs, S', e, hd, hl, hg⟩ := compL_ok (w := w) (g := g) (te := te) (σ0 := σ0) (fun i S' => Dw t (n + c * i) S S') P (fun _ S _ => hw S) xs 0 S (Dw.refl h) fun j x S1 hx' d1 => by
    have hj : j < k := by rw [← hx]; exact (List.getElem?_eq_some_iff.mp hx').1
    rw [Nat.zero_add] at d1
    have hc : c * j ≤ c * k := Nat.mul_le_mul_left _ (Nat.le_of_lt hj)
    obtain ⟨σ1, e1, v, S2, e2, pv, d2⟩ := H j x hx' S1 _ d1.tp (by omega)
    refine ⟨σ1, e1, v, S2, e2, pv, d1.trans (d2.le ?_)⟩
    rw [Nat.zero_add, Nat.mul_succ]
    omega
  exact ⟨vs, S', e, by rw [hl, hx], hg, by rw [hx, Nat.zero_add] at hd; exact hd⟩
theorem range_up : ∀ n : Nat, ((List.range n).map fun i : Nat => (i : Int)).Pairwise fun a b => ltI a b = true := fun n => by
  rw [List.pairwise_map]
  refine List.Pairwise.imp ?_ (List.pairwise_lt_range)
  intro a b h
  exact decide_eq_true (by omega)
abbrev nums (ns : List Int) : M := .fz (ns.map .int)
abbrev tups (ks : List (List Int)) : M := .fz (ks.map tup)
theorem lrng1_ap {al : List M → Mo M} {n : Int} (h0 : 0 ≤ n) (h1 : n < 17) (S : Store) : lrng1A al [.int n] S = al (((List.range n.toNat).map fun i : Nat => (i : Int)).map .int) S := by
  unfold lrng1A
  simp only [h0, h1, and_self, if_true, List.map_map]
  rfl
theorem marks_run {S : Store} {t n : Nat} {most : Int} (h : Tape S t n) (hn : n ≤ 900000) (h0 : 1 ≤ most) (h1 : most ≤ 10000000) :
    ∃ (ns : List Int) (S' : Store), fLMarks [.loc t, .int most] S = some (nums ns, S') ∧ Marks most ns ∧ Dw t (n + 10) S S' ∧ (most < 9 → ns = (List.range (most + 1).toNat).map fun i : Nat => (i : Int)) := by
  by_cases hs : most < 9
  · refine ⟨(List.range (most + 1).toNat).map fun i : Nat => (i : Int), S, ?_, ⟨range_up _, ?_, by rw [List.length_map, List.length_range]; omega, ?_, ?_⟩, (Dw.refl h).le (by omega), fun _ => rfl⟩
    · have e1 := lrng1_ap (al := newF) (n := most + 1) (by omega) (by omega) S
      rw [newF_ap (by rw [List.length_map, List.length_map, List.length_range]; omega)] at e1
      simp [fLMarks, bLMarks, startM, hs, e1]
    · intro x hx
      obtain ⟨i, hi, rfl⟩ := List.mem_map.mp hx
      have := List.mem_range.mp hi
      omega
    · exact List.mem_map.mpr ⟨0, List.mem_range.mpr (by omega), rfl⟩
    · exact List.mem_map.mpr ⟨most.toNat, List.mem_range.mpr (by omega), by omega⟩
  · obtain ⟨vs, S', e2, hl2, p2, d2⟩ := draws_gen (P := fun v => ∃ x, v = .int x ∧ 0 ≤ x ∧ x < most + 1) (t := t) (n := n) (c := 1) 10 (S := S) h (w := wkR 0 10) (fun S => wkR_kept _ _ S) (g := gN 2) (te := bLMarks_e1 fLTake) (σ0 := [some (.loc t), some (.int most), none]) (wkR 0 10).xs (by simp [wkR_xs])
      fun j x _ S m tp hm => by
        obtain ⟨y, S2, e, y0, y1, d⟩ := take_run (m := most + 1) tp (by omega) (by omega) (by omega)
        exact ⟨[some (.loc t), some (.int most), some x], by simp, .int y, S2, by simp [bLMarks_e1, e], ⟨y, rfl, y0, y1⟩, d⟩
    obtain ⟨ns, rfl, p⟩ := ints_of_good p2
    rw [List.length_map] at hl2
    have e3 : newF (ns.map M.int) S' = some (nums ns, S') := newF_ap (by rw [List.length_map]; omega) _
    have e4 : newF ([M.int 0, M.int most] ++ ns.map M.int) S' = some (nums (0 :: most :: ns), S') := newF_ap (by simp [hl2]) _
    have e5 := sortSetA_ints (al := newF) (S := S') (x := nums (0 :: most :: ns)) rfl rfl (by simp; omega) (by simp)
    have hr := len_rise ltI (xs := 0 :: most :: ns)
    simp only [List.length_cons] at hr
    rw [newF_ap (by rw [List.length_map]; show (rise ltI (0 :: most :: ns)).length ≤ _; omega)] at e5
    refine ⟨riseI (0 :: most :: ns), S', ?_, ⟨riseI_up _, fun x hx => ?_, by show (rise ltI (0 :: most :: ns)).length ≤ 12; omega, (mem_rise ltI).mpr (.head _), (mem_rise ltI).mpr (.tail _ (.head _))⟩, d2.le (by omega), fun z => absurd z hs⟩
    · simp at e4 e5
      simp [fLMarks, bLMarks, startM, hs, e2, e3, e4, e5]
    · have := (mem_rise ltI).mp hx
      rcases List.mem_cons.mp this with rfl | this
      · omega
      rcases List.mem_cons.mp this with rfl | this
      · omega
      · have := p x this
        omega
theorem atI_ints {ns : List Int} {x : Int} (h0 : 0 ≤ x) (h1 : x < ns.length) : ∃ y ∈ ns, atI (ns.map M.int) x = some (.int y) := by
  obtain ⟨k, rfl⟩ := Int.eq_ofNat_of_zero_le h0
  have hk : k < ns.length := by omega
  exact ⟨ns[k], List.getElem_mem hk, atI_of (by rw [List.getElem?_map, List.getElem?_eq_getElem hk]; rfl)⟩
abbrev mnI (i j : Int) : Int := if j < i then j else i
abbrev mxI (i j : Int) : Int := if j > i then j else i
/-- one of a row of numbers, drawn -/
theorem pick_run {S : Store} {t n : Nat} {ns : List Int} (h : Tape S t n) (hn : n ≤ 1000000) (h0 : 0 < ns.length) (h1 : ns.length < 1000000) :
    ∃ x y S', fLTake [.loc t, .int ns.length] S = some (.int x, S') ∧ atI (ns.map M.int) x = some (.int y) ∧ y ∈ ns ∧ Dw t (n + 1) S S' := by
  obtain ⟨x, S', e, x0, x1, d⟩ := take_run (m := ns.length) h hn (by omega) (by omega)
  obtain ⟨y, hy, ey⟩ := atI_ints x0 x1
  exact ⟨x, y, S', e, ey, hy, d⟩
/-- a box, or a wall -/
structure Bx where
  l : Int
  b : Int
  r : Int
  t : Int
  deriving DecidableEq
abbrev Bx.L (B : Bx) : List Int := [B.l, B.b, B.r, B.t]
abbrev tB (B : Bx) : M := .tup [.int B.l, .int B.b, .int B.r, .int B.t]
abbrev roomB (W H : Int) (ws : List Bx) : M := .tup [.int W, .int H, .tup (ws.map tB)]
theorem tB_tup (B : Bx) : tB B = tup B.L := rfl
theorem Bx.L_inj {A B : Bx} (h : A.L = B.L) : A = B := by
  obtain ⟨a, b, c, d⟩ := A
  obtain ⟨e, f, g, i⟩ := B
  simp at h
  obtain ⟨rfl, rfl, rfl, rfl⟩ := h
  rfl
def ltB (A B : Bx) : Bool := Eb.lexL A.L B.L
/-- rising, each once -/
abbrev riseB : List Bx → List Bx := rise ltB
theorem ltB_tr (a b c : Bx) (h : ltB a b = true) (g : ltB b c = true) : ltB a c = true := Eb.lexL_trans h g
theorem ltB_tri (a b : Bx) (h : a ≠ b) (g : ltB a b = false) : ltB b a = true := Eb.lexL_tri (fun z => h (Bx.L_inj z)) g
abbrev UpB (l : List Bx) : Prop := l.Pairwise fun a b => ltB a b = true
theorem riseB_up (xs : List Bx) : UpB (riseB xs) := rise_up ltB_tr ltB_tri xs
theorem tBs_tups (bs : List Bx) : bs.map tB = (bs.map Bx.L).map tup := by rw [List.map_map]; rfl
theorem riseB_L (bs : List Bx) : riseT (bs.map Bx.L) = (riseB bs).map Bx.L := by
  symm
  refine riseT_eq ?_ fun v => ?_
  · rw [List.pairwise_map]
    exact riseB_up bs
  · simp only [List.mem_map, mem_rise]
theorem L_ne {bs : List Bx} : ∀ k ∈ bs.map Bx.L, k ≠ [] := fun k hk => by
  obtain ⟨b, _, rfl⟩ := List.mem_map.mp hk
  simp
theorem sortSet_boxes {al : List M → Mo M} {S : Store} {x : M} {bs : List Bx} (h : seqOf S x = some (bs.map tB)) (hl : bs.length < 64) : sortSetA al x S = al ((riseB bs).map tB) S := by
  rw [tBs_tups] at h
  rw [sortSetA_tups h (by rw [List.length_map]; exact hl) L_ne, riseB_L, ← tBs_tups]
/-- a wall by marks -/
def WallAt (as us : List Int) (w : Bx) : Prop := w.l ∈ as ∧ w.r ∈ as ∧ w.b ∈ us ∧ w.t ∈ us ∧ w.l ≤ w.r ∧ w.b ≤ w.t
theorem mnI_mem {as : List Int} {p q : Int} (hp : p ∈ as) (hq : q ∈ as) : mnI p q ∈ as := by unfold mnI; split <;> assumption
theorem mxI_mem {as : List Int} {p q : Int} (hp : p ∈ as) (hq : q ∈ as) : mxI p q ∈ as := by unfold mxI; split <;> assumption
theorem mnmx (p q : Int) : mnI p q ≤ mxI p q := by unfold mnI mxI; split <;> split <;> omega
theorem shut_run {S : Store} {t n : Nat} {wide high : Int} {as us : List Int} (h : Tape S t n) (hn : n + 5 ≤ 1000000) (ma : Marks wide as) (mu : Marks high us) :
    ∃ w S', fLShut [.loc t, nums as, nums us] S = some (tB w, S') ∧ WallAt as us w ∧ Dw t (n + 5) S S' := by
  have a0 := ma.pos
  have u0 := mu.pos
  have a1 := ma.len
  have u1 := mu.len
  obtain ⟨x1, one, S1, e1, i1, m1, d1⟩ := pick_run h (by omega) a0 (by omega)
  obtain ⟨x2, other, S2, e2, i2, m2, d2⟩ := pick_run d1.tp (by omega) a0 (by omega)
  obtain ⟨x3, low, S3, e3, i3, m3, d3⟩ := pick_run d2.tp (by omega) u0 (by omega)
  obtain ⟨x4, hig, S4, e4, i4, m4, d4⟩ := pick_run d3.tp (by omega) u0 (by omega)
  obtain ⟨s, S5, e5, s0, s1, d5⟩ := take_run (m := 8) d4.tp (by omega) (by decide) (by decide)
  have fin : ∀ p q r s : Int, p ∈ as → q ∈ as → r ∈ us → s ∈ us → fLShut [.loc t, nums as, nums us] S = some (tB ⟨mnI p q, mnI r s, mxI p q, mxI r s⟩, S5) →
      ∃ w S', fLShut [.loc t, nums as, nums us] S = some (tB w, S') ∧ WallAt as us w ∧ Dw t (n + 5) S S' := fun p q r s hp hq hr hs e =>
    ⟨_, S5, e, ⟨mnI_mem hp hq, mxI_mem hp hq, mnI_mem hr hs, mxI_mem hr hs, mnmx p q, mnmx r s⟩, d1.trans (d2.trans (d3.trans (d4.trans d5)))⟩
  by_cases h6 : s < 6
  · by_cases h5 : s < 5
    · exact fin one one low low m1 m1 m3 m3 (by simp [fLShut, bLShut, startM, e1, i1, e2, i2, e3, i3, e4, i4, e5, h6, h5])
    · by_cases hs : s = 6
      · omega
      · exact fin one one low hig m1 m1 m3 m4 (by simp [fLShut, bLShut, startM, e1, i1, e2, i2, e3, i3, e4, i4, e5, h6, h5, hs])
  · by_cases hs : s = 6
    · exact fin one other low low m1 m2 m3 m3 (by subst hs; simp [fLShut, bLShut, startM, e1, i1, e2, i2, e3, i3, e4, i4, e5])
    · have h5 : ¬ s < 5 := by omega
      exact fin one other low hig m1 m2 m3 m4 (by simp [fLShut, bLShut, startM, e1, i1, e2, i2, e3, i3, e4, i4, e5, h6, h5, hs])
/-- a room -/
structure RoomOk (W H : Int) (ws : List Bx) : Prop where
  w1 : 1 ≤ W
  w2 : W ≤ 1000020
  h1 : 1 ≤ H
  h2 : H ≤ 1000020
  len : ws.length ≤ 40
  walls : ∀ w ∈ ws, 0 ≤ w.l ∧ w.l ≤ w.r ∧ w.r ≤ W ∧ 0 ≤ w.b ∧ w.b ≤ w.t ∧ w.t ≤ H
  up : UpB ws
/-- all by few marks -/
def MarksOk (W H : Int) (ws : List Bx) : Prop := ∃ as us : List Int, as.length ≤ 12 ∧ us.length ≤ 12 ∧ 0 ∈ as ∧ W ∈ as ∧ 0 ∈ us ∧ H ∈ us ∧ ∀ w ∈ ws, w.l ∈ as ∧ w.r ∈ as ∧ w.b ∈ us ∧ w.t ∈ us
theorem boxes_of_good {P : Bx → Prop} : ∀ {vs : List M}, (∀ v ∈ vs, ∃ x, v = tB x ∧ P x) → ∃ ks : List Bx, vs = ks.map tB ∧ ∀ x ∈ ks, P x
  | [], _ => ⟨[], rfl, fun x h => by cases h⟩
  | v :: vs, h => by
    obtain ⟨x, rfl, px⟩ := h v (.head _)
    obtain ⟨ns, rfl, p⟩ := boxes_of_good fun v hv => h v (.tail _ hv)
    exact ⟨x :: ns, rfl, fun y hy => by rcases List.mem_cons.mp hy with rfl | hy; exact px; exact p y hy⟩
/-- so many walls drawn -/
theorem shuts_run {S : Store} {t n : Nat} {wide high : Int} {as us : List Int} (k : Nat) (h : Tape S t n) (hn : n + 5 * k + 5 ≤ 1000000) (ma : Marks wide as) (mu : Marks high us)
    {w : Wk} (hw : ∀ S, w.kept S) {g : M → MSt → Mo MSt} {te : MSt → Mo M} {σ0 : MSt} (xs : List M) (hx : xs.length = k)
    (H : ∀ x S, ∃ σ1, g x σ0 S = some (σ1, S) ∧ te σ1 S = fLShut [.loc t, nums as, nums us] S) :
    ∃ (ks : List Bx) (S' : Store), compL w g mYes te σ0 xs S = some (ks.map tB, S') ∧ ks.length = k ∧ (∀ v ∈ ks, WallAt as us v) ∧ Dw t (n + 5 * k) S S' := by
  obtain ⟨vs, S', e, hl, p, d⟩ := draws_gen (P := fun v => ∃ x, v = tB x ∧ WallAt as us x) (c := 5) k h hw (g := g) (te := te) (σ0 := σ0) xs hx fun j x _ S m tp hm => by
    obtain ⟨σ1, e1, e2⟩ := H x S
    obtain ⟨v, S', e3, wv, d⟩ := shut_run tp (by omega) ma mu
    exact ⟨σ1, e1, tB v, S', e2.trans e3, ⟨v, rfl, wv⟩, d⟩
  obtain ⟨ks, rfl, p'⟩ := boxes_of_good p
  exact ⟨ks, S', e, by rw [← hl, List.length_map], p', d⟩
/-- tuple(sorted(set(walls))) -/
theorem walls_run {S : Store} {wide high : Int} {as us : List Int} {ks : List Bx} (hk : ks.length ≤ 40) (ma : Marks wide as) (mu : Marks high us) (p : ∀ v ∈ ks, WallAt as us v) (w1 : 1 ≤ wide) (w2 : wide ≤ 1000020) (h1 : 1 ≤ high) (h2 : high ≤ 1000020) :
    ∃ ws, sortSetA newF (.fz (ks.map tB)) S = some (.fz (ws.map tB), S) ∧ RoomOk wide high ws ∧ MarksOk wide high ws ∧ ws.length ≤ ks.length := by
  have hr := len_rise ltB (xs := ks)
  have hm : ∀ v ∈ riseB ks, WallAt as us v := fun v hv => p v ((mem_rise ltB).mp hv)
  refine ⟨riseB ks, ?_, ⟨w1, w2, h1, h2, by show (rise ltB ks).length ≤ 40; omega, fun v hv => ?_, riseB_up ks⟩, ⟨as, us, ma.len, mu.len, ma.zero, ma.top, mu.zero, mu.top, fun v hv => ?_⟩, hr⟩
  · rw [sortSet_boxes rfl (by omega)]
    exact newF_ap (by rw [List.length_map]; show (rise ltB ks).length ≤ _; omega) S
  · obtain ⟨a, b, c, d, e, f⟩ := hm v hv
    have := ma.lo _ a
    have := ma.lo _ b
    have := mu.lo _ c
    have := mu.lo _ d
    omega
  · obtain ⟨a, b, c, d, e, f⟩ := hm v hv
    exact ⟨a, b, c, d⟩
@[simp] theorem tupleC_fz (xs : List M) (S : Store) : tupleC [.fz xs] S = some (.tup xs, S) := rfl
/-- one of the two sizes -/
theorem size_run {S : Store} {t n : Nat} (h : Tape S t n) (hn : n + 4 ≤ 1000000) (great : Bool) : ∃ x1 x2 x3 z y S1 S2 S3, fLTake [.loc t, .int 8] S = some (.int x1, S1) ∧ fLTake [.loc t, .int 2] S1 = some (.int x2, S2) ∧ atI [M.int 12, M.int 999992] x2 = some (.int z) ∧
    fLTake [.loc t, .int z] S2 = some (.int x3, S3) ∧ atI [M.int (1 + x1), M.int (9 + x3)] (if great then 1 else 0) = some (.int y) ∧ 1 ≤ y ∧ y ≤ 1000000 ∧ (great = false → y ≤ 8) ∧ (great = true → 9 ≤ y) ∧ Dw t (n + 3) S S3 := by
  obtain ⟨x1, S1, e1, a1, b1, d1⟩ := take_run (m := 8) h (by omega) (by decide) (by decide)
  obtain ⟨x2, S2, e2, a2, b2, d2⟩ := take_run (m := 2) d1.tp (by omega) (by decide) (by decide)
  obtain ⟨z, hz, z0, z1⟩ : ∃ z : Int, atI [M.int 12, M.int 999992] x2 = some (.int z) ∧ 0 < z ∧ z ≤ 999992 := by
    have : x2 = 0 ∨ x2 = 1 := by omega
    rcases this with rfl | rfl
    · exact ⟨12, by simp, by decide, by decide⟩
    · exact ⟨999992, by simp, by decide, by decide⟩
  obtain ⟨x3, S3, e3, a3, b3, d3⟩ := take_run (m := z) d2.tp (by omega) z0 (by omega)
  refine ⟨x1, x2, x3, z, if great then 9 + x3 else 1 + x1, S1, S2, S3, e1, e2, hz, e3, ?_, ?_, ?_, ?_, ?_, d1.trans (d2.trans d3)⟩
  · cases great <;> simp
  · cases great <;> simp <;> omega
  · cases great <;> simp <;> omega
  · intro z; subst z; simp; omega
  · intro z; subst z; simp; omega
theorem room_run {S : Store} {t n : Nat} (h : Tape S t n) (hn : n ≤ 100000) (great : Bool) :
    ∃ wide high ws S', fLRoom [.loc t, .bl great] S = some (roomB wide high ws, S') ∧ RoomOk wide high ws ∧ MarksOk wide high ws ∧ (great = false → wide ≤ 8 ∧ high ≤ 8 ∧ ws.length ≤ 9) ∧ ws.length ≤ 30 ∧ wide ≤ 1000000 ∧ high ≤ 1000000 ∧ Dw t (n + 200) S S' := by
  obtain ⟨x1, x2, x3, z, wide, S1, S2, S3, e1, e2, i2, e3, i3, w1, w2, w3, _, d3⟩ := size_run h (by omega) great
  obtain ⟨y1, y2, y3, zz, high, S5, S6, S7, f1, f2, j2, f3, j3, h1, h2, h3, _, d7⟩ := size_run d3.tp (by omega) great
  obtain ⟨as, S9, ea, ma, da, _⟩ := marks_run (most := wide) d7.tp (by omega) w1 (by omega)
  obtain ⟨us, S10, eu, mu, du, _⟩ := marks_run (most := high) da.tp (by omega) h1 (by omega)
  obtain ⟨q1, S11, e11, q10, q11, d11⟩ := take_run (m := 10) du.tp (by omega) (by decide) (by decide)
  obtain ⟨q2, S12, e12, q20, q21, d12⟩ := take_run (m := 24) d11.tp (by omega) (by decide) (by decide)
  obtain ⟨many, hm, m0, m1, m2⟩ : ∃ many : Int, atI [M.int q1, M.int (7 + q2)] (if great then 1 else 0) = some (.int many) ∧ 0 ≤ many ∧ many ≤ 30 ∧ (great = false → many ≤ 9) := by
    cases great
    · exact ⟨q1, by simp, by omega, by omega, fun _ => by omega⟩
    · exact ⟨7 + q2, by simp, by omega, by omega, fun z => by cases z⟩
  obtain ⟨ks, S14, e14, hk, pk, d14⟩ := shuts_run (S := S12) (w := wkR 0 many.toNat) (g := gN 8) (te := bLRoom_e1 fLTake fLMarks fLShut)
    (σ0 := [some (.loc t), some (.bl great), some (.int wide), some (.int high), some (.int many), none, some (nums as), some (nums us), none]) many.toNat d12.tp (by omega) ma mu (fun S => wkR_kept _ _ S) (wkR 0 many.toNat).xs (by simp [wkR_xs])
    fun x S => ⟨[some (.loc t), some (.bl great), some (.int wide), some (.int high), some (.int many), none, some (nums as), some (nums us), some x], by simp, by simp [bLRoom_e1]⟩
  have e15 : newF (ks.map tB) S14 = some (.fz (ks.map tB), S14) := newF_ap (by rw [List.length_map]; omega) _
  obtain ⟨ws, e16, gd, mk, hw⟩ := walls_run (S := S14) (by omega) ma mu pk w1 (by omega) h1 (by omega)
  refine ⟨wide, high, ws, S14, ?_, gd, mk, fun z => ⟨w3 z, h3 z, by have := m2 z; omega⟩, by omega, w2, h2, (d3.trans (d7.trans (da.trans (du.trans (d11.trans (d12.trans d14)))))).le (by omega)⟩
  have p1 : CPow 10 6 := ⟨by decide, by decide, by decide⟩
  have hr : Sm many := Sm.of (by omega) (by omega)
  simp [fLRoom, bLRoom, startM, e1, p1, e2, i2, e3, i3, f1, f2, j2, f3, j3, ea, eu, e11, e12, hm, hr, e14, e15, e16]
end Em
set_option Elab.async false
set_option maxRecDepth 100000
set_option linter.all false
namespace Em
open PySem L2
/-- the wall has a place strictly within the box -/
def lies (w B : Bx) : Bool := decide (B.l < w.r) && decide (w.l < B.r) && decide (B.b < w.t) && decide (w.b < B.t)
/-- a gap is at the height of one of these walls -/
def stopped (p : Int × Int) (us : List Bx) : Bool := us.any fun w => decide (p.1 < w.t) && decide (w.b < p.2)
end Em
set_option Elab.async false
set_option maxRecDepth 100000
set_option linter.all false
namespace Em
open PySem L2
/-- one span cut out -/
def cut1 (G : List (Int × Int)) (s : Int × Int) : List (Int × Int) := ((G.map fun p => (p.1, mnI p.2 s.1)) ++ G.map fun p => (mxI p.1 s.2, p.2)).filter fun p => decide (p.1 < p.2)
/-- all spans -/
def cutG (G ss : List (Int × Int)) : List (Int × Int) := ss.foldl cut1 G
theorem set_last (S : Store) (a b : Ob) : (S ++ [a]).set S.length b = S ++ [b] := by simp
end Em
set_option Elab.async false
set_option maxRecDepth 100000
set_option linter.all false
namespace Em
open PySem L2
theorem appendC_ap {S : Store} {n : Nat} {xs : List M} (h : lstAt S n = some xs) (hl : xs.length < 1000000) (v : M) : appendC (.loc n) [v] S = some (.non, S.set n (.lst (xs ++ [v]))) := by
  have hl' : xs.length < sizeLine := Nat.lt_of_lt_of_le hl line_big
  simp [appendC, h, hl']
/-- the walls at a right side -/
def bkt (whole : Bx) (left : Int) (us : List Bx) (k : Int) : List Bx := (if k = whole.r then [whole] else []) ++ us.filter fun w => decide (left < w.l) && decide (w.l = k)
end Em
set_option Elab.async false
set_option maxRecDepth 100000
set_option linter.all false
namespace Em
open PySem L2
def good (atL : List Bx) (inner : Bx) (g : Int × Int) : Bool := stopped g atL && stopped g [inner]
def hts (us : List Bx) : List (Int × Int) := us.map fun w => (w.b, w.t)
/-- one right side -/
def stepF (left : Int) (inner : Bx) (atL : List Bx) (bk : Int → List Bx) (p : List (Int × Int) × List Bx) (r : Int) : List (Int × Int) × List Bx :=
  (cutG (p.1.filter (good atL inner)) (hts (bk r)), p.2 ++ if inner.l < r then ((p.1.filter (good atL inner)).filter fun g => stopped g (bk r)).map (fun g => (⟨left, g.1, r, g.2⟩ : Bx)) else [])
def atL (us : List Bx) (whole : Bx) (left : Int) : List Bx := if left = whole.l then [whole] else us.filter fun w => decide (w.r = left)
def bey (us : List Bx) (left : Int) : List Bx := us.filter fun w => decide (left < w.r)
def gaps0 (us : List Bx) (whole : Bx) (left : Int) : List (Int × Int) := cutG [(whole.b, whole.t)] (hts ((bey us left).filter fun w => decide (w.l ≤ left)))
def stF (us : List Bx) (whole : Bx) (left : Int) (inner : Bx) (rs : List Int) : List (Int × Int) × List Bx := rs.foldl (stepF left inner (atL us whole left) (bkt whole left (bey us left))) (gaps0 us whole left, [])
end Em
set_option Elab.async false
set_option maxRecDepth 100000
set_option linter.all false
namespace Em
open PySem L2
end Em
set_option Elab.async false
set_option maxRecDepth 100000
set_option linter.all false
namespace Em
open PySem L2
end Em
set_option Elab.async false
set_option maxRecDepth 100000
set_option linter.all false
namespace Em
open PySem L2
end Em
set_option Elab.async false
set_option maxRecDepth 100000
set_option linter.all false
namespace Em
open PySem L2
/-- the right sides of a left one -/
def rsOf (us : List Bx) (whole : Bx) (left : Int) : List Int := riseI (whole.r :: ((bey us left).filter fun w => decide (left < w.l)).map (·.l))
/-- all boxes of a left side -/
def fromB (us : List Bx) (whole inner : Bx) (left : Int) : List Bx := (stF us whole left inner (rsOf us whole left)).2
/-- the left sides -/
def lefts (us : List Bx) (whole inner : Bx) : List Int := (riseI (whole.l :: (us.filter fun w => decide (w.r < whole.r)).map (·.r))).filter fun l => decide (l < inner.r)
def overB (us : List Bx) (whole inner : Bx) : List Bx := (lefts us whole inner).flatMap fun l => fromB us whole inner l
end Em
set_option Elab.async false
set_option maxRecDepth 100000
set_option linter.all false
namespace Em
open PySem L2
/-- the walls that lie in a box -/
abbrev wIn (ws : List Bx) (whole : Bx) : List Bx := ws.filter fun w => lies w whole
/-- all free boxes within the whole that can't be made wider there and in which inner lies -/
def wbs (ws : List Bx) (whole inner : Bx) : List Bx := riseB (overB (wIn ws whole) whole inner)
/-- the wide boxes of a room -/
abbrev wide (W H : Int) (ws : List Bx) : List Bx := wbs ws ⟨0, 0, W, H⟩ ⟨0, 0, W, H⟩
end Em
set_option Elab.async false
set_option maxRecDepth 100000
set_option linter.all false
namespace Em
open PySem L2
end Em
set_option Elab.async false
set_option maxRecDepth 100000
set_option linter.all false
namespace Em
open PySem L2
theorem rng_int {ma : MSt → Mo (List M)} {σ : MSt} {S S' : Store} {j : Int} (h : ma σ S = some ([.int j], S')) (h0 : Sm j) : mRng1 ma σ S = some (wkR 0 j.toNat, S') := by
  simp [h, h0]
/-- range(n), n a number of things -/
theorem rng_nat {ma : MSt → Mo (List M)} {σ : MSt} {S S' : Store} {n : Nat} (h : ma σ S = some ([.int (n : Int)], S')) (hn : n ≤ 1000000) : mRng1 ma σ S = some (wkR 0 n, S') := rng_int h (Sm.nat (by omega))
/-- pairs of rising numbers: those of the first ones -/
def prs (xs : List Int) (n : Nat) : List (Int × Int) := (List.range n).flatMap fun k => (xs.drop (k + 1)).map fun r => (xs.getD k 0, r)
theorem rng_item {n j : Nat} {y : M} (h : (wkR 0 n).xs[j]? = some y) : j < n ∧ y = .int (j : Int) := by
  have hj : j < n := by have := (List.getElem?_eq_some_iff.mp h).1; rw [wkR_xs, List.length_map, List.length_range] at this; exact this
  refine ⟨hj, ?_⟩
  rw [wkR_xs, List.getElem?_map, List.getElem?_range hj] at h
  cases h
  simp
end Em
set_option Elab.async false
set_option maxRecDepth 100000
set_option linter.all false
namespace Em
open PySem L2
/-- the box with one side moved out, where the room goes on -/
def moves (W H : Int) (B : Bx) : List Bx :=
  (if 0 < B.l then [⟨B.l - 1, B.b, B.r, B.t⟩] else []) ++ (if 0 < B.b then [⟨B.l, B.b - 1, B.r, B.t⟩] else []) ++ (if B.r < W then [⟨B.l, B.b, B.r + 1, B.t⟩] else []) ++ (if B.t < H then [⟨B.l, B.b, B.r, B.t + 1⟩] else [])
end Em
set_option Elab.async false
set_option maxRecDepth 100000
set_option linter.all false
namespace Em
open PySem L2
@[simp] theorem mIsi_ap (T : String) (m : MSt → Mo M) (σ : MSt) : mIsi T m σ = bnd (m σ) fun x S => match isiB T S x with
  | some b => some (.bl b, S)
  | none => none := rfl
end Em
set_option Elab.async false
set_option maxRecDepth 100000
set_option linter.all false
namespace Em
open PySem L2
end Em
set_option Elab.async false
set_option maxRecDepth 100000
set_option linter.all false
namespace Em
open PySem L2
end Em
set_option Elab.async false
set_option maxRecDepth 100000
set_option linter.all false
namespace Em
open PySem L2
end Em
set_option Elab.async false
set_option maxRecDepth 100000
set_option linter.all false
namespace Em
open PySem L2
end Em
set_option Elab.async false
set_option maxRecDepth 100000
set_option linter.all false
namespace Em
open PySem L2
end Em
set_option Elab.async false
set_option maxRecDepth 100000
set_option linter.all false
namespace Em
open PySem L2
end Em
set_option Elab.async false
set_option maxRecDepth 100000
set_option linter.all false
namespace Em
open PySem L2
end Em
set_option Elab.async false
set_option maxRecDepth 100000
set_option linter.all false
namespace Em
open PySem L2
end Em
set_option Elab.async false
set_option maxRecDepth 100000
set_option linter.all false
namespace Em
open PySem L2
end Em
set_option Elab.async false
set_option maxRecDepth 100000
set_option linter.all false
namespace Em
open PySem L2
structure Enc {γ : Type} [DecidableEq γ] (h : γ → M) (e : γ → PyData) : Prop where
  d : ∀ S k a, dat S (k + 5) (h a) = some (e a)
  c : ∀ a, (e a).canLay0 = true
  p : ∀ a, (e a).depth ≤ 5
  q : ∀ a b, PyData.eqv (e a) (e b) = decide (a = b)
section
variable {γ : Type} [DecidableEq γ] {h : γ → M} {e : γ → PyData} (E : Enc h e)
include E
end
end Em
set_option Elab.async false
set_option maxRecDepth 100000
set_option linter.all false
namespace Em
open PySem L2
section
variable (a b c d : M)
theorem cut40 : cutM [a, b, c, d] none (some 0) = [] := rfl
theorem cut41 : cutM [a, b, c, d] none (some 1) = [a] := rfl
theorem cut42 : cutM [a, b, c, d] none (some 2) = [a, b] := rfl
theorem cut43 : cutM [a, b, c, d] none (some 3) = [a, b, c] := rfl
theorem cut4a : cutM [a, b, c, d] (some 1) none = [b, c, d] := rfl
theorem cut4b : cutM [a, b, c, d] (some 2) none = [c, d] := rfl
theorem cut4c : cutM [a, b, c, d] (some 3) none = [d] := rfl
theorem cut4d : cutM [a, b, c, d] (some 4) none = [] := rfl
end
end Em
set_option Elab.async false
set_option maxRecDepth 100000
set_option linter.all false
namespace Em
open PySem L2
/-- the words for what bounds a side -/
inductive Kd | room | block | straight | point
  deriving DecidableEq
def Kd.s : Kd → Str
  | .room => "room"
  | .block => "block"
  | .straight => "straight"
  | .point => "point"
abbrev kM (k : Kd) : M := .str k.s
def kindB (w : Bx) : Kd := if w.l = w.r ∧ w.b = w.t then .point else if w.l = w.r ∨ w.b = w.t then .straight else .block
theorem kindOf_run (w : Bx) (S : Store) : fKindOf [tB w] S = some (kM (kindB w), S) := by
  by_cases h1 : w.l = w.r <;> by_cases h2 : w.b = w.t <;> simp [fKindOf, bKindOf, startM, h1, h2, kindB, Kd.s]
end Em
set_option Elab.async false
set_option maxRecDepth 100000
set_option linter.all false
namespace Em
open PySem L2
end Em
set_option Elab.async false
set_option maxRecDepth 100000
set_option linter.all false
namespace Em
open PySem L2
end Em
set_option Elab.async false
set_option maxRecDepth 100000
set_option linter.all false
namespace Em
open PySem L2
end Em
set_option Elab.async false
set_option maxRecDepth 100000
set_option linter.all false
namespace Em
open PySem L2
section
variable {γ : Type} [DecidableEq γ] {h : γ → M} {e : γ → PyData} (E : Enc h e)
include E
end
end Em
set_option Elab.async false
set_option maxRecDepth 100000
set_option linter.all false
namespace Em
open PySem L2
def tri (g : Int × Int) : Nat := ((g.2 - g.1) * (g.2 - g.1 + 1) / 2).toNat
end Em
set_option Elab.async false
set_option maxRecDepth 100000
set_option linter.all false
namespace Em
open PySem L2
end Em
set_option Elab.async false
set_option maxRecDepth 100000
set_option linter.all false
namespace Em
open PySem L2
end Em
set_option Elab.async false
set_option maxRecDepth 100000
set_option linter.all false
namespace Em
open PySem L2
end Em
set_option Elab.async false
set_option maxRecDepth 100000
set_option linter.all false
namespace Em
open PySem L2
theorem tup_len {xs : List M} (S : Store) : lenC [.tup xs] S = some (.int xs.length, S) := rfl
end Em
set_option Elab.async false
set_option maxRecDepth 100000
set_option linter.all false
namespace Em
open PySem L2
end Em
set_option Elab.async false
set_option maxRecDepth 100000
set_option linter.all false
namespace Em
open PySem L2
end Em
set_option Elab.async false
set_option maxRecDepth 100000
set_option linter.all false
namespace Em
open PySem L2
end Em
set_option Elab.async false
set_option maxRecDepth 100000
set_option linter.all false
namespace Em
open PySem L2
end Em
set_option Elab.async false
set_option maxRecDepth 100000
set_option linter.all false
namespace Em
open PySem L2
end Em
set_option Elab.async false
set_option maxRecDepth 100000
set_option linter.all false
namespace Em
open PySem L2
theorem max2_i (i j : Int) : max2 [.int i, .int j] = ret (.int (max i j)) := by
  rw [max2_ap]
  congr 2
  split <;> omega
theorem min2_i (i j : Int) : min2 [.int i, .int j] = ret (.int (min i j)) := by
  rw [min2_ap]
  congr 2
  split <;> omega
end Em
set_option Elab.async false
set_option maxRecDepth 100000
set_option linter.all false
namespace Em
open PySem L2
theorem small_dat (S : Store) : dat S 40 (.tup [.str ("small" : Str)]) = some (.tuple [.str ("small" : Str)]) := rfl
end Em
set_option Elab.async false
set_option maxRecDepth 100000
set_option linter.all false
namespace Em
open PySem L2
end Em
set_option Elab.async false
set_option maxRecDepth 100000
set_option linter.all false
namespace Em
open PySem L2
section
variable {W H A : Int} {ws : List Bx}
end
end Em
set_option Elab.async false
set_option maxRecDepth 100000
set_option linter.all false
namespace Em
open PySem L2
section
variable {W H A : Int} {ws : List Bx}
end
end Em
set_option Elab.async false
set_option maxRecDepth 100000
set_option linter.all false
namespace Em
open PySem L2
end Em
set_option Elab.async false
set_option maxRecDepth 100000
set_option linter.all false
namespace Em
open PySem L2
end Em
set_option Elab.async false
set_option maxRecDepth 100000
set_option linter.all false
namespace Em
open PySem L2
section
variable {W H A : Int} {ws : List Bx}
end
end Em
set_option Elab.async false
set_option maxRecDepth 100000
set_option linter.all false
namespace Em
open PySem L2
theorem forL_step {w : Wk} {g : M → MSt → Mo MSt} {mb : MSt → Mo Out} {x : M} {xs : List M} {σ σ1 σ2 : MSt} {S S1 S2 : Store} (hk : w.kept S) (h1 : g x σ S = some (σ1, S1)) (h2 : mb σ1 S1 = some (.nx σ2, S2)) : forL w g mb (x :: xs) σ S = forL w g mb xs σ2 S2 := by
  show guardW w _ S = _
  rw [guard_ok hk]
  simp only [bnd_ap, h1, h2]
theorem forL_done {w : Wk} {g : M → MSt → Mo MSt} {mb : MSt → Mo Out} {σ : MSt} {S : Store} (hk : w.kept S) : forL w g mb [] σ S = some (.nx σ, S) := by
  show guardW w _ S = _
  rw [guard_ok hk]
  rfl
end Em
set_option Elab.async false
set_option maxRecDepth 100000
set_option linter.all false
namespace Em
open PySem L2
end Em
set_option Elab.async false
set_option maxRecDepth 100000
set_option linter.all false
namespace Em
open PySem L2
end Em
set_option Elab.async false
set_option maxRecDepth 100000
set_option linter.all false
namespace Em
open PySem L2
end Em
set_option Elab.async false
set_option maxRecDepth 100000
set_option linter.all false
namespace Em
open PySem L2
noncomputable def bNumbersText_e1 : MSt → Mo M := (mCb strC (aCons (mVar 1) aNil))
noncomputable def bNumbersText : MSt → Mo Out := (sRet (mJoinG (mC (.str (" " : Str))) (mSeq (mVar 0)) (gN 1) mYes (bNumbersText_e1) [1]))
noncomputable def fNumbersText : Fn := den 2 bNumbersText
noncomputable def bWallText (f0 f1 : Fn) : MSt → Mo Out := (sSeq (sIf (mB (mOp eqM (mCall 1 f0 (aCons (mVar 0) aNil)) (mC (.str ("point" : Str))))) (sRet (mOp (addA newF) (mC (.str ("point " : Str))) (mCall 1 f1 (aCons (mSlA newF (mVar 0) oNone (oSome (mC (.int 2)))) aNil)))) sNext)
    (sRet (mOp (addA newF) (mC (.str ("wall " : Str))) (mCall 1 f1 (aCons (mVar 0) aNil)))))
noncomputable def fWallText : Fn := den 1 (bWallText fKindOf fNumbersText)
noncomputable def bRoomText_e1 (f0 f1 : Fn) : MSt → Mo M := (mCall 1 f1 (aCons (mVar 1) aNil))
noncomputable def bRoomText (f0 f1 : Fn) : MSt → Mo Out := (sRet (mJoin (mC (.str ("\n" : Str))) (mOp (addA newF) (mNewF (aCons (mOp (addA newF) (mC (.str ("room " : Str))) (mCall 1 f0 (aCons (mSlA newF (mVar 0) oNone (oSome (mC (.int 2)))) aNil))) aNil)) (mNewF (mComp (mSeq (mOp ixM (mVar 0) (mC (.int 2)))) (gN 1) mYes (bRoomText_e1 f0 f1) [1])))))
noncomputable def fRoomText : Fn := den 2 (bRoomText fNumbersText fWallText)
noncomputable def bLText_f1 : MSt → Mo Out := (sIf (mAndT (mB (mOp eqM (mVar 2) (mVar 4))) (mB (mOp eqM (mVar 3) (mVar 5)))) (sDrop (mMtL appendC (mVar 1) (aCons (mJoin (mC (.str (" " : Str))) (mNewF (aCons (mC (.str ("point" : Str))) (aCons (mCb strC (aCons (mVar 2) aNil)) (aCons (mCb strC (aCons (mVar 3) aNil)) aNil))))) aNil))) (sDrop (mMtL appendC (mVar 1) (aCons (mJoin (mC (.str (" " : Str))) (mNewF (aCons (mC (.str ("wall" : Str))) (aCons (mCb strC (aCons (mVar 2) aNil)) (aCons (mCb strC (aCons (mVar 3) aNil)) (aCons (mCb strC (aCons (mVar 4) aNil)) (aCons (mCb strC (aCons (mVar 5) aNil)) aNil))))))) aNil))))
noncomputable def bLText : MSt → Mo Out := (sSeq (sAsg (mLst (aCons (mJoin (mC (.str (" " : Str))) (mNewF (aCons (mC (.str ("room" : Str))) (aCons (mCb strC (aCons (mOp ixM (mVar 0) (mC (.int 0))) aNil)) (aCons (mCb strC (aCons (mOp ixM (mVar 0) (mC (.int 1))) aNil)) aNil))))) aNil)) (gN 1))
    (sSeq (sFor (mSeq (mOp ixM (mVar 0) (mC (.int 2)))) (gT 4 (gsCons (gN 2) (gsCons (gN 3) (gsCons (gN 4) (gsCons (gN 5) gsNil))))) (bLText_f1))
    (sRet (mJoin (mC (.str ("\n" : Str))) (mVar 1)))))
noncomputable def fLText : Fn := den 6 bLText
noncomputable def bLaw_f1 (f0 f1 f2 f3 f4 : Fn) : MSt → Mo Out := (sSeq (sAsg (mCall 1 f3 (aCons (mVar 5) aNil)) (gN 7))
    (sIf (mOrT (mNotT (mTru (mIsi "str" (mVar 7)))) (mB (mOp neM (mVar 7) (mCall 1 (fzF f4) (aCons (mVar 5) aNil))))) (sRet (mC (.bl false))) sNext))
noncomputable def bLaw_f2 (f0 f1 f2 f3 f4 : Fn) : MSt → Mo Out := (sFor (mRng1 (aCons (mC (.int 2)) aNil)) (gN 6) (bLaw_f1 f0 f1 f2 f3 f4))
noncomputable def bLaw_f3 (f0 f1 f2 f3 f4 : Fn) : MSt → Mo Out := (sSeq (sAsg (mCall 2 (gcF f0) (aCons (mVar 0) (aCons (mVar 1) aNil))) (gN 2))
    (sSeq (sAsg (mCall 2 f1 (aCons (mVar 2) (aCons (mOp eqM (mCall 2 f2 (aCons (mVar 2) (aCons (mC (.int 8)) aNil))) (mC (.int 0))) aNil))) (gN 3))
    (sSeq (sAsg (mNewF (aCons (mVar 3) (aCons (mTup (aCons (mOp ixM (mVar 3) (mC (.int 0))) (aCons (mOp ixM (mVar 3) (mC (.int 1))) (aCons (mTup aNil) aNil)))) (aCons (mTup (aCons (mOp powM (mC (.int 10)) (mC (.int 6))) (aCons (mOp ixM (mVar 3) (mC (.int 1))) (aCons (mOp ixM (mVar 3) (mC (.int 2))) aNil)))) (aCons (mTup (aCons (mOp ixM (mVar 3) (mC (.int 0))) (aCons (mOp powM (mC (.int 10)) (mC (.int 6))) (aCons (mOp ixM (mVar 3) (mC (.int 2))) aNil)))) aNil))))) (gN 4))
    (sFor (mSeq (mVar 4)) (gN 5) (bLaw_f2 f0 f1 f2 f3 f4)))))
noncomputable def bLaw (f0 f1 f2 f3 f4 : Fn) : MSt → Mo Out := (sSeq (sFor (mRng1 (aCons (mCb max2 (aCons (mC (.int 2)) (aCons (mCb min2 (aCons (mCb lenC (aCons (mVar 0) aNil)) (aCons (mC (.int 8)) aNil))) aNil))) aNil)) (gN 1) (bLaw_f3 f0 f1 f2 f3 f4))
    (sRet (mC (.bl true))))
noncomputable def fLaw : Fn := den 8 (bLaw fLTape fLRoom fLTake fRoomText fLText)
end Em
set_option Elab.async false
set_option maxRecDepth 100000
set_option linter.all false
namespace Em
open PySem L2
def top (i : Nat) : Stmt := PySem.Challenge.pw_emptybox_k50_rooms_written.main.body.getD i (.Pass ⟨0, 0, 0, 0⟩)
abbrev sLCellAt : Stmt := top 7
abbrev NLCellAt : List Str := ["_law_script", "_law_k"]
abbrev PLCellAt : List Str := ["_law_script", "_law_k"]
theorem scLCellAt : FnScope NLCellAt PLCellAt (defScope sLCellAt) := ⟨rfl, rfl, rfl, by decide +kernel, rfl, by decide +kernel, by decide +kernel⟩
set_option maxHeartbeats 4000000 in
theorem okLCellAt {P : Program} {w : World} {K : Ct} {mg : Str → Option Value} {base : Heap} {f : Addr} {fd : FuncData}  (T : Txt mg)  (F : Fun K.K "_law_cell_at" "_law_cell_at" sLCellAt f fd) :
    FnOk P w K.K mg base CX0 (0 + 1) f fd PLCellAt (spM K 2 (den 2 bLCellAt)) :=
  fun_ok F scLCellAt fun cdv A outer s H E hr => by
    have nd := scLCellAt.nd
    exact (mss_cons (ms_if (mt_cmp (om_lt rfl (Room.units0 hr)) (me_var 1) (me_callB (cm_len rfl) (by rfl) T.len (by decide +kernel) (ma_cons (me_var 0) ma_nil)) (nomark _)) (mss_one (ms_ret (me_ix rfl (me_var 0) (me_var 1) (fun _ _ => rfl)))) mss_nil)
      (mss_one (ms_ret me_int)))
abbrev sLTape : Stmt := top 8
abbrev NLTape : List Str := ["_law_script", "_law_k", "_law_cell"]
abbrev PLTape : List Str := ["_law_script", "_law_k"]
theorem scLTape : FnScope NLTape PLTape (defScope sLTape) := ⟨rfl, rfl, rfl, by decide +kernel, rfl, by decide +kernel, by decide +kernel⟩
set_option maxHeartbeats 4000000 in
theorem okLTape {P : Program} {w : World} {K : Ct} {mg : Str → Option Value} {base : Heap} {f : Addr} {fd : FuncData} {a0 : Addr} {d0 : FuncData} {f0 : Fn} (T : Txt mg) (G0 : FnOk P w K.K mg base CX0 1 a0 d0 PLCellAt (spM K 2 f0)) (D0 : Def K.K mg "_law_cell_at" sLCellAt PLCellAt a0 d0) (F : Fun K.K "_law_tape" "_law_tape" sLTape f fd) :
    FnOk P w K.K mg base CX0 (1 + 1) f fd PLTape (spM K 2 (den 3 (bLTape f0))) :=
  fun_ok F scLTape fun cdv A outer s H E hr => by
    have nd := scLTape.nd
    exact (mss_cons (ms_set (i := 2) nd rfl (Or.inl rfl) (me_call rfl G0 D0 (Room.mono hr (by first | decide | omega)) (ma_cons (me_var 0) (ma_cons (me_var 1) ma_nil))))
      (mss_one (ms_ret (me_lst (ma_cons (me_op (om_mulA alcF) (me_callB cm_abs (by rfl) T.abs (by decide +kernel) (ma_cons (me_var 2) ma_nil)) (me_callTy cm_int (by rfl) T.int (by decide +kernel) (ma_cons (me_cmp om_ge (me_callB cm_abs (by rfl) T.abs (by decide +kernel) (ma_cons (me_var 2) ma_nil)) (me_op om_pow me_int me_int) (nomark _)) ma_nil))) (ma_cons (me_op (om_addA alcF rfl) (me_op (om_addA alcF rfl) (me_op om_mod (me_var 2) me_int) (me_op (om_mulA alcF) me_int (me_var 1))) me_int) (ma_cons me_int ma_nil)))))))
abbrev sLTake : Stmt := top 9
abbrev NLTake : List Str := ["_law_tape_here", "_law_many", "_law_once", "_law_twice", "_law_found"]
abbrev PLTake : List Str := ["_law_tape_here", "_law_many"]
theorem scLTake : FnScope NLTake PLTake (defScope sLTake) := ⟨rfl, rfl, rfl, by decide +kernel, rfl, by decide +kernel, by decide +kernel⟩
set_option maxHeartbeats 4000000 in
theorem okLTake {P : Program} {w : World} {K : Ct} {mg : Str → Option Value} {base : Heap} {f : Addr} {fd : FuncData}  (T : Txt mg)  (F : Fun K.K "_law_take" "_law_take" sLTake f fd) :
    FnOk P w K.K mg base CX0 (0 + 1) f fd PLTake (spM K 2 (den 5 bLTake)) :=
  fun_ok F scLTake fun cdv A outer s H E hr => by
    have nd := scLTake.nd
    exact (mss_cons (ms_if (mt_cmp om_gt (me_ix rfl (me_var 0) me_int (fun _ _ => rfl)) me_int (nomark _)) (mss_cons (ms_set (i := 4) nd rfl (Or.inl rfl) (me_op om_mod (me_ix rfl (me_var 0) me_int (fun _ _ => rfl)) (me_var 1)))
      (mss_cons (ms_asg (me_op om_fdiv (me_ix rfl (me_var 0) me_int (fun _ _ => rfl)) (me_var 1)) (mg_sub (me_var 0) me_int))
      (mss_one (ms_ret (me_var 4))))) mss_nil)
      (mss_cons (ms_asg (me_op (om_addA alcF rfl) (me_ix rfl (me_var 0) me_int (fun _ _ => rfl)) me_int) (mg_sub (me_var 0) me_int))
      (mss_cons (ms_set (i := 2) nd rfl (Or.inl rfl) (me_op om_mod (me_op (om_mulA alcF) (me_op (om_addA alcF rfl) (me_ix rfl (me_var 0) me_int (fun _ _ => rfl)) (me_op (om_mulA alcF) me_int (me_ix rfl (me_var 0) me_int (fun _ _ => rfl)))) (me_op (om_addA alcF rfl) me_int (me_ix rfl (me_var 0) me_int (fun _ _ => rfl)))) me_int))
      (mss_cons (ms_set (i := 3) nd rfl (Or.inl rfl) (me_op om_mod (me_op (om_mulA alcF) (me_op (om_addA alcF rfl) (me_var 2) (me_ix rfl (me_var 0) me_int (fun _ _ => rfl))) (me_op (om_addA alcF rfl) (me_op om_mod (me_var 2) me_int) me_int)) me_int))
      (mss_one (ms_ret (me_op om_mod (me_op om_fdiv (me_op om_mod (me_op (om_addA alcF rfl) (me_op (om_mulA alcF) (me_var 3) me_int) (me_var 2)) me_int) me_int) (me_var 1))))))))
abbrev sLMarks : Stmt := top 10
abbrev NLMarks : List Str := ["_law_tape_here", "_law_most", "_law_turn"]
abbrev PLMarks : List Str := ["_law_tape_here", "_law_most"]
theorem scLMarks : FnScope NLMarks PLMarks (defScope sLMarks) := ⟨rfl, rfl, rfl, by decide +kernel, rfl, by decide +kernel, by decide +kernel⟩
set_option maxHeartbeats 4000000 in
theorem okLMarks {P : Program} {w : World} {K : Ct} {mg : Str → Option Value} {base : Heap} {f : Addr} {fd : FuncData} {a0 : Addr} {d0 : FuncData} {f0 : Fn} (T : Txt mg) (G0 : FnOk P w K.K mg base CX0 1 a0 d0 PLTake (spM K 2 f0)) (D0 : Def K.K mg "_law_take" sLTake PLTake a0 d0) (F : Fun K.K "_law_marks" "_law_marks" sLMarks f fd) :
    FnOk P w K.K mg base CX0 (1 + 1) f fd PLMarks (spM K 2 (den 3 (bLMarks f0))) :=
  fun_ok F scLMarks fun cdv A outer s H E hr => by
    have nd := scLMarks.nd
    exact (mss_cons (ms_if (mt_cmp (om_lt rfl (Room.units0 hr)) (me_var 1) me_int (nomark _)) (mss_one (ms_ret (me_lrng1A alcF rfl (by rfl) T.list (by rfl) T.range (ma_cons (me_op (om_addA alcF rfl) (me_var 1) me_int) ma_nil)))) mss_nil)
      (mss_one (ms_ret (me_sortSetA alcF rfl rfl (Room.units hr) (by rfl) T.sorted (by rfl) T.set (me_op (om_addA alcF rfl) (MF.meF (mf_lst (ma_cons me_int (ma_cons (me_var 1) ma_nil)))) (MF.meF (mf_lc (own := [("_law_turn", 2)]) rfl nd  (mi_range1 (by rfl) T.range (ma_cons me_int ma_nil)) (blkOk_by (own := [("_law_turn", 2)]) (N := NLMarks) (sc := defScope sLMarks) (by decide +kernel)) (fun _ _ _ _ _ => (mg_name (i := 2) nd rfl (Or.inl rfl))) (fun _ _ _ _ _ => mts_nil) (fun _ _ _ _ _ => (me_call rfl G0 D0 (Room.mono hr (by first | decide | omega)) (ma_cons (me_var 0) (ma_cons (me_op (om_addA alcF rfl) (me_var 1) me_int) ma_nil)))))))))))
abbrev sLShut : Stmt := top 11
abbrev NLShut : List Str := ["_law_tape_here", "_law_across", "_law_up", "_law_sort", "_law_one", "_law_other", "_law_low", "_law_high"]
abbrev PLShut : List Str := ["_law_tape_here", "_law_across", "_law_up"]
theorem scLShut : FnScope NLShut PLShut (defScope sLShut) := ⟨rfl, rfl, rfl, by decide +kernel, rfl, by decide +kernel, by decide +kernel⟩
set_option maxHeartbeats 4000000 in
theorem okLShut {P : Program} {w : World} {K : Ct} {mg : Str → Option Value} {base : Heap} {f : Addr} {fd : FuncData} {a0 : Addr} {d0 : FuncData} {f0 : Fn} (T : Txt mg) (G0 : FnOk P w K.K mg base CX0 1 a0 d0 PLTake (spM K 2 f0)) (D0 : Def K.K mg "_law_take" sLTake PLTake a0 d0) (F : Fun K.K "_law_shut" "_law_shut" sLShut f fd) :
    FnOk P w K.K mg base CX0 (1 + 1) f fd PLShut (spM K 3 (den 8 (bLShut f0))) :=
  fun_ok F scLShut fun cdv A outer s H E hr => by
    have nd := scLShut.nd
    exact (mss_cons (ms_par (i := 4) (j := 5) rfl nd rfl rfl (by decide) rfl rfl (ma_cons (me_ix rfl (me_var 1) (me_call rfl G0 D0 (Room.mono hr (by first | decide | omega)) (ma_cons (me_var 0) (ma_cons (me_callB (cm_len rfl) (by rfl) T.len (by decide +kernel) (ma_cons (me_var 1) ma_nil)) ma_nil))) (fun _ _ => rfl)) (ma_cons (me_ix rfl (me_var 1) (me_call rfl G0 D0 (Room.mono hr (by first | decide | omega)) (ma_cons (me_var 0) (ma_cons (me_callB (cm_len rfl) (by rfl) T.len (by decide +kernel) (ma_cons (me_var 1) ma_nil)) ma_nil))) (fun _ _ => rfl)) ma_nil)) (by rfl))
      (mss_cons (ms_par (i := 6) (j := 7) rfl nd rfl rfl (by decide) rfl rfl (ma_cons (me_ix rfl (me_var 2) (me_call rfl G0 D0 (Room.mono hr (by first | decide | omega)) (ma_cons (me_var 0) (ma_cons (me_callB (cm_len rfl) (by rfl) T.len (by decide +kernel) (ma_cons (me_var 2) ma_nil)) ma_nil))) (fun _ _ => rfl)) (ma_cons (me_ix rfl (me_var 2) (me_call rfl G0 D0 (Room.mono hr (by first | decide | omega)) (ma_cons (me_var 0) (ma_cons (me_callB (cm_len rfl) (by rfl) T.len (by decide +kernel) (ma_cons (me_var 2) ma_nil)) ma_nil))) (fun _ _ => rfl)) ma_nil)) (by rfl))
      (mss_cons (ms_set (i := 3) nd rfl (Or.inl rfl) (me_call rfl G0 D0 (Room.mono hr (by first | decide | omega)) (ma_cons (me_var 0) (ma_cons me_int ma_nil))))
      (mss_cons (ms_if (mt_cmp (om_lt rfl (Room.units0 hr)) (me_var 3) me_int (nomark _)) (mss_one (ms_set (i := 5) nd rfl (Or.inl rfl) (me_var 4))) mss_nil)
      (mss_cons (ms_if (MW.mt (mw_or (mt_cmp (om_lt rfl (Room.units0 hr)) (me_var 3) me_int (nomark _)) (mw_or1 (mt_cmp (om_eq rfl (Room.units hr)) (me_var 3) me_int (nomark _))))) (mss_one (ms_set (i := 7) nd rfl (Or.inl rfl) (me_var 6))) mss_nil)
      (mss_one (ms_ret (me_tup (ma_cons (me_callB (cm_min2 rfl) (by rfl) T.min (by decide +kernel) (ma_cons (me_var 4) (ma_cons (me_var 5) ma_nil))) (ma_cons (me_callB (cm_min2 rfl) (by rfl) T.min (by decide +kernel) (ma_cons (me_var 6) (ma_cons (me_var 7) ma_nil))) (ma_cons (me_callB (cm_max2 rfl) (by rfl) T.max (by decide +kernel) (ma_cons (me_var 4) (ma_cons (me_var 5) ma_nil))) (ma_cons (me_callB (cm_max2 rfl) (by rfl) T.max (by decide +kernel) (ma_cons (me_var 6) (ma_cons (me_var 7) ma_nil))) ma_nil))))))))))))
abbrev sLRoom : Stmt := top 12
abbrev NLRoom : List Str := ["_law_tape_here", "_law_great", "_law_wide", "_law_high", "_law_many", "_law_shuts", "_law_across", "_law_up", "_law_turn"]
abbrev PLRoom : List Str := ["_law_tape_here", "_law_great"]
theorem scLRoom : FnScope NLRoom PLRoom (defScope sLRoom) := ⟨rfl, rfl, rfl, by decide +kernel, rfl, by decide +kernel, by decide +kernel⟩
set_option maxHeartbeats 4000000 in
theorem okLRoom {P : Program} {w : World} {K : Ct} {mg : Str → Option Value} {base : Heap} {f : Addr} {fd : FuncData} {a0 : Addr} {d0 : FuncData} {f0 : Fn} {a1 : Addr} {d1 : FuncData} {f1 : Fn} {a2 : Addr} {d2 : FuncData} {f2 : Fn} (T : Txt mg) (G0 : FnOk P w K.K mg base CX0 1 a0 d0 PLTake (spM K 2 f0)) (D0 : Def K.K mg "_law_take" sLTake PLTake a0 d0) (G1 : FnOk P w K.K mg base CX0 2 a1 d1 PLMarks (spM K 2 f1)) (D1 : Def K.K mg "_law_marks" sLMarks PLMarks a1 d1) (G2 : FnOk P w K.K mg base CX0 2 a2 d2 PLShut (spM K 3 f2)) (D2 : Def K.K mg "_law_shut" sLShut PLShut a2 d2) (F : Fun K.K "_law_room" "_law_room" sLRoom f fd) :
    FnOk P w K.K mg base CX0 (2 + 1) f fd PLRoom (spM K 2 (den 9 (bLRoom f0 f1 f2))) :=
  fun_ok F scLRoom fun cdv A outer s H E hr => by
    have nd := scLRoom.nd
    exact (mss_cons (ms_set (i := 2) nd rfl (Or.inl rfl) (me_ix rfl (MF.meF (mf_lst (ma_cons (me_op (om_addA alcF rfl) me_int (me_call rfl G0 D0 (Room.mono hr (by first | decide | omega)) (ma_cons (me_var 0) (ma_cons me_int ma_nil)))) (ma_cons (me_op (om_addA alcF rfl) me_int (me_call rfl G0 D0 (Room.mono hr (by first | decide | omega)) (ma_cons (me_var 0) (ma_cons (me_ix rfl (MF.meF (mf_lst (ma_cons me_int (ma_cons (me_op om_sub (me_op om_pow me_int me_int) me_int) ma_nil)))) (me_call rfl G0 D0 (Room.mono hr (by first | decide | omega)) (ma_cons (me_var 0) (ma_cons me_int ma_nil))) (fun _ _ => rfl)) ma_nil)))) ma_nil)))) (me_callTy cm_int (by rfl) T.int (by decide +kernel) (ma_cons (me_var 1) ma_nil)) (fun _ _ => rfl)))
      (mss_cons (ms_set (i := 3) nd rfl (Or.inl rfl) (me_ix rfl (MF.meF (mf_lst (ma_cons (me_op (om_addA alcF rfl) me_int (me_call rfl G0 D0 (Room.mono hr (by first | decide | omega)) (ma_cons (me_var 0) (ma_cons me_int ma_nil)))) (ma_cons (me_op (om_addA alcF rfl) me_int (me_call rfl G0 D0 (Room.mono hr (by first | decide | omega)) (ma_cons (me_var 0) (ma_cons (me_ix rfl (MF.meF (mf_lst (ma_cons me_int (ma_cons (me_op om_sub (me_op om_pow me_int me_int) me_int) ma_nil)))) (me_call rfl G0 D0 (Room.mono hr (by first | decide | omega)) (ma_cons (me_var 0) (ma_cons me_int ma_nil))) (fun _ _ => rfl)) ma_nil)))) ma_nil)))) (me_callTy cm_int (by rfl) T.int (by decide +kernel) (ma_cons (me_var 1) ma_nil)) (fun _ _ => rfl)))
      (mss_cons (ms_asg (me_tup (ma_cons (me_call rfl G1 D1 (Room.mono hr (by first | decide | omega)) (ma_cons (me_var 0) (ma_cons (me_var 2) ma_nil))) (ma_cons (me_call rfl G1 D1 (Room.mono hr (by first | decide | omega)) (ma_cons (me_var 0) (ma_cons (me_var 3) ma_nil))) ma_nil))) (mg_tup rfl rfl (mgs_cons (mg_name (i := 6) nd rfl ((by first | exact Or.inr rfl | exact Or.inl rfl))) (mgs_cons (mg_name (i := 7) nd rfl ((by first | exact Or.inr rfl | exact Or.inl rfl))) mgs_nil))))
      (mss_cons (ms_set (i := 4) nd rfl (Or.inl rfl) (me_ix rfl (MF.meF (mf_lst (ma_cons (me_call rfl G0 D0 (Room.mono hr (by first | decide | omega)) (ma_cons (me_var 0) (ma_cons me_int ma_nil))) (ma_cons (me_op (om_addA alcF rfl) me_int (me_call rfl G0 D0 (Room.mono hr (by first | decide | omega)) (ma_cons (me_var 0) (ma_cons me_int ma_nil)))) ma_nil)))) (me_callTy cm_int (by rfl) T.int (by decide +kernel) (ma_cons (me_var 1) ma_nil)) (fun _ _ => rfl)))
      (mss_cons (ms_setLcF (i := 5) (own := [("_law_turn", 8)]) rfl nd rfl rfl (sw_true rfl rfl rfl (by decide +kernel)) (mi_range1 (by rfl) T.range (ma_cons (me_var 4) ma_nil)) (blkOk_by (own := [("_law_turn", 8)]) (N := NLRoom) (sc := defScope sLRoom) (by decide +kernel)) (fun _ _ _ _ _ => (mg_name (i := 8) nd rfl (Or.inl rfl))) (fun _ _ _ _ _ => mts_nil) (fun _ _ _ _ _ => (me_call rfl G2 D2 (Room.mono hr (by first | decide | omega)) (ma_cons (me_var 0) (ma_cons (me_var 6) (ma_cons (me_var 7) ma_nil))))))
      (mss_one (ms_ret (me_tup (ma_cons (me_var 2) (ma_cons (me_var 3) (ma_cons (me_callTy (cm_tuple rfl) (by rfl) T.tuple (by decide +kernel) (ma_cons (me_sortSetA alcF rfl rfl (Room.units hr) (by rfl) T.sorted (by rfl) T.set (me_var 5)) ma_nil)) ma_nil)))))))))))
abbrev sNumbersText : Stmt := top 3
abbrev NNumbersText : List Str := ["numbers", "number"]
abbrev PNumbersText : List Str := ["numbers"]
theorem scNumbersText : FnScope NNumbersText PNumbersText (defScope sNumbersText) := ⟨rfl, rfl, rfl, by decide +kernel, rfl, by decide +kernel, by decide +kernel⟩
set_option maxHeartbeats 4000000 in
theorem okNumbersText {P : Program} {w : World} {K : Ct} {mg : Str → Option Value} {base : Heap} {f : Addr} {fd : FuncData}  (T : Txt mg) {Pt : Addr} (hP : Pt ∈ K.Tb) (hbm : ∃ bm ob, PyProof.Rows.BMod base mainGlobals mg bm ob)  (F : Eb.FunT K.K "numbers_text" "numbers_text" sNumbersText f fd Pt) :
    FnOk P w K.K mg base CX0 (1 + 1) f fd PNumbersText (spM K 1 (den 2 bNumbersText)) :=
  fun_okT F scNumbersText fun c A outer s H E hkt hr => by
    have nd := scNumbersText.nd
    exact (mss_one (ms_ret (me_joinGen (own := [("number", 1)]) hP rfl nd me_str (by rfl) hkt hbm (Room.depth hr) (mi_seq rfl (me_var 0)) (blkOk_by (own := [("number", 1)]) (N := NNumbersText) (sc := defScope sNumbersText) (by decide +kernel)) (by decide +kernel) (by rfl) (by rfl) (fun _ _ _ _ _ _ => (mg_name (i := 1) nd rfl (Or.inl rfl))) (fun _ _ _ _ _ _ => mts_nil) (fun _ _ _ _ _ _ => (me_callTy (cm_str rfl (Room.units (Eb.Room.gen3 hr _)) (Room.guards (Eb.Room.gen3 hr _))) (by rfl) T.str (by decide +kernel) (ma_cons (me_var 1) ma_nil))))))
abbrev sKindOf : Stmt := top 1
abbrev NKindOf : List Str := ["wall", "a", "b", "c", "d"]
abbrev PKindOf : List Str := ["wall"]
theorem scKindOf : FnScope NKindOf PKindOf (defScope sKindOf) := ⟨rfl, rfl, rfl, by decide +kernel, rfl, by decide +kernel, by decide +kernel⟩
set_option maxHeartbeats 4000000 in
theorem okKindOf {P : Program} {w : World} {K : Ct} {mg : Str → Option Value} {base : Heap} {f : Addr} {fd : FuncData}  (T : Txt mg)  (F : Fun K.K "kind_of" "kind_of" sKindOf f fd) :
    FnOk P w K.K mg base CX0 (0 + 1) f fd PKindOf (spM K 1 (den 5 bKindOf)) :=
  fun_ok F scKindOf fun cdv A outer s H E hr => by
    have nd := scKindOf.nd
    exact (mss_cons (ms_asg (me_var 0) (mg_tup rfl rfl (mgs_cons (mg_name (i := 1) nd rfl (Or.inl rfl)) (mgs_cons (mg_name (i := 2) nd rfl (Or.inl rfl)) (mgs_cons (mg_name (i := 3) nd rfl (Or.inl rfl)) (mgs_cons (mg_name (i := 4) nd rfl (Or.inl rfl)) mgs_nil))))))
      (mss_cons (ms_if (MW.mt (mw_and (mt_cmp (om_eq rfl (Room.units hr)) (me_var 1) (me_var 3) (nomark _)) (mw_and1 (mt_cmp (om_eq rfl (Room.units hr)) (me_var 2) (me_var 4) (nomark _))))) (mss_one (ms_ret me_str)) mss_nil)
      (mss_cons (ms_if (MW.mt (mw_or (mt_cmp (om_eq rfl (Room.units hr)) (me_var 1) (me_var 3) (nomark _)) (mw_or1 (mt_cmp (om_eq rfl (Room.units hr)) (me_var 2) (me_var 4) (nomark _))))) (mss_one (ms_ret me_str)) mss_nil)
      (mss_one (ms_ret me_str)))))
abbrev sWallText : Stmt := top 4
abbrev NWallText : List Str := ["wall"]
abbrev PWallText : List Str := ["wall"]
theorem scWallText : FnScope NWallText PWallText (defScope sWallText) := ⟨rfl, rfl, rfl, by decide +kernel, rfl, by decide +kernel, by decide +kernel⟩
set_option maxHeartbeats 4000000 in
theorem okWallText {P : Program} {w : World} {K : Ct} {mg : Str → Option Value} {base : Heap} {f : Addr} {fd : FuncData} {a0 : Addr} {d0 : FuncData} {f0 : Fn} {a1 : Addr} {d1 : FuncData} {f1 : Fn} (T : Txt mg) (G0 : FnOk P w K.K mg base CX0 1 a0 d0 PKindOf (spM K 1 f0)) (D0 : Def K.K mg "kind_of" sKindOf PKindOf a0 d0) (G1 : FnOk P w K.K mg base CX0 2 a1 d1 PNumbersText (spM K 1 f1)) (D1 : Def K.K mg "numbers_text" sNumbersText PNumbersText a1 d1) (F : Fun K.K "wall_text" "wall_text" sWallText f fd) :
    FnOk P w K.K mg base CX0 (2 + 1) f fd PWallText (spM K 1 (den 1 (bWallText f0 f1))) :=
  fun_ok F scWallText fun cdv A outer s H E hr => by
    have nd := scWallText.nd
    exact (mss_cons (ms_if (mt_cmp (om_eq rfl (Room.units hr)) (me_call rfl G0 D0 (Room.mono hr (by first | decide | omega)) (ma_cons (me_var 0) ma_nil)) me_str (nomark _)) (mss_one (ms_ret (me_op (om_addA alcF rfl) me_str (me_call rfl G1 D1 (Room.mono hr (by first | decide | omega)) (ma_cons (me_sliceA alcF rfl (me_var 0) mo_none (mo_some me_int)) ma_nil))))) mss_nil)
      (mss_one (ms_ret (me_op (om_addA alcF rfl) me_str (me_call rfl G1 D1 (Room.mono hr (by first | decide | omega)) (ma_cons (me_var 0) ma_nil))))))
abbrev sRoomText : Stmt := top 5
abbrev NRoomText : List Str := ["room", "wall"]
abbrev PRoomText : List Str := ["room"]
theorem scRoomText : FnScope NRoomText PRoomText (defScope sRoomText) := ⟨rfl, rfl, rfl, by decide +kernel, rfl, by decide +kernel, by decide +kernel⟩
set_option maxHeartbeats 4000000 in
theorem okRoomText {P : Program} {w : World} {K : Ct} {mg : Str → Option Value} {base : Heap} {f : Addr} {fd : FuncData} {a0 : Addr} {d0 : FuncData} {f0 : Fn} {a1 : Addr} {d1 : FuncData} {f1 : Fn} (T : Txt mg) (G0 : FnOk P w K.K mg base CX0 2 a0 d0 PNumbersText (spM K 1 f0)) (D0 : Def K.K mg "numbers_text" sNumbersText PNumbersText a0 d0) (G1 : FnOk P w K.K mg base CX0 3 a1 d1 PWallText (spM K 1 f1)) (D1 : Def K.K mg "wall_text" sWallText PWallText a1 d1) (F : Fun K.K "room_text" "room_text" sRoomText f fd) :
    FnOk P w K.K mg base CX0 (3 + 1) f fd PRoomText (spM K 1 (den 2 (bRoomText f0 f1))) :=
  fun_ok F scRoomText fun cdv A outer s H E hr => by
    have nd := scRoomText.nd
    exact (mss_one (ms_ret (me_join rfl me_str (me_op (om_addA alcF rfl) (MF.meF (mf_lst (ma_cons (me_op (om_addA alcF rfl) me_str (me_call rfl G0 D0 (Room.mono hr (by first | decide | omega)) (ma_cons (me_sliceA alcF rfl (me_var 0) mo_none (mo_some me_int)) ma_nil))) ma_nil))) (MF.meF (mf_lc (own := [("wall", 1)]) rfl nd  (mi_seq rfl (me_ix rfl (me_var 0) me_int (fun _ _ => rfl))) (blkOk_by (own := [("wall", 1)]) (N := NRoomText) (sc := defScope sRoomText) (by decide +kernel)) (fun _ _ _ _ _ => (mg_name (i := 1) nd rfl (Or.inl rfl))) (fun _ _ _ _ _ => mts_nil) (fun _ _ _ _ _ => (me_call rfl G1 D1 (Room.mono hr (by first | decide | omega)) (ma_cons (me_var 1) ma_nil)))))))))
abbrev sLText : Stmt := top 13
abbrev NLText : List Str := ["_law_room_here", "_law_rows", "_law_a", "_law_b", "_law_c", "_law_d"]
abbrev PLText : List Str := ["_law_room_here"]
theorem scLText : FnScope NLText PLText (defScope sLText) := ⟨rfl, rfl, rfl, by decide +kernel, rfl, by decide +kernel, by decide +kernel⟩
set_option maxHeartbeats 4000000 in
theorem okLText {P : Program} {w : World} {K : Ct} {mg : Str → Option Value} {base : Heap} {f : Addr} {fd : FuncData}  (T : Txt mg)  (F : Fun K.K "_law_text" "_law_text" sLText f fd) :
    FnOk P w K.K mg base CX0 (0 + 1) f fd PLText (spM K 1 (den 6 bLText)) :=
  fun_ok F scLText fun cdv A outer s H E hr => by
    have nd := scLText.nd
    exact (mss_cons (ms_set (i := 1) nd rfl (Or.inl rfl) (me_lst (ma_cons (me_join rfl me_str (MF.meF (mf_lst (ma_cons me_str (ma_cons (me_callTy (cm_str rfl (Room.units hr) (Room.guards hr)) (by rfl) T.str (by decide +kernel) (ma_cons (me_ix rfl (me_var 0) me_int (fun _ _ => rfl)) ma_nil)) (ma_cons (me_callTy (cm_str rfl (Room.units hr) (Room.guards hr)) (by rfl) T.str (by decide +kernel) (ma_cons (me_ix rfl (me_var 0) me_int (fun _ _ => rfl)) ma_nil)) ma_nil)))))) ma_nil)))
      (mss_cons (ms_for PassesOwn.never rfl (mi_seq rfl (me_ix rfl (me_var 0) me_int (fun _ _ => rfl))) (mg_tup rfl rfl (mgs_cons (mg_name (i := 2) nd rfl (Or.inl rfl)) (mgs_cons (mg_name (i := 3) nd rfl (Or.inl rfl)) (mgs_cons (mg_name (i := 4) nd rfl (Or.inl rfl)) (mgs_cons (mg_name (i := 5) nd rfl (Or.inl rfl)) mgs_nil))))) (mss_one (ms_if (MW.mt (mw_and (mt_cmp (om_eq rfl (Room.units hr)) (me_var 2) (me_var 4) (nomark _)) (mw_and1 (mt_cmp (om_eq rfl (Room.units hr)) (me_var 3) (me_var 5) (nomark _))))) (mss_one (ms_expr (me_bm rfl PySem.F.slot_list_append PySem.F.type_list_append mm_append (me_var 1) (ma_cons (me_join rfl me_str (MF.meF (mf_lst (ma_cons me_str (ma_cons (me_callTy (cm_str rfl (Room.units hr) (Room.guards hr)) (by rfl) T.str (by decide +kernel) (ma_cons (me_var 2) ma_nil)) (ma_cons (me_callTy (cm_str rfl (Room.units hr) (Room.guards hr)) (by rfl) T.str (by decide +kernel) (ma_cons (me_var 3) ma_nil)) ma_nil)))))) ma_nil)))) (mss_one (ms_expr (me_bm rfl PySem.F.slot_list_append PySem.F.type_list_append mm_append (me_var 1) (ma_cons (me_join rfl me_str (MF.meF (mf_lst (ma_cons me_str (ma_cons (me_callTy (cm_str rfl (Room.units hr) (Room.guards hr)) (by rfl) T.str (by decide +kernel) (ma_cons (me_var 2) ma_nil)) (ma_cons (me_callTy (cm_str rfl (Room.units hr) (Room.guards hr)) (by rfl) T.str (by decide +kernel) (ma_cons (me_var 3) ma_nil)) (ma_cons (me_callTy (cm_str rfl (Room.units hr) (Room.guards hr)) (by rfl) T.str (by decide +kernel) (ma_cons (me_var 4) ma_nil)) (ma_cons (me_callTy (cm_str rfl (Room.units hr) (Room.guards hr)) (by rfl) T.str (by decide +kernel) (ma_cons (me_var 5) ma_nil)) ma_nil)))))))) ma_nil)))))))
      (mss_one (ms_ret (me_join rfl me_str (me_var 1))))))
abbrev sLaw : Stmt := top 14
abbrev NLaw : List Str := ["_law_script", "_law_k", "_law_tape_here", "_law_room_here", "_law_some", "_law_one", "_law_turn", "_law_found"]
abbrev PLaw : List Str := ["_law_script"]
theorem scLaw : FnScope NLaw PLaw (defScope sLaw) := ⟨rfl, rfl, rfl, by decide +kernel, rfl, by decide +kernel, by decide +kernel⟩
set_option maxHeartbeats 4000000 in
theorem okLaw {P : Program} {w : World} {K : Ct} {mg : Str → Option Value} {base : Heap} {f : Addr} {fd : FuncData} {a0 : Addr} {d0 : FuncData} {f0 : Fn} {a1 : Addr} {d1 : FuncData} {f1 : Fn} {a2 : Addr} {d2 : FuncData} {f2 : Fn} {a3 : Addr} {d3 : FuncData} {f3 : Fn} {a4 : Addr} {d4 : FuncData} {f4 : Fn} (T : Txt mg) (G0 : FnOk P w K.K mg base CX0 2 a0 d0 PLTape (spM K 2 f0)) (D0 : Def K.K mg "_law_tape" sLTape PLTape a0 d0) (G1 : FnOk P w K.K mg base CX0 3 a1 d1 PLRoom (spM K 2 f1)) (D1 : Def K.K mg "_law_room" sLRoom PLRoom a1 d1) (G2 : FnOk P w K.K mg base CX0 1 a2 d2 PLTake (spM K 2 f2)) (D2 : Def K.K mg "_law_take" sLTake PLTake a2 d2) (G3 : FnOk P w K.K mg base CX0 4 a3 d3 PRoomText (spM K 1 f3)) (D3 : Def K.K mg "room_text" sRoomText PRoomText a3 d3) (G4 : FnOk P w K.K mg base CX0 1 a4 d4 PLText (spM K 1 f4)) (D4 : Def K.K mg "_law_text" sLText PLText a4 d4) (F : Fun K.K "law" "law" sLaw f fd) :
    FnOk P w K.K mg base CX0 (4 + 1) f fd PLaw (spM K 1 (den 8 (bLaw f0 f1 f2 f3 f4))) :=
  fun_ok F scLaw fun cdv A outer s H E hr => by
    have nd := scLaw.nd
    exact (mss_cons (ms_for PassesOwn.never rfl (mi_range1 (by rfl) T.range (ma_cons (me_callB (cm_max2 rfl) (by rfl) T.max (by decide +kernel) (ma_cons me_int (ma_cons (me_callB (cm_min2 rfl) (by rfl) T.min (by decide +kernel) (ma_cons (me_callB (cm_len rfl) (by rfl) T.len (by decide +kernel) (ma_cons (me_var 0) ma_nil)) (ma_cons me_int ma_nil))) ma_nil))) ma_nil)) (mg_name (i := 1) nd rfl (Or.inl rfl)) (mss_cons (ms_set (i := 2) nd rfl (Or.inl rfl) (me_call rfl (FnOk.gc G0) D0 (Room.mono hr (by first | decide | omega)) (ma_cons (me_var 0) (ma_cons (me_var 1) ma_nil))))
      (mss_cons (ms_set (i := 3) nd rfl (Or.inl rfl) (me_call rfl G1 D1 (Room.mono hr (by first | decide | omega)) (ma_cons (me_var 2) (ma_cons (me_cmp (om_eq rfl (Room.units hr)) (me_call rfl G2 D2 (Room.mono hr (by first | decide | omega)) (ma_cons (me_var 2) (ma_cons me_int ma_nil))) me_int (nomark _)) ma_nil))))
      (mss_cons (ms_set (i := 4) nd rfl (Or.inl rfl) (MF.meF (mf_lst (ma_cons (me_var 3) (ma_cons (me_tup (ma_cons (me_ix rfl (me_var 3) me_int (fun _ _ => rfl)) (ma_cons (me_ix rfl (me_var 3) me_int (fun _ _ => rfl)) (ma_cons (me_tup ma_nil) ma_nil)))) (ma_cons (me_tup (ma_cons (me_op om_pow me_int me_int) (ma_cons (me_ix rfl (me_var 3) me_int (fun _ _ => rfl)) (ma_cons (me_ix rfl (me_var 3) me_int (fun _ _ => rfl)) ma_nil)))) (ma_cons (me_tup (ma_cons (me_ix rfl (me_var 3) me_int (fun _ _ => rfl)) (ma_cons (me_op om_pow me_int me_int) (ma_cons (me_ix rfl (me_var 3) me_int (fun _ _ => rfl)) ma_nil)))) ma_nil)))))))
      (mss_one (ms_for PassesOwn.never rfl (mi_seq rfl (me_var 4)) (mg_name (i := 5) nd rfl (Or.inl rfl)) (mss_one (ms_for PassesOwn.never rfl (mi_range1 (by rfl) T.range (ma_cons me_int ma_nil)) (mg_name (i := 6) nd rfl (Or.inl rfl)) (mss_cons (ms_set (i := 7) nd rfl (Or.inl rfl) (me_call rfl G3 D3 (Room.mono hr (by first | decide | omega)) (ma_cons (me_var 5) ma_nil)))
      (mss_one (ms_if (MW.mt (mw_or (mt_not (mt_truth rfl (me_isi "str" (by decide) rfl (by rfl) T.isinstance (by rfl) T.str (by decide +kernel) (me_var 7)))) (mw_or1 (mt_cmp (om_ne rfl (Room.units hr)) (me_var 7) (me_callF rfl G4 D4 (Room.mono hr (by first | decide | omega)) (ma_cons (me_var 5) ma_nil)) (nomark _))))) (mss_one (ms_ret me_bl)) mss_nil)))))))))))
      (mss_one (ms_ret me_bl)))
end Em
set_option Elab.async false
set_option maxRecDepth 100000
set_option linter.all false
namespace Em
open PySem L2
def sI (i : Int) : Str := Str.ofString (toString i)
def Nb (i : Int) : Prop := i.natAbs < 10 ^ 21
theorem sI_len {i : Int} (h : Nb i) : (sI i).length ≤ 30 := by
  have e := int_text_length_le10 (k := 21) (by decide) h
  unfold sI
  rw [ofString_length]
  omega
theorem str_run {i : Int} (h : Nb i) (S : Store) : strC [.int i] S = some (.str (sI i), S) := by
  have hl : i.natAbs.log2 < 1920 := by
    by_cases z : i.natAbs = 0
    · rw [z]; decide
    · have e : (10 : Nat) ^ 21 < 2 ^ 100 := by decide
      have := (Nat.log2_lt z).mpr (Nat.lt_trans h e)
      omega
  unfold strC
  simp only [hl, if_true]
  rfl
theorem sum_le : ∀ {ys : List Str} {b : Nat}, (∀ y ∈ ys, y.length ≤ b) → (ys.map (·.length)).sum ≤ ys.length * b
  | [], _, _ => by simp
  | y :: ys, b, h => by
    have := sum_le fun z hz => h z (.tail _ hz)
    have := h y (.head _)
    rw [List.map_cons, List.sum_cons, List.length_cons, Nat.succ_mul]
    omega
theorem fold_pre (s : Array Nat) : ∀ (r : List Str) (A B : Array Nat), r.foldl (fun acc p => acc ++ s ++ p.cps) (A ++ B) = A ++ r.foldl (fun acc p => acc ++ s ++ p.cps) B
  | [], _, _ => rfl
  | p :: r, A, B => by
    rw [List.foldl_cons, List.foldl_cons, ← fold_pre s r A]
    congr 1
    simp [Array.append_assoc]
theorem join_two (a x y : Str) (r : List Str) : Txt.join a (x :: y :: r) = x ++ a ++ Txt.join a (y :: r) := by
  show Builtin.Str.glued a (x :: y :: r) = x ++ a ++ Builtin.Str.glued a (y :: r)
  rw [Builtin.Str.glued.eq_1, Builtin.Str.glued.eq_1]
  show (⟨(y :: r).foldl (fun acc p => acc ++ a.cps ++ p.cps) x.cps⟩ : Str) = ⟨x.cps ++ a.cps ++ r.foldl (fun acc p => acc ++ a.cps ++ p.cps) y.cps⟩
  rw [List.foldl_cons, fold_pre a.cps r (x.cps ++ a.cps) y.cps]
abbrev sp1 : Str := " "
abbrev nl1 : Str := "\n"
theorem numbers_run {ns : List Int} (h : ∀ i ∈ ns, Nb i) (hl : ns.length ≤ 1000) (S : Store) : fNumbersText [.tup (ns.map .int)] S = some (.str (Txt.join sp1 (ns.map sI)), S) := by
  have c : compL ⟨ns.map M.int, []⟩ (gN 1) mYes bNumbersText_e1 [some (.tup (ns.map .int)), none] (ns.map M.int) S = some ((ns.map sI).map M.str, S) := by
    rw [List.map_map]
    exact compL_map (w := ⟨ns.map M.int, []⟩) (kept_nil _ _) M.int (fun i => M.str (sI i)) ns fun i hi => ⟨[some (.tup (ns.map .int)), some (.int i)], rfl, by
      have e := str_run (h i hi) S
      simp [bNumbersText_e1, e]⟩
  have b : ∀ y ∈ ns.map sI, y.length ≤ 30 := fun y hy => by
    obtain ⟨i, hi, rfl⟩ := List.mem_map.mp hy
    exact sI_len (h i hi)
  have s := sum_le b
  have l1 : sp1.length = 1 := by decide +kernel
  have j := joinL_ap (a := sp1) (ys := ns.map sI) (by rw [l1]; rw [List.length_map] at *; omega) (by rw [List.length_map]; omega) S
  generalize (ns.map sI).map M.str = Y at *
  generalize ns.map M.int = Z at *
  simp [fNumbersText, bNumbersText, startM, c, j]
/-- a wall's row -/
def ptS : Str := "point "
def wlS : Str := "wall "
def rmS : Str := "room "
def isPt (w : Bx) : Prop := w.l = w.r ∧ w.b = w.t
instance (w : Bx) : Decidable (isPt w) := inferInstanceAs (Decidable (_ ∧ _))
def wT (w : Bx) : Str := if isPt w then ptS ++ Txt.join sp1 [sI w.l, sI w.b] else wlS ++ Txt.join sp1 [sI w.l, sI w.b, sI w.r, sI w.t]
def NbB (w : Bx) : Prop := Nb w.l ∧ Nb w.b ∧ Nb w.r ∧ Nb w.t
theorem join_len {a : Str} {ys : List Str} {b : Nat} (h : ∀ y ∈ ys, y.length ≤ b) : (Txt.join a ys).length ≤ ys.length * b + ys.length * a.length := by
  show (Builtin.Str.glued a ys).length ≤ _
  rw [size_glued]
  have := sum_le h
  have : (ys.length - 1) * a.length ≤ ys.length * a.length := Nat.mul_le_mul_right _ (by omega)
  omega
theorem app_len (x y : Str) : (x ++ y).length = x.length + y.length := by
  show (x.cps ++ y.cps).size = _
  rw [Array.size_append]
  rfl
theorem l1 : sp1.length = 1 := by decide +kernel
theorem lp : ptS.length = 6 := by decide +kernel
theorem lw : wlS.length = 5 := by decide +kernel
theorem lr : rmS.length = 5 := by decide +kernel
theorem wT_len {w : Bx} (h : NbB w) : (wT w).length ≤ 200 := by
  obtain ⟨a, b, c, d⟩ := h
  have e1 := join_len (a := sp1) (ys := [sI w.l, sI w.b]) (b := 30) (by simp [sI_len a, sI_len b])
  have e2 := join_len (a := sp1) (ys := [sI w.l, sI w.b, sI w.r, sI w.t]) (b := 30) (by simp [sI_len a, sI_len b, sI_len c, sI_len d])
  rw [l1] at e1 e2
  simp at e1 e2
  unfold wT
  split
  · rw [app_len, lp]; omega
  · rw [app_len, lw]; omega
theorem add_str {x y : Str} (h : x.length + y.length ≤ 1000000) (S : Store) : addA newF (.str x) (.str y) S = some (.str (x ++ y), S) := by
  have : x.length + y.length ≤ sizeLine := by rw [sizeLine_eq]; omega
  simp [addA, this]
theorem wall_run {w : Bx} (h : NbB w) (S : Store) : fWallText [tB w] S = some (.str (wT w), S) := by
  obtain ⟨a, b, c, d⟩ := id h
  have e1 := kindOf_run w S
  have e2 := numbers_run (ns := [w.l, w.b]) (by simp [a, b]) (by simp) S
  have e3 := numbers_run (ns := [w.l, w.b, w.r, w.t]) (by simp [a, b, c, d]) (by simp) S
  have e2 : fNumbersText [.tup [.int w.l, .int w.b]] S = some (.str (Txt.join sp1 [sI w.l, sI w.b]), S) := e2
  have e3 : fNumbersText [tB w] S = some (.str (Txt.join sp1 [sI w.l, sI w.b, sI w.r, sI w.t]), S) := e3
  have j1 := join_len (a := sp1) (ys := [sI w.l, sI w.b]) (b := 30) (by simp [sI_len a, sI_len b])
  have j2 := join_len (a := sp1) (ys := [sI w.l, sI w.b, sI w.r, sI w.t]) (b := 30) (by simp [sI_len a, sI_len b, sI_len c, sI_len d])
  rw [l1] at j1 j2
  simp at j1 j2
  have a1 := add_str (x := ptS) (y := Txt.join sp1 [sI w.l, sI w.b]) (by rw [lp]; omega) S
  have a2 := add_str (x := wlS) (y := Txt.join sp1 [sI w.l, sI w.b, sI w.r, sI w.t]) (by rw [lw]; omega) S
  have cw : cutM [M.int w.l, M.int w.b, M.int w.r, M.int w.t] none (some 2) = [M.int w.l, M.int w.b] := cut_take _ 2
  have q : eqM (kM (kindB w)) (.str ("point" : Str)) S = some (.bl (decide (isPt w)), S) := by
    show some (M.bl (decide ((kindB w).s = ("point" : Str))), S) = _
    have : decide ((kindB w).s = ("point" : Str)) = decide (isPt w) := by
      unfold kindB
      by_cases h1 : isPt w
      · rw [if_pos (show w.l = w.r ∧ w.b = w.t from h1), decide_eq_true h1]; decide +kernel
      · rw [if_neg (show ¬ (w.l = w.r ∧ w.b = w.t) from h1), decide_eq_false h1]
        split <;> decide +kernel
    rw [this]
  unfold wT
  by_cases hp : isPt w
  · rw [if_pos hp]
    rw [decide_eq_true hp] at q
    have a1 : addA newF (.str ("point " : Str)) (.str (Txt.join sp1 [sI w.l, sI w.b])) S = some (.str (ptS ++ Txt.join sp1 [sI w.l, sI w.b]), S) := a1
    generalize ptS ++ Txt.join sp1 [sI w.l, sI w.b] = R at *
    generalize Txt.join sp1 [sI w.l, sI w.b] = J at *
    simp [fWallText, bWallText, startM, e1, q, cw, e2, a1]
  · rw [if_neg hp]
    rw [decide_eq_false hp] at q
    have a2 : addA newF (.str ("wall " : Str)) (.str (Txt.join sp1 [sI w.l, sI w.b, sI w.r, sI w.t])) S = some (.str (wlS ++ Txt.join sp1 [sI w.l, sI w.b, sI w.r, sI w.t]), S) := a2
    generalize wlS ++ Txt.join sp1 [sI w.l, sI w.b, sI w.r, sI w.t] = R at *
    generalize Txt.join sp1 [sI w.l, sI w.b, sI w.r, sI w.t] = J at *
    simp [fWallText, bWallText, startM, e1, q, e3, a2]
theorem join_pre (x y z : Str) (r : List Str) (e : x ++ sp1 = z) : Txt.join sp1 (x :: y :: r) = z ++ Txt.join sp1 (y :: r) := by rw [join_two, e]
theorem pre_r : ("room" : Str) ++ sp1 = rmS := by decide +kernel
theorem pre_p : ("point" : Str) ++ sp1 = ptS := by decide +kernel
theorem pre_w : ("wall" : Str) ++ sp1 = wlS := by decide +kernel
def rT0 (W H : Int) : Str := rmS ++ Txt.join sp1 [sI W, sI H]
def rowsT (W H : Int) (ws : List Bx) : List Str := rT0 W H :: ws.map wT
theorem rT0_len {W H : Int} (a : Nb W) (b : Nb H) : (rT0 W H).length ≤ 200 := by
  have e1 := join_len (a := sp1) (ys := [sI W, sI H]) (b := 30) (by simp [sI_len a, sI_len b])
  rw [l1] at e1
  simp at e1
  unfold rT0
  rw [app_len, lr]
  omega
structure RmN (W H : Int) (ws : List Bx) : Prop where
  w : Nb W
  h : Nb H
  wl : ∀ w ∈ ws, NbB w
  len : ws.length ≤ 1000
theorem RmN.joins {W H : Int} {ws : List Bx} (h : RmN W H ws) (S : Store) : joinL nl1 ((rowsT W H ws).map M.str) S = some (.str (Txt.join nl1 (rowsT W H ws)), S) := by
  have b : ∀ y ∈ rowsT W H ws, y.length ≤ 200 := fun y hy => by
    rcases List.mem_cons.mp hy with rfl | hy
    · exact rT0_len h.w h.h
    · obtain ⟨w, hw, rfl⟩ := List.mem_map.mp hy
      exact wT_len (h.wl w hw)
  have s := sum_le b
  have ll : (rowsT W H ws).length ≤ 1001 := by
    have := h.len
    simp [rowsT]
    omega
  have ln : nl1.length = 1 := by decide +kernel
  exact joinL_ap (by rw [ln]; omega) (by omega) S
theorem roomText_run {W H : Int} {ws : List Bx} (h : RmN W H ws) (S : Store) : fRoomText [roomB W H ws] S = some (.str (Txt.join nl1 (rowsT W H ws)), S) := by
  have e1 := numbers_run (ns := [W, H]) (by simp [h.w, h.h]) (by simp) S
  have e1 : fNumbersText [.tup [.int W, .int H]] S = some (.str (Txt.join sp1 [sI W, sI H]), S) := e1
  have j1 := join_len (a := sp1) (ys := [sI W, sI H]) (b := 30) (by simp [sI_len h.w, sI_len h.h])
  rw [l1] at j1
  simp at j1
  have a1 : addA newF (.str ("room " : Str)) (.str (Txt.join sp1 [sI W, sI H])) S = some (.str (rT0 W H), S) := add_str (x := rmS) (y := Txt.join sp1 [sI W, sI H]) (by rw [lr]; omega) S
  have hl := h.len
  have c1 : compL ⟨ws.map tB, []⟩ (gN 1) mYes (bRoomText_e1 fNumbersText fWallText) [some (roomB W H ws), none] (ws.map tB) S = some (ws.map (fun w => M.str (wT w)), S) :=
    compL_map (w := ⟨ws.map tB, []⟩) (kept_nil _ _) tB _ _ fun w hw => ⟨[some (roomB W H ws), some (tB w)], rfl, by
      have e := wall_run (h.wl w hw) S
      simp [bRoomText_e1, e]⟩
  have n0 : newF [.str (rT0 W H)] S = some (.fz [.str (rT0 W H)], S) := newF_ap (by simp) S
  have n1 : newF (ws.map (fun w => M.str (wT w))) S = some (.fz (ws.map (fun w => M.str (wT w))), S) := newF_ap (by rw [List.length_map]; omega) S
  have em : M.str (rT0 W H) :: ws.map (fun w => M.str (wT w)) = (rowsT W H ws).map M.str := by simp [rowsT]
  have n2 : newF (M.str (rT0 W H) :: ws.map (fun w => M.str (wT w))) S = some (.fz ((rowsT W H ws).map M.str), S) := by
    rw [em]
    exact newF_ap (by simp [rowsT]; omega) S
  have j2 : joinC nl1 (.fz ((rowsT W H ws).map M.str)) S = some (.str (Txt.join nl1 (rowsT W H ws)), S) := h.joins S
  have cw : cutM [M.int W, M.int H, .tup (ws.map tB)] none (some 2) = [M.int W, M.int H] := cut_take _ 2
  generalize Txt.join nl1 (rowsT W H ws) = R at *
  generalize (rowsT W H ws).map M.str = Y at *
  generalize ws.map (fun w => M.str (wT w)) = Z at *
  generalize rT0 W H = r0 at *
  generalize Txt.join sp1 [sI W, sI H] = J at *
  simp [fRoomText, bRoomText, startM, cw, e1, a1, n0, c1, n1, n2, j2]
theorem row_join {a : Str} {ys : List Str} (hb : ∀ y ∈ ys, y.length ≤ 30) (hl : ys.length ≤ 10) (S : Store) : joinC sp1 (.fz (ys.map M.str)) S = some (.str (Txt.join sp1 ys), S) := by
  have s := sum_le hb
  exact joinL_ap (by rw [l1]; omega) (by omega) S
theorem step_run {W H : Int} {ws : List Bx} {w : Bx} (h : NbB w) {S : Store} {rs : List Str} (hl : rs.length ≤ 2000) (v2 v3 v4 v5 : Option M) : bLText_f1 [some (roomB W H ws), some (.loc S.length), some (.int w.l), some (.int w.b), some (.int w.r), some (.int w.t)] (S ++ [Ob.lst (rs.map M.str)]) = some (.nx [some (roomB W H ws), some (.loc S.length), some (.int w.l), some (.int w.b), some (.int w.r), some (.int w.t)], S ++ [Ob.lst ((rs ++ [wT w]).map M.str)]) := by
  obtain ⟨a, b, c, d⟩ := id h
  have ll := lstAt_last S (rs.map M.str)
  have ap : ∀ v, appendC (.loc S.length) [v] (S ++ [Ob.lst (rs.map M.str)]) = some (.non, S ++ [Ob.lst (rs.map M.str ++ [v])]) := fun v => by
    have := appendC_ap ll (by rw [List.length_map]; omega) v
    rw [set_last] at this
    exact this
  have s1 := fun S => str_run a S
  have s2 := fun S => str_run b S
  have s3 := fun S => str_run c S
  have s4 := fun S => str_run d S
  have lpt : ("point" : Str).length ≤ 30 := by decide +kernel
  have lwl : ("wall" : Str).length ≤ 30 := by decide +kernel
  have an : mAndT (mB (mOp eqM (mVar 2) (mVar 4))) (mB (mOp eqM (mVar 3) (mVar 5))) [some (roomB W H ws), some (.loc S.length), some (.int w.l), some (.int w.b), some (.int w.r), some (.int w.t)] (S ++ [Ob.lst (rs.map M.str)]) = some (decide (isPt w), S ++ [Ob.lst (rs.map M.str)]) := by
    generalize S ++ [Ob.lst (rs.map M.str)] = T at *
    by_cases h1 : w.l = w.r
    · by_cases h2 : w.b = w.t
      · rw [decide_eq_true (show isPt w from ⟨h1, h2⟩)]
        simp [h1, h2]
      · rw [decide_eq_false (show ¬ isPt w from fun z => h2 z.2)]
        simp [h1, h2]
    · rw [decide_eq_false (show ¬ isPt w from fun z => h1 z.1)]
      simp [h1]
  have em : S ++ [Ob.lst ((rs ++ [wT w]).map M.str)] = S ++ [Ob.lst (rs.map M.str ++ [.str (wT w)])] := by simp
  rw [em]
  by_cases hp : isPt w
  · have j := fun S => row_join (a := sp1) (ys := ["point", sI w.l, sI w.b]) (by simp [sI_len a, sI_len b, lpt]) (by simp) S
    have e : Txt.join sp1 ["point", sI w.l, sI w.b] = wT w := by
      unfold wT
      rw [if_pos hp]
      exact join_pre _ _ _ _ pre_p
    rw [e] at j
    have j : ∀ S, joinC sp1 (.fz [.str ("point" : Str), .str (sI w.l), .str (sI w.b)]) S = some (.str (wT w), S) := j
    have n : ∀ S, newF [.str ("point" : Str), .str (sI w.l), .str (sI w.b)] S = some (.fz [.str ("point" : Str), .str (sI w.l), .str (sI w.b)], S) := fun S => newF_ap (by simp) S
    have ap1 := ap (.str (wT w))
    clear ap
    rw [decide_eq_true hp] at an
    generalize S ++ [Ob.lst (rs.map M.str ++ [.str (wT w)])] = T2 at *
    generalize wT w = x at *
    generalize S ++ [Ob.lst (rs.map M.str)] = T at *
    generalize rs.map M.str = Y at *
    simp [bLText_f1, -mAndT_ap, an, s1, s2, s3, s4, n, j, ll, ap1]
  · have j := fun S => row_join (a := sp1) (ys := ["wall", sI w.l, sI w.b, sI w.r, sI w.t]) (by simp [sI_len a, sI_len b, sI_len c, sI_len d, lwl]) (by simp) S
    have e : Txt.join sp1 ["wall", sI w.l, sI w.b, sI w.r, sI w.t] = wT w := by
      unfold wT
      rw [if_neg hp]
      exact join_pre _ _ _ _ pre_w
    rw [e] at j
    have j : ∀ S, joinC sp1 (.fz [.str ("wall" : Str), .str (sI w.l), .str (sI w.b), .str (sI w.r), .str (sI w.t)]) S = some (.str (wT w), S) := j
    have n : ∀ S, newF [.str ("wall" : Str), .str (sI w.l), .str (sI w.b), .str (sI w.r), .str (sI w.t)] S = some (.fz [.str ("wall" : Str), .str (sI w.l), .str (sI w.b), .str (sI w.r), .str (sI w.t)], S) := fun S => newF_ap (by simp) S
    have ap1 := ap (.str (wT w))
    clear ap
    rw [decide_eq_false hp] at an
    generalize S ++ [Ob.lst (rs.map M.str ++ [.str (wT w)])] = T2 at *
    generalize wT w = x at *
    generalize S ++ [Ob.lst (rs.map M.str)] = T at *
    generalize rs.map M.str = Y at *
    simp [bLText_f1, -mAndT_ap, an, s1, s2, s3, s4, n, j, ll, ap1]
theorem ltext_run {W H : Int} {ws : List Bx} (h : RmN W H ws) (S : Store) : fzF fLText [roomB W H ws] S = some (.str (Txt.join nl1 (rowsT W H ws)), S) := by
  have hl := h.len
  have lrm : ("room" : Str).length ≤ 30 := by decide +kernel
  have j0 := row_join (a := sp1) (ys := ["room", sI W, sI H]) (by simp [sI_len h.w, sI_len h.h, lrm]) (by simp) S
  have e0 : Txt.join sp1 ["room", sI W, sI H] = rT0 W H := join_pre _ _ _ _ pre_r
  rw [e0] at j0
  have j0 : joinC sp1 (.fz [.str ("room" : Str), .str (sI W), .str (sI H)]) S = some (.str (rT0 W H), S) := j0
  have n0 : newF [.str ("room" : Str), .str (sI W), .str (sI H)] S = some (.fz [.str ("room" : Str), .str (sI W), .str (sI H)], S) := newF_ap (by simp) S
  have s1 := fun S => str_run h.w S
  have s2 := fun S => str_run h.h S
  have nL : newL [.str (rT0 W H)] S = some (.loc S.length, S ++ [Ob.lst ([rT0 W H].map M.str)]) := newL_ap (by simp) S
  obtain ⟨σ', S', e2, ⟨v2, v3, v4, v5, rfl⟩, hS⟩ := forL_ok (w := ⟨ws.map tB, []⟩) (g := gT 4 (gsCons (gN 2) (gsCons (gN 3) (gsCons (gN 4) (gsCons (gN 5) gsNil))))) (mb := bLText_f1)
    (fun i σ S' => (∃ v2 v3 v4 v5 : Option M, σ = [some (roomB W H ws), some (.loc S.length), v2, v3, v4, v5]) ∧ S' = S ++ [Ob.lst ((rT0 W H :: (ws.take i).map wT).map M.str)]) (fun _ _ S' _ => kept_nil _ _) (ws.map tB) 0 [some (roomB W H ws), some (.loc S.length), none, none, none, none] (S ++ [Ob.lst ([rT0 W H].map M.str)])
    ⟨⟨_, _, _, _, rfl⟩, rfl⟩ fun j y σ S1 hy ⟨⟨v2, v3, v4, v5, hσ⟩, hS⟩ => by
      subst hσ
      rw [Nat.zero_add] at hS ⊢
      subst hS
      rw [List.getElem?_map] at hy
      obtain ⟨w, hw, rfl⟩ := Option.map_eq_some_iff.mp hy
      have hj := (List.getElem?_eq_some_iff.mp hw).1
      refine ⟨[some (roomB W H ws), some (.loc S.length), some (.int w.l), some (.int w.b), some (.int w.r), some (.int w.t)], _, rfl, _, _, step_run (h.wl w (List.mem_of_getElem? hw)) (by simp; omega) none none none none, ⟨_, _, _, _, rfl⟩, ?_⟩
      have e : ws.take (j + 1) = ws.take j ++ [w] := by
        rw [List.take_succ_eq_append_getElem hj]
        rw [List.getElem?_eq_getElem hj] at hw
        cases hw
        rfl
      simp [e]
  rw [Nat.zero_add, List.length_map, List.take_length] at hS
  subst hS
  have ll : lstAt (S ++ [Ob.lst ((rowsT W H ws).map M.str)]) S.length = some ((rowsT W H ws).map M.str) := lstAt_last _ _
  have jn : joinC nl1 (.loc S.length) (S ++ [Ob.lst ((rowsT W H ws).map M.str)]) = some (.str (Txt.join nl1 (rowsT W H ws)), S ++ [Ob.lst ((rowsT W H ws).map M.str)]) := by
    have e : seqOf (S ++ [Ob.lst ((rowsT W H ws).map M.str)]) (.loc S.length) = some ((rowsT W H ws).map M.str) := ll
    unfold joinC
    rw [e]
    exact h.joins _
  have raw : fLText [roomB W H ws] S = some (.str (Txt.join nl1 (rowsT W H ws)), S ++ [Ob.lst ((rowsT W H ws).map M.str)]) := by
    replace e2 : forL ⟨ws.map tB, []⟩ (gT 4 (gsCons (gN 2) (gsCons (gN 3) (gsCons (gN 4) (gsCons (gN 5) gsNil))))) bLText_f1 (ws.map tB) [some (roomB W H ws), some (.loc S.length), none, none, none, none] (S ++ [Ob.lst ([rT0 W H].map M.str)]) = some (.nx [some (roomB W H ws), some (.loc S.length), v2, v3, v4, v5], S ++ [Ob.lst ((rowsT W H ws).map M.str)]) := e2
    generalize Txt.join nl1 (rowsT W H ws) = R at *
    generalize S ++ [Ob.lst ((rowsT W H ws).map M.str)] = T at *
    generalize S ++ [Ob.lst ([rT0 W H].map M.str)] = T0 at *
    generalize rT0 W H = r0 at *
    simp [fLText, bLText, startM, s1, s2, n0, j0, nL, e2, jn]
  have := fzF_pure raw (Gc.app _ _) trivial
  rwa [List.take_left] at this
noncomputable abbrev aF1 := bLaw_f1 fLTape fLRoom fLTake fRoomText fLText
noncomputable abbrev aF2 := bLaw_f2 fLTape fLRoom fLTake fRoomText fLText
noncomputable abbrev aF3 := bLaw_f3 fLTape fLRoom fLTake fRoomText fLText
theorem one_run {W H : Int} {ws : List Bx} (h : RmN W H ws) (x0 x1 x2 x3 x4 : Option M) (v6 v7 : Option M) (S : Store) : ∃ w6 w7, aF2 [x0, x1, x2, x3, x4, some (roomB W H ws), v6, v7] S = some (.nx [x0, x1, x2, x3, x4, some (roomB W H ws), w6, w7], S) := by
  have e1 := roomText_run h S
  have e2 := ltext_run h S
  generalize Txt.join nl1 (rowsT W H ws) = R at *
  have q : neM (.str R) (.str R) S = some (.bl false, S) := by
    show some (M.bl (!decide (R = R)), S) = _
    rw [decide_eq_true rfl]
    rfl
  have st : ∀ u6 u7, aF1 [x0, x1, x2, x3, x4, some (roomB W H ws), u6, u7] S = some (.nx [x0, x1, x2, x3, x4, some (roomB W H ws), u6, some (.str R)], S) := fun u6 u7 => by
    simp [aF1, bLaw_f1, e1, e2, q, isiB]
  have r : mRng1 (aCons (mC (.int 2)) aNil) [x0, x1, x2, x3, x4, some (roomB W H ws), v6, v7] S = some (wkR 0 2, S) := rng_nat (n := 2) (by simp) (by omega)
  have f : forL (wkR 0 2) (gN 6) aF1 (wkR 0 2).xs [x0, x1, x2, x3, x4, some (roomB W H ws), v6, v7] S = some (.nx [x0, x1, x2, x3, x4, some (roomB W H ws), some (.int 1), some (.str R)], S) := by
    rw [wkR_xs]
    show forL (wkR 0 2) (gN 6) aF1 [M.int 0, M.int 1] _ S = _
    rw [forL_step (wkR_kept _ _ _) rfl (st _ _), forL_step (wkR_kept _ _ _) rfl (st _ _), forL_done (wkR_kept _ _ _)]
  exact ⟨some (.int 1), some (.str R), by simp [aF2, bLaw_f2, -mRng1_ap, r, f]⟩
theorem nb_of {i : Int} (h0 : 0 ≤ i) (h1 : i ≤ 1000020) : Nb i := by
  unfold Nb
  have : i.natAbs ≤ 1000020 := by omega
  exact Nat.lt_of_le_of_lt this (by decide)
theorem turn_run (ns : List Int) (k : Nat) (v2 v3 v4 v5 v6 v7 : Option M) (S : Store) : ∃ w2 w3 w4 w5 w6 w7 S',
    aF3 [some (.ro ns), some (.int (k : Int)), v2, v3, v4, v5, v6, v7] S = some (.nx [some (.ro ns), some (.int (k : Int)), w2, w3, w4, w5, w6, w7], S') := by
  obtain ⟨o, ho, e0⟩ := tape_run ns k S
  have t0 := Tape.new (S := S) ho
  obtain ⟨x, S1, e1, x0, x1, d1⟩ := take_run (m := 8) t0 (by omega) (by decide) (by decide)
  obtain ⟨W, H, ws, S2, e2, rm, mk, _, h30, _, _, d2⟩ := room_run d1.tp (by omega) (decide (x = 0))
  have w1 := rm.w1
  have w2 := rm.w2
  have h1 := rm.h1
  have h2 := rm.h2
  have nw : Nb W := nb_of (by omega) (by omega)
  have nh : Nb H := nb_of (by omega) (by omega)
  have nm : Nb 1000000 := nb_of (by decide) (by decide)
  have nb : ∀ w ∈ ws, NbB w := fun w hw => by
    have := rm.walls w hw
    exact ⟨nb_of (by omega) (by omega), nb_of (by omega) (by omega), nb_of (by omega) (by omega), nb_of (by omega) (by omega)⟩
  have r1 : RmN W H ws := ⟨nw, nh, nb, by omega⟩
  have r2 : RmN W H [] := ⟨nw, nh, (fun w hw => by cases hw), by simp⟩
  have r3 : RmN 1000000 H ws := ⟨nm, nh, nb, by omega⟩
  have r4 : RmN W 1000000 ws := ⟨nw, nm, nb, by omega⟩
  have pw : ∀ S, powM (.int 10) (.int 6) S = some (.int 1000000, S) := fun S => rfl
  have n4 : newF [roomB W H ws, roomB W H [], roomB 1000000 H ws, roomB W 1000000 ws] S2 = some (.fz [roomB W H ws, roomB W H [], roomB 1000000 H ws, roomB W 1000000 ws], S2) := newF_ap (by simp) S2
  let F : Option M := some (.fz [roomB W H ws, roomB W H [], roomB 1000000 H ws, roomB W 1000000 ws])
  obtain ⟨a6, a7, f1⟩ := one_run r1 (some (.ro ns)) (some (.int (k : Int))) (some (.loc S.length)) (some (roomB W H ws)) F v6 v7 S2
  obtain ⟨b6, b7, f2⟩ := one_run r2 (some (.ro ns)) (some (.int (k : Int))) (some (.loc S.length)) (some (roomB W H ws)) F a6 a7 S2
  obtain ⟨c6, c7, f3⟩ := one_run r3 (some (.ro ns)) (some (.int (k : Int))) (some (.loc S.length)) (some (roomB W H ws)) F b6 b7 S2
  obtain ⟨g6, g7, f4⟩ := one_run r4 (some (.ro ns)) (some (.int (k : Int))) (some (.loc S.length)) (some (roomB W H ws)) F c6 c7 S2
  have fl : forL ⟨[roomB W H ws, roomB W H [], roomB 1000000 H ws, roomB W 1000000 ws], []⟩ (gN 5) aF2 [roomB W H ws, roomB W H [], roomB 1000000 H ws, roomB W 1000000 ws] [some (.ro ns), some (.int (k : Int)), some (.loc S.length), some (roomB W H ws), F, v5, v6, v7] S2 = some (.nx [some (.ro ns), some (.int (k : Int)), some (.loc S.length), some (roomB W H ws), F, some (roomB W 1000000 ws), g6, g7], S2) := by
    rw [forL_step (kept_nil _ _) rfl f1, forL_step (kept_nil _ _) rfl f2, forL_step (kept_nil _ _) rfl f3, forL_step (kept_nil _ _) rfl f4, forL_done (kept_nil _ _)]
  refine ⟨some (.loc S.length), some (roomB W H ws), F, some (roomB W 1000000 ws), g6, g7, S2, ?_⟩
  have n4 : newF [roomB W H ws, .tup [.int W, .int H, .tup []], .tup [.int 1000000, .int H, .tup (ws.map tB)], .tup [.int W, .int 1000000, .tup (ws.map tB)]] S2 = some (.fz [roomB W H ws, roomB W H [], roomB 1000000 H ws, roomB W 1000000 ws], S2) := n4
  have e2' : fLRoom [.loc S.length, .bl (decide (x = 0))] S1 = some (roomB W H ws, S2) := e2
  simp only [F] at fl ⊢
  simp [aF3, bLaw_f3, e0, e1, e2', pw, n4, fl]
theorem law_run (ns : List Int) (h : ns.length ≤ 63) : ∃ S', fLaw [.ro ns] [] = some (.bl true, S') := by
  obtain ⟨c, hc, r⟩ : ∃ c : Nat, c ≤ 63 ∧ mRng1 (aCons (mCb max2 (aCons (mC (.int 2)) (aCons (mCb min2 (aCons (mCb lenC (aCons (mVar 0) aNil)) (aCons (mC (.int 8)) aNil))) aNil))) aNil) [some (.ro ns), none, none, none, none, none, none, none] [] = some (wkR 0 c, []) := by
    refine ⟨max 2 (min ns.length 8), by omega, rng_nat ?_ (by omega)⟩
    have m2 : min2 [.int (ns.length : Int), .int 8] [] = some (.int (min (ns.length : Int) 8), []) := by rw [min2_i]; rfl
    have m3 : max2 [.int 2, .int (min (ns.length : Int) 8)] [] = some (.int (max 2 (min (ns.length : Int) 8)), []) := by rw [max2_i]; rfl
    simp [-max2_ap, -min2_ap, m2, m3]
    omega
  obtain ⟨σ', S', e, v1, v2, v3, v4, v5, v6, v7, rfl⟩ := forL_ok (w := wkR 0 c) (g := gN 1) (mb := aF3)
    (fun i σ S' => ∃ v1 v2 v3 v4 v5 v6 v7 : Option M, σ = [some (.ro ns), v1, v2, v3, v4, v5, v6, v7]) (fun _ _ S' _ => wkR_kept _ _ _) (wkR 0 c).xs 0 [some (.ro ns), none, none, none, none, none, none, none] []
    ⟨_, _, _, _, _, _, _, rfl⟩ fun j y σ S1 hy ⟨v1, v2, v3, v4, v5, v6, v7, hσ⟩ => by
      subst hσ
      obtain ⟨_, rfl⟩ := rng_item hy
      obtain ⟨w2, w3, w4, w5, w6, w7, S2, e⟩ := turn_run ns j v2 v3 v4 v5 v6 v7 S1
      exact ⟨_, S1, rfl, _, S2, e, _, _, _, _, _, _, _, rfl⟩
  exact ⟨S', by simp [fLaw, bLaw, startM, -mRng1_ap, r, e]⟩
end Em
set_option Elab.async false
set_option maxRecDepth 100000
set_option linter.all false
namespace Em
open PySem L2
open PyProof.Rows (BMod recsOf)
set_option maxHeartbeats 4000000 in
theorem all_mk {l : PySem.W.OpenLaw} {q : Program} {w : World} {K : PySem.W.Frag} {h : Heap} {mg : Str → Option Value} {fa : Addr} (X : K.In h) (G : h.Ns mainGlobals mg) (hfa : mg "law" = some (.ref fa))
    {adLCellAt : Addr} {odLCellAt anLCellAt : Option Addr} {slLCellAt : Array (Option Value)} {ocLCellAt kVLCellAt dcLCellAt pmLCellAt ctLCellAt : Value} {cdLCellAt : Value}
    {adLTape : Addr} {odLTape anLTape : Option Addr} {slLTape : Array (Option Value)} {ocLTape kVLTape dcLTape pmLTape ctLTape : Value} {cdLTape : Value}
    {adLTake : Addr} {odLTake anLTake : Option Addr} {slLTake : Array (Option Value)} {ocLTake kVLTake dcLTake pmLTake ctLTake : Value} {cdLTake : Value}
    {adLMarks : Addr} {odLMarks anLMarks : Option Addr} {slLMarks : Array (Option Value)} {ocLMarks kVLMarks dcLMarks pmLMarks ctLMarks : Value} {cdLMarks : Value}
    {adLShut : Addr} {odLShut anLShut : Option Addr} {slLShut : Array (Option Value)} {ocLShut kVLShut dcLShut pmLShut ctLShut : Value} {cdLShut : Value}
    {adLRoom : Addr} {odLRoom anLRoom : Option Addr} {slLRoom : Array (Option Value)} {ocLRoom kVLRoom dcLRoom pmLRoom ctLRoom : Value} {cdLRoom : Value}
    {adNumbersText : Addr} {odNumbersText anNumbersText : Option Addr} {slNumbersText : Array (Option Value)} {ocNumbersText kVNumbersText dcNumbersText pmNumbersText ctNumbersText : Value} {cdNumbersText PNumbersTextT : Addr} {rNumbersText : DefRec} {uoNumbersText : Option Addr} {uvNumbersText : Array Value} {usNumbersText : Array (Option Value)}
    {adKindOf : Addr} {odKindOf anKindOf : Option Addr} {slKindOf : Array (Option Value)} {ocKindOf kVKindOf dcKindOf pmKindOf ctKindOf : Value} {cdKindOf : Value}
    {adWallText : Addr} {odWallText anWallText : Option Addr} {slWallText : Array (Option Value)} {ocWallText kVWallText dcWallText pmWallText ctWallText : Value} {cdWallText : Value}
    {adRoomText : Addr} {odRoomText anRoomText : Option Addr} {slRoomText : Array (Option Value)} {ocRoomText kVRoomText dcRoomText pmRoomText ctRoomText : Value} {cdRoomText : Value}
    {adLText : Addr} {odLText anLText : Option Addr} {slLText : Array (Option Value)} {ocLText kVLText dcLText pmLText ctLText : Value} {cdLText : Value}
    {adLaw : Addr} {odLaw anLaw : Option Addr} {slLaw : Array (Option Value)} {ocLaw kVLaw dcLaw pmLaw ctLaw : Value} {cdLaw : Value}
    (aLCellAt : PySem.W.nsIn K mainGlobals "_law_cell_at" = some (some (.ref adLCellAt))) (lLCellAt : K.lookup adLCellAt = some ⟨ocLCellAt, odLCellAt, .func (PySem.W.fnOf "_law_cell_at" "_law_cell_at" (defArgs sLCellAt) (defBody sLCellAt) (defScope sLCellAt) .none kVLCellAt dcLCellAt pmLCellAt anLCellAt cdLCellAt ctLCellAt), slLCellAt⟩) (cLCellAt : PySem.W.codeIn K cdLCellAt "_law_cell_at" = true) (kLCellAt : PySem.W.keepIn K (.ref adLCellAt) = true)
    (aLTape : PySem.W.nsIn K mainGlobals "_law_tape" = some (some (.ref adLTape))) (lLTape : K.lookup adLTape = some ⟨ocLTape, odLTape, .func (PySem.W.fnOf "_law_tape" "_law_tape" (defArgs sLTape) (defBody sLTape) (defScope sLTape) .none kVLTape dcLTape pmLTape anLTape cdLTape ctLTape), slLTape⟩) (cLTape : PySem.W.codeIn K cdLTape "_law_tape" = true) (kLTape : PySem.W.keepIn K (.ref adLTape) = true)
    (aLTake : PySem.W.nsIn K mainGlobals "_law_take" = some (some (.ref adLTake))) (lLTake : K.lookup adLTake = some ⟨ocLTake, odLTake, .func (PySem.W.fnOf "_law_take" "_law_take" (defArgs sLTake) (defBody sLTake) (defScope sLTake) .none kVLTake dcLTake pmLTake anLTake cdLTake ctLTake), slLTake⟩) (cLTake : PySem.W.codeIn K cdLTake "_law_take" = true) (kLTake : PySem.W.keepIn K (.ref adLTake) = true)
    (aLMarks : PySem.W.nsIn K mainGlobals "_law_marks" = some (some (.ref adLMarks))) (lLMarks : K.lookup adLMarks = some ⟨ocLMarks, odLMarks, .func (PySem.W.fnOf "_law_marks" "_law_marks" (defArgs sLMarks) (defBody sLMarks) (defScope sLMarks) .none kVLMarks dcLMarks pmLMarks anLMarks cdLMarks ctLMarks), slLMarks⟩) (cLMarks : PySem.W.codeIn K cdLMarks "_law_marks" = true) (kLMarks : PySem.W.keepIn K (.ref adLMarks) = true)
    (aLShut : PySem.W.nsIn K mainGlobals "_law_shut" = some (some (.ref adLShut))) (lLShut : K.lookup adLShut = some ⟨ocLShut, odLShut, .func (PySem.W.fnOf "_law_shut" "_law_shut" (defArgs sLShut) (defBody sLShut) (defScope sLShut) .none kVLShut dcLShut pmLShut anLShut cdLShut ctLShut), slLShut⟩) (cLShut : PySem.W.codeIn K cdLShut "_law_shut" = true) (kLShut : PySem.W.keepIn K (.ref adLShut) = true)
    (aLRoom : PySem.W.nsIn K mainGlobals "_law_room" = some (some (.ref adLRoom))) (lLRoom : K.lookup adLRoom = some ⟨ocLRoom, odLRoom, .func (PySem.W.fnOf "_law_room" "_law_room" (defArgs sLRoom) (defBody sLRoom) (defScope sLRoom) .none kVLRoom dcLRoom pmLRoom anLRoom cdLRoom ctLRoom), slLRoom⟩) (cLRoom : PySem.W.codeIn K cdLRoom "_law_room" = true) (kLRoom : PySem.W.keepIn K (.ref adLRoom) = true)
    (aNumbersText : PySem.W.nsIn K mainGlobals "numbers_text" = some (some (.ref adNumbersText))) (lNumbersText : K.lookup adNumbersText = some ⟨ocNumbersText, odNumbersText, .func (PySem.W.fnOf "numbers_text" "numbers_text" (defArgs sNumbersText) (defBody sNumbersText) (defScope sNumbersText) .none kVNumbersText dcNumbersText pmNumbersText anNumbersText (.ref cdNumbersText) ctNumbersText), slNumbersText⟩) (cNumbersText : PySem.W.codeIn K (.ref cdNumbersText) "numbers_text" = true) (kNumbersText : PySem.W.keepIn K (.ref adNumbersText) = true) (uNumbersText : K.lookup cdNumbersText = some ⟨.type "code", uoNumbersText, .fields uvNumbersText, usNumbersText⟩) (pNumbersText : tabV uvNumbersText = some PNumbersTextT) (qNumbersText : (recsOf q).find? (fun e => e.name == ("numbers_text" : Str)) = some rNumbersText)
    (aKindOf : PySem.W.nsIn K mainGlobals "kind_of" = some (some (.ref adKindOf))) (lKindOf : K.lookup adKindOf = some ⟨ocKindOf, odKindOf, .func (PySem.W.fnOf "kind_of" "kind_of" (defArgs sKindOf) (defBody sKindOf) (defScope sKindOf) .none kVKindOf dcKindOf pmKindOf anKindOf cdKindOf ctKindOf), slKindOf⟩) (cKindOf : PySem.W.codeIn K cdKindOf "kind_of" = true) (kKindOf : PySem.W.keepIn K (.ref adKindOf) = true)
    (aWallText : PySem.W.nsIn K mainGlobals "wall_text" = some (some (.ref adWallText))) (lWallText : K.lookup adWallText = some ⟨ocWallText, odWallText, .func (PySem.W.fnOf "wall_text" "wall_text" (defArgs sWallText) (defBody sWallText) (defScope sWallText) .none kVWallText dcWallText pmWallText anWallText cdWallText ctWallText), slWallText⟩) (cWallText : PySem.W.codeIn K cdWallText "wall_text" = true) (kWallText : PySem.W.keepIn K (.ref adWallText) = true)
    (aRoomText : PySem.W.nsIn K mainGlobals "room_text" = some (some (.ref adRoomText))) (lRoomText : K.lookup adRoomText = some ⟨ocRoomText, odRoomText, .func (PySem.W.fnOf "room_text" "room_text" (defArgs sRoomText) (defBody sRoomText) (defScope sRoomText) .none kVRoomText dcRoomText pmRoomText anRoomText cdRoomText ctRoomText), slRoomText⟩) (cRoomText : PySem.W.codeIn K cdRoomText "room_text" = true) (kRoomText : PySem.W.keepIn K (.ref adRoomText) = true)
    (aLText : PySem.W.nsIn K mainGlobals "_law_text" = some (some (.ref adLText))) (lLText : K.lookup adLText = some ⟨ocLText, odLText, .func (PySem.W.fnOf "_law_text" "_law_text" (defArgs sLText) (defBody sLText) (defScope sLText) .none kVLText dcLText pmLText anLText cdLText ctLText), slLText⟩) (cLText : PySem.W.codeIn K cdLText "_law_text" = true) (kLText : PySem.W.keepIn K (.ref adLText) = true)
    (aLaw : PySem.W.nsIn K mainGlobals "law" = some (some (.ref adLaw))) (lLaw : K.lookup adLaw = some ⟨ocLaw, odLaw, .func (PySem.W.fnOf "law" "law" (defArgs sLaw) (defBody sLaw) (defScope sLaw) .none kVLaw dcLaw pmLaw anLaw cdLaw ctLaw), slLaw⟩) (cLaw : PySem.W.codeIn K cdLaw "law" = true) (kLaw : PySem.W.keepIn K (.ref adLaw) = true)
    (zlen : PySem.W.nsIn K mainGlobals "len" = some none) (zabs : PySem.W.nsIn K mainGlobals "abs" = some none) (zint : PySem.W.nsIn K mainGlobals "int" = some none) (zmin : PySem.W.nsIn K mainGlobals "min" = some none) (zmax : PySem.W.nsIn K mainGlobals "max" = some none) (zrange : PySem.W.nsIn K mainGlobals "range" = some none) (zlist : PySem.W.nsIn K mainGlobals "list" = some none) (ztuple : PySem.W.nsIn K mainGlobals "tuple" = some none) (zsorted : PySem.W.nsIn K mainGlobals "sorted" = some none) (zset : PySem.W.nsIn K mainGlobals "set" = some none) (zenumerate : PySem.W.nsIn K mainGlobals "enumerate" = some none) (zisinstance : PySem.W.nsIn K mainGlobals "isinstance" = some none) (zbool : PySem.W.nsIn K mainGlobals "bool" = some none) (zzip : PySem.W.nsIn K mainGlobals "zip" = some none) (zall : PySem.W.nsIn K mainGlobals "all" = some none) (zstr : PySem.W.nsIn K mainGlobals "str" = some none) (zany : PySem.W.nsIn K mainGlobals "any" = some none) (zrepr : PySem.W.nsIn K mainGlobals "repr" = some none) (zsum : PySem.W.nsIn K mainGlobals "sum" = some none) :
    ∃ (fd : FuncData) (Tb : List Addr), (∀ (s : Shared) (v : Value), BindsTo s fd ⟨[v], []⟩ [("_law_script", v)]) ∧ (∀ Pt ∈ Tb, Eb.TabOf q K mg Pt) ∧ ∀ base : Heap, K.In base → base.Ns mainGlobals mg → (∃ bm ob, BMod base mainGlobals mg bm ob) → FnOk l.prog w K mg base CX0 5 fa fd ["_law_script"] (spM ⟨K, Tb⟩ 1 fLaw) := by
  have e := hfa.symm.trans (PySem.W.mg_of X G aLaw)
  cases e
  have T : Txt mg := ⟨PySem.W.mg_none_of X G zlen, PySem.W.mg_none_of X G zabs, PySem.W.mg_none_of X G zint, PySem.W.mg_none_of X G zmin, PySem.W.mg_none_of X G zmax, PySem.W.mg_none_of X G zrange, PySem.W.mg_none_of X G zlist, PySem.W.mg_none_of X G ztuple, PySem.W.mg_none_of X G zsorted, PySem.W.mg_none_of X G zset, PySem.W.mg_none_of X G zenumerate, PySem.W.mg_none_of X G zisinstance, PySem.W.mg_none_of X G zbool, PySem.W.mg_none_of X G zzip, PySem.W.mg_none_of X G zall, PySem.W.mg_none_of X G zstr, PySem.W.mg_none_of X G zany, PySem.W.mg_none_of X G zrepr, PySem.W.mg_none_of X G zsum⟩
  have FLCellAt := fun_mk (st := sLCellAt) lLCellAt cLCellAt kLCellAt
  have DLCellAt : Def K mg "_law_cell_at" sLCellAt PLCellAt adLCellAt _ := ⟨FLCellAt, PySem.W.mg_of X G aLCellAt, FLCellAt.binds (ps := PLCellAt) fun _ _ _ _ _ _ us hl => match us, hl with | [_, _], _ => rfl⟩
  have FLTape := fun_mk (st := sLTape) lLTape cLTape kLTape
  have DLTape : Def K mg "_law_tape" sLTape PLTape adLTape _ := ⟨FLTape, PySem.W.mg_of X G aLTape, FLTape.binds (ps := PLTape) fun _ _ _ _ _ _ us hl => match us, hl with | [_, _], _ => rfl⟩
  have FLTake := fun_mk (st := sLTake) lLTake cLTake kLTake
  have DLTake : Def K mg "_law_take" sLTake PLTake adLTake _ := ⟨FLTake, PySem.W.mg_of X G aLTake, FLTake.binds (ps := PLTake) fun _ _ _ _ _ _ us hl => match us, hl with | [_, _], _ => rfl⟩
  have FLMarks := fun_mk (st := sLMarks) lLMarks cLMarks kLMarks
  have DLMarks : Def K mg "_law_marks" sLMarks PLMarks adLMarks _ := ⟨FLMarks, PySem.W.mg_of X G aLMarks, FLMarks.binds (ps := PLMarks) fun _ _ _ _ _ _ us hl => match us, hl with | [_, _], _ => rfl⟩
  have FLShut := fun_mk (st := sLShut) lLShut cLShut kLShut
  have DLShut : Def K mg "_law_shut" sLShut PLShut adLShut _ := ⟨FLShut, PySem.W.mg_of X G aLShut, FLShut.binds (ps := PLShut) fun _ _ _ _ _ _ us hl => match us, hl with | [_, _, _], _ => rfl⟩
  have FLRoom := fun_mk (st := sLRoom) lLRoom cLRoom kLRoom
  have DLRoom : Def K mg "_law_room" sLRoom PLRoom adLRoom _ := ⟨FLRoom, PySem.W.mg_of X G aLRoom, FLRoom.binds (ps := PLRoom) fun _ _ _ _ _ _ us hl => match us, hl with | [_, _], _ => rfl⟩
  have tNumbersText := tabIn_of uNumbersText pNumbersText
  have FNumbersText := Eb.funT_mk (cdv := .none) (st := sNumbersText) lNumbersText cNumbersText kNumbersText tNumbersText
  have DNumbersText : Def K mg "numbers_text" sNumbersText PNumbersText adNumbersText _ := ⟨FNumbersText.F, PySem.W.mg_of X G aNumbersText, FNumbersText.F.binds (ps := PNumbersText) fun _ _ _ _ _ _ us hl => match us, hl with | [_], _ => rfl⟩
  have FKindOf := fun_mk (st := sKindOf) lKindOf cKindOf kKindOf
  have DKindOf : Def K mg "kind_of" sKindOf PKindOf adKindOf _ := ⟨FKindOf, PySem.W.mg_of X G aKindOf, FKindOf.binds (ps := PKindOf) fun _ _ _ _ _ _ us hl => match us, hl with | [_], _ => rfl⟩
  have FWallText := fun_mk (st := sWallText) lWallText cWallText kWallText
  have DWallText : Def K mg "wall_text" sWallText PWallText adWallText _ := ⟨FWallText, PySem.W.mg_of X G aWallText, FWallText.binds (ps := PWallText) fun _ _ _ _ _ _ us hl => match us, hl with | [_], _ => rfl⟩
  have FRoomText := fun_mk (st := sRoomText) lRoomText cRoomText kRoomText
  have DRoomText : Def K mg "room_text" sRoomText PRoomText adRoomText _ := ⟨FRoomText, PySem.W.mg_of X G aRoomText, FRoomText.binds (ps := PRoomText) fun _ _ _ _ _ _ us hl => match us, hl with | [_], _ => rfl⟩
  have FLText := fun_mk (st := sLText) lLText cLText kLText
  have DLText : Def K mg "_law_text" sLText PLText adLText _ := ⟨FLText, PySem.W.mg_of X G aLText, FLText.binds (ps := PLText) fun _ _ _ _ _ _ us hl => match us, hl with | [_], _ => rfl⟩
  have FLaw := fun_mk (st := sLaw) lLaw cLaw kLaw
  refine ⟨PySem.W.fnOf "law" "law" (defArgs sLaw) (defBody sLaw) (defScope sLaw) .none kVLaw dcLaw pmLaw anLaw cdLaw ctLaw, [PNumbersTextT], fun s v => .of_eq rfl, fun Pt hPt => ?_, fun base _ _ hbm => ?_⟩
  · simp only [List.mem_cons, List.not_mem_nil, or_false] at hPt
    rcases hPt with rfl
    · exact ⟨"numbers_text", rNumbersText, adNumbersText, cdNumbersText, _, _, _, _, qNumbersText, PySem.W.mg_of X G aNumbersText, lNumbersText, rfl, tNumbersText⟩
  have GLCellAt : FnOk l.prog w (Ct.mk K [PNumbersTextT]).K mg base CX0 1 adLCellAt _ PLCellAt (spM ⟨K, [PNumbersTextT]⟩ 2 fLCellAt) := (okLCellAt T  FLCellAt)
  have GLTape : FnOk l.prog w (Ct.mk K [PNumbersTextT]).K mg base CX0 2 adLTape _ PLTape (spM ⟨K, [PNumbersTextT]⟩ 2 fLTape) := (okLTape T GLCellAt DLCellAt FLTape)
  have GLTake : FnOk l.prog w (Ct.mk K [PNumbersTextT]).K mg base CX0 1 adLTake _ PLTake (spM ⟨K, [PNumbersTextT]⟩ 2 fLTake) := (okLTake T  FLTake)
  have GLMarks : FnOk l.prog w (Ct.mk K [PNumbersTextT]).K mg base CX0 2 adLMarks _ PLMarks (spM ⟨K, [PNumbersTextT]⟩ 2 fLMarks) := (okLMarks T GLTake DLTake FLMarks)
  have GLShut : FnOk l.prog w (Ct.mk K [PNumbersTextT]).K mg base CX0 2 adLShut _ PLShut (spM ⟨K, [PNumbersTextT]⟩ 3 fLShut) := (okLShut T GLTake DLTake FLShut)
  have GLRoom : FnOk l.prog w (Ct.mk K [PNumbersTextT]).K mg base CX0 3 adLRoom _ PLRoom (spM ⟨K, [PNumbersTextT]⟩ 2 fLRoom) := (okLRoom T GLTake DLTake GLMarks DLMarks GLShut DLShut FLRoom)
  have GNumbersText : FnOk l.prog w (Ct.mk K [PNumbersTextT]).K mg base CX0 2 adNumbersText _ PNumbersText (spM ⟨K, [PNumbersTextT]⟩ 1 fNumbersText) := (okNumbersText T (K := ⟨K, [PNumbersTextT]⟩) (by simp) hbm  FNumbersText)
  have GKindOf : FnOk l.prog w (Ct.mk K [PNumbersTextT]).K mg base CX0 1 adKindOf _ PKindOf (spM ⟨K, [PNumbersTextT]⟩ 1 fKindOf) := (okKindOf T  FKindOf)
  have GWallText : FnOk l.prog w (Ct.mk K [PNumbersTextT]).K mg base CX0 3 adWallText _ PWallText (spM ⟨K, [PNumbersTextT]⟩ 1 fWallText) := (okWallText T GKindOf DKindOf GNumbersText DNumbersText FWallText)
  have GRoomText : FnOk l.prog w (Ct.mk K [PNumbersTextT]).K mg base CX0 4 adRoomText _ PRoomText (spM ⟨K, [PNumbersTextT]⟩ 1 fRoomText) := (okRoomText T GNumbersText DNumbersText GWallText DWallText FRoomText)
  have GLText : FnOk l.prog w (Ct.mk K [PNumbersTextT]).K mg base CX0 1 adLText _ PLText (spM ⟨K, [PNumbersTextT]⟩ 1 fLText) := (okLText T  FLText)
  exact (okLaw T GLTape DLTape GLRoom DLRoom GLTake DLTake GRoomText DRoomText GLText DLText FLaw)
end Em
open PySem PySem.W PyProof.Rows
set_option maxRecDepth 100000 in
set_option maxHeartbeats 0 in
theorem PySem.Challenge.cw_emptybox_k50_rooms_written_holds : PySem.Challenge.rw_emptybox_k50_rooms_written.Holds := by
  w_on; o_law; k_head; (case hw => w_witness2)
  k_fill
  refine Eb.walk_ofT (l := PySem.Challenge.rw_emptybox_k50_rooms_written) (n := 63) (k := 5) (x := "_law_script") (sp := fun K Tb => Em.spM ⟨K, Tb⟩ 1 Em.fLaw) rfl (by decide) rfl ⟨rfl, by decide, by decide, rfl⟩ (fun w h Y => PySem.W.kIn_of Y) ?hcl ?F ?S
  case hcl =>
    intro w
    kernel_rfl
  case S => exact fun K Tb H a ns hl hT hO hS => Em.law_sp hO hT hS (Em.law_run ns hl)
  case F =>
    intro w mg fa h KX G hmg
    refine' Em.all_mk KX G hmg ?aLCellAt ?lLCellAt ?cLCellAt ?kLCellAt ?aLTape ?lLTape ?cLTape ?kLTape ?aLTake ?lLTake ?cLTake ?kLTake ?aLMarks ?lLMarks ?cLMarks ?kLMarks ?aLShut ?lLShut ?cLShut ?kLShut ?aLRoom ?lLRoom ?cLRoom ?kLRoom ?aNumbersText ?lNumbersText ?cNumbersText ?kNumbersText ?uNumbersText ?pNumbersText ?qNumbersText ?aKindOf ?lKindOf ?cKindOf ?kKindOf ?aWallText ?lWallText ?cWallText ?kWallText ?aRoomText ?lRoomText ?cRoomText ?kRoomText ?aLText ?lLText ?cLText ?kLText ?aLaw ?lLaw ?cLaw ?kLaw ?zlen ?zabs ?zint ?zmin ?zmax ?zrange ?zlist ?ztuple ?zsorted ?zset ?zenumerate ?zisinstance ?zbool ?zzip ?zall ?zstr ?zany ?zrepr ?zsum
    (case aLCellAt => k_is)
    (case lLCellAt => k_is)
    (case cLCellAt => k_is)
    (case kLCellAt => k_is)
    (case aLTape => k_is)
    (case lLTape => k_is)
    (case cLTape => k_is)
    (case kLTape => k_is)
    (case aLTake => k_is)
    (case lLTake => k_is)
    (case cLTake => k_is)
    (case kLTake => k_is)
    (case aLMarks => k_is)
    (case lLMarks => k_is)
    (case cLMarks => k_is)
    (case kLMarks => k_is)
    (case aLShut => k_is)
    (case lLShut => k_is)
    (case cLShut => k_is)
    (case kLShut => k_is)
    (case aLRoom => k_is)
    (case lLRoom => k_is)
    (case cLRoom => k_is)
    (case kLRoom => k_is)
    (case aNumbersText => k_is)
    (case lNumbersText => k_is)
    (case cNumbersText => k_is)
    (case kNumbersText => k_is)
    (case uNumbersText => k_is)
    (case pNumbersText => exact rfl)
    (case qNumbersText => exact rfl)
    (case aKindOf => k_is)
    (case lKindOf => k_is)
    (case cKindOf => k_is)
    (case kKindOf => k_is)
    (case aWallText => k_is)
    (case lWallText => k_is)
    (case cWallText => k_is)
    (case kWallText => k_is)
    (case aRoomText => k_is)
    (case lRoomText => k_is)
    (case cRoomText => k_is)
    (case kRoomText => k_is)
    (case aLText => k_is)
    (case lLText => k_is)
    (case cLText => k_is)
    (case kLText => k_is)
    (case aLaw => k_is)
    (case lLaw => k_is)
    (case cLaw => k_is)
    (case kLaw => k_is)
    (case zlen => k_is)
    (case zabs => k_is)
    (case zint => k_is)
    (case zmin => k_is)
    (case zmax => k_is)
    (case zrange => k_is)
    (case zlist => k_is)
    (case ztuple => k_is)
    (case zsorted => k_is)
    (case zset => k_is)
    (case zenumerate => k_is)
    (case zisinstance => k_is)
    (case zbool => k_is)
    (case zzip => k_is)
    (case zall => k_is)
    (case zstr => k_is)
    (case zany => k_is)
    (case zrepr => k_is)
    (case zsum => k_is)
