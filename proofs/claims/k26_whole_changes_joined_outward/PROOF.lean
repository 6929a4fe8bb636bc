import PyProof.Rows.All
import Wide.All
import OpenK.AllK
import Wide.FinOn
import Lean
import PyProof.EqAt
import PyProof.EqKinds
import PyProof.TupleCall
import KE.KSortTup
import KE.KItemsList
import KE.KDictList
import PyProof.AttrMissHeap
import KE.KDictOf
import PyProof.NeKinds
import PyProof.IsiHeapPairs
import PyProof.IsiSeqPairs
import PyProof.SetKind
import PyProof.Rows.SetFrom
import PyProof.DictIter
import PyProof.CollectWalk
import PyProof.DictWalks
import PyProof.FactsAll.subtypes_5
import PySem.Challenge.RW_copiedhouse_k26_whole_changes_joined_out
set_option Elab.async false
set_option linter.all false
set_option maxRecDepth 100000
namespace L2
open PySem PySem.Spec PyProof.Rows
abbrev Key := Sum Int Str
def keyIs : Key → Value → Bool
  | .inl k, v => Value.isInt k v
  | .inr x, v => Value.isStrOf x v
def keyH (w : World) : Key → Int
  | .inl k => hashInt k
  | .inr x => hashStr w x
theorem keyIs_shape : ∀ {k : Key} {v : Value}, keyIs k v = true → (∃ i t, k = Sum.inl i ∧ v = Value.int i t) ∨ (∃ x t, k = Sum.inr x ∧ v = Value.str x t)
  | .inl i, v, h => by
    obtain ⟨t, e⟩ := Value.isInt_shape (k := i) (v := v) h
    exact .inl ⟨i, t, rfl, e⟩
  | .inr x, v, h => by
    obtain ⟨t, e⟩ := Value.isStrOf_shape (x := x) (v := v) h
    exact .inr ⟨x, t, rfl, e⟩
theorem keyIs_int (i : Int) (t : Tok) : keyIs (.inl i) (.int i t) = true := by simp [keyIs, Value.isInt]
theorem keyIs_str (x : Str) (t : Tok) : keyIs (.inr x) (.str x t) = true := by simp [keyIs, Value.isStrOf]
theorem key_ll (a b : Int) : decide ((Sum.inl a : Key) = Sum.inl b) = (a == b) := by
  by_cases e : a = b
  · subst e; simp
  · have h : ¬ (Sum.inl a : Key) = Sum.inl b := fun q => e (Sum.inl.inj q)
    rw [decide_eq_false h]
    exact (beq_eq_false_iff_ne.mpr e).symm
theorem key_rr (a b : Str) : decide ((Sum.inr a : Key) = Sum.inr b) = decide (a = b) := by
  by_cases e : a = b
  · subst e; simp
  · have h : ¬ (Sum.inr a : Key) = Sum.inr b := fun q => e (Sum.inr.inj q)
    rw [decide_eq_false h, decide_eq_false e]
theorem key_lr (a : Int) (b : Str) : decide ((Sum.inl a : Key) = Sum.inr b) = false := decide_eq_false (fun q => nomatch q)
theorem key_rl (a : Str) (b : Int) : decide ((Sum.inr a : Key) = Sum.inl b) = false := decide_eq_false (fun q => nomatch q)
def mixKind (prog : Program) (w : World) : PySem.KeyKind prog w Key where
  is := keyIs
  hash := keyH w
  inj := fun v a b ha hb => by
    rcases keyIs_shape ha with ⟨i, t, rfl, rfl⟩ | ⟨x, t, rfl, rfl⟩
    · rcases keyIs_shape hb with ⟨j, u, rfl, e⟩ | ⟨y, u, rfl, e⟩
      · injection e with e1 _; rw [e1]
      · exact nomatch e
    · rcases keyIs_shape hb with ⟨j, u, rfl, e⟩ | ⟨y, u, rfl, e⟩
      · exact nomatch e
      · injection e with e1 _; rw [e1]
  byValue := fun k v h => by
    rcases keyIs_shape h with ⟨i, t, rfl, rfl⟩ | ⟨x, t, rfl, rfl⟩ <;> rfl
  pyHash := fun hv h => by
    rcases keyIs_shape hv with ⟨i, t, rfl, rfl⟩ | ⟨x, t, rfl, rfl⟩
    · exact wpAny_pyHash_int h
    · exact wpAny_pyHash_str h
  eqBool := fun hu hv h => by
    rcases keyIs_shape hu with ⟨i, t, rfl, rfl⟩ | ⟨x, t, rfl, rfl⟩
    · rcases keyIs_shape hv with ⟨j, u, rfl, rfl⟩ | ⟨y, u, rfl, rfl⟩
      · rw [key_ll] at h; exact wpAny_eqBool_int h
      · rw [key_lr] at h; exact SeqAt.EqAt.int_str i t y u _ _ _ _ h
    · rcases keyIs_shape hv with ⟨j, u, rfl, rfl⟩ | ⟨y, u, rfl, rfl⟩
      · rw [key_rl] at h; exact SeqAt.EqAt.str_int x t j u _ _ _ _ h
      · rw [key_rr] at h; exact wpAny_eqBool_str h
  «strs» := fun k x t v h => by
    rcases keyIs_shape h with ⟨i, u, rfl, e⟩ | ⟨y, u, rfl, e⟩
    · exact nomatch e
    · injection e with e1 _
      subst e1
      cases v <;> rfl
theorem mixKind_int (prog : Program) (w : World) (i : Int) (t : Tok) : (mixKind prog w).is (.inl i) (.int i t) = true := keyIs_int i t
theorem mixKind_str (prog : Program) (w : World) (x : Str) (t : Tok) : (mixKind prog w).is (.inr x) (.str x t) = true := keyIs_str x t
end L2
namespace L2
open PySem PySem.Spec PyProof.Rows
inductive V where
  | non | bl (b : Bool) | int (i : Int) | str (x : Str) | byt (b : Array UInt8) | flt (b : UInt64) | ref (a : Addr) | ty (n : String)
  deriving DecidableEq
def RelV : V → Value → Prop
  | .non, u => u = Value.none
  | .bl b, u => u = Value.bool b
  | .int i, u => ∃ t, u = Value.int i t
  | .str x, u => ∃ t, u = Value.str x t
  | .byt b, u => ∃ t, u = Value.bytes b t
  | .flt b, u => ∃ t, u = Value.float b t
  | .ref a, u => u = Value.ref a
  | .ty n, u => u = Value.type n
abbrev Vals : List V → List Value → Prop := Paired RelV
theorem Vals.length {xs : List V} {us : List Value} (r : Vals xs us) : xs.length = us.length := Paired.length r
theorem Vals.get : ∀ {xs : List V} {us : List Value} {i : Nat} {x : V}, Vals xs us → xs[i]? = some x → ∃ u, us[i]? = some u ∧ RelV x u
  | _, _, _, _, .nil, e => by simp at e
  | _, _, 0, _, .cons r _, e => by simp at e; subst e; exact ⟨_, rfl, r⟩
  | _, _, i + 1, x, .cons _ t, e => by
    obtain ⟨u, h1, h2⟩ := Vals.get (i := i) (x := x) t (by simpa using e)
    exact ⟨u, by simpa using h1, h2⟩
theorem Vals.set {x : V} {u : Value} (r : RelV x u) : ∀ {xs : List V} {us : List Value} (i : Nat), Vals xs us → Vals (xs.set i x) (us.set i u)
  | _, _, _, .nil => .nil
  | _, _, 0, .cons _ t => .cons r t
  | _, _, i + 1, .cons q t => .cons q (Vals.set r i t)
theorem Vals.append : ∀ {xs ys : List V} {us ws : List Value}, Vals xs us → Vals ys ws → Vals (xs ++ ys) (us ++ ws)
  | _, _, _, _, .nil, s => s
  | _, _, _, _, .cons r t, s => .cons r (Vals.append t s)
theorem Vals.take : ∀ {xs : List V} {us : List Value} (n : Nat), Vals xs us → Vals (xs.take n) (us.take n)
  | _, _, 0, _ => .nil
  | _, _, _ + 1, .nil => .nil
  | _, _, n + 1, .cons r t => .cons r (Vals.take n t)
theorem Vals.drop : ∀ {xs : List V} {us : List Value} (n : Nat), Vals xs us → Vals (xs.drop n) (us.drop n)
  | _, _, 0, r => r
  | _, _, _ + 1, .nil => .nil
  | _, _, n + 1, .cons _ t => Vals.drop n t
def RelO : Option V → Option Value → Prop
  | some v, some u => RelV v u
  | none, none => True
  | _, _ => False
def KV {κ : Type} : List (κ × V) → List (κ × Value) → Prop := Paired fun (p : κ × V) (q : κ × Value) => p.1 = q.1 ∧ RelV p.2 q.2
def kV : Key → V
  | .inl i => .int i
  | .inr x => .str x
inductive HO where
  | lst (xs : List V)
  | tup (xs : List V)
  | dK (kvs : List (Key × V)) | dT (kvs : List (List Key × V))
  | set (S : Int → Bool) (n : Nat)
  | ins (C dx : Addr) (fs : List (Str × V))
  | own (x : Addr)
  | xd (fs : List (Str × V))
  | met (f x : Addr)
  | rng (lo hi : Int)
  | frz (o : Obj) (u : HO)
  | tbl (ps : Array Value)
  | ext (φ : Heap → Prop)
abbrev Hp := Addr → Option HO
def upd (H : Hp) (a : Addr) (o : HO) : Hp := fun b => if b = a then some o else H b
theorem upd_same {H : Hp} {a : Addr} {o : HO} : upd H a o a = some o := by unfold upd; rw [if_pos rfl]
theorem upd_ne {H : Hp} {a b : Addr} {o : HO} (h : b ≠ a) : upd H a o b = H b := by unfold upd; rw [if_neg h]
theorem ne_of {H : Hp} {a b : Addr} {o u : HO} (h : H a = some o) (h' : H b = some u) (d : o ≠ u) : a ≠ b := by
  intro e; subst e; rw [h] at h'; exact d (Option.some.inj h')
theorem ne_of_none {H : Hp} {a b : Addr} {o : HO} (h : H a = some o) (h' : H b = none) : a ≠ b := by
  intro e; subst e; rw [h] at h'; cases h'
def IsTupD (h : Heap) (a : Addr) (items : Array Value) : Prop := ∃ o, h.get? a = some o ∧ o.cls = .type "tuple" ∧ ∃ n, o.data = .seq items n ∧ o.dict = none
theorem IsTupD.tup {h : Heap} {a : Addr} {items : Array Value} (x : IsTupD h a items) : IsTup h a items := let ⟨o, e, c, n, d, _⟩ := x; ⟨o, e, c, n, d⟩
theorem IsTupD.lt {h : Heap} {a : Addr} {items : Array Value} (x : IsTupD h a items) : a < h.objs.size := let ⟨_, e, _⟩ := x; Heap.lt_size e
theorem IsTupD.new (h : Heap) (items : Array Value) : IsTupD (h.push { cls := .type "tuple", data := .seq items }) h.objs.size items := ⟨_, Heap.get?_push_size _ rfl, rfl, _, rfl, rfl⟩
section
variable (P : Program) (w : World)
def ObjOk (H : Hp) (h : Heap) (a : Addr) : HO → Prop
  | .lst xs => xs.length ≤ sizeLine ∧ ∃ (its : List Value) (n : Nat), Vals xs its ∧ h.get? a = some { cls := .type "list", data := .seq its.toArray n }
  | .tup xs => xs.length ≤ sizeLine ∧ ∃ its : List Value, Vals xs its ∧ IsTupD h a its.toArray
  | .dK kvs => kvs.length ≤ sizeLine ∧ (a == sysModules) = false ∧ ∃ vs, KV kvs vs ∧ h.DictOf (mixKind P w) a vs
  | .dT kvs => kvs.length ≤ sizeLine ∧ (a == sysModules) = false ∧ ∃ xs : List (List Key × Addr × Value),
      Paired (fun (p : List Key × V) (q : List Key × Addr × Value) => p.1 = q.1 ∧ H q.2.1 = some (.tup (p.1.map kV)) ∧ RelV p.2 q.2.2) kvs xs ∧
      ∃ o es ep, h.get? a = some o ∧ o.ExactDict ∧ o.data = .dict es ep ∧ es.toList = xs.map (entryOfKey (tupleKind (mixKind P w))) ∧ (xs.map (·.1)).Nodup
  | .set S n => h.SetOf (intKind P w) a S n
  | .ins C dx fs => H dx = some (.own a) ∧ fs.length ≤ 1000 ∧ dx ≠ a ∧ h.get? a = some (PySem.W.instObj C dx) ∧
      ∃ mA, h.Ns1 dx mA ∧ (∀ f, RelO (fs.lookup f) (mA f)) ∧ PySem.Within mA (fs.map (·.1))
  | .own _ => ∃ o, h.get? a = some o
  | .xd fs => ∃ mA, h.Ns1 a mA ∧ ∀ f, RelO (fs.lookup f) (mA f)
  | .rng lo hi => ∃ t u v, h.get? a = some { cls := .type "range", data := .fields #[.int lo t, .int hi u, .int 1 v] }
  | .frz o u => h.get? a = some o ∧ ObjOk H h a u
  | .tbl ps => h.get? a = some { cls := .none, data := .fields ps }
  | .met f x => h.get? a = some (PySem.W.methodObj (.ref f) (.ref x))
  | .ext φ => φ h ∧ (∃ o, h.get? a = some o) ∧ ∀ h1 h2 : Heap, φ h1 → (∀ o, h1.get? a = some o → h2.get? a = some o) → φ h2
def HOk (H : Hp) (h : Heap) : Prop := ∀ a o, H a = some o → ObjOk P w H h a o
end
section
variable {P : Program} {w : World} {H H' : Hp} {h h' : Heap} {a : Addr} {o : HO}
theorem ObjOk.lt (x : ObjOk P w H h a o) : a < h.objs.size := by
  cases o with
  | lst xs => obtain ⟨_, _, _, _, e⟩ := x; exact Heap.lt_size e
  | tup xs => obtain ⟨_, _, _, p⟩ := x; exact p.lt
  | dK kvs => obtain ⟨_, _, _, _, o, _, _, e, _⟩ := x; exact Heap.lt_size e
  | dT kvs => obtain ⟨_, _, _, _, o, _, _, e, _⟩ := x; exact Heap.lt_size e
  | set S n => obtain ⟨o, _, _, _, e, _⟩ := x; exact Heap.lt_size e
  | ins C dx fs => obtain ⟨_, _, _, e, _⟩ := x; exact Heap.lt_size e
  | own y => obtain ⟨_, e⟩ := x; exact Heap.lt_size e
  | xd fs => obtain ⟨_, ⟨_, _, _, e, _⟩, _⟩ := x; exact Heap.lt_size e
  | rng lo hi => obtain ⟨_, _, _, e⟩ := x; exact Heap.lt_size e
  | frz ob u => obtain ⟨e, _⟩ := x; exact Heap.lt_size e
  | tbl ps => exact Heap.lt_size (show h.get? a = some _ from x)
  | met f y => exact Heap.lt_size (show h.get? a = some _ from x)
  | ext φ => obtain ⟨_, ⟨_, e⟩, _⟩ := x; exact Heap.lt_size e
theorem Paired.mapP {α β : Type} {F G : α → β → Prop} : ∀ {l₁ : List α} {l₂ : List β}, Paired F l₁ l₂ → (∀ a b, F a b → G a b) → Paired G l₁ l₂
  | _, _, .nil, _ => .nil
  | _, _, .cons r t, f => .cons (f _ _ r) (Paired.mapP t f)
theorem ObjOk.stay (x : ObjOk P w H h a o) (k : ∀ b u, (b = a ∨ H b = some (.own a)) → h.get? b = some u → h'.get? b = some u)
    (ho : ∀ b, H b = some (.own a) → H' b = some (.own a)) (ht : ∀ b xs, H b = some (.tup xs) → H' b = some (.tup xs)) : ObjOk P w H' h' a o := by
  induction o with
  | lst xs => obtain ⟨z, its, n, r, e⟩ := x; exact ⟨z, its, n, r, k _ _ (.inl rfl) e⟩
  | tup xs => obtain ⟨z, its, r, ob, e, c⟩ := x; exact ⟨z, its, r, ob, k _ _ (.inl rfl) e, c⟩
  | dK kvs => obtain ⟨z, y, vs, r, ob, es, ep, e, c⟩ := x; exact ⟨z, y, vs, r, ob, es, ep, k _ _ (.inl rfl) e, c⟩
  | dT kvs =>
    obtain ⟨z, y, xs, r, ob, es, ep, e, c⟩ := x
    exact ⟨z, y, xs, Paired.mapP r fun p q z => ⟨z.1, ht _ _ z.2.1, z.2.2⟩, ob, es, ep, k _ _ (.inl rfl) e, c⟩
  | set S n => obtain ⟨ob, es, ep, t, e, c⟩ := x; exact ⟨ob, es, ep, t, k _ _ (.inl rfl) e, c⟩
  | ins C dx fs =>
    obtain ⟨d, z, ne, e, mA, ⟨od, es, ep, e2, c⟩, r⟩ := x
    exact ⟨ho _ d, z, ne, k _ _ (.inl rfl) e, mA, ⟨od, es, ep, k _ _ (.inr d) e2, c⟩, r⟩
  | own y => obtain ⟨ob, e⟩ := x; exact ⟨ob, k _ _ (.inl rfl) e⟩
  | xd fs => obtain ⟨mA, ⟨od, es, ep, e, c⟩, r⟩ := x; exact ⟨mA, ⟨od, es, ep, k _ _ (.inl rfl) e, c⟩, r⟩
  | rng lo hi => obtain ⟨t, u, v, e⟩ := x; exact ⟨t, u, v, k _ _ (.inl rfl) e⟩
  | frz ob u ih => obtain ⟨e, q⟩ := x; exact ⟨k _ _ (.inl rfl) e, ih q⟩
  | tbl ps =>
    have e : h.get? a = some { cls := .none, data := .fields ps } := x
    show h'.get? a = some { cls := .none, data := .fields ps }
    exact k a _ (.inl rfl) e
  | met f y =>
    have e : h.get? a = some (PySem.W.methodObj (.ref f) (.ref y)) := x
    show h'.get? a = some (PySem.W.methodObj (.ref f) (.ref y))
    exact k a _ (.inl rfl) e
  | ext φ => obtain ⟨p, ⟨o, e⟩, st⟩ := x; exact ⟨st _ _ p fun o q => k _ _ (.inl rfl) q, ⟨o, k _ _ (.inl rfl) e⟩, st⟩
theorem HOk.lt (x : HOk P w H h) (e : H a = some o) : a < h.objs.size := (x a o e).lt
theorem HOk.fresh (x : HOk P w H h) (e : h.objs.size ≤ a) : H a = none := by
  cases q : H a with
  | none => rfl
  | some u => exact absurd (Nat.lt_of_lt_of_le (x.lt q) e) (Nat.lt_irrefl _)
theorem HOk.kept (x : HOk P w H h) (k : ∀ b u, h.get? b = some u → h'.get? b = some u) : HOk P w H h' := fun a o e =>
  (x a o e).stay (fun b u _ q => k b u q) (fun _ q => q) fun _ _ q => q
theorem HOk.laid (x : HOk P w H h) (k : ∀ b u, h.get? b = some u → h'.get? b = some u) (hp : h.objs.size ≤ a) (new : ObjOk P w (upd H a o) h' a o) : HOk P w (upd H a o) h' := fun b u e => by
  have hn := x.fresh hp
  by_cases hb : b = a
  · subst hb; rw [upd_same] at e; cases e; exact new
  · rw [upd_ne hb] at e
    exact (x b u e).stay (fun c v _ q => k c v q) (fun c q => by rw [upd_ne (ne_of_none q hn)]; exact q) fun c xs q => by rw [upd_ne (ne_of_none q hn)]; exact q
end
def Rd (H : Hp) (a : Addr) (u : HO) : Prop := H a = some u ∨ ∃ o, H a = some (.frz o u)
theorem Rd.ok {P : Program} {w : World} {H : Hp} {h : Heap} {a : Addr} {u : HO} (r : Rd H a u) (x : HOk P w H h) : ObjOk P w H h a u := by
  rcases r with r | ⟨o, r⟩
  · exact x a u r
  · obtain ⟨_, q⟩ := x a _ r
    exact q
def Mut : Option HO → Prop
  | some (.lst _) => True
  | some (.dK _) => True
  | some (.dT _) => True
  | some (.set _ _) => True
  | some (.ins _ _ _) => True
  | some (.ext _) => True
  | _ => False
section
variable {P : Program} {w : World} {H : Hp} {h h' : Heap} {x e : Addr} {o' : HO}
theorem HOk.write (ok : HOk P w H h) (mu : Mut (H x)) (he : e = x ∨ H e = some (.own x)) (k : ∀ b u, b ≠ e → h.get? b = some u → h'.get? b = some u) (heo : ∃ u, h'.get? e = some u)
    (new : ObjOk P w (upd H x o') h' x o') : HOk P w (upd H x o') h' := fun b u q => by
  have nown : ∀ c y, H c = some (.own y) → c ≠ x := fun c y r z => by subst z; rw [r] at mu; exact mu
  have ntup : ∀ c xs, H c = some (.tup xs) → c ≠ x := fun c xs r z => by subst z; rw [r] at mu; exact mu
  by_cases hb : b = x
  · subst hb; rw [upd_same] at q; cases q; exact new
  · rw [upd_ne hb] at q
    by_cases hbe : b = e
    · have q' : H b = some (.own x) := by
        rcases he with z | z
        · exact absurd (hbe.trans z) hb
        · rw [hbe]; exact z
      rw [q] at q'; cases q'
      obtain ⟨v, hv⟩ := heo
      exact ⟨v, by rw [hbe]; exact hv⟩
    · refine (ok b u q).stay (fun c v hc r => k c v ?_ r) (fun c r => by rw [upd_ne (nown c b r)]; exact r) fun c xs r => by rw [upd_ne (ntup c xs r)]; exact r
      rcases hc with rfl | hc
      · exact hbe
      · rintro rfl
        rcases he with z | z
        · exact nown c b hc z
        · rw [hc] at z; cases z; exact hb rfl
end
structure Un (fs ex : List Addr) (H H' : Hp) (h h' : Heap) : Prop where
  keep : ∀ b o, h.get? b = some o → H b = none → b ∉ fs → b ∉ ex → h'.get? b = some o
  slot : ∀ b o, h.get? b = some o → H b = none → b ∈ fs → b ∉ ex → ∃ sl, h'.get? b = some { o with slots := sl }
  free : ∀ b o, h.get? b = some o → H b = none → b ∉ ex → H' b = none
  there : ∀ b o, h.get? b = some o → b ∉ ex → ∃ o', h'.get? b = some o'
  tups : ∀ b xs, H b = some (.tup xs) → H' b = some (.tup xs)
  frzs : ∀ b o u, H b = some (.frz o u) → H' b = some (.frz o u)
  tbls : ∀ b ps, H b = some (.tbl ps) → ∃ more, H' b = some (.tbl (ps ++ more))
section
variable {fs fs' ex ex' : List Addr} {H H1 H2 : Hp} {h h1 h2 h' : Heap} {a x e : Addr} {o : HO}
theorem Un.any (u : Un fs ex H H1 h h1) {b : Addr} {ob : Obj} (q : h.get? b = some ob) (n : H b = none) (hx : b ∉ ex) : ∃ sl, h1.get? b = some { ob with slots := sl } := by
  by_cases hb : b ∈ fs
  · exact u.slot b ob q n hb hx
  · exact ⟨ob.slots, u.keep b ob q n hb hx⟩
theorem Un.kept (k : ∀ b u, h.get? b = some u → h'.get? b = some u) : Un fs ex H H h h' :=
  ⟨fun b ob q _ _ _ => k b ob q, fun b ob q _ _ _ => ⟨ob.slots, k b ob q⟩, fun _ _ _ n _ => n, fun b ob q _ => ⟨ob, k b ob q⟩, fun _ _ q => q, fun _ _ _ q => q, fun _ ps q => ⟨#[], by rw [q]; simp⟩⟩
theorem Un.refl : Un fs ex H H h h := Un.kept fun _ _ q => q
theorem Un.laid (k : ∀ b u, h.get? b = some u → h'.get? b = some u) (hp : h.objs.size ≤ a) (hn : H a = none) : Un fs ex H (upd H a o) h h' where
  keep := fun b u q _ _ _ => k b u q
  slot := fun b u q _ _ _ => ⟨u.slots, k b u q⟩
  free := fun b u q n _ => by rw [upd_ne (Nat.ne_of_lt (Nat.lt_of_lt_of_le (Heap.lt_size q) hp))]; exact n
  there := fun b u q _ => ⟨u, k b u q⟩
  tups := fun b xs q => by rw [upd_ne (ne_of_none q hn)]; exact q
  frzs := fun b u xs q => by rw [upd_ne (ne_of_none q hn)]; exact q
  tbls := fun b ps q => ⟨#[], by rw [upd_ne (ne_of_none q hn), q]; simp⟩
theorem Un.write (mu : Mut (H x)) (he : e = x ∨ H e = some (.own x)) (k : ∀ b u, b ≠ e → h.get? b = some u → h'.get? b = some u) (heo : ∃ u, h'.get? e = some u) : Un fs ex H (upd H x o) h h' := by
  have hx : ∀ b, H b = none → b ≠ x := fun b n z => by subst z; rw [n] at mu; exact mu
  have hb : ∀ b, H b = none → b ≠ e := fun b n z => by
    subst z
    rcases he with r | r
    · exact hx b n r
    · rw [n] at r; cases r
  have hm : ∀ b u, H b = some u → ¬ Mut (some u) → b ≠ x := fun b u q nm z => by subst z; rw [q] at mu; exact nm mu
  refine ⟨fun b u q n _ _ => k b u (hb b n) q, fun b u q n _ _ => ⟨u.slots, k b u (hb b n) q⟩, fun b u q n _ => by rw [upd_ne (hx b n)]; exact n, fun b u q _ => ?_,
    fun b xs q => by rw [upd_ne (hm b _ q fun z => z)]; exact q, fun b u xs q => by rw [upd_ne (hm b _ q fun z => z)]; exact q, fun b ps q => ⟨#[], by rw [upd_ne (hm b _ q fun z => z), q]; simp⟩⟩
  by_cases hbe : b = e
  · subst hbe; exact heo
  · exact ⟨u, k b u hbe q⟩
end
def trk (h : Heap) (H : Hp) : List Addr := (List.range h.objs.size).filter fun a => (H a).isSome
def hidT (h : Heap) (H : Hp) : Heap := PySem.W.hideAll h (trk h H)
theorem hidT_size (h : Heap) (H : Hp) : (hidT h H).objs.size = h.objs.size := PySem.W.hideAll_size _ _
theorem hidT_get {h : Heap} {H : Hp} {b : Addr} {o : Obj} (e : h.get? b = some o) (n : H b = none) : (hidT h H).get? b = some o :=
  PySem.W.hideAll_get _ e fun hm => by
    have q : (H b).isSome = true := (List.mem_filter.mp hm).2
    rw [n] at q; simp at q
theorem of_hidT {h : Heap} {H : Hp} {b : Addr} {o : Obj} (e : (hidT h H).get? b = some o) : h.get? b = some o ∧ H b = none := by
  have e' : h.get? b = some o := PySem.W.of_hideAll (trk h H) e
  refine ⟨e', ?_⟩
  cases q : H b with
  | none => rfl
  | some x =>
    have hm : b ∈ trk h H := List.mem_filter.mpr ⟨List.mem_range.mpr (Heap.lt_size e'), by simp [q]⟩
    have z : (hidT h H).get? b = none := PySem.W.hideAll_none (trk h H) hm
    rw [z] at e; cases e
def allNews (g h : Heap) (L : Addr) : List (Addr × Obj) := (List.range h.objs.size).filterMap fun a => if a = L ∨ (g.get? a).isSome = true then none else (h.get? a).map fun o => (a, o)
def rest (g h : Heap) (L d : Addr) : List (Addr × Obj) := (allNews g h L).filter fun p => decide (p.1 ≠ d)
end L2
namespace L2
open PySem PySem.Spec PyProof.Rows
structure Mod (K : PySem.W.Frag) (mg : Str → Option Value) (base : Heap) : Prop where
  kin : K.In base
  glob : base.Ns mainGlobals mg
  blt : ∃ mb, base.Ns builtinsNs mb ∧ ∀ x : Str, x ≠ "__name__" → mb x = bootBuiltins x
  nolimit : base.NoLimit
structure Cx where
  prog : Program
  w : World
  K : PySem.W.Frag
  mg : Str → Option Value
  base : Heap
  A : Around
  N : List Str
  s₀ : Shared
  H₀ : Hp
  env : Env
  outer : List Env
  stack : List Env
  ex : List Addr
  fn : Str → Bool
  calm : Bool
  pn : List (Addr × Obj)
  xe : Value → Shared → Prop
def frs (l : List Env) : List Addr := l.filterMap (·.frame)
abbrev Cx.fs (X : Cx) : List Addr := frs X.outer
def Vis (sc : Scope) (x : Str) : Prop := sc.names.lookup x = some .local ∨ sc.names.lookup x = some .cell ∨ sc.names.lookup x = some .free
def Loc (sc : Scope) (x : Str) : Prop := sc.names.lookup x = some .local ∨ sc.names.lookup x = some .cell
def Look (env : Env) (h : Heap) (m : Str → Option Value) (x : Str) (u : Value) : Prop :=
  (env.kindOf x = some .local ∧ m x = some u) ∨ ((env.kindOf x = some .cell ∨ env.kindOf x = some .free) ∧ ∃ c, env.cells.lookup x = some c ∧ h.IsCell c (some u))
structure Cx.Ok (X : Cx) : Prop where
  mod : Mod X.K X.mg X.base
  kind : X.env.scope.kind = .function
  glob : X.env.globals = mainGlobals
  blt : X.env.builtins = builtinsNs
  above : X.s₀.heap.objs.size ≤ X.env.locals
  inj : ∀ x y c, X.env.cells.lookup x = some c → X.env.cells.lookup y = some c → x = y
  has : ∀ x, (X.env.kindOf x = some .cell ∨ X.env.kindOf x = some .free) → ∃ c, X.env.cells.lookup x = some c
  cab : ∀ x c, X.fn x = true → X.env.cells.lookup x = some c → X.s₀.heap.objs.size ≤ c
  hd : X.calm = true → X.A.handled = none
  frames : X.A.frames = some X.stack
  stk : X.stack = X.outer ∨ (X.stack = X.env :: X.outer ∧ X.env.frame = some X.env.locals)
  exf : ∀ b ∈ X.ex, b ≠ X.env.locals ∧ ∀ x c, X.env.cells.lookup x = some c → c ≠ b
  bs : ∀ b o, X.base.get? b = some o → X.s₀.heap.get? b = some o ∧ X.H₀ b = none
  bsz : X.base.objs.size ≤ X.s₀.heap.objs.size
  noex : ∀ b o, X.base.get? b = some o → b ∉ X.ex
  exfs : ∀ b ∈ X.ex, b ∉ X.fs
  funs : X.s₀.heap.FunFrames X.base X.outer
  frf : ∀ b ∈ X.fs, X.H₀ b = none
structure Inv (X : Cx) (pins : List (Addr × Obj)) (σ : List (Option V)) (H : Hp) (s : Shared) : Prop where
  ok : X.Ok
  os : s.os = X.s₀.os
  bare : AllBare s.gens
  base : Un X.fs X.ex X.H₀ H X.s₀.heap s.heap
  loc : ∃ m, s.heap.Ns X.env.locals m ∧ ∀ (i : Nat) (x : Str) (v : V), X.N[i]? = some x → σ[i]? = some (some v) → Vis X.env.scope x → ∃ u, RelV v u ∧ Look X.env s.heap m x u
  cell : ∀ x c, X.env.cells.lookup x = some c → ∃ v, s.heap.IsCell c v
  free : H X.env.locals = none
  freeC : ∀ x c, X.env.cells.lookup x = some c → H c = none
  pin : ∀ p ∈ X.pn ++ pins, s.heap.get? p.1 = some p.2 ∧ H p.1 = none ∧ p.1 ≠ X.env.locals ∧ p.1 ∉ X.fs ∧ ∀ v, p.2.data ≠ .cell v
  hok : HOk X.prog X.w H s.heap
  len : σ.length = X.N.length
section
variable {X : Cx} {pins : List (Addr × Obj)} {σ : List (Option V)} {H H' : Hp} {s : Shared} {h' : Heap}
theorem Cx.Ok.nofr (ok : X.Ok) {b : Addr} {o : Obj} (e : X.base.get? b = some o) : b ∉ X.fs := fun hb => by
  have := (ok.funs.mem hb).1
  rw [e] at this; cases this
theorem Inv.bs (I : Inv X pins σ H s) : ∀ b o, X.base.get? b = some o → s.heap.get? b = some o ∧ H b = none := fun b o e =>
  ⟨I.base.keep b o (I.ok.bs b o e).1 (I.ok.bs b o e).2 (I.ok.nofr e) (I.ok.noex b o e), I.base.free b o (I.ok.bs b o e).1 (I.ok.bs b o e).2 (I.ok.noex b o e)⟩
theorem Inv.bk (I : Inv X pins σ H s) : ∀ b o, X.base.get? b = some o → s.heap.get? b = some o := fun b o e => (I.bs b o e).1
theorem Inv.mod (I : Inv X pins σ H s) : Mod X.K X.mg X.base := I.ok.mod
theorem Inv.kIn (I : Inv X pins σ H s) : X.K.In s.heap := I.ok.mod.kin.keeps I.bk
theorem Inv.lt (I : Inv X pins σ H s) : X.env.locals < s.heap.objs.size := let ⟨_, hn, _⟩ := I.loc; hn.lt
theorem Inv.sz (I : Inv X pins σ H s) : X.s₀.heap.objs.size ≤ s.heap.objs.size := Nat.le_trans I.ok.above (Nat.le_of_lt I.lt)
theorem Inv.nofs (I : Inv X pins σ H s) {a : Addr} (h : s.heap.objs.size ≤ a) : a ∉ X.fs := fun hb => by
  obtain ⟨_, o, ho, _⟩ := I.ok.funs.mem hb
  exact absurd (Nat.lt_of_lt_of_le (Heap.lt_size ho) (Nat.le_trans I.sz h)) (Nat.lt_irrefl _)
theorem Inv.cne (I : Inv X pins σ H s) : ∀ x c, X.env.cells.lookup x = some c → c ≠ X.env.locals := fun x c e z => by
  obtain ⟨v, o, ho, hd⟩ := I.cell x c e
  obtain ⟨m, ⟨o', es, ep, ho', hd', _⟩, _⟩ := I.loc
  rw [z, ho'] at ho; cases ho; rw [hd'] at hd; cases hd
theorem Inv.funs (I : Inv X pins σ H s) : s.heap.FunFrames X.base X.outer := by
  have all : ∀ (l : List Env), (∀ b ∈ frs l, b ∈ X.fs) → X.s₀.heap.FunFrames X.base l → s.heap.FunFrames X.base l := by
    intro l
    induction l with
    | nil => intro _ _; trivial
    | cons env r ih =>
      intro hs hl
      obtain ⟨hk, ⟨L, o, hf, hn, ho, hd⟩, hr⟩ := hl
      have hL : L ∈ X.fs := hs L (by unfold frs; rw [List.filterMap_cons, hf]; exact List.mem_cons_self)
      obtain ⟨sl, e⟩ := I.base.slot L o ho (I.ok.frf L hL) hL fun z => I.ok.exfs L z hL
      exact ⟨hk, ⟨L, _, hf, hn, e, hd⟩, ih (fun b hb => hs b (by unfold frs; rw [List.filterMap_cons, hf]; exact List.mem_cons_of_mem _ hb)) hr⟩
  exact all X.outer (fun _ hb => hb) I.ok.funs
theorem Inv.stack (I : Inv X pins σ H s) : s.heap.FunFrames X.base X.stack := by
  rcases I.ok.stk with e | ⟨e, hf⟩
  · rw [e]; exact I.funs
  · rw [e]
    obtain ⟨m, hn, _⟩ := I.loc
    refine .cons (by rw [I.ok.kind]; decide) hf hn ?_ I.funs
    exact Heap.get?_none_of_le (Nat.le_trans I.ok.bsz I.ok.above)
theorem Inv.stkSub (I : Inv X pins σ H s) : ∀ b ∈ frs X.stack, b ∈ X.env.locals :: X.fs := fun b hb => by
  rcases I.ok.stk with e | ⟨e, hf⟩
  · rw [e] at hb; exact List.mem_cons_of_mem _ hb
  · rw [e] at hb
    unfold frs at hb
    rw [List.filterMap_cons, hf] at hb
    exact hb
theorem Inv.stkFree (I : Inv X pins σ H s) : ∀ b ∈ frs X.stack, H b = none := fun b hb => by
  rcases List.mem_cons.mp (I.stkSub b hb) with e | hb
  · rw [e]; exact I.free
  · obtain ⟨_, o, ho, _⟩ := I.ok.funs.mem hb
    exact I.base.free b o ho (I.ok.frf b hb) fun z => I.ok.exfs b z hb
theorem Inv.step {g' : Array GenState} {t' : Nat} {d' : Drawn} {ch : List Addr} (I : Inv X pins σ H s)
    (hch : ∀ b ∈ ch, (b ∈ X.ex ∨ X.s₀.heap.objs.size ≤ b) ∧ b ≠ X.env.locals ∧ (∀ x c, X.env.cells.lookup x = some c → c ≠ b) ∧ ∀ p ∈ X.pn ++ pins, p.1 ≠ b)
    (keep : ∀ b o, b ≠ X.env.locals → b ∉ X.fs → b ∉ ch → s.heap.get? b = some o → H b = none → h'.get? b = some o)
    (slot : ∀ b o, b ≠ X.env.locals → b ∈ X.fs → b ∉ ch → s.heap.get? b = some o → H b = none → ∃ sl, h'.get? b = some { o with slots := sl }) (free : ∀ b o, b ∉ ch → s.heap.get? b = some o → H b = none → H' b = none)
    (there : ∀ b o, b ∉ ch → s.heap.get? b = some o → ∃ o', h'.get? b = some o')
    (tups : ∀ b xs, H b = some (.tup xs) → H' b = some (.tup xs)) (frzs : ∀ b o u, H b = some (.frz o u) → H' b = some (.frz o u)) (tbls : ∀ b ps, H b = some (.tbl ps) → ∃ more, H' b = some (.tbl (ps ++ more)))
    (ns : ∀ m, s.heap.Ns X.env.locals m → h'.Ns X.env.locals m) (hok : HOk X.prog X.w H' h') (hg : AllBare g') :
    Inv X pins σ H' { s with heap := h', gens := g', drawn := d', toks := t' } := by
  have neL : ∀ b o, X.s₀.heap.get? b = some o → b ≠ X.env.locals := fun b o e => Nat.ne_of_lt (Nat.lt_of_lt_of_le (Heap.lt_size e) I.ok.above)
  have neC : ∀ b o, X.s₀.heap.get? b = some o → b ∉ X.ex → b ∉ ch := fun b o e hx hb => by
    rcases (hch b hb).1 with z | z
    · exact hx z
    · exact absurd (Nat.lt_of_lt_of_le (Heap.lt_size e) z) (Nat.lt_irrefl _)
  have cellK : ∀ x c, X.env.cells.lookup x = some c → ∀ v, s.heap.IsCell c v → h'.IsCell c v := fun x c e v ⟨o, ho, hd⟩ => by
    have nch : c ∉ ch := fun z => (hch c z).2.2.1 x c e rfl
    by_cases hc : c ∈ X.fs
    · obtain ⟨sl, q⟩ := slot c o (I.cne x c e) hc nch ho (I.freeC x c e)
      exact ⟨_, q, hd⟩
    · exact ⟨o, keep c o (I.cne x c e) hc nch ho (I.freeC x c e), hd⟩
  refine ⟨I.ok, I.os, hg, ⟨fun b o e n hb hx => ?_, fun b o e n hb hx => ?_, fun b o e n hx => ?_, fun b o e hx => ?_, fun b xs e => tups b xs (I.base.tups b xs e), fun b o xs e => frzs b o xs (I.base.frzs b o xs e), fun b ps e => ?_⟩, ?_, fun x c e => ?_, ?_, fun x c e => ?_, fun p hp => ?_, hok, I.len⟩
  · exact keep b o (neL b o e) hb (neC b o e hx) (I.base.keep b o e n hb hx) (I.base.free b o e n hx)
  · obtain ⟨sl, e1⟩ := I.base.slot b o e n hb hx
    obtain ⟨sl', e2⟩ := slot b _ (neL b o e) hb (neC b o e hx) e1 (I.base.free b o e n hx)
    exact ⟨sl', e2⟩
  · obtain ⟨o', e1⟩ := I.base.there b o e hx
    exact free b o' (neC b o e hx) e1 (I.base.free b o e n hx)
  · obtain ⟨o', e1⟩ := I.base.there b o e hx
    exact there b o' (neC b o e hx) e1
  · obtain ⟨m1, e1⟩ := I.base.tbls b ps e
    obtain ⟨m2, e2⟩ := tbls b _ e1
    exact ⟨m1 ++ m2, by rw [e2, Array.append_assoc]⟩
  · obtain ⟨m, hn, hl⟩ := I.loc
    refine ⟨m, ns m hn, fun i x v e1 e2 e3 => ?_⟩
    obtain ⟨u, r, l⟩ := hl i x v e1 e2 e3
    refine ⟨u, r, ?_⟩
    rcases l with l | ⟨k, c, e, z⟩
    · exact .inl l
    · exact .inr ⟨k, c, e, cellK x c e _ z⟩
  · obtain ⟨v, z⟩ := I.cell x c e
    exact ⟨v, cellK x c e v z⟩
  · obtain ⟨m, ⟨o, _, _, ho, _⟩, _⟩ := I.loc
    exact free _ o (fun z => (hch _ z).2.1 rfl) ho I.free
  · obtain ⟨v, o, ho, hd⟩ := I.cell x c e
    exact free c o (fun z => (hch c z).2.2.1 x c e rfl) ho (I.freeC x c e)
  · obtain ⟨e, n, ne, nf, d⟩ := I.pin p hp
    have nch : p.1 ∉ ch := fun z => (hch p.1 z).2.2.2 p hp rfl
    exact ⟨keep p.1 p.2 ne nf nch e n, free p.1 p.2 nch e n, ne, nf, d⟩
theorem Inv.un {t' : Nat} (I : Inv X pins σ H s) (u : Un X.fs [] H H' s.heap h') (hok : HOk X.prog X.w H' h') : Inv X pins σ H' { s with heap := h', toks := t' } := by
  obtain ⟨m, ⟨o, es, ep, ho, r⟩, _⟩ := id I.loc
  obtain ⟨sl, hL⟩ := u.any ho I.free (by simp)
  exact I.step (g' := s.gens) (d' := s.drawn) (ch := []) (fun _ z => nomatch z) (fun b o _ hb _ e n => u.keep b o e n hb (by simp)) (fun b o _ hb _ e n => u.slot b o e n hb (by simp)) (fun b o _ e n => u.free b o e n (by simp)) (fun b o _ e => u.there b o e (by simp)) u.tups u.frzs u.tbls (fun m' hm => by
    obtain ⟨o', es', ep', ho', r'⟩ := hm
    rw [ho] at ho'; cases ho'
    exact ⟨_, es', ep', hL, r'⟩) hok I.bare
theorem Inv.call {g' : Array GenState} {t' : Nat} {d' : Drawn} {ch : List Addr} (I : Inv X pins σ H s) (u : Un (frs X.stack) ch H H' s.heap h') (hok : HOk X.prog X.w H' h') (hg : AllBare g')
    (hch : ∀ b ∈ ch, (b ∈ X.ex ∨ X.s₀.heap.objs.size ≤ b) ∧ b ≠ X.env.locals ∧ (∀ x c, X.env.cells.lookup x = some c → c ≠ b) ∧ ∀ p ∈ X.pn ++ pins, p.1 ≠ b) :
    Inv X pins σ H' { s with heap := h', gens := g', drawn := d', toks := t' } := by
  obtain ⟨m, ⟨o, es, ep, ho, r⟩, _⟩ := id I.loc
  obtain ⟨sl, hL⟩ := u.any ho I.free fun z => (hch _ z).2.1 rfl
  exact I.step (ch := ch) hch (fun b o hL hb hc e n => u.keep b o e n (fun z => (List.mem_cons.mp (I.stkSub b z)).elim hL hb) hc) (fun b o _ _ hc e n => u.any e n hc) (fun b o hc e n => u.free b o e n hc) (fun b o hc e => u.there b o e hc) u.tups u.frzs u.tbls (fun m' hm => by
    obtain ⟨o', es', ep', ho', r'⟩ := hm
    rw [ho] at ho'; cases ho'
    exact ⟨_, es', ep', hL, r'⟩) hok hg
theorem Inv.turned {t' : Nat} {it : Addr} (I : Inv X pins σ H s) (k : ∀ b o, b ≠ it → s.heap.get? b = some o → h'.get? b = some o) (hn : H it = none) (hL : it ≠ X.env.locals)
    (h1 : it ∈ X.ex ∨ X.s₀.heap.objs.size ≤ it) (h2 : ∀ x c, X.env.cells.lookup x = some c → c ≠ it) (h3 : ∀ p ∈ X.pn ++ pins, p.1 ≠ it) : Inv X pins σ H { s with heap := h', toks := t' } := by
  have nit : ∀ b u, H b = some u → b ≠ it := fun b u e z => by rw [z, hn] at e; cases e
  refine I.step (g' := s.gens) (d' := s.drawn) (ch := [it]) (fun b hb => ?_) (fun b o _ _ hc e _ => k b o (fun z => hc (by simp [z])) e) (fun b o _ _ hc e _ => ⟨o.slots, k b o (fun z => hc (by simp [z])) e⟩) (fun _ _ _ _ n => n)
    (fun b o hc e => ⟨o, k b o (fun z => hc (by simp [z])) e⟩) (fun _ _ e => e) (fun _ _ _ e => e) (fun b ps e => ⟨#[], by rw [e]; simp⟩) (fun m hm => ?_) (fun b u e => ?_) I.bare
  · have e : b = it := by simpa using hb
    subst e
    exact ⟨h1, hL, h2, h3⟩
  · obtain ⟨o, es, ep, ho, r⟩ := hm
    exact ⟨o, es, ep, k _ o (Ne.symm hL) ho, r⟩
  · refine (I.hok b u e).stay (fun c v hc q => k c v ?_ q) (fun _ q => q) fun _ _ q => q
    rcases hc with z | z
    · rw [z]; exact nit b u e
    · exact nit c _ z
theorem Inv.tok (I : Inv X pins σ H s) (t : Nat) : Inv X pins σ H { s with toks := t } := I.un (h' := s.heap) (t' := t) Un.refl I.hok
theorem Inv.kept {t' : Nat} (I : Inv X pins σ H s) (k : ∀ b u, s.heap.get? b = some u → h'.get? b = some u) : Inv X pins σ H { s with heap := h', toks := t' } := I.un (Un.kept k) (I.hok.kept k)
theorem Inv.laid {a : Addr} {o : HO} {t' : Nat} (I : Inv X pins σ H s) (k : ∀ b u, s.heap.get? b = some u → h'.get? b = some u) (hp : s.heap.objs.size ≤ a) (new : ObjOk X.prog X.w (upd H a o) h' a o) :
    Inv X pins σ (upd H a o) { s with heap := h', toks := t' } := I.un (Un.laid k hp (I.hok.fresh hp)) (I.hok.laid k hp new)
theorem Inv.write {x e : Addr} {o : HO} {t' : Nat} (I : Inv X pins σ H s) (mu : Mut (H x)) (he : e = x ∨ H e = some (.own x)) (k : ∀ b u, b ≠ e → s.heap.get? b = some u → h'.get? b = some u) (heo : ∃ u, h'.get? e = some u)
    (new : ObjOk X.prog X.w (upd H x o) h' x o) : Inv X pins σ (upd H x o) { s with heap := h', toks := t' } := I.un (Un.write mu he k heo) (I.hok.write mu he k heo new)
theorem Inv.pins_of {pins' : List (Addr × Obj)} (I : Inv X pins σ H s) (h : ∀ p ∈ pins', s.heap.get? p.1 = some p.2 ∧ H p.1 = none ∧ p.1 ≠ X.env.locals ∧ p.1 ∉ X.fs ∧ ∀ v, p.2.data ≠ .cell v) : Inv X pins' σ H s :=
  ⟨I.ok, I.os, I.bare, I.base, I.loc, I.cell, I.free, I.freeC, fun p hp => (List.mem_append.mp hp).elim (fun z => I.pin p (List.mem_append_left _ z)) (h p), I.hok, I.len⟩
theorem nodup_ix {N : List Str} (hN : N.Nodup) {i j : Nat} {x : Str} (a : N[i]? = some x) (b : N[j]? = some x) : i = j := by
  obtain ⟨h1, e1⟩ := List.getElem?_eq_some_iff.mp a
  obtain ⟨h2, e2⟩ := List.getElem?_eq_some_iff.mp b
  exact (List.getElem_inj hN).mp (e1.trans e2.symm)
theorem store_ok2 {M : Model} {A : Around} {E : Value → Shared → Prop} {i : Nat} {x : Str} {v : V} {u : Value} {Q : Unit → Shared → Prop} (I : Inv X pins σ H s) (hN : X.N.Nodup) (hi : X.N[i]? = some x) (hx : Loc X.env.scope x) (r : RelV v u)
    (h : ∀ s', Inv X pins (σ.set i (some v)) H s' → (∃ a, Heap.SameBut a s.heap s'.heap ∧ (a = X.env.locals ∨ X.env.cells.lookup x = some a)) → Q () s') (hf : X.fn x = true ∨ X.env.scope.names.lookup x = some .local := by first | exact .inl rfl | exact .inr rfl | assumption) : wpAny M A (storeName X.env x u) Q E s := by
  obtain ⟨m, hn, hl⟩ := id I.loc
  have hcls : (X.env.scope.kind == .class || (X.env.scope.kind == .module && X.env.locals != X.env.globals)) = false := by rw [I.ok.kind]; rfl
  have hiσ : i < σ.length := by rw [I.len]; exact (List.getElem?_eq_some_iff.mp hi).1
  have cne := I.cne
  have tracked : ∀ {a : Addr} {h' : Heap}, (∃ o, s.heap.get? a = some o ∧ H a = none) → Heap.SameBut a s.heap h' → HOk X.prog X.w H h' := fun {a h'} ha hs b ob e => by
    obtain ⟨_, _, hfree⟩ := ha
    refine (I.hok b ob e).stay (fun c w' hc q => (hs.2 c ?_).trans q) (fun _ q => q) fun _ _ q => q
    rintro rfl
    rcases hc with rfl | hc
    · rw [hfree] at e; cases e
    · rw [hfree] at hc; cases hc
  rcases hx with hk | hk
  · refine wpAny_storeName_local hk hn (fun h' hn' hs => ?_) hcls
    obtain ⟨oL, _, _, hoL, _⟩ := id hn
    refine h _ ⟨I.ok, I.os, I.bare, ⟨fun b o e n hb hx => ?_, fun b o e n hb hx => ?_, I.base.free, fun b o e hx => ?_, I.base.tups, I.base.frzs, I.base.tbls⟩, ⟨_, hn', fun j y v' e1 e2 e3 => ?_⟩, fun y c e => ?_, I.free, I.freeC, fun p hp => ?_, tracked ⟨oL, hoL, I.free⟩ hs, by simpa using I.len⟩ ⟨_, hs, .inl rfl⟩
    · exact (hs.2 b (Nat.ne_of_lt (Nat.lt_of_lt_of_le (Heap.lt_size e) I.ok.above))).trans (I.base.keep b o e n hb hx)
    · obtain ⟨sl, e1⟩ := I.base.slot b o e n hb hx
      exact ⟨sl, (hs.2 b (Nat.ne_of_lt (Nat.lt_of_lt_of_le (Heap.lt_size e) I.ok.above))).trans e1⟩
    · obtain ⟨o', e1⟩ := I.base.there b o e hx
      exact ⟨o', (hs.2 b (Nat.ne_of_lt (Nat.lt_of_lt_of_le (Heap.lt_size e) I.ok.above))).trans e1⟩
    · by_cases hj : j = i
      · subst hj
        rw [hi] at e1; cases e1
        rw [List.getElem?_set_self hiσ] at e2
        cases e2
        exact ⟨u, r, .inl ⟨hk, by simp⟩⟩
      · rw [List.getElem?_set_ne (Ne.symm hj)] at e2
        obtain ⟨u', r', q⟩ := hl j y v' e1 e2 e3
        refine ⟨u', r', ?_⟩
        rcases q with ⟨k, e⟩ | ⟨k, c, e, z⟩
        · refine .inl ⟨k, ?_⟩
          have : y ≠ x := fun e => hj (nodup_ix hN e1 (e ▸ hi))
          simp [this, e]
        · exact .inr ⟨k, c, e, z.sameBut hs (cne y c e)⟩
    · obtain ⟨w', z⟩ := I.cell y c e
      exact ⟨w', z.sameBut hs (cne y c e)⟩
    · obtain ⟨e, n, ne, nf, d⟩ := I.pin p hp
      exact ⟨(hs.2 p.1 ne).trans e, n, ne, nf, d⟩
  · have hfn : X.fn x = true := by
      rcases hf with z | z
      · exact z
      · rw [z] at hk; cases hk
    obtain ⟨c, hc⟩ := I.ok.has x (.inl hk)
    obtain ⟨w', z⟩ := I.cell x c hc
    refine wpAny_storeName_cell I.ok.kind hk hc z (fun h' hc' hs => ?_)
    obtain ⟨oc, hoc, hocd⟩ := id z
    refine h { s with heap := h' } ⟨I.ok, I.os, I.bare, ⟨fun b o e n hb hx => ?_, fun b o e n hb hx => ?_, I.base.free, fun b o e hx => ?_, I.base.tups, I.base.frzs, I.base.tbls⟩, ⟨m, hn.sameBut hs (Ne.symm (cne x c hc)), fun j y v' e1 e2 e3 => ?_⟩, fun y c' e => ?_, I.free, I.freeC, fun p hp => ?_, tracked ⟨oc, hoc, I.freeC x c hc⟩ hs, by simpa using I.len⟩ ⟨c, hs, .inr hc⟩
    · exact (hs.2 b (Nat.ne_of_lt (Nat.lt_of_lt_of_le (Heap.lt_size e) (I.ok.cab x c hfn hc)))).trans (I.base.keep b o e n hb hx)
    · obtain ⟨sl, e1⟩ := I.base.slot b o e n hb hx
      exact ⟨sl, (hs.2 b (Nat.ne_of_lt (Nat.lt_of_lt_of_le (Heap.lt_size e) (I.ok.cab x c hfn hc)))).trans e1⟩
    · obtain ⟨o', e1⟩ := I.base.there b o e hx
      exact ⟨o', (hs.2 b (Nat.ne_of_lt (Nat.lt_of_lt_of_le (Heap.lt_size e) (I.ok.cab x c hfn hc)))).trans e1⟩
    · by_cases hj : j = i
      · subst hj
        rw [hi] at e1; cases e1
        rw [List.getElem?_set_self hiσ] at e2
        cases e2
        exact ⟨u, r, .inr ⟨.inl hk, c, hc, hc'⟩⟩
      · rw [List.getElem?_set_ne (Ne.symm hj)] at e2
        obtain ⟨u', r', q⟩ := hl j y v' e1 e2 e3
        refine ⟨u', r', ?_⟩
        rcases q with q | ⟨k, c', e, z'⟩
        · exact .inl q
        · refine .inr ⟨k, c', e, z'.sameBut hs ?_⟩
          rintro rfl
          exact hj (nodup_ix hN e1 (I.ok.inj _ _ _ e hc ▸ hi))
    · by_cases hcc : c' = c
      · subst hcc; exact ⟨_, hc'⟩
      · obtain ⟨w2, z2⟩ := I.cell y c' e
        exact ⟨w2, z2.sameBut hs hcc⟩
    · obtain ⟨e, n, ne, nf, d⟩ := I.pin p hp
      refine ⟨(hs.2 p.1 ?_).trans e, n, ne, nf, d⟩
      intro q
      rw [q, hoc] at e
      have q' : oc = p.2 := Option.some.inj e
      exact d w' (by rw [← q']; exact hocd)
theorem store_ok {M : Model} {A : Around} {E : Value → Shared → Prop} {i : Nat} {x : Str} {v : V} {u : Value} {Q : Unit → Shared → Prop} (I : Inv X pins σ H s) (hN : X.N.Nodup) (hi : X.N[i]? = some x) (hx : Loc X.env.scope x) (r : RelV v u)
    (h : ∀ s', Inv X pins (σ.set i (some v)) H s' → Q () s') (hf : X.fn x = true ∨ X.env.scope.names.lookup x = some .local := by first | exact .inl rfl | exact .inr rfl | assumption) : wpAny M A (storeName X.env x u) Q E s :=
  store_ok2 I hN hi hx r (fun s' I' _ => h s' I') hf
theorem Inv.call' {s' : Shared} {ch : List Addr} (I : Inv X pins σ H s) (ho : s'.os = s.os) (u : Un (frs X.stack) ch H H' s.heap s'.heap) (hok : HOk X.prog X.w H' s'.heap) (hg : AllBare s'.gens)
    (hch : ∀ b ∈ ch, (b ∈ X.ex ∨ X.s₀.heap.objs.size ≤ b) ∧ b ≠ X.env.locals ∧ (∀ x c, X.env.cells.lookup x = some c → c ≠ b) ∧ ∀ p ∈ X.pn ++ pins, p.1 ≠ b) : Inv X pins σ H' s' := by
  obtain ⟨h', g', d', t', o'⟩ := s'
  have e : o' = s.os := ho
  subst e
  exact I.call (g' := g') (t' := t') (d' := d') u hok hg hch
end
abbrev XK := Value → Option Addr → Hp → Prop
abbrev St := List (Option V)
abbrev VK := V → Hp → Prop
abbrev TE := St → Hp → VK → Prop
abbrev TT := St → Hp → (Bool → Hp → Prop) → Prop
abbrev TA := St → Hp → (List V → Hp → Prop) → Prop
structure Ends where
  nx : St → Hp → Prop
  rt : VK
  bk : St → Hp → Prop := fun _ _ => False
  ct : St → Hp → Prop := fun _ _ => False
abbrev TS := Ends → St → Hp → Prop
def EP (X : Cx) (pins : List (Addr × Obj)) (σ : St) (Q : VK) (u : Value) (s' : Shared) : Prop := ∃ v H', Inv X pins σ H' s' ∧ RelV v u ∧ Q v H'
def TP (X : Cx) (pins : List (Addr × Obj)) (σ : St) (Q : Bool → Hp → Prop) (b : Bool) (s' : Shared) : Prop := ∃ H', Inv X pins σ H' s' ∧ Q b H'
def AP (X : Cx) (pins : List (Addr × Obj)) (σ : St) (Q : List V → Hp → Prop) (us : List Value) (s' : Shared) : Prop := ∃ vs H', Inv X pins σ H' s' ∧ Vals vs us ∧ Q vs H'
def SP (X : Cx) (pins : List (Addr × Obj)) (D : Ends) (f : Flow) (s' : Shared) : Prop :=
  match f with
  | .next => ∃ σ' H', Inv X pins σ' H' s' ∧ D.nx σ' H'
  | .brk => ∃ σ' H', Inv X pins σ' H' s' ∧ D.bk σ' H'
  | .cont => ∃ σ' H', Inv X pins σ' H' s' ∧ D.ct σ' H'
  | .ret u => ∃ v σ' H', Inv X pins σ' H' s' ∧ RelV v u ∧ D.rt v H'
structure PE (X : Cx) (e : Expr) (t : TE) : Prop where
  run :
    ∀ (pins : List (Addr × Obj)) (s : Shared) (σ : St) (H : Hp) (Q : VK), Inv X pins σ H s → t σ H Q → wpAny (model X.prog X.w) X.A (eval e X.env) (EP X pins σ Q) X.xe s
instance {X : Cx} {e : Expr} {t : TE} : CoeFun (PE X e t) fun _ =>
  ∀ (pins : List (Addr × Obj)) (s : Shared) (σ : St) (H : Hp) (Q : VK), Inv X pins σ H s → t σ H Q → wpAny (model X.prog X.w) X.A (eval e X.env) (EP X pins σ Q) X.xe s
    := ⟨PE.run⟩
structure PT (X : Cx) (e : Expr) (t : TT) : Prop where
  run :
    ∀ (pins : List (Addr × Obj)) (s : Shared) (σ : St) (H : Hp) (Q : Bool → Hp → Prop), Inv X pins σ H s → t σ H Q → wpAny (model X.prog X.w) X.A (isTrue e X.env (eval e X.env)) (TP X pins σ Q) X.xe s
instance {X : Cx} {e : Expr} {t : TT} : CoeFun (PT X e t) fun _ =>
  ∀ (pins : List (Addr × Obj)) (s : Shared) (σ : St) (H : Hp) (Q : Bool → Hp → Prop), Inv X pins σ H s → t σ H Q → wpAny (model X.prog X.w) X.A (isTrue e X.env (eval e X.env)) (TP X pins σ Q) X.xe s
    := ⟨PT.run⟩
structure PW (X : Cx) (e : Expr) (t : TT) : Prop where
  run :
    ∀ (whole : Sem Value) (pins : List (Addr × Obj)) (s : Shared) (σ : St) (H : Hp) (Q : Bool → Hp → Prop), Inv X pins σ H s → t σ H Q → wpAny (model X.prog X.w) X.A (isTrue e X.env whole) (TP X pins σ Q) X.xe s
instance {X : Cx} {e : Expr} {t : TT} : CoeFun (PW X e t) fun _ =>
  ∀ (whole : Sem Value) (pins : List (Addr × Obj)) (s : Shared) (σ : St) (H : Hp) (Q : Bool → Hp → Prop), Inv X pins σ H s → t σ H Q → wpAny (model X.prog X.w) X.A (isTrue e X.env whole) (TP X pins σ Q) X.xe s
    := ⟨PW.run⟩
theorem PW.pt {X : Cx} {e : Expr} {t : TT} (h : PW X e t) : PT X e t := ⟨h.run _⟩
structure PA (X : Cx) (es : List Expr) (t : TA) : Prop where
  run :
    ∀ (pos : Pos) (pins : List (Addr × Obj)) (s : Shared) (σ : St) (H : Hp) (Q : List V → Hp → Prop), Inv X pins σ H s → t σ H Q → wpAny (model X.prog X.w) X.A (spliced (backTo pos (starEach es X.env))) (AP X pins σ Q) X.xe s
instance {X : Cx} {es : List Expr} {t : TA} : CoeFun (PA X es t) fun _ =>
  ∀ (pos : Pos) (pins : List (Addr × Obj)) (s : Shared) (σ : St) (H : Hp) (Q : List V → Hp → Prop), Inv X pins σ H s → t σ H Q → wpAny (model X.prog X.w) X.A (spliced (backTo pos (starEach es X.env))) (AP X pins σ Q) X.xe s
    := ⟨PA.run⟩
structure PS (X : Cx) (st : Stmt) (t : TS) : Prop where
  run :
    ∀ (pins : List (Addr × Obj)) (s : Shared) (σ : St) (H : Hp) (D : Ends), Inv X pins σ H s → t D σ H → wpAny (model X.prog X.w) X.A (exec st X.env) (SP X pins D) X.xe s
instance {X : Cx} {st : Stmt} {t : TS} : CoeFun (PS X st t) fun _ =>
  ∀ (pins : List (Addr × Obj)) (s : Shared) (σ : St) (H : Hp) (D : Ends), Inv X pins σ H s → t D σ H → wpAny (model X.prog X.w) X.A (exec st X.env) (SP X pins D) X.xe s
    := ⟨PS.run⟩
structure PSs (X : Cx) (st : List Stmt) (t : TS) : Prop where
  run :
    ∀ (pins : List (Addr × Obj)) (s : Shared) (σ : St) (H : Hp) (D : Ends), Inv X pins σ H s → t D σ H → wpAny (model X.prog X.w) X.A (execs st X.env) (SP X pins D) X.xe s
instance {X : Cx} {st : List Stmt} {t : TS} : CoeFun (PSs X st t) fun _ =>
  ∀ (pins : List (Addr × Obj)) (s : Shared) (σ : St) (H : Hp) (D : Ends), Inv X pins σ H s → t D σ H → wpAny (model X.prog X.w) X.A (execs st X.env) (SP X pins D) X.xe s
    := ⟨PSs.run⟩
theorem thn {α : Type} {t : Sem α} {Q Q' : α → Shared → Prop} {M : Model} {A : Around} {E : Value → Shared → Prop} {s : Shared} (h : wpAny M A t Q E s) (hQ : ∀ a s, Q a s → Q' a s) : wpAny M A t Q' E s := wpAny_mono h hQ fun _ _ x => x
end L2
namespace L2
open PySem PySem.Spec PyProof.Rows
section
variable {X : Cx}
def tVar (i : Nat) : TE := fun σ H Q => ∃ v, σ[i]? = some (some v) ∧ Q v H
def tC (v : V) : TE := fun _ H Q => Q v H
theorem pe_var {i : Nat} {x : Str} {pos : Pos} (hN : X.N[i]? = some x) (hv : Vis X.env.scope x) (hd : (x == ("__debug__" : Str)) = false := by decide) (hcd : (x == ("__classdict__" : Str)) = false := by decide) : PE X (.Name x pos) (tVar i) := by
  (first | refine ⟨?_⟩ | skip)
  intro pins s σ H Q I h
  obtain ⟨v, e, h⟩ := h
  obtain ⟨m, hn, hl⟩ := I.loc
  obtain ⟨u, r, l⟩ := hl i x v hN e hv
  have fin : EP X pins σ Q u s := ⟨v, H, I, r, h⟩
  rcases l with ⟨hk, hm⟩ | ⟨hk, c, hc, hcell⟩
  · exact wpAny_Name (wpAny_loadName_local I.ok.kind hk hn hm fin) hd
  · rcases hk with hk | hk
    · exact wpAny_Name (wpAny_loadName_cell I.ok.kind hk hc hcell fin) hd
    · exact wpAny_Name (wpAny_loadName_free I.ok.kind hk hc hcell fin hcd) hd
theorem pe_int {i j pos} : PE X (.Constant (.int i) j pos) (tC (.int i)) := ⟨fun _ _ _ H _ I h => wpAny_Constant_int ⟨.int i, H, I.tok _, ⟨_, rfl⟩, h⟩⟩
theorem pe_bl {b j pos} : PE X (.Constant (.bool b) j pos) (tC (.bl b)) := ⟨fun _ _ _ H _ I h => Constant_bool ⟨.bl b, H, I, rfl, h⟩⟩
theorem pe_non {j pos} : PE X (.Constant .none j pos) (tC .non) := ⟨fun _ _ _ H _ I h => Constant_none ⟨.non, H, I, rfl, h⟩⟩
theorem pe_str {x j pos} : PE X (.Constant (.str x) j pos) (tC (.str x)) := ⟨fun _ _ _ H _ I h => Calls.Constant_str ⟨.str x, H, I.tok _, ⟨_, rfl⟩, h⟩⟩
def Gl (X : Cx) (x : Str) : Prop := X.env.kindOf x = some .globalImplicit
theorem ld_glob {E : Value → Shared → Prop} {pins : List (Addr × Obj)} {s : Shared} {σ : St} {H : Hp} {x : Str} {u : Value} {pos : Pos} {Q : Value → Shared → Prop} (I : Inv X pins σ H s) (hg : Gl X x) (hm : X.mg x = some u) (h : Q u s)
    (hd : (x == ("__debug__" : Str)) = false := by decide) : wpAny (model X.prog X.w) X.A (eval (.Name x pos) X.env) Q E s :=
  Calls.Name_function_global I.ok.kind hg (Calls.loadGlobal_global (by rw [I.ok.glob]; exact I.mod.glob.keeps I.bk) hm h) hd
theorem ld_blt {E : Value → Shared → Prop} {pins : List (Addr × Obj)} {s : Shared} {σ : St} {H : Hp} {x : Str} {u : Value} {pos : Pos} {Q : Value → Shared → Prop} (I : Inv X pins σ H s) (hg : Gl X x) (hm : X.mg x = none) (hv : bootBuiltins x = some u) (h : Q u s)
    (hn : x ≠ "__name__" := by decide) (hd : (x == ("__debug__" : Str)) = false := by decide) : wpAny (model X.prog X.w) X.A (eval (.Name x pos) X.env) Q E s := by
  obtain ⟨mb, h1, h2⟩ := I.mod.blt
  exact Calls.Name_function_global I.ok.kind hg (Calls.loadGlobal_builtin (by rw [I.ok.glob]; exact I.mod.glob.keeps I.bk) hm (by rw [I.ok.blt]; exact h1.keeps I.bk) ((h2 x hn).trans hv) h) hd
theorem pe_bltn {x : Str} {v : V} {u : Value} {pos : Pos} (hg : Gl X x) (hm : X.mg x = none) (hv : bootBuiltins x = some u) (r : RelV v u) (hn : x ≠ "__name__" := by decide) (hd : (x == ("__debug__" : Str)) = false := by decide) : PE X (.Name x pos) (tC v) :=
  ⟨fun _ _ _ H _ I h => ld_blt I hg hm hv ⟨v, H, I, r, h⟩ hn hd⟩
variable {a b : Expr} {ta tb : TE} {pos : Pos}
structure PC (X : Cx) (op : CmpOp) (a b : Expr) (t : TE) : Prop where
  run :
    ∀ (pins : List (Addr × Obj)) (s : Shared) (σ : St) (H : Hp) (Q : VK), Inv X pins σ H s → t σ H Q →
      wpAny (model X.prog X.w) X.A (eval a X.env) (fun v s₁ => wpAny (model X.prog X.w) X.A (eval b X.env) (fun u s₂ => wpAny (model X.prog X.w) X.A (compareOp op v u) (EP X pins σ Q) X.xe s₂) X.xe s₁) X.xe s
instance {X : Cx} {op : CmpOp} {a b : Expr} {t : TE} : CoeFun (PC X op a b t) fun _ =>
  ∀ (pins : List (Addr × Obj)) (s : Shared) (σ : St) (H : Hp) (Q : VK), Inv X pins σ H s → t σ H Q →
    wpAny (model X.prog X.w) X.A (eval a X.env) (fun v s₁ => wpAny (model X.prog X.w) X.A (eval b X.env) (fun u s₂ => wpAny (model X.prog X.w) X.A (compareOp op v u) (EP X pins σ Q) X.xe s₂) X.xe s₁) X.xe s
    := ⟨PC.run⟩
variable {tA tB' : TT} {rest : List Expr}
def tAnd (t u : TT) : TT := fun σ H Q => t σ H fun c H1 => if c = true then u σ H1 Q else Q false H1
def tOr (t u : TT) : TT := fun σ H Q => t σ H fun c H1 => if c = true then Q true H1 else u σ H1 Q
def tNot (t : TT) : TT := fun σ H Q => t σ H fun c H1 => Q (!c) H1
theorem pw_and1 (ha : PT X a tA) : PW X (.BoolOp .And [a] pos) tA := by
  (first | refine ⟨?_⟩ | skip)
  intro wh pins s σ H Q I h
  refine isTrue_and (thn (ha pins s σ H Q I h) fun c s1 e => ?_)
  cases c with
  | true => exact isTrue_and_nil e
  | false => exact e
theorem pw_or1 (ha : PT X a tA) : PW X (.BoolOp .Or [a] pos) tA := by
  (first | refine ⟨?_⟩ | skip)
  intro wh pins s σ H Q I h
  refine isTrue_or (thn (ha pins s σ H Q I h) fun c s1 e => ?_)
  cases c with
  | false => exact isTrue_or_nil e
  | true => exact e
theorem pw_and (ha : PT X a tA) (hb : PW X (.BoolOp .And (b :: rest) pos) tB') : PW X (.BoolOp .And (a :: b :: rest) pos) (tAnd tA tB') := by
  (first | refine ⟨?_⟩ | skip)
  intro wh pins s σ H Q I h
  refine isTrue_and (thn (ha pins s σ H _ I h) fun c s1 ⟨H1, I1, q1⟩ => ?_)
  cases c with
  | true => exact hb wh pins s1 σ H1 Q I1 q1
  | false => exact ⟨H1, I1, q1⟩
theorem pw_or (ha : PT X a tA) (hb : PW X (.BoolOp .Or (b :: rest) pos) tB') : PW X (.BoolOp .Or (a :: b :: rest) pos) (tOr tA tB') := by
  (first | refine ⟨?_⟩ | skip)
  intro wh pins s σ H Q I h
  refine isTrue_or (thn (ha pins s σ H _ I h) fun c s1 ⟨H1, I1, q1⟩ => ?_)
  cases c with
  | true => exact ⟨H1, I1, q1⟩
  | false => exact hb wh pins s1 σ H1 Q I1 q1
theorem pt_not (ha : PT X a tA) : PT X (.UnaryOp .Not a pos) (tNot tA) := by
  (first | refine ⟨?_⟩ | skip)
  intro pins s σ H Q I h
  exact isTrue_not (ha pins s σ H (fun c H1 => Q (!c) H1) I h)
def tAndV (ta tb : TE) : TE := fun σ H Q => ta σ H fun x H1 => ∃ c, x = .bl c ∧ if c = true then tb σ H1 Q else Q (.bl false) H1
theorem pe_one {op} {t : TE} (h : PE X a t) : PE X (.BoolOp op [a] pos) t := ⟨fun pins s σ H Q I hw => BoolOp_one (h pins s σ H Q I hw)⟩
theorem pe_and (ha : PE X a ta) (hb : PE X (.BoolOp .And (b :: rest) pos) tb) : PE X (.BoolOp .And (a :: b :: rest) pos) (tAndV ta tb) := by
  (first | refine ⟨?_⟩ | skip)
  intro pins s σ H Q I h
  refine BoolOp_and (thn (ha pins s σ H _ I h) fun v s1 ⟨x, H1, I1, r1, q1⟩ => ?_)
  obtain ⟨c, rfl, q1⟩ := q1
  cases r1
  refine wpAny_truthy_bool ?_
  cases c with
  | true => exact hb pins s1 σ H1 Q I1 q1
  | false => exact ⟨.bl false, H1, I1, rfl, q1⟩
end
end L2
namespace L2
open PySem PySem.Spec PyProof.Rows
def SqL (K : PySem.W.Frag) (H : Hp) (a : Addr) (xs : List V) : Prop :=
  Rd H a (.lst xs) ∨
    ∃ (o : Obj) (its : Array Value) (n : Nat), K.lookup a = some o ∧ o.cls = .type "list" ∧ o.dict = none ∧ o.data = .seq its n ∧ its.size ≤ sizeLine ∧ Vals xs its.toList ∧ o.slots = #[]
def SqT (K : PySem.W.Frag) (H : Hp) (a : Addr) (xs : List V) : Prop :=
  Rd H a (.tup xs) ∨
    ∃ (o : Obj) (its : Array Value) (n : Nat), K.lookup a = some o ∧ o.cls = .type "tuple" ∧ o.dict = none ∧ o.data = .seq its n ∧ its.size ≤ sizeLine ∧ Vals xs its.toList
def absV : Value → Option V
  | .none => some .non
  | .bool b => some (.bl b)
  | .int i _ => some (.int i)
  | .str x _ => some (.str x)
  | .bytes b _ => some (.byt b)
  | .float b _ => some (.flt b)
  | .ref a => some (.ref a)
  | .type n => some (.ty n)
  | _ => none
theorem RelV.abs {x : V} {u : Value} (r : RelV x u) : absV u = some x := by
  cases x with
  | non => cases r; rfl
  | bl _ => cases r; rfl
  | int _ => obtain ⟨t, rfl⟩ := r; rfl
  | str _ => obtain ⟨t, rfl⟩ := r; rfl
  | byt _ => obtain ⟨t, rfl⟩ := r; rfl
  | flt _ => obtain ⟨t, rfl⟩ := r; rfl
  | ref _ => cases r; rfl
  | ty _ => cases r; rfl
theorem RelV.inj {x y : V} {u : Value} (r : RelV x u) (q : RelV y u) : x = y := Option.some.inj (r.abs.symm.trans q.abs)
theorem Vals.inj : ∀ {xs ys : List V} {us : List Value}, Vals xs us → Vals ys us → xs = ys
  | _, _, _, .nil, .nil => rfl
  | _, _, _, .cons r t, .cons r' t' => by rw [r.inj r', Vals.inj t t']
section
variable {X : Cx} {pins : List (Addr × Obj)} {σ : St} {H : Hp} {s : Shared} {a : Addr} {xs ys : List V}
theorem SqL.of {K : PySem.W.Frag} (h : H a = some (.lst xs)) : SqL K H a xs := .inl (.inl h)
theorem Inv.list (I : Inv X pins σ H s) (h : SqL X.K H a xs) : ∃ its : List Value, Vals xs its ∧ PlainL s.heap a its.toArray ∧ xs.length ≤ sizeLine := by
  rcases h with h | ⟨o, its, n, hk, hc, hd, hs, hz, r, _⟩
  · obtain ⟨z, its, n, r, e⟩ := h.ok I.hok
    exact ⟨its, r, ⟨_, n, e, rfl, rfl, rfl⟩, z⟩
  · refine ⟨its.toList, r, ⟨o, n, I.kIn a o hk, hc, hd, by simpa using hs⟩, ?_⟩
    have e := r.length
    simp only [Array.length_toList] at e
    omega
theorem Inv.tuple (I : Inv X pins σ H s) (h : SqT X.K H a xs) : ∃ its : List Value, Vals xs its ∧ IsTup s.heap a its.toArray ∧ xs.length ≤ sizeLine := by
  rcases h with h | ⟨o, its, n, hk, hc, _, hs, hz, r⟩
  · obtain ⟨z, its, r, p⟩ := h.ok I.hok
    exact ⟨its, r, p.tup, z⟩
  · refine ⟨its.toList, r, ⟨o, I.kIn a o hk, hc, n, by simpa using hs⟩, ?_⟩
    have e := r.length
    simp only [Array.length_toList] at e
    omega
theorem Inv.listX (I : Inv X pins σ H s) (h : SqL X.K H a xs) : ∃ (its : List Value) (n : Nat), Vals xs its ∧ s.heap.get? a = some { cls := .type "list", data := .seq its.toArray n } ∧ xs.length ≤ sizeLine := by
  rcases h with h | ⟨o, its, n, hk, hc, hd, hs, hz, r, hsl⟩
  · obtain ⟨z, its, n, r, e⟩ := h.ok I.hok
    exact ⟨its, n, r, e, z⟩
  · obtain ⟨cls, dict, data, slots⟩ := o
    dsimp only at hc hd hs hsl
    subst hc hd hs hsl
    refine ⟨its.toList, n, r, by simpa using I.kIn a _ hk, ?_⟩
    have e := r.length
    simp only [Array.length_toList] at e
    omega
theorem Inv.list_inj (I : Inv X pins σ H s) (h : SqL X.K H a xs) (h' : SqL X.K H a ys) : xs = ys := by
  obtain ⟨its, r, ⟨o, n, e, _, _, d⟩, _⟩ := I.list h
  obtain ⟨its', r', ⟨o', n', e', _, _, d'⟩, _⟩ := I.list h'
  rw [e] at e'; cases e'
  rw [d] at d'
  injection d' with d1 _
  have : its = its' := by simpa using congrArg Array.toList d1
  subst this
  exact r.inj r'
theorem Inv.tuple_inj (I : Inv X pins σ H s) (h : SqT X.K H a xs) (h' : SqT X.K H a ys) : xs = ys := by
  obtain ⟨its, r, ⟨o, e, _, n, d⟩, _⟩ := I.tuple h
  obtain ⟨its', r', ⟨o', e', _, n', d'⟩, _⟩ := I.tuple h'
  rw [e] at e'; cases e'
  rw [d] at d'
  injection d' with d1 _
  have : its = its' := by simpa using congrArg Array.toList d1
  subst this
  exact r.inj r'
end
abbrev Cx.wish (X : Cx) (E : Value → Shared → Prop) : Cx := { X with xe := E }
abbrev Cx.nox (X : Cx) : Cx := X.wish fun _ _ => False
theorem Cx.Ok.wish {X : Cx} (ok : X.Ok) (E : Value → Shared → Prop) : (X.wish E).Ok :=
  ⟨ok.mod, ok.kind, ok.glob, ok.blt, ok.above, ok.inj, ok.has, ok.cab, ok.hd, ok.frames, ok.stk, ok.exf, ok.bs, ok.bsz, ok.noex, ok.exfs, ok.funs, ok.frf⟩
theorem Cx.Ok.unwish {X : Cx} {E : Value → Shared → Prop} (ok : (X.wish E).Ok) : X.Ok :=
  ⟨ok.mod, ok.kind, ok.glob, ok.blt, ok.above, ok.inj, ok.has, ok.cab, ok.hd, ok.frames, ok.stk, ok.exf, ok.bs, ok.bsz, ok.noex, ok.exfs, ok.funs, ok.frf⟩
section
variable {X : Cx} {pins : List (Addr × Obj)} {σ : St} {H : Hp} {s : Shared} {E : Value → Shared → Prop}
theorem Inv.wish (I : Inv X pins σ H s) (E : Value → Shared → Prop) : Inv (X.wish E) pins σ H s := ⟨I.ok.wish E, I.os, I.bare, I.base, I.loc, I.cell, I.free, I.freeC, I.pin, I.hok, I.len⟩
theorem Inv.unwish (I : Inv (X.wish E) pins σ H s) : Inv X pins σ H s := ⟨I.ok.unwish, I.os, I.bare, I.base, I.loc, I.cell, I.free, I.freeC, I.pin, I.hok, I.len⟩
theorem SP.unwish {D : Ends} {f : Flow} {s' : Shared} (h : SP (X.wish E) pins D f s') : SP X pins D f s' := by
  cases f with
  | next => obtain ⟨σ', H', I, q⟩ := h; exact ⟨σ', H', I.unwish, q⟩
  | brk => obtain ⟨σ', H', I, q⟩ := h; exact ⟨σ', H', I.unwish, q⟩
  | cont => obtain ⟨σ', H', I, q⟩ := h; exact ⟨σ', H', I.unwish, q⟩
  | ret u => obtain ⟨v, σ', H', I, r, q⟩ := h; exact ⟨v, σ', H', I.unwish, r, q⟩
theorem PSs.nox {st : List Stmt} {t : TS} (h : PSs X.nox st t) : PSs X st t := ⟨fun pins s σ H D I hw =>
  wpAny_mono (h pins s σ H D (I.wish _) hw) (fun _ _ q => q.unwish) fun _ _ z => False.elim z⟩
end
section
variable {X : Cx} {st : Stmt} {rest : List Stmt} {t u : TS} {e : Expr} {te : TE} {pos : Pos}
def tNext : TS := fun D σ H => D.nx σ H
def tSeq (t u : TS) : TS := fun D σ H => t { D with nx := u D } σ H
theorem pss_nil : PSs X [] tNext := ⟨fun _ _ σ H _ I h => wpAny_execs_nil ⟨σ, H, I, h⟩⟩
theorem pss_cons (h1 : PS X st t) (h2 : PSs X rest u) : PSs X (st :: rest) (tSeq t u) := by
  (first | refine ⟨?_⟩ | skip)
  intro pins s σ H D I h
  refine wpAny_execs_cons (thn (h1 pins s σ H { D with nx := u D } I h) fun f s1 q => ?_)
  cases f with
  | next =>
    obtain ⟨σ', H', I', q⟩ := q
    exact h2 pins s1 σ' H' D I' q
  | ret v => exact q
  | brk => exact q
  | cont => exact q
theorem pss_one (h1 : PS X st t) : PSs X [st] t := by
  (first | refine ⟨?_⟩ | skip)
  intro pins s σ H D I h
  refine wpAny_execs_cons (thn (h1 pins s σ H D I h) fun f s1 q => ?_)
  cases f with
  | next => exact wpAny_execs_nil q
  | ret v => exact q
  | brk => exact q
  | cont => exact q
theorem Inv.quiet {pins : List (Addr × Obj)} {σ : St} {H : Hp} {s : Shared} (I : Inv X pins σ H s) : interactive X.env = false := by simp [interactive, I.ok.kind]
def tDrop (te : TE) : TS := fun D σ H => te σ H fun _ H1 => D.nx σ H1
theorem ps_expr (he : PE X e te) (hs : swapsWith e none pos.line X.env = pure false := by rfl) : PS X (.Expr e pos) (tDrop te) := by
  (first | refine ⟨?_⟩ | skip)
  intro pins s σ H D I h
  exact wpAny_Expr_any (thn (he pins s σ H _ I h) fun v s1 ⟨x, H1, I1, r1, q1⟩ => ⟨σ, H1, I1, q1⟩) I.quiet hs
def tRet (te : TE) : TS := fun D σ H => te σ H D.rt
theorem ps_ret (he : PE X e te) : PS X (.Return (some e) pos) (tRet te) := by
  (first | refine ⟨?_⟩ | skip)
  intro pins s σ H D I h
  exact wpAny_Return_some (thn (he pins s σ H _ I h) fun v s1 ⟨x, H1, I1, r1, q1⟩ => ⟨x, σ, H1, I1, r1, q1⟩)
def tIfS (c : TT) (t u : TS) : TS := fun D σ H => c σ H fun b H1 => if b = true then t D σ H1 else u D σ H1
theorem ps_if {c : Expr} {a b : List Stmt} {tc : TT} (hc : PT X c tc) (ha : PSs X a t) (hb : PSs X b u) : PS X (.If c a b pos) (tIfS tc t u) := by
  (first | refine ⟨?_⟩ | skip)
  intro pins s σ H D I h
  refine wpAny_If (thn (hc pins s σ H _ I h) fun d s1 ⟨H1, I1, q1⟩ => ?_)
  cases d with
  | true => exact ha pins s1 σ H1 D I1 q1
  | false => exact hb pins s1 σ H1 D I1 q1
def tNever : TS := fun _ _ _ => False
theorem ps_never : PS X st tNever := ⟨fun _ _ _ _ _ _ h => h.elim⟩
end
abbrev TG := V → St → Hp → (St → Hp → Prop) → Prop
abbrev TGs := List V → St → Hp → (St → Hp → Prop) → Prop
structure PG (X : Cx) (target : Expr) (t : TG) : Prop where
  run :
    ∀ (pins : List (Addr × Obj)) (s : Shared) (σ : St) (H : Hp) (v : V) (u : Value) (Q : St → Hp → Prop), Inv X pins σ H s → RelV v u → t v σ H Q →
      wpAny (model X.prog X.w) X.A (assign target X.env u) (fun _ s' => ∃ σ' H', Inv X pins σ' H' s' ∧ Q σ' H') X.xe s
instance {X : Cx} {target : Expr} {t : TG} : CoeFun (PG X target t) fun _ =>
  ∀ (pins : List (Addr × Obj)) (s : Shared) (σ : St) (H : Hp) (v : V) (u : Value) (Q : St → Hp → Prop), Inv X pins σ H s → RelV v u → t v σ H Q →
    wpAny (model X.prog X.w) X.A (assign target X.env u) (fun _ s' => ∃ σ' H', Inv X pins σ' H' s' ∧ Q σ' H') X.xe s
    := ⟨PG.run⟩
structure PGs (X : Cx) (ts : List Expr) (t : TGs) : Prop where
  run :
    ∀ (pins : List (Addr × Obj)) (s : Shared) (σ : St) (H : Hp) (vs : List V) (us : List Value) (Q : St → Hp → Prop), Inv X pins σ H s → Vals vs us → t vs σ H Q →
      wpAny (model X.prog X.w) X.A (assignInOrder ((assignEach ts X.env).map (·.2)) us) (fun _ s' => ∃ σ' H', Inv X pins σ' H' s' ∧ Q σ' H') X.xe s
instance {X : Cx} {ts : List Expr} {t : TGs} : CoeFun (PGs X ts t) fun _ =>
  ∀ (pins : List (Addr × Obj)) (s : Shared) (σ : St) (H : Hp) (vs : List V) (us : List Value) (Q : St → Hp → Prop), Inv X pins σ H s → Vals vs us → t vs σ H Q →
    wpAny (model X.prog X.w) X.A (assignInOrder ((assignEach ts X.env).map (·.2)) us) (fun _ s' => ∃ σ' H', Inv X pins σ' H' s' ∧ Q σ' H') X.xe s
    := ⟨PGs.run⟩
abbrev TSet := V → V → V → Hp → (Hp → Prop) → Prop
def PSet (X : Cx) (t : TSet) : Prop :=
  ∀ (pins : List (Addr × Obj)) (s : Shared) (σ : St) (H : Hp) (o i v : V) (ov iv u : Value) (Q : Hp → Prop), Inv X pins σ H s → RelV o ov → RelV i iv → RelV v u → t o i v H Q →
    wpAny (model X.prog X.w) X.A (setItem ov iv u) (fun _ s' => ∃ H', Inv X pins σ H' s' ∧ Q H') X.xe s
section
variable {X : Cx} {pos : Pos}
def gName (i : Nat) : TG := fun v σ H Q => Q (σ.set i (some v)) H
theorem pg_name {i : Nat} {x : Str} (hN : X.N.Nodup) (hi : X.N[i]? = some x) (hx : Loc X.env.scope x) (hf : X.fn x = true ∨ X.env.scope.names.lookup x = some .local := by first | exact .inl rfl | exact .inr rfl | assumption) : PG X (.Name x pos) (gName i) := by
  (first | refine ⟨?_⟩ | skip)
  intro pins s σ H v u Q I r h
  exact wpAny_assign_Name (store_ok I hN hi hx r (fun s' I' => ⟨_, H, I', h⟩) hf)
def gNil : TGs := fun vs σ H Q => vs = [] ∧ Q σ H
def gCons (t : TG) (u : TGs) : TGs := fun vs σ H Q => ∃ v r, vs = v :: r ∧ t v σ H fun σ' H' => u r σ' H' Q
theorem pgs_nil : PGs X [] gNil := by
  (first | refine ⟨?_⟩ | skip)
  intro pins s σ H vs us Q I r h
  obtain ⟨e, h⟩ := h
  subst e
  cases r
  exact assignInOrder_nil ⟨σ, H, I, h⟩
theorem pgs_cons {e : Expr} {es : List Expr} {t : TG} {u : TGs} (h1 : PG X e t) (h2 : PGs X es u)
    (hs : (assignEach (e :: es) X.env).map (·.2) = assign e X.env :: (assignEach es X.env).map (·.2) := by rfl) : PGs X (e :: es) (gCons t u) := by
  (first | refine ⟨?_⟩ | skip)
  intro pins s σ H vs us Q I r h
  obtain ⟨v, vr, e1, h⟩ := h
  subst e1
  cases r with
  | cons r rr =>
    rw [hs]
    refine assignInOrder_cons (thn (h1 pins s σ H _ _ _ I r h) fun _ s1 ⟨σ1, H1, I1, q1⟩ => ?_)
    exact h2 pins s1 σ1 H1 _ _ Q I1 rr q1
def gTup (K : PySem.W.Frag) (n : Nat) (t : TGs) : TG := fun v σ H Q => ∃ a xs, v = .ref a ∧ SqT K H a xs ∧ xs.length = n ∧ t xs σ H Q
theorem pg_tup {es : List Expr} {k : Nat} {t : TGs} {n : Nat} (hc : X.calm = true) (h : PGs X es t)
    (hn : (assignEach es X.env).length = n := by rfl) (hst : (assignEach es X.env).findIdx? (·.1) = none := by rfl) : PG X (.Tuple es k pos) (gTup X.K n t) := by
  (first | refine ⟨?_⟩ | skip)
  intro pins s σ H v u Q I r hw
  obtain ⟨a, xs, e1, hq, hl, hw⟩ := hw
  subst e1
  cases r
  obtain ⟨its, rv, ht, hz⟩ := I.tuple hq
  refine assign_Tuple_tuple (I.ok.hd hc) ht (by simp [hn, ← hl, rv.length]) hst fun h' hx => ?_
  have I1 : Inv X pins σ H { s with heap := h' } := I.kept (t' := s.toks) fun b o e => hx b o (Nat.ne_of_lt (Heap.lt_size e)) e
  exact h pins _ σ H xs _ Q I1 (by simpa using rv) hw
def gSub (to ti : TE) (t : TSet) : TG := fun v σ H Q => to σ H fun o H1 => ti σ H1 fun i H2 => t o i v H2 fun H3 => Q σ H3
theorem pg_sub {o i : Expr} {to ti : TE} {t : TSet} (ho : PE X o to) (hi : PE X i ti) (hs : PSet X t)
    (ha : ∀ v, assign (.Subscript o i pos) X.env v = (do
      let ov ← holding [v] (eval o X.env)
      let iv ← holding [v, ov] (eval i X.env)
      standAt pos
      holding [v, ov, iv] (setItem ov iv v)
      release [v, ov, iv] []) := by intro _; rfl) : PG X (.Subscript o i pos) (gSub to ti t) := by
  (first | refine ⟨?_⟩ | skip)
  intro pins s σ H v u Q I r h
  rw [ha]
  refine wpAny_bind (wpAny_holding (thn (ho pins s σ H _ I h) fun ov s1 ⟨x, H1, I1, r1, q1⟩ => ?_))
  refine wpAny_bind (wpAny_holding (thn (hi pins s1 σ H1 _ I1 q1) fun iv s2 ⟨y, H2, I2, r2, q2⟩ => ?_))
  refine wpAny_bind (wpAny_standAt (wpAny_bind (wpAny_holding (thn (hs pins s2 σ H2 x y v ov iv u _ I2 r1 r2 r q2) fun _ s3 ⟨H3, I3, q3⟩ => ?_))))
  exact wpAny_release ⟨σ, H3, I3, q3⟩
def tAsg (te : TE) (g : TG) : TS := fun D σ H => te σ H fun x H1 => g x σ H1 D.nx
theorem ps_asg {tg e : Expr} {te : TE} {g : TG} (he : PE X e te) (hg : PG X tg g) (hs : swapsWithSole [tg] e pos.line X.env = pure false := by rfl) (hw : swappedStores [tg] e X.env = pure none := by rfl)
    (h1 : (assignEach [tg] X.env).map (·.2) = [assign tg X.env] := by rfl) : PS X (.Assign [tg] e pos) (tAsg te g) := by
  (first | refine ⟨?_⟩ | skip)
  intro pins s σ H D I h
  refine wpAny_Assign_stores (thn (he pins s σ H _ I h) fun v s1 ⟨x, H1, I1, r1, q1⟩ => ?_) hs hw
  rw [h1]
  exact thn (hg pins s1 σ H1 x v _ I1 r1 q1) fun _ s2 q => q
theorem ps_set {i : Nat} {x : Str} {e : Expr} {te : TE} {pos' : Pos} (hN : X.N.Nodup) (hi : X.N[i]? = some x) (hx : Loc X.env.scope x) (he : PE X e te) (hs : swapsWith e (some (.Name x pos')) pos.line X.env = pure false := by rfl) (hf : X.fn x = true ∨ X.env.scope.names.lookup x = some .local := by first | exact .inl rfl | exact .inr rfl | assumption) :
    PS X (.Assign [.Name x pos'] e pos) (tAsg te (gName i)) := by
  (first | refine ⟨?_⟩ | skip)
  intro pins s σ H D I h
  refine wpAny_Assign_Name (thn (he pins s σ H _ I h) fun v s1 ⟨y, H1, I1, r1, q1⟩ => ?_) hs
  exact store_ok I1 hN hi hx r1 (fun s2 I2 => ⟨_, H1, I2, q1⟩) hf
end
section
variable {X : Cx} {pos : Pos}
def tWhile (c : TT) (tb : TS) : TS := fun D σ H => ∃ W : Nat → St → Hp → Prop, (∃ m, W m σ H) ∧ ∀ m σ H, W m σ H →
  c σ H fun b H1 => if b = true then ∃ N : St → Hp → Prop, (∀ σ' H', N σ' H' → ∃ m', m' < m ∧ W m' σ' H') ∧ tb { D with nx := N, ct := N, bk := D.nx } σ H1 else D.nx σ H1
theorem ps_while {c : Expr} {body : List Stmt} {tc : TT} {tb : TS} (hp : PassesOwn (model X.prog X.w) X.A X.env X.xe) (hc : PT X c tc) (hb : PSs X body tb) : PS X (.While c body [] pos) (tWhile tc tb) := by
  (first | refine ⟨?_⟩ | skip)
  intro pins s σ H D I h
  obtain ⟨W, ⟨m0, w0⟩, turn⟩ := h
  refine wpAny_While (codeAny_whileLoop (fun n s' => ∃ σ' H', Inv X pins σ' H' s' ∧ W n σ' H') ?_ m0 ⟨σ, H, I, w0⟩)
  rintro n s1 ⟨σ1, H1, I1, w1⟩
  refine wpAny_passesOwn hp (thn (hc pins s1 σ1 H1 _ I1 (turn n σ1 H1 w1)) fun b s2 ⟨H2, I2, q2⟩ => ?_)
  cases b with
  | true =>
    obtain ⟨N, hN, q2⟩ := q2
    rw [if_pos rfl]
    refine wpAny_passesOwn hp (thn (hb pins s2 σ1 H2 _ I2 q2) fun f s3 q3 => ?_)
    cases f with
    | next =>
      obtain ⟨σ3, H3, I3, n3⟩ := q3
      obtain ⟨m', hm, w3⟩ := hN σ3 H3 n3
      exact ⟨m', hm, σ3, H3, I3, w3⟩
    | cont =>
      obtain ⟨σ3, H3, I3, n3⟩ := q3
      obtain ⟨m', hm, w3⟩ := hN σ3 H3 n3
      exact ⟨m', hm, σ3, H3, I3, w3⟩
    | brk => exact q3
    | ret v => exact q3
  | false =>
    rw [if_neg Bool.false_ne_true]
    exact wpAny_execs_nil ⟨σ1, H2, I2, q2⟩
end
structure It where
  go : Nat → Hp → Prop
  yld : Nat → Hp → V → Hp → Prop
  stop : Nat → Hp → Prop
def FpOk (X : Cx) (pins : List (Addr × Obj)) (H : Hp) (b : Addr) : Prop :=
  H b = none ∧ b ≠ X.env.locals ∧ b ∉ X.fs ∧ (b ∈ X.ex ∨ X.s₀.heap.objs.size ≤ b) ∧ (∀ x c, X.env.cells.lookup x = some c → c ≠ b) ∧ ∀ p ∈ X.pn ++ pins, p.1 ≠ b
theorem Inv.fpOk {X : Cx} {pins : List (Addr × Obj)} {σ : St} {H H' : Hp} {s : Shared} {b : Addr} (I : Inv X pins σ H s) (hb : s.heap.objs.size ≤ b) (hn : H' b = none) : FpOk X pins H' b := by
  refine ⟨hn, Nat.ne_of_gt (Nat.lt_of_lt_of_le I.lt hb), I.nofs hb, .inr (Nat.le_trans I.sz hb), fun x c e z => ?_, fun p hp z => ?_⟩
  · obtain ⟨v, q⟩ := I.cell x c e
    exact absurd (Nat.lt_of_lt_of_le q.lt (by rw [z]; exact hb)) (Nat.lt_irrefl _)
  · exact absurd (Nat.lt_of_lt_of_le (Heap.lt_size (I.pin p hp).1) (by rw [z]; exact hb)) (Nat.lt_irrefl _)
structure Turn (P : Program) (w : World) (K : PySem.W.Frag) (tg : Expr) (J : It) (fp : List Addr) (it : Addr) (tn : Nat → Heap → Prop) : Prop where
  mem : it ∈ fp
  obj : ∀ i h, tn i h → ∀ b ∈ fp, ∃ o, h.get? b = some o ∧ ∀ v, o.data ≠ .cell v
  keep : ∀ i h h', tn i h → (∀ b ∈ fp, ∀ o, h.get? b = some o → h'.get? b = some o) → tn i h'
  item : ∀ (X : Cx), X.prog = P → X.w = w → X.K = K → X.calm = true → ∀ (i : Nat) (pins : List (Addr × Obj)) (s : Shared) (σ : St) (H : Hp) (E : Value → Shared → Prop), Inv X pins σ H s → (∀ b ∈ fp, FpOk X pins H b) → tn i s.heap → J.go i H →
    wpAny (model P w) X.A (pyNext (.ref it)) (fun r s1 => ∃ u, r = some u ∧
      wpAny (model P w) X.A (letOwnedTupleGo tg (.ref it) u) (fun _ s2 => ∃ x H', Inv X pins σ H' s2 ∧ RelV x u ∧ J.yld i H x H' ∧ tn (i + 1) s2.heap ∧ ∀ b ∈ fp, H' b = none) E s1) E s
  done : ∀ (X : Cx), X.prog = P → X.w = w → X.K = K → X.calm = true → ∀ (i : Nat) (pins : List (Addr × Obj)) (s : Shared) (σ : St) (H : Hp) (E : Value → Shared → Prop), Inv X pins σ H s → (∀ b ∈ fp, FpOk X pins H b) → tn i s.heap → J.stop i H →
    wpAny (model P w) X.A (pyNext (.ref it)) (fun r s1 => r = none ∧ Inv X pins σ H s1) E s
  self : ∀ (A : Around) (i : Nat) (s : Shared) (Q : Value → Shared → Prop) (E : Value → Shared → Prop), tn i s.heap → Q (.ref it) s → wpAny (model P w) A (pyIter (.ref it)) Q E s
abbrev TI := St → Hp → (It → Hp → Prop) → Prop
def PIE (X : Cx) (pins : List (Addr × Obj)) (σ : St) (tg : Expr) (R : It → Hp → Prop) (itv : Value) (s2 : Shared) : Prop :=
  ∃ (it : Addr) (fp : List Addr) (tn : Nat → Heap → Prop) (J : It) (H' : Hp), itv = .ref it ∧ Inv X pins σ H' s2 ∧ Turn X.prog X.w X.K tg J fp it tn ∧ tn 0 s2.heap ∧ (∀ b ∈ fp, FpOk X pins H' b) ∧ R J H'
structure PI (X : Cx) (tg iter : Expr) (wi : TI) : Prop where
  run :
    ∀ (pins : List (Addr × Obj)) (s : Shared) (σ : St) (H : Hp) (R : It → Hp → Prop), Inv X pins σ H s → wi σ H R →
      wpAny (model X.prog X.w) X.A (eval iter X.env) (fun v s1 => wpAny (model X.prog X.w) X.A (pyIter v) (PIE X pins σ tg R) X.xe s1) X.xe s
instance {X : Cx} {tg iter : Expr} {wi : TI} : CoeFun (PI X tg iter wi) fun _ =>
  ∀ (pins : List (Addr × Obj)) (s : Shared) (σ : St) (H : Hp) (R : It → Hp → Prop), Inv X pins σ H s → wi σ H R →
    wpAny (model X.prog X.w) X.A (eval iter X.env) (fun v s1 => wpAny (model X.prog X.w) X.A (pyIter v) (PIE X pins σ tg R) X.xe s1) X.xe s
    := ⟨PI.run⟩
theorem go_of {M : Model} {A : Around} {E : Value → Shared → Prop} {s : Shared} {tg : Expr} {it : Addr} {u : Value} {o : Obj} {n : String} {vs : Array Value} {Q : Unit → Shared → Prop} (ho : s.heap.get? it = some o) (hc : o.cls = .type n) (hd : o.data = .fields vs)
    (hn : ["enumerate", "zip", "dict_itemiterator", "dict_reverseitemiterator", "odict_iterator", "itertools.zip_longest", "itertools.pairwise"].contains n = false) (hQ : Q () s) : wpAny M A (letOwnedTupleGo tg (.ref it) u) Q E s := by
  unfold letOwnedTupleGo
  cases tg <;> first
    | exact wpAny_pure hQ
    | (cases u <;> first
        | exact wpAny_pure hQ
        | (refine wpAny_bind (wpAny_load ho ?_)
           rw [hc, hd]
           show wpAny M A (if (["enumerate", "zip", "dict_itemiterator", "dict_reverseitemiterator", "odict_iterator", "itertools.zip_longest", "itertools.pairwise"].contains n && vs[0]? == some (rawInt _)) = true then _ else _) Q E s
           rw [if_neg (by intro h; rw [hn, Bool.false_and] at h; cases h)]
           exact wpAny_pure hQ))
def Itl (K : PySem.W.Frag) (a : Addr) : It :=
  ⟨fun i H => ∃ xs x, SqL K H a xs ∧ xs[i]? = some x, fun i H x H' => H' = H ∧ ∀ xs, SqL K H a xs → xs[i]? = some x, fun i H => ∃ xs, SqL K H a xs ∧ xs.length ≤ i⟩
def Itt (K : PySem.W.Frag) (a : Addr) : It :=
  ⟨fun i H => ∃ xs x, SqT K H a xs ∧ xs[i]? = some x, fun i H x H' => H' = H ∧ ∀ xs, SqT K H a xs → xs[i]? = some x, fun i H => ∃ xs, SqT K H a xs ∧ xs.length ≤ i⟩
def Itr (lo : Int) (n : Nat) : It := ⟨fun i _ => i < n, fun i H x H' => H' = H ∧ x = .int (lo + i), fun i _ => n ≤ i⟩
theorem turn_list {P : Program} {w : World} {K : PySem.W.Frag} {tg : Expr} (a it : Addr) : Turn P w K tg (Itl K a) [it] it (fun i h => h.IsListIter it a i) where
  mem := by simp
  obj := fun i h st b hb => by
    have e : b = it := by simpa using hb
    subst e
    obtain ⟨o, e, c, d⟩ := st
    exact ⟨o, e, fun v z => by rw [d] at z; cases z⟩
  keep := fun i h h' st k => st.at fun o e => k it (by simp) o e
  item := by
    intro X hP hw hK hc i pins s σ H E I hf st hg
    subst hP hw hK
    obtain ⟨xs, x, hq, hx⟩ := hg
    obtain ⟨its, rv, p, hz⟩ := I.list hq
    obtain ⟨u, hu, ru⟩ := rv.get hx
    obtain ⟨f0, f1, f2, f3, f4, f5⟩ := hf it (by simp)
    refine wpAny_pyNext_list_item st p.isList (x := u) (by simpa using hu) fun h' st' sb => ?_
    have I1 : Inv X pins σ H { s with heap := h' } := I.turned (t' := s.toks) (fun b o hb e => (sb.2 b hb).trans e) f0 f1 f3 f4 f5
    obtain ⟨o, e, c, d⟩ := id st'
    exact ⟨u, rfl, go_of (s := { s with heap := h' }) e c d (by decide) ⟨x, H, I1, ru, ⟨rfl, fun ys hy => by rw [I.list_inj hy hq]; exact hx⟩, st', fun b hb => (hf b hb).1⟩⟩
  done := by
    intro X hP hw hK hc i pins s σ H E I hf st hg
    subst hP hw hK
    obtain ⟨xs, hq, hx⟩ := hg
    obtain ⟨its, rv, p, hz⟩ := I.list hq
    obtain ⟨f0, f1, f2, f3, f4, f5⟩ := hf it (by simp)
    have hl := rv.length
    exact wpAny_pyNext_list_end (I.ok.hd hc) st p.isList (by simp; omega) fun h' eb => ⟨rfl, I.turned (t' := s.toks) (fun b o hb e => eb b o hb e) f0 f1 f3 f4 f5⟩
  self := fun _ _ _ _ _ st h => wpAny_pyIter_listiter st h
theorem turn_tuple {P : Program} {w : World} {K : PySem.W.Frag} {tg : Expr} (a it : Addr) : Turn P w K tg (Itt K a) [it] it (fun i h => h.IsTupleIter it a i) where
  mem := by simp
  obj := fun i h st b hb => by
    have e : b = it := by simpa using hb
    subst e
    obtain ⟨o, e, c, d⟩ := st
    exact ⟨o, e, fun v z => by rw [d] at z; cases z⟩
  keep := fun i h h' st k => st.at fun o e => k it (by simp) o e
  item := by
    intro X hP hw hK hc i pins s σ H E I hf st hg
    subst hP hw hK
    obtain ⟨xs, x, hq, hx⟩ := hg
    obtain ⟨its, rv, p, hz⟩ := I.tuple hq
    obtain ⟨u, hu, ru⟩ := rv.get hx
    obtain ⟨f0, f1, f2, f3, f4, f5⟩ := hf it (by simp)
    refine wpAny_pyNext_tuple_item st (show s.heap.IsTuple a its.toArray from p) (x := u) (by simpa using hu) fun h' st' sb => ?_
    have I1 : Inv X pins σ H { s with heap := h' } := I.turned (t' := s.toks) (fun b o hb e => (sb.2 b hb).trans e) f0 f1 f3 f4 f5
    obtain ⟨o, e, c, d⟩ := id st'
    exact ⟨u, rfl, go_of (s := { s with heap := h' }) e c d (by decide) ⟨x, H, I1, ru, ⟨rfl, fun ys hy => by rw [I.tuple_inj hy hq]; exact hx⟩, st', fun b hb => (hf b hb).1⟩⟩
  done := by
    intro X hP hw hK hc i pins s σ H E I hf st hg
    subst hP hw hK
    obtain ⟨xs, hq, hx⟩ := hg
    obtain ⟨its, rv, p, hz⟩ := I.tuple hq
    obtain ⟨f0, f1, f2, f3, f4, f5⟩ := hf it (by simp)
    have hl := rv.length
    exact wpAny_pyNext_tuple_end (I.ok.hd hc) st (show s.heap.IsTuple a its.toArray from p) (by simp; omega) fun h' eb => ⟨rfl, I.turned (t' := s.toks) (fun b o hb e => eb b o hb e) f0 f1 f3 f4 f5⟩
  self := fun _ _ _ _ _ st h => wpAny_pyIter_tupleiter st h
theorem turn_range {P : Program} {w : World} {K : PySem.W.Frag} {tg : Expr} (it : Addr) (lo : Int) (n : Nat) : Turn P w K tg (Itr lo n) [it] it (fun i h => IsRangeIter h it (lo + (i : Nat) * 1) ((n : Int) - (i : Nat)) 1) where
  mem := by simp
  obj := fun i h st b hb => by
    have e : b = it := by simpa using hb
    subst e
    exact ⟨_, st, fun v z => by
      have z' : Data.fields _ = Data.cell v := z
      cases z'⟩
  keep := fun i h h' st k => k it (by simp) _ st
  item := by
    intro X hP hw hK hc i pins s σ H E I hf st hg
    subst hP hw hK
    obtain ⟨f0, f1, f2, f3, f4, f5⟩ := hf it (by simp)
    have W := Walks.range (prog := X.prog) (w := X.w) (I.ok.hd hc) it lo 1 n
    refine W.item i s _ _ hg st fun v h' tk hv st' kk => ?_
    obtain ⟨t, rfl⟩ := hv
    have I1 : Inv X pins σ H { s with heap := h', toks := tk } := I.turned (fun b o hb e => kk b o (by simpa using hb) e) f0 f1 f3 f4 f5
    refine ⟨_, rfl, go_of (s := { s with heap := h', toks := tk }) (n := "range_iterator") st' rfl rfl (by decide) ⟨.int (lo + i), H, I1, ⟨t, ?_⟩, ⟨rfl, rfl⟩, st', fun b hb => (hf b hb).1⟩⟩
    rw [Int.mul_one]
  done := by
    intro X hP hw hK hc i pins s σ H E I hf st hg
    subst hP hw hK
    obtain ⟨f0, f1, f2, f3, f4, f5⟩ := hf it (by simp)
    exact wpAny_pyNext_range_end (I.ok.hd hc) st (by have : n ≤ i := hg; omega) fun h' eb => ⟨rfl, I.turned (t' := s.toks) (fun b o hb e => eb b o hb e) f0 f1 f3 f4 f5⟩
  self := fun _ _ _ _ _ st h => wpAny_pyIter_rangeiter st h
end L2
namespace L2
open PySem PySem.Spec PyProof.Rows
section
variable {X : Cx} {tg : Expr}
theorem range_it {pins : List (Addr × Obj)} {σ : St} {H : Hp} {s : Shared} {R : It → Hp → Prop} {E : Value → Shared → Prop} {lo hi : Int} {t u v : Tok} {tk : Nat} (I : Inv X pins σ H s) (h1 : -(2 ^ 62) ≤ lo) (h2 : lo < 2 ^ 62) (h3 : -(2 ^ 62) ≤ hi) (h4 : hi < 2 ^ 62)
    (q : R (Itr lo (hi - lo).toNat) H) : wpAny (model X.prog X.w) X.A (pyIter (.ref s.heap.objs.size)) (PIE X pins σ tg R) E { s with heap := s.heap.push { cls := .type "range", data := .fields #[.int lo t, .int hi u, .int 1 v] }, toks := tk } := by
  refine wpAny_pyIter_range (IsRange.new ..) (small_one h1 h2 h3 h4) ?_
  have I1 : Inv X pins σ H { s with heap := s.heap.push { cls := .type "range", data := .fields #[.int lo t, .int hi u, .int 1 v] }, toks := tk } := I.kept fun b o e => Heap.get?_push_of_some _ e
  refine ⟨(s.heap.push { cls := .type "range", data := .fields #[.int lo t, .int hi u, .int 1 v] }).objs.size, [(s.heap.push { cls := .type "range", data := .fields #[.int lo t, .int hi u, .int 1 v] }).objs.size], _, _, H, rfl,
    I1.kept (t' := tk) fun b o e => Heap.get?_push_of_some _ e, turn_range _ lo (hi - lo).toNat, ?_, fun b hb => ?_, q⟩
  · have e1 : lo + ((0 : Nat) : Int) * 1 = lo := by simp
    have e2 : (((hi - lo).toNat : Nat) : Int) - ((0 : Nat) : Int) = Builtin.Range.rangeSize lo hi 1 := by rw [rangeSize_one]; split <;> omega
    show IsRangeIter _ _ (lo + ((0 : Nat) : Int) * 1) ((((hi - lo).toNat : Nat) : Int) - ((0 : Nat) : Int)) 1
    rw [e1, e2]
    exact Heap.get?_push_size _ rfl
  · have e : b = (s.heap.push { cls := .type "range", data := .fields #[.int lo t, .int hi u, .int 1 v] }).objs.size := by simpa using hb
    subst e
    exact I1.fpOk (Nat.le_refl _) (I1.hok.fresh (Nat.le_refl _))
def iRng1 (ta : TA) : TI := fun σ H R => ta σ H fun vs H1 => ∃ j : Int, vs = [.int j] ∧ -(2 ^ 62) ≤ j ∧ j < 2 ^ 62 ∧ R (Itr 0 j.toNat) H1
theorem pi_range1 {a : Expr} {ta : TA} {p pos : Pos} (hg : Gl X "range") (hm : X.mg "range" = none) (ha : PA X [a] ta) (hs : starEach [a] X.env = [(false, eval a X.env)] := by rfl) : PI X tg (.Call (.Name "range" p) [a] [] pos) (iRng1 ta) := by
  (first | refine ⟨?_⟩ | skip)
  intro pins s σ H R I h
  refine Call_ (ld_blt I hg hm boot_range (PyProof.Rows.callWith_type1 (thn (ha pos pins s σ H _ I h) fun us s1 ⟨vs, H1, I1, r1, q1⟩ => ?_) hs rfl))
  obtain ⟨j, e, q1, q2, q⟩ := q1
  subst e
  cases r1 with
  | cons r rr =>
    cases rr
    obtain ⟨t, rfl⟩ := r
    exact call_range_1 (range_it I1 (by omega) (by omega) q1 q2 (by simpa using q))
def tFor (wi : TI) (g : TG) (tb : TS) : TS := fun D σ H => wi σ H fun J H1 => ∃ W : Nat → Nat → St → Hp → Prop, (∃ m, W 0 m σ H1) ∧ ∀ i m σ H, W i m σ H →
  (J.stop i H ∧ D.nx σ H) ∨ (J.go i H ∧ ∃ N : St → Hp → Prop, (∀ σ' H', N σ' H' → ∃ m', m' < m ∧ W (i + 1) m' σ' H') ∧ ∀ x H', J.yld i H x H' → g x σ H' fun σ2 H2 => tb { D with nx := N, ct := N, bk := D.nx } σ2 H2)
def pinsAt (fp : List Addr) (h : Heap) : List (Addr × Obj) := fp.filterMap fun b => (h.get? b).map fun o => (b, o)
theorem mem_pinsAt {fp : List Addr} {h : Heap} {b : Addr} {o : Obj} (hb : b ∈ fp) (e : h.get? b = some o) : (b, o) ∈ pinsAt fp h := List.mem_filterMap.mpr ⟨b, hb, by rw [e]; rfl⟩
theorem of_pinsAt {fp : List Addr} {h : Heap} {p : Addr × Obj} (hp : p ∈ pinsAt fp h) : p.1 ∈ fp ∧ h.get? p.1 = some p.2 := by
  obtain ⟨b, hb, e⟩ := List.mem_filterMap.mp hp
  cases q : h.get? b with
  | none => rw [q] at e; cases e
  | some o =>
    rw [q] at e
    have e' : (b, o) = p := Option.some.inj e
    subst e'
    exact ⟨hb, q⟩
theorem Inv.pinned {pins : List (Addr × Obj)} {σ : St} {H : Hp} {s : Shared} {fp : List Addr} (I : Inv X pins σ H s) (hf : ∀ b ∈ fp, FpOk X pins H b) (ho : ∀ b ∈ fp, ∃ o, s.heap.get? b = some o ∧ ∀ v, o.data ≠ .cell v) : Inv X (pins ++ pinsAt fp s.heap) σ H s :=
  I.pins_of fun p hp => (List.mem_append.mp hp).elim (fun z => I.pin p (List.mem_append_right _ z)) fun z => by
    obtain ⟨hb, e⟩ := of_pinsAt z
    obtain ⟨f0, f1, f2, _⟩ := hf p.1 hb
    obtain ⟨o, e', d⟩ := ho p.1 hb
    rw [e] at e'; cases e'
    exact ⟨e, f0, f1, f2, d⟩
theorem Inv.unpinned {pins pl : List (Addr × Obj)} {σ : St} {H : Hp} {s : Shared} (I : Inv X (pins ++ pl) σ H s) : Inv X pins σ H s := I.pins_of fun p hp => I.pin p (List.mem_append_right _ (List.mem_append_left _ hp))
theorem ps_for {iter : Expr} {body : List Stmt} {wi : TI} {g : TG} {tb : TS} {pos : Pos} (hp : PassesOwn (model X.prog X.w) X.A X.env X.xe) (hc : X.calm = true) (hi : PI X tg iter wi) (hg : PG X tg g) (hb : PSs X body tb)
    (hs : ∀ x, foldedSetIterable iter X.env x = pure x := by intro _; rfl) : PS X (.For tg iter body [] pos) (tFor wi g tb) := by
  (first | refine ⟨?_⟩ | skip)
  intro pins s σ H D I h
  refine wpAny_For (thn (hi pins s σ H _ I h) fun v s1 h1 => thn h1 fun itv s2 h2 => ?_) hs
  obtain ⟨it, fp, tn, J, H2, e, I2, T, st2, f2, W, ⟨m0, w0⟩, turn⟩ := h2
  subst e
  have stat : ∀ {H' : Hp}, (∀ b ∈ fp, H' b = none) → ∀ b ∈ fp, FpOk X pins H' b := fun hn b hb => ⟨hn b hb, (f2 b hb).2⟩
  refine codeAny_forLoop_any (fun n s' => ∃ i σ' H', Inv X pins σ' H' s' ∧ tn i s'.heap ∧ (∀ b ∈ fp, H' b = none) ∧ W i n σ' H') ?_ m0 ⟨0, σ, H2, I2, st2, fun b hb => (f2 b hb).1, w0⟩
  rintro n s3 ⟨i, σ3, H3, I3, st3, fr3, w3⟩
  rcases turn i n σ3 H3 w3 with ⟨stop, qn⟩ | ⟨go, N, hN, step⟩
  · refine wpAny_passesOwn hp (thn (T.done X rfl rfl rfl hc i pins s3 σ3 H3 X.xe I3 (stat fr3) st3 stop) fun r s4 ⟨hr, I4⟩ => ?_)
    subst hr
    exact wpAny_execs_nil ⟨σ3, H3, I4, qn⟩
  · refine wpAny_passesOwn hp (thn (T.item X rfl rfl rfl hc i pins s3 σ3 H3 X.xe I3 (stat fr3) st3 go) fun r s4 ⟨u, hr, h4⟩ => ?_)
    subst hr
    refine wpAny_passesOwn hp (thn h4 fun _ s5 ⟨x, H5, I5, r5, y5, st5, fr5⟩ => ?_)
    have I5' := I5.pinned (stat fr5) (T.obj _ _ st5)
    refine wpAny_passesOwn hp (thn (hg _ s5 σ3 H5 x u _ I5' r5 (step x H5 y5)) fun _ s6 ⟨σ6, H6, I6, q6⟩ => ?_)
    refine wpAny_passesOwn hp (thn (hb _ s6 σ6 H6 _ I6 q6) fun f s7 q7 => ?_)
    have again : ∀ {σ7 : St} {H7 : Hp}, Inv X (pins ++ pinsAt fp s5.heap) σ7 H7 s7 → N σ7 H7 → ∃ m, m < n ∧ ∃ i σ' H', Inv X pins σ' H' s7 ∧ tn i s7.heap ∧ (∀ b ∈ fp, H' b = none) ∧ W i m σ' H' := fun {σ7 H7} I7 n7 => by
      obtain ⟨m', hm, w7⟩ := hN σ7 H7 n7
      refine ⟨m', hm, i + 1, σ7, H7, I7.unpinned, T.keep _ _ _ st5 fun b hb o e => (I7.pin (b, o) (List.mem_append_right _ (List.mem_append_right _ (mem_pinsAt hb e)))).1, fun b hb => ?_, w7⟩
      obtain ⟨o, e, d⟩ := T.obj _ _ st5 b hb
      exact (I7.pin (b, o) (List.mem_append_right _ (List.mem_append_right _ (mem_pinsAt hb e)))).2.1
    cases f with
    | next => obtain ⟨σ7, H7, I7, n7⟩ := q7; exact again I7 n7
    | cont => obtain ⟨σ7, H7, I7, n7⟩ := q7; exact again I7 n7
    | brk => obtain ⟨σ7, H7, I7, q7⟩ := q7; exact ⟨σ7, H7, I7.unpinned, q7⟩
    | ret v => obtain ⟨x7, σ7, H7, I7, r7, q7⟩ := q7; exact ⟨x7, σ7, H7, I7.unpinned, r7, q7⟩
end
end L2
namespace L2
open PySem PySem.Spec PyProof.Rows
abbrev R2 := V → V → Hp → VK → Prop
def OpR (X : Cx) (f : Value → Value → Sem Value) (r : R2) : Prop :=
  ∀ (pins : List (Addr × Obj)) (s : Shared) (σ : St) (H : Hp) (x y : V) (v u : Value) (Q : VK), Inv X pins σ H s → RelV x v → RelV y u → r x y H Q →
    wpAny (model X.prog X.w) X.A (f v u) (EP X pins σ Q) X.xe s
def CallR (X : Cx) (f : Value) (r : List V → Hp → VK → Prop) : Prop :=
  ∀ (pins : List (Addr × Obj)) (s : Shared) (σ : St) (H : Hp) (xs : List V) (us : List Value) (Q : VK), Inv X pins σ H s → Vals xs us → r xs H Q →
    wpAny (model X.prog X.w) X.A (call f us) (EP X pins σ Q) X.xe s
def TruR (X : Cx) (r : V → Hp → (Bool → Hp → Prop) → Prop) : Prop :=
  ∀ (pins : List (Addr × Obj)) (s : Shared) (σ : St) (H : Hp) (x : V) (v : Value) (Q : Bool → Hp → Prop), Inv X pins σ H s → RelV x v → r x H Q →
    wpAny (model X.prog X.w) X.A (truthy v) (TP X pins σ Q) X.xe s
def tOp (r : R2) (ta tb : TE) : TE := fun σ H Q => ta σ H fun x H1 => tb σ H1 fun y H2 => r x y H2 Q
def rI (C : Int → Int → Prop) (g : Int → Int → V) : R2 := fun x y H Q => ∃ i j, x = .int i ∧ y = .int j ∧ C i j ∧ Q (g i j) H
def rI0 (g : Int → Int → V) : R2 := fun x y H Q => ∃ i j, x = .int i ∧ y = .int j ∧ Q (g i j) H
section
variable {X : Cx} {a b c : Expr} {ta tb tc : TE} {pos : Pos}
theorem binT (ha : PE X a ta) (hb : PE X b tb) {pins : List (Addr × Obj)} {s : Shared} {σ : St} {H : Hp} {R : V → V → Hp → Prop} (I : Inv X pins σ H s)
    (h : ta σ H fun x H1 => tb σ H1 fun y H2 => R x y H2) {Q : Value → Shared → Prop} {f : Value → Value → Sem Value}
    (hf : ∀ v u s2 x y H2, Inv X pins σ H2 s2 → RelV x v → RelV y u → R x y H2 → wpAny (model X.prog X.w) X.A (f v u) Q X.xe s2) :
    wpAny (model X.prog X.w) X.A (eval a X.env) (fun v s₁ => wpAny (model X.prog X.w) X.A (eval b X.env) (fun u s₂ => wpAny (model X.prog X.w) X.A (f v u) Q X.xe s₂) X.xe s₁) X.xe s := by
  refine thn (ha pins s σ H _ I h) fun v s1 ⟨x, H1, I1, r1, q1⟩ => ?_
  refine thn (hb pins s1 σ H1 _ I1 q1) fun u s2 ⟨y, H2, I2, r2, q2⟩ => ?_
  exact hf v u s2 x y H2 I2 r1 r2 q2
theorem pe_op {op : Operator} {r : R2} (ho : OpR X (binaryOp op) r) (ha : PE X a ta) (hb : PE X b tb) : PE X (.BinOp a op b pos) (tOp r ta tb) := by
  (first | refine ⟨?_⟩ | skip)
  intro pins s σ H Q I h
  exact wpAny_BinOp (binT ha hb I h fun v u s2 x y H2 I2 rx ry q => ho pins s2 σ H2 x y v u Q I2 rx ry q)
theorem opI {f : Value → Value → Sem Value} {C : Int → Int → Prop} {g : Int → Int → Int}
    (rule : ∀ (i j : Int) (t u : Tok) (s : Shared) (Q : Value → Shared → Prop) (E : Value → Shared → Prop), C i j → Q (.int (g i j) s.toks) { s with toks := s.toks + 1 } → wpAny (model X.prog X.w) X.A (f (.int i t) (.int j u)) Q E s) :
    OpR X f (rI C fun i j => .int (g i j)) := by
  (first | refine ⟨?_⟩ | skip)
  intro pins s σ H x y v u Q I rx ry h
  obtain ⟨i, j, rfl, rfl, hc, q⟩ := h
  obtain ⟨t, rfl⟩ := rx
  obtain ⟨t', rfl⟩ := ry
  exact rule i j t t' s _ _ hc ⟨.int (g i j), H, I.tok _, ⟨_, rfl⟩, q⟩
theorem opI0 {f : Value → Value → Sem Value} {g : Int → Int → Int}
    (rule : ∀ (i j : Int) (t u : Tok) (s : Shared) (Q : Value → Shared → Prop) (E : Value → Shared → Prop), Q (.int (g i j) s.toks) { s with toks := s.toks + 1 } → wpAny (model X.prog X.w) X.A (f (.int i t) (.int j u)) Q E s) :
    OpR X f (rI0 fun i j => .int (g i j)) := by
  (first | refine ⟨?_⟩ | skip)
  intro pins s σ H x y v u Q I rx ry h
  obtain ⟨i, j, rfl, rfl, q⟩ := h
  obtain ⟨t, rfl⟩ := rx
  obtain ⟨t', rfl⟩ := ry
  exact rule i j t t' s _ _ ⟨.int (g i j), H, I.tok _, ⟨_, rfl⟩, q⟩
theorem opB0 {f : Value → Value → Sem Value} {g : Int → Int → Bool}
    (rule : ∀ (i j : Int) (t u : Tok) (s : Shared) (Q : Value → Shared → Prop) (E : Value → Shared → Prop), Q (.bool (g i j)) s → wpAny (model X.prog X.w) X.A (f (.int i t) (.int j u)) Q E s) :
    OpR X f (rI0 fun i j => .bl (g i j)) := by
  (first | refine ⟨?_⟩ | skip)
  intro pins s σ H x y v u Q I rx ry h
  obtain ⟨i, j, rfl, rfl, q⟩ := h
  obtain ⟨t, rfl⟩ := rx
  obtain ⟨t', rfl⟩ := ry
  exact rule i j t t' s _ _ ⟨.bl (g i j), H, I, rfl, q⟩
def CPow (i j : Int) : Prop := 0 ≤ j ∧ j ≤ 1000000 ∧ i.natAbs < 2 ^ 64
def CMul (i j : Int) : Prop := (-(2 ^ 64) < i ∧ i < 2 ^ 64) ∨ (-(2 ^ 64) < j ∧ j < 2 ^ 64)
theorem CMul.ok {i j : Int} (h : CMul i j) : IntMulOk i j := by
  rcases h with ⟨h1, h2⟩ | ⟨h1, h2⟩
  · exact .of_left (intBits_le_64 h1 h2)
  · exact .of_right (intBits_le_64 h1 h2)
theorem op_add : OpR X (binaryOp .Add) (rI0 fun i j => .int (i + j)) := opI0 fun _ _ _ _ _ _ _ q => add_int q
theorem op_sub : OpR X (binaryOp .Sub) (rI0 fun i j => .int (i - j)) := opI0 fun _ _ _ _ _ _ _ q => sub_int q
theorem op_mul : OpR X (binaryOp .Mult) (rI CMul fun i j => .int (i * j)) := opI fun _ _ _ _ _ _ _ hc q => mul_int q hc.ok
theorem op_mod : OpR X (binaryOp .Mod) (rI (fun _ j => 0 < j) fun i j => .int (i % j)) := opI fun i j _ _ _ _ _ hc q => by
  have h1 : (0 : Int) < j := hc
  exact mod_int' (by omega) (by rw [Int.fmod_eq_emod_of_nonneg i (by omega)]; exact q)
theorem op_pow : OpR X (binaryOp .Pow) (rI CPow fun i j => .int (i ^ j.toNat)) := opI fun _ _ _ _ _ _ _ hc q => pow_int_small hc.1 hc.2.1 hc.2.2 q
end
section
variable {X : Cx} {a b c : Expr} {ta tb tc : TE} {pos : Pos}
theorem fin_bl {pins : List (Addr × Obj)} {σ : St} {H : Hp} {s : Shared} {Q : VK} {k k' : Bool} (I : Inv X pins σ H s) (q : Q (.bl k) H) (e : k = k') : EP X pins σ Q (.bool k') s := by
  subst e
  exact ⟨.bl k, H, I, rfl, q⟩
theorem op_lt : OpR X (compareOp .Lt) (rI0 fun i j => .bl (decide (i < j))) := opB0 fun _ _ _ _ _ _ _ q => lt_int q
theorem op_le : OpR X (compareOp .LtE) (rI0 fun i j => .bl (decide (i ≤ j))) := opB0 fun _ _ _ _ _ _ _ q => le_int q
theorem op_gt : OpR X (compareOp .Gt) (rI0 fun i j => .bl (decide (j < i))) := opB0 fun _ _ _ _ _ _ _ q => gt_int q
theorem op_ge : OpR X (compareOp .GtE) (rI0 fun i j => .bl (decide (j ≤ i))) := opB0 fun _ _ _ _ _ _ _ q => ge_int q
theorem op_isN : OpR X (compareOp .Is) (fun x y H Q => y = .non ∧ Q (.bl (decide (x = .non))) H) := by
  (first | refine ⟨?_⟩ | skip)
  intro pins s σ H x y v u Q I rx ry h
  obtain ⟨rfl, q⟩ := h
  cases ry
  refine is_none_gen (fin_bl I q ?_)
  cases x <;> first
    | (cases rx; rfl)
    | (obtain ⟨t, rfl⟩ := rx; rfl)
theorem op_notN : OpR X (compareOp .IsNot) (fun x y H Q => y = .non ∧ Q (.bl (!decide (x = .non))) H) := by
  (first | refine ⟨?_⟩ | skip)
  intro pins s σ H x y v u Q I rx ry h
  obtain ⟨rfl, q⟩ := h
  cases ry
  refine isnot_none_gen (fin_bl I q ?_)
  cases x <;> first
    | (cases rx; rfl)
    | (obtain ⟨t, rfl⟩ := rx; rfl)
theorem nomark (b : Expr) {op : CmpOp} (h : op ≠ .In := by decide) (h2 : op ≠ .NotIn := by decide) : behindInMarks op b = false := by
  have e1 : (op == CmpOp.In) = false := by cases op <;> first | rfl | exact absurd rfl h
  have e2 : (op == CmpOp.NotIn) = false := by cases op <;> first | rfl | exact absurd rfl h2
  cases b <;> simp [behindInMarks, e1, e2]
theorem pe_cmpR {op : CmpOp} {r : R2} (ho : OpR X (compareOp op) r) (ha : PE X a ta) (hb : PE X b tb) (hm : behindInMarks op b = false) : PE X (.Compare a [op] [b] pos) (tOp r ta tb) := by
  (first | refine ⟨?_⟩ | skip)
  intro pins s σ H Q I h
  exact wpAny_Compare1 (binT ha hb I h fun v u s2 x y H2 I2 rx ry q => ho pins s2 σ H2 x y v u Q I2 rx ry q) hm
def tTest (t : TE) : TT := fun σ H Q => t σ H fun x H' => ∃ k, x = .bl k ∧ Q k H'
theorem pt_cmpR {op : CmpOp} {r : R2} (ho : OpR X (compareOp op) r) (ha : PE X a ta) (hb : PE X b tb) (hm : behindInMarks op b = false) : PT X (.Compare a [op] [b] pos) (tTest (tOp r ta tb)) := by
  (first | refine ⟨?_⟩ | skip)
  intro pins s σ H Q I h
  refine wpAny_isTrue_Compare1 (thn (ha pins s σ H _ I h) fun v s1 ⟨x, H1, I1, r1, q1⟩ => thn (hb pins s1 σ H1 _ I1 q1) fun u s2 ⟨y, H2, I2, r2, q2⟩ =>
    thn (ho pins s2 σ H2 x y v u _ I2 r1 r2 q2) fun c s3 ⟨z, H3, I3, r3, k, e, q3⟩ => ?_) hm
  subst e
  cases r3
  exact wpAny_truthy_bool ⟨H3, I3, q3⟩
def TruV (K : PySem.W.Frag) (x : V) (H : Hp) (k : Bool) : Prop :=
  match x with
  | .non => k = false
  | .bl b => k = b
  | .int i => k = (i != 0)
  | .str y => y.length ≤ sizeLine ∧ k = ((y.length : Int) != 0)
  | .byt y => y.size ≤ sizeLine ∧ k = ((y.size : Int) != 0)
  | .ref p => (∃ xs, SqL K H p xs ∧ k = !xs.isEmpty) ∨ (∃ xs, SqT K H p xs ∧ k = !xs.isEmpty) ∨ ∃ kvs, H p = some (.dK kvs) ∧ k = !kvs.isEmpty
  | _ => False
theorem isEmpty_kv {κ : Type} {kvs : List (κ × V)} {vs : List (κ × Value)} (r : KV kvs vs) : (!vs.isEmpty) = !kvs.isEmpty := by
  cases r <;> rfl
theorem isEmpty_of {xs : List V} {its : List Value} (r : Vals xs its) : (!its.toArray.isEmpty) = !xs.isEmpty := by
  cases r <;> simp
theorem line63 : (sizeLine : Nat) < 2 ^ 63 := by rw [sizeLine_eq]; decide
theorem tru_ok : TruR X (fun x H Q => ∃ k, TruV X.K x H k ∧ Q k H) := by
  (first | refine ⟨?_⟩ | skip)
  intro pins s σ H x v Q I rx h
  obtain ⟨k, e, q⟩ := h
  have hl := line63
  have hs : sizeLine = 16777216 := sizeLine_eq
  cases x with
  | non =>
    cases rx
    have e' : k = false := e
    subst e'
    exact truthy_none ⟨H, I, q⟩
  | bl b =>
    cases rx
    have e' : k = b := e
    subst e'
    exact wpAny_truthy_bool ⟨H, I, q⟩
  | int i =>
    obtain ⟨t, rfl⟩ := rx
    have e' : k = (i != 0) := e
    subst e'
    exact PySem.P.truthy_int ⟨H, I, q⟩
  | str y =>
    obtain ⟨t, rfl⟩ := rx
    obtain ⟨hy, e'⟩ : y.length ≤ sizeLine ∧ k = ((y.length : Int) != 0) := e
    subst e'
    exact PySem.P.truthy_str (by omega) ⟨H, I.tok _, q⟩
  | byt y =>
    obtain ⟨t, rfl⟩ := rx
    obtain ⟨hy, e'⟩ : y.size ≤ sizeLine ∧ k = ((y.size : Int) != 0) := e
    subst e'
    exact PySem.W.truthy_bytes (by omega) ⟨H, I.tok _, q⟩
  | ref p =>
    cases rx
    have e' : (∃ xs, SqL X.K H p xs ∧ k = !xs.isEmpty) ∨ (∃ xs, SqT X.K H p xs ∧ k = !xs.isEmpty) ∨ ∃ kvs, H p = some (.dK kvs) ∧ k = !kvs.isEmpty := e
    rcases e' with ⟨xs, hx, e'⟩ | ⟨xs, hx, e'⟩ | ⟨kvs, hx, e'⟩
    · subst e'
      obtain ⟨its, r, pl, hz⟩ := I.list hx
      have hlen := r.length
      exact wpAny_truthy_list pl.isList (by simp only [List.size_toArray]; omega) ⟨H, I.tok _, by rw [isEmpty_of r]; exact q⟩
    · subst e'
      obtain ⟨its, r, pl, hz⟩ := I.tuple hx
      have hlen := r.length
      exact truthy_tuple pl (by simp only [List.size_toArray]; omega) ⟨H, I.tok _, by rw [isEmpty_of r]; exact q⟩
    · subst e'
      obtain ⟨hz, hS, vs, r, m⟩ : kvs.length ≤ sizeLine ∧ (p == sysModules) = false ∧ ∃ vs, KV kvs vs ∧ s.heap.DictOf (mixKind X.prog X.w) p vs := I.hok p _ hx
      have hlen : kvs.length = vs.length := Paired.length r
      exact wpAny_truthy_dict hS m (by omega) ⟨H, I.tok _, by rw [isEmpty_kv r]; exact q⟩
  | _ => exact (show False from e).elim
theorem pt_truth (ha : PE X a ta) (he : ∀ whole, isTrue a X.env whole = (do let v ← whole; standAt a.pos; holding [v] (truthy v))) :
    PT X a (fun σ H Q => ta σ H fun x H' => ∃ k, TruV X.K x H' k ∧ Q k H') := by
  (first | refine ⟨?_⟩ | skip)
  intro pins s σ H Q I h
  exact isTrue_plain (thn (ha pins s σ H _ I h) fun v s1 ⟨x, H1, I1, r1, q1⟩ => tru_ok pins s1 σ H1 x v Q I1 r1 q1) (he _)
theorem op_add_str : OpR X (binaryOp .Add) (fun x y H Q => ∃ i j, x = .str i ∧ y = .str j ∧ i.length + j.length ≤ sizeLine ∧ Q (.str (i ++ j)) H) := by
  (first | refine ⟨?_⟩ | skip)
  intro pins s σ H x y v u Q I rx ry h
  obtain ⟨i, j, rfl, rfl, hz, q⟩ := h
  obtain ⟨t, rfl⟩ := rx
  obtain ⟨t', rfl⟩ := ry
  exact add_str (fun t' tk => ⟨.str (i ++ j), H, I.tok _, ⟨_, rfl⟩, q⟩) hz
theorem vals1 {x : V} {us : List Value} (r : Vals [x] us) : ∃ u, us = [u] ∧ RelV x u := by
  cases r with
  | cons r1 r2 => cases r2; exact ⟨_, rfl, r1⟩
theorem vals2 {x y : V} {us : List Value} (r : Vals [x, y] us) : ∃ u w', us = [u, w'] ∧ RelV x u ∧ RelV y w' := by
  cases r with
  | cons r1 r2 =>
    cases r2 with
    | cons r3 r4 => cases r4; exact ⟨_, _, rfl, r1, r3⟩
theorem call_min2 (hc : X.calm = true) : CallR X (.builtin "min") (fun xs H Q => ∃ i j, xs = [.int i, .int j] ∧ Q (.int (if j < i then j else i)) H) := by
  (first | refine ⟨?_⟩ | skip)
  intro pins s σ H xs us Q I r h
  obtain ⟨i, j, rfl, q⟩ := h
  obtain ⟨u, w', rfl, ⟨t, rfl⟩, ⟨t', rfl⟩⟩ := vals2 r
  refine min_two_ints (I.ok.hd hc) fun h' tk k => ⟨_, H, I.kept k, ?_, q⟩
  by_cases hj : j < i
  · rw [if_pos hj, if_pos hj]; exact ⟨_, rfl⟩
  · rw [if_neg hj, if_neg hj]; exact ⟨_, rfl⟩
theorem call_int1 : CallR X (.type "int") (fun xs H Q => (∃ i, xs = [.int i] ∧ Q (.int i) H) ∨ ∃ k, xs = [.bl k] ∧ Q (.int (if k then 1 else 0)) H) := by
  (first | refine ⟨?_⟩ | skip)
  intro pins s σ H xs us Q I r h
  rcases h with ⟨i, rfl, q⟩ | ⟨k, rfl, q⟩
  · obtain ⟨u, rfl, t, rfl⟩ := vals1 r
    exact call_int_int ⟨.int i, H, I, ⟨_, rfl⟩, q⟩
  · obtain ⟨u, rfl, r1⟩ := vals1 r
    cases r1
    exact call_int_bool ⟨.int (if k then 1 else 0), H, I.tok _, ⟨_, rfl⟩, q⟩
def LenV (K : PySem.W.Frag) (x : V) (H : Hp) (n : Nat) : Prop :=
  match x with
  | .str y => y.length ≤ sizeLine ∧ n = y.length
  | .byt y => y.size ≤ sizeLine ∧ n = y.size
  | .ref p => (∃ xs, SqL K H p xs ∧ n = xs.length) ∨ ∃ xs, SqT K H p xs ∧ n = xs.length
  | _ => False
theorem call_len : CallR X (.builtin "len") (fun xs H Q => ∃ x n, xs = [x] ∧ LenV X.K x H n ∧ Q (.int n) H) := by
  (first | refine ⟨?_⟩ | skip)
  intro pins s σ H xs us Q I r h
  obtain ⟨x, n, rfl, e, q⟩ := h
  obtain ⟨u, rfl, rx⟩ := vals1 r
  have hl := line63
  have hs : sizeLine = 16777216 := sizeLine_eq
  cases x with
  | str y =>
    obtain ⟨t, rfl⟩ := rx
    obtain ⟨hy, e'⟩ : y.length ≤ sizeLine ∧ n = y.length := e
    subst e'
    exact len_str (by omega) ⟨.int _, H, I.tok _, ⟨_, rfl⟩, q⟩
  | byt y =>
    obtain ⟨t, rfl⟩ := rx
    obtain ⟨hy, e'⟩ : y.size ≤ sizeLine ∧ n = y.size := e
    subst e'
    exact PySem.W.len_bytes (by omega) ⟨.int _, H, I.tok _, ⟨_, rfl⟩, q⟩
  | ref p =>
    cases rx
    have e' : (∃ xs, SqL X.K H p xs ∧ n = xs.length) ∨ ∃ xs, SqT X.K H p xs ∧ n = xs.length := e
    rcases e' with ⟨xs, hx, e'⟩ | ⟨xs, hx, e'⟩
    · subst e'
      obtain ⟨its, r', pl, hz⟩ := I.list hx
      have hlen := r'.length
      exact Calls.call_len_list pl.isList (by simp only [List.size_toArray]; omega) ⟨.int xs.length, H, I.tok _, ⟨_, by simp only [List.size_toArray]; rw [hlen]⟩, q⟩
    · subst e'
      obtain ⟨its, r', pl, hz⟩ := I.tuple hx
      have hlen := r'.length
      exact len_tuple pl (by simp only [List.size_toArray]; omega) ⟨.int xs.length, H, I.tok _, ⟨_, by simp only [List.size_toArray]; rw [hlen]⟩, q⟩
  | _ => exact (show False from e).elim
end
end L2
namespace L2
open PySem PySem.Spec PyProof.Rows
section
variable {prog : Program} {w : World} {A : Around} {E : Value → Shared → Prop} {s : Shared} {K : PySem.W.Frag} {x dx C f : Addr} {mA : Str → Option Value} {name : Str} {v : Value}
end
theorem RelO.some_of {v : V} {o : Option Value} (r : RelO (some v) o) : ∃ u, o = some u ∧ RelV v u := by
  cases o with
  | none => exact (show False from r).elim
  | some u => exact ⟨u, rfl, r⟩
section
variable {P : Program} {w : World} {H H' : Hp} {h h' : Heap} {a C dx : Addr} {fs fs' : List (Str × V)}
end
section
variable {X : Cx} {pins : List (Addr × Obj)} {σ : St} {H : Hp} {s : Shared} {a C dx : Addr} {fs : List (Str × V)} {f : Str} {v : V} {A : Around} {E : Value → Shared → Prop}
end
section
variable {X : Cx} {o e value : Expr} {f : Str} {pos pos' tpos : Pos} {ta tv : TE}
end
section
variable {X : Cx} {pins : List (Addr × Obj)} {σ : St} {H : Hp} {s : Shared} {A : Around} {E : Value → Shared → Prop} {Q : Value → Shared → Prop} {c : Value} {b : Bool}
end
end L2
namespace L2
open PySem PySem.Spec PyProof.Rows
structure Room (k : Nat) (A : Around) : Prop where
  hd : A.handled = none
  dp : A.depth + 3 * k + 5 < recursionLimit
  un : A.units + 16 * k + 200 < cLine
theorem Room.mono {j k : Nat} {A : Around} (r : Room k A) (h : j ≤ k) : Room j A := ⟨r.hd, by have := r.dp; omega, by have := r.un; omega⟩
theorem Room.deeper {k : Nat} {A : Around} (r : Room (k + 1) A) (env : Env) : Room k (A.deeper env) :=
  ⟨r.hd, by have := r.dp; show A.depth + 1 + 3 * k + 5 < _; omega, by have := r.un; show A.units + 3 + 16 * k + 200 < _; omega⟩
theorem Room.depth {k : Nat} {A : Around} (r : Room k A) : A.depth < recursionLimit := by have := r.dp; omega
theorem Room.units {k : Nat} {A : Around} (r : Room k A) : A.units + 64 < cLine := by have := r.un; omega
def tNil : TA := fun _ H Q => Q [] H
def tCons (ta : TE) (tr : TA) : TA := fun σ H Q => ta σ H fun x H1 => tr σ H1 fun xs H2 => Q (x :: xs) H2
section
variable {X : Cx} {e : Expr} {es : List Expr} {te : TE} {t : TA} {pos : Pos}
theorem pa_nil : PA X [] tNil := ⟨fun _ _ _ _ H Q I h => Calls.spliced_nil ⟨[], H, I, .nil, h⟩⟩
theorem pa_cons (ha : PE X e te) (hr : PA X es t) (hs : starEach (e :: es) X.env = (false, eval e X.env) :: starEach es X.env := by rfl) : PA X (e :: es) (tCons te t) := by
  (first | refine ⟨?_⟩ | skip)
  intro pos pins s σ H Q I h
  rw [hs]
  show wpAny _ _ (spliced ((false, eval e X.env) :: backTo pos (starEach es X.env))) _ _ s
  refine Calls.spliced_cons (thn (ha pins s σ H _ I h) fun u s1 ⟨x, H1, I1, r1, q1⟩ => ?_)
  exact thn (hr pos pins s1 σ H1 _ I1 q1) fun us s2 ⟨xs, H2, I2, r2, q2⟩ => ⟨x :: xs, H2, I2, .cons r1 r2, q2⟩
def tTup (t : TA) : TE := fun σ H Q => t σ H fun xs H1 => xs.length ≤ sizeLine ∧ ∀ p, H1 p = none → Q (.ref p) (upd H1 p (.tup xs))
def tLst (t : TA) : TE := fun σ H Q => t σ H fun xs H1 => xs.length ≤ sizeLine ∧ ∀ p, H1 p = none → Q (.ref p) (upd H1 p (.lst xs))
theorem pe_tup {x1} (h : PA X es t) : PE X (.Tuple es x1 pos) (tTup t) := by
  (first | refine ⟨?_⟩ | skip)
  intro pins s σ H Q I hq
  refine wpAny_Tuple_spliced (thn (h pos pins s σ H _ I hq) fun us s1 ⟨xs, H1, I1, r, z, q⟩ => ⟨by rw [← r.length]; exact z, ?_⟩)
  have hf : H1 s1.heap.objs.size = none := I1.hok.fresh (Nat.le_refl _)
  refine ⟨.ref s1.heap.objs.size, upd H1 s1.heap.objs.size (.tup xs), I1.laid (t' := s1.toks) (fun b u e => Heap.get?_push_of_some _ e) (Nat.le_refl _) ?_, rfl, q _ hf⟩
  exact ⟨z, us, r, ⟨_, Heap.get?_push_size _ rfl, rfl, _, rfl, rfl⟩⟩
theorem pe_lst (h : PA X es t) : PE X (.List es pos) (tLst t) := by
  (first | refine ⟨?_⟩ | skip)
  intro pins s σ H Q I hq
  refine wpAny_List_spliced (thn (h pos pins s σ H _ I hq) fun us s1 ⟨xs, H1, I1, r, z, q⟩ => ⟨by rw [← r.length]; exact z, ?_⟩)
  have hf : H1 s1.heap.objs.size = none := I1.hok.fresh (Nat.le_refl _)
  refine ⟨.ref s1.heap.objs.size, upd H1 s1.heap.objs.size (.lst xs), I1.laid (t' := s1.toks) (fun b u e => Heap.get?_push_of_some _ e) (Nat.le_refl _) ?_, rfl, q _ hf⟩
  exact ⟨z, us, 0, r, Heap.get?_push_size _ rfl⟩
end
abbrev Sp := List V → Hp → VK → XK → Prop
abbrev CXT := List Env → Hp → Shared → XK → Value → Shared → Prop
structure Env0 (P : Program) (w : World) (K : PySem.W.Frag) (mg : Str → Option Value) (base : Heap) (A : Around) (outer : List Env) (s : Shared) (H : Hp) : Prop where
  frames : A.frames = some outer
  mod : Mod K mg base
  bs : ∀ b o, base.get? b = some o → s.heap.get? b = some o ∧ H b = none
  bsz : base.objs.size ≤ s.heap.objs.size
  funs : s.heap.FunFrames base outer
  frf : ∀ b ∈ frs outer, H b = none
  hok : HOk P w H s.heap
  bare : AllBare s.gens
def CE (outer : List Env) (P : Program) (w : World) (H : Hp) (s : Shared) (Q : VK) (u : Value) (s' : Shared) : Prop :=
  ∃ v H', s'.os = s.os ∧ AllBare s'.gens ∧ Un (frs outer) [] H H' s.heap s'.heap ∧ HOk P w H' s'.heap ∧ RelV v u ∧ Q v H'
def CR (CX : CXT) (outer : List Env) (P : Program) (w : World) (H : Hp) (s : Shared) (Q : VK) (E : XK) (r : Result) (s' : Shared) : Prop :=
  match r with
  | .ok (.ret u) => CE outer P w H s Q u s'
  | .ok _ => False
  | .error e => CX outer H s E e s'
structure FnOk (P : Program) (w : World) (K : PySem.W.Frag) (mg : Str → Option Value) (base : Heap) (CX : CXT) (k : Nat) (f : Addr) (fd : FuncData) (ps : List Str) (sp : Sp) : Prop where
  len : ∀ vs H Q E, sp vs H Q E → vs.length = ps.length
  run : ∀ (A : Around) (outer : List Env) (s : Shared) (H : Hp) (args : Args) (us : List Value) (vs : List V) (Q : VK) (E : XK), Room k A → Env0 P w K mg base A outer s H → BindsTo s fd args (ps.zip us) → Vals vs us → sp vs H Q E →
    codeAny (model P w) A (.call (.ref f) args) (CR CX outer P w H s Q E) s
section
variable {X : Cx} {pins : List (Addr × Obj)} {σ : St} {H : Hp} {s s' : Shared}
theorem Inv.env0 (I : Inv X pins σ H s) : Env0 X.prog X.w X.K X.mg X.base X.A X.stack s H :=
  ⟨I.ok.frames, I.ok.mod, I.bs, Nat.le_trans I.ok.bsz I.sz, I.stack, I.stkFree, I.hok, I.bare⟩
theorem Inv.after {Q : VK} {u : Value} (I : Inv X pins σ H s) (h : CE X.stack X.prog X.w H s Q u s') : EP X pins σ Q u s' := by
  obtain ⟨v, H', os, bare, un, hok, r, q⟩ := h
  obtain ⟨hh, g, d, t, os'⟩ := s'
  obtain rfl : os' = s.os := os
  exact ⟨v, H', I.call (h' := hh) (g' := g) (d' := d) (t' := t) (ch := []) un hok bare (fun b z => absurd z (by simp)), r, q⟩
end
def tCall (sp : Sp) (dvs : List V) (E : XK) (t : TA) : TE := fun σ H Q => t σ H fun vs H1 => sp (vs ++ dvs) H1 Q E
def Binds (K : PySem.W.Frag) (fd : FuncData) (ps : List Str) (ds : List Value) : Prop :=
  ∀ (s : Shared) (us : List Value), K.In s.heap → (us ++ ds).length = ps.length → BindsTo s fd ⟨us, []⟩ (ps.zip (us ++ ds))
theorem Binds.all {K : PySem.W.Frag} {fd : FuncData} {ps : List Str} (h : ∀ us : List Value, us.length = ps.length → bindArgs fd ⟨us, []⟩ = pure (ps.zip us)) : Binds K fd ps [] := fun s us _ hl => by
  rw [List.append_nil] at hl ⊢
  exact .of_eq (h us hl)
def Passes (CX : CXT) (X : Cx) (E : XK) : Prop := ∀ (pins : List (Addr × Obj)) (σ : St) (H : Hp) (s : Shared) (e : Value) (s' : Shared), Inv X pins σ H s → CX X.stack H s E e s' → X.xe e s'
section
variable {X : Cx} {CX : CXT} {k : Nat} {f C : Addr} {fd : FuncData} {ps : List Str} {sp : Sp} {dvs : List V} {ds : List Value} {E : XK} {x m : Str} {p pos apos : Pos} {e o : Expr} {es : List Expr} {ta : TE} {t : TA}
theorem run_fn {pins : List (Addr × Obj)} {σ : St} {H : Hp} {s : Shared} {Q : VK} {us : List Value} {vs : List V} (F : FnOk X.prog X.w X.K X.mg X.base CX k f fd ps sp) (hr : Room k X.A) (hb : Binds X.K fd ps ds) (hd : Vals dvs ds) (hx : Passes CX X E)
    (I : Inv X pins σ H s) (r : Vals vs us) (h : sp (vs ++ dvs) H Q E) : wpAny (model X.prog X.w) X.A (call (.ref f) us) (EP X pins σ Q) X.xe s := by
  have r2 : Vals (vs ++ dvs) (us ++ ds) := r.append hd
  have hl : (us ++ ds).length = ps.length := by rw [← r2.length]; exact F.len _ _ _ _ h
  refine wpAny_call (codeAny_mono (F.run X.A X.stack s H ⟨us, []⟩ (us ++ ds) (vs ++ dvs) Q E hr I.env0 (hb s us I.kIn hl) r2 h) fun r s' hq => ?_)
  cases r with
  | error e => exact hx pins σ H s e s' I hq
  | ok fl =>
    cases fl with
    | ret u => exact I.after hq
    | next => exact False.elim hq
    | brk => exact False.elim hq
    | cont => exact False.elim hq
theorem pe_call (F : FnOk X.prog X.w X.K X.mg X.base CX k f fd ps sp) (hr : Room k X.A) (hg : Gl X x) (hm : X.mg x = some (.ref f)) (hk : PySem.W.keepIn X.K (.ref f) = true) (hb : Binds X.K fd ps ds) (hd : Vals dvs ds) (hx : Passes CX X E)
    (ha : PA X (e :: es) t) (hdb : (x == ("__debug__" : Str)) = false := by decide) (he : starEach (e :: es) X.env = (false, eval e X.env) :: starEach es X.env := by rfl) (hpl : (backTo pos (starEach es X.env)).any (·.1) = false := by rfl) :
    PE X (.Call (.Name x p) (e :: es) [] pos) (tCall sp dvs E t) := by
  (first | refine ⟨?_⟩ | skip)
  intro pins s σ H Q I h
  refine wpAny_Call_Name_kw (ld_glob I hg hm ?_ hdb)
  refine PySem.W.callWith_K (h₀ := X.base) I.ok.mod.kin hk (thn (ha pos pins s σ H _ I h) fun us s1 ⟨vs, H1, I1, r, q⟩ => ⟨I1.kIn, ?_⟩) he hpl
  exact run_fn F hr hb hd hx I1 r q
end
structure PK (X : Cx) (kws : List Keyword) (t : TA) : Prop where
  run :
    ∀ (pos : Pos) (pins : List (Addr × Obj)) (s : Shared) (σ : St) (H : Hp) (Q : List V → Hp → Prop), Inv X pins σ H s → t σ H Q → wpAny (model X.prog X.w) X.A (evalAll ((backToKw pos (keywordEach kws X.env)).map (·.2))) (AP X pins σ Q) X.xe s
instance {X : Cx} {kws : List Keyword} {t : TA} : CoeFun (PK X kws t) fun _ =>
  ∀ (pos : Pos) (pins : List (Addr × Obj)) (s : Shared) (σ : St) (H : Hp) (Q : List V → Hp → Prop), Inv X pins σ H s → t σ H Q → wpAny (model X.prog X.w) X.A (evalAll ((backToKw pos (keywordEach kws X.env)).map (·.2))) (AP X pins σ Q) X.xe s
    := ⟨PK.run⟩
section
variable {X : Cx} {CX : CXT} {k : Nat} {f C : Addr} {fd : FuncData} {ps ks : List Str} {sp : Sp} {E : XK} {x m : Str} {p pos apos kpos : Pos} {e o : Expr} {es : List Expr} {kws : List Keyword} {te ta : TE} {t tk : TA} {nm : Option Str}
variable {g : List Value → List Value → List Value} {gV : List V → List V → List V}
end
structure FnScope (N P : List Str) (sc : Scope) : Prop where
  kind : sc.kind = .function
  co : sc.isCoroutine = false
  gen : sc.isGenerator = false
  nd : N.Nodup
  pre : N.take P.length = P
  par : ∀ x ∈ P, sc.names.lookup x = some .local ∨ sc.names.lookup x = some .cell
  nofree : ∀ y ∈ sc.names, y.2 ≠ .free
theorem bindL_out {kindOf : Str → Option NameKind} {x : Str} : ∀ {binds : List (Str × Value)} {m : Str → Option Value}, (∀ v, (x, v) ∉ binds) → bindL kindOf binds m x = m x
  | [], _, _ => rfl
  | (n, v) :: r, m, h => by
    unfold bindL
    rw [bindL_out fun w hw => h w (List.mem_cons_of_mem _ hw)]
    split
    · have : x ≠ n := by rintro rfl; exact h v List.mem_cons_self
      simp [this]
    · rfl
theorem bindC_out {kindOf : Str → Option NameKind} {x : Str} : ∀ {binds : List (Str × Value)} {m : Str → Option Value}, (∀ v, (x, v) ∉ binds) → bindC kindOf binds m x = m x
  | [], _, _ => rfl
  | (n, v) :: r, m, h => by
    unfold bindC
    rw [bindC_out fun w hw => h w (List.mem_cons_of_mem _ hw)]
    split
    · rfl
    · have : x ≠ n := by rintro rfl; exact h v List.mem_cons_self
      simp [this]
theorem bindL_get {kindOf : Str → Option NameKind} {x : Str} {v : Value} : ∀ {P : List Str} {vs : List Value} {i : Nat} {m : Str → Option Value}, P.Nodup → P[i]? = some x → vs[i]? = some v → kindOf x = some .local →
    bindL kindOf (P.zip vs) m x = some v
  | [], _, _, _, _, h, _, _ => by simp at h
  | _ :: _, [], _, _, _, _, h, _ => by simp at h
  | p :: P, w :: vs, 0, m, nd, h1, h2, hk => by
    simp at h1 h2; subst h1; subst h2
    show bindL kindOf ((p, w) :: P.zip vs) m p = _
    unfold bindL
    rw [bindL_out fun v hv => (List.nodup_cons.mp nd).1 (List.of_mem_zip hv).1, if_pos hk]
    simp
  | p :: P, w :: vs, i + 1, m, nd, h1, h2, hk => by
    show bindL kindOf ((p, w) :: P.zip vs) m x = _
    unfold bindL
    exact bindL_get (i := i) (List.nodup_cons.mp nd).2 (by simpa using h1) (by simpa using h2) hk
theorem bindC_get {kindOf : Str → Option NameKind} {x : Str} {v : Value} : ∀ {P : List Str} {vs : List Value} {i : Nat} {m : Str → Option Value}, P.Nodup → P[i]? = some x → vs[i]? = some v → kindOf x ≠ some .local →
    bindC kindOf (P.zip vs) m x = some v
  | [], _, _, _, _, h, _, _ => by simp at h
  | _ :: _, [], _, _, _, _, h, _ => by simp at h
  | p :: P, w :: vs, 0, m, nd, h1, h2, hk => by
    simp at h1 h2; subst h1; subst h2
    show bindC kindOf ((p, w) :: P.zip vs) m p = _
    unfold bindC
    rw [bindC_out fun v hv => (List.nodup_cons.mp nd).1 (List.of_mem_zip hv).1, if_neg hk]
    simp
  | p :: P, w :: vs, i + 1, m, nd, h1, h2, hk => by
    show bindC kindOf ((p, w) :: P.zip vs) m x = _
    unfold bindC
    exact bindC_get (i := i) (List.nodup_cons.mp nd).2 (by simpa using h1) (by simpa using h2) hk
def start (N : List Str) (vs : List V) : St := vs.map some ++ List.replicate (N.length - vs.length) none
def cxOf (CX : CXT) (P : Program) (w : World) (K : PySem.W.Frag) (mg : Str → Option Value) (base : Heap) (N : List Str) (qual : Str) (scope : Scope) (f : Addr) (cd : Value) (A : Around) (outer : List Env) (s : Shared) (H : Hp) (E : XK) : Cx where
  prog := P
  w := w
  K := K
  mg := mg
  base := base
  A := A.deeper (envOfC qual scope s.heap.objs.size f cd)
  N := N
  s₀ := s
  H₀ := H
  env := envOfC qual scope s.heap.objs.size f cd
  outer := outer
  stack := envOfC qual scope s.heap.objs.size f cd :: outer
  ex := []
  calm := true
  fn := fun _ => true
  pn := []
  xe := fun e s' => wpAny (model P w) (A.deeper (envOfC qual scope s.heap.objs.size f cd)) (leaving (envOfC qual scope s.heap.objs.size f cd) e) (fun _ s'' => CX outer H s E e s'') (fun e' s'' => CX outer H s E e' s'') s'
theorem cell_has {sc : Scope} {n : Nat} {x : Str} (h : sc.names.lookup x = some .cell) : ∃ c, (cellsFrom n sc.names []).lookup x = some c := by
  have q := PySem.W.cellsFrom_some sc.names n [] (.inl h)
  exact Option.isSome_iff_exists.mp q
theorem inv_start {CX : CXT} {P : Program} {w : World} {K : PySem.W.Frag} {mg : Str → Option Value} {base : Heap} {N ps : List Str} {qual : Str} {scope : Scope} {f : Addr} {cd : Value} {A : Around} {outer : List Env} {s s1 : Shared} {H : Hp} {E : XK} {us : List Value} {vs : List V}
    (S : FnScope N ps scope) (hd : A.handled = none) (e0 : Env0 P w K mg base A outer s H) (hl : vs.length = ps.length) (r : Vals vs us)
    (x : InCallC s s.heap.objs.size (bindL (envOfC qual scope s.heap.objs.size f cd).kindOf (ps.zip us) fun _ => none) (cellsFrom (s.heap.objs.size + 1) scope.names []) (bindC (envOfC qual scope s.heap.objs.size f cd).kindOf (ps.zip us) fun _ => none) s1) :
    Inv (cxOf CX P w K mg base N qual scope f cd A outer s H E) [] (start N vs) H s1 := by
  have hpl : ps.length ≤ N.length := by have := congrArg List.length S.pre; rw [List.length_take] at this; omega
  obtain ⟨h1, tk, rfl, hk⟩ := x.done
  have noA : ∀ b : Addr, b ∉ (cxOf CX P w K mg base N qual scope f cd A outer s H E).ex := fun b z => absurd (show b ∈ ([] : List Addr) from z) (by simp)
  refine ⟨⟨e0.mod, S.kind, rfl, rfl, Nat.le_refl _, fun y z c h1 h2 => ?_, fun y hy => ?_, fun y c _ h => ?_, fun _ => hd, Around.frames_deeper e0.frames, .inr ⟨rfl, rfl⟩, fun b z => absurd z (noA b), e0.bs, e0.bsz, fun b _ _ => noA b, fun b z => absurd z (noA b), e0.funs, e0.frf⟩,
    rfl, e0.bare, Un.kept hk, ⟨_, x.toInCall.ns, fun i y v h1 h2 h3 => ?_⟩, fun y c h => ⟨_, x.cell y c h⟩, e0.hok.fresh (Nat.le_refl _), fun y c h => ?_, fun p hp => absurd (show p ∈ ([] : List (Addr × Obj)) from hp) (by simp), e0.hok.kept hk, ?_⟩
  · exact name_of_addr x.apart (PySem.mem_of_lookup h1) (PySem.mem_of_lookup h2)
  · have hy : scope.names.lookup y = some .cell ∨ scope.names.lookup y = some .free := hy
    rcases hy with hy | hy
    · exact cell_has hy
    · exact absurd rfl (S.nofree _ (PySem.mem_of_lookup hy))
  · exact Nat.le_of_lt (x.above y c (PySem.mem_of_lookup h))
  · have hi : i < vs.length := by
      unfold start at h2
      by_cases hi : i < vs.length
      · exact hi
      · rw [List.getElem?_append_right (by simpa using hi)] at h2
        rw [List.getElem?_replicate] at h2
        split at h2 <;> cases h2
    have ha : vs[i]? = some v := by
      unfold start at h2
      rw [List.getElem?_append_left (by simpa using hi), List.getElem?_map] at h2
      cases e : vs[i]? with
      | none => rw [e] at h2; cases h2
      | some a => rw [e] at h2; cases h2; rfl
    obtain ⟨u, hu, rv⟩ := r.get ha
    have hp : ps[i]? = some y := by
      rw [← S.pre, List.getElem?_take_of_lt (by omega)]; exact h1
    have ndP : ps.Nodup := by rw [← S.pre]; exact S.nd.sublist (List.take_sublist _ _)
    refine ⟨u, rv, ?_⟩
    rcases S.par y (List.mem_of_getElem? hp) with k | k
    · exact .inl ⟨k, bindL_get ndP hp hu k⟩
    · obtain ⟨c, e⟩ := cell_has (n := s.heap.objs.size + 1) k
      refine .inr ⟨.inl k, c, e, ?_⟩
      have q := x.cell y c e
      rw [bindC_get ndP hp hu (by show scope.names.lookup y ≠ _; rw [k]; decide)] at q
      exact q
  · exact e0.hok.fresh (Nat.le_of_lt (x.above y c (PySem.mem_of_lookup h)))
  · unfold start
    show _ = N.length
    rw [List.length_append, List.length_map, List.length_replicate]
    omega
theorem fn_of {CX : CXT} {P : Program} {w : World} {K : PySem.W.Frag} {mg : Str → Option Value} {base : Heap} {k : Nat} {f : Addr} {name qual : Str} {params : Arguments} {body : List Stmt} {scope : Scope} {dV kV doc pm cdv ct oc : Value} {an od : Option Addr}
    {osl : Array (Option Value)} {N ps : List Str} {sp : Sp} (lk : K.lookup f = some ⟨oc, od, .func (PySem.W.fnOf name qual params body scope dV kV doc pm an cdv ct), osl⟩) (hcd : PySem.W.codeIn K cdv qual = true) (S : FnScope N ps scope)
    (len : ∀ vs H Q E, sp vs H Q E → vs.length = ps.length)
    (hbody : ∀ (A : Around) (outer : List Env) (s : Shared) (H : Hp) (vs : List V) (Q : VK) (E : XK), Room k (A.deeper (envOfC qual scope s.heap.objs.size f cdv)) → sp vs H Q E →
      ∃ t, PSs (cxOf CX P w K mg base N qual scope f cdv A outer s H E) body t ∧ t { nx := fun _ H' => Q .non H', rt := Q } (start N vs) H) :
    FnOk P w K mg base CX (k + 1) f (PySem.W.fnOf name qual params body scope dV kV doc pm an cdv ct) ps sp := by
  refine ⟨len, fun A outer s H args us vs Q E hr e0 hb r hsp => ?_⟩
  have hl := len _ _ _ _ hsp
  have KX : K.In s.heap := e0.mod.kin.keeps fun b o e => (e0.bs b o e).1
  have lim : s.heap.NoLimit := e0.mod.nolimit.keeps fun b o e => (e0.bs b o e).1
  have hkind : ∀ y ∈ ps.zip us, scope.names.lookup y.1 = some .local ∨ (scope.names.lookup y.1 = some .cell ∧ ((cellsFrom (s.heap.objs.size + 1) scope.names []).lookup y.1).isSome = true) := fun ⟨n, v⟩ hy => by
    rcases S.par n (List.of_mem_zip hy).1 with q | q
    · exact .inl q
    · exact .inr ⟨q, PySem.W.cellsFrom_some _ _ _ (.inl q)⟩
  refine codeAny_call_function hr.depth (KX _ _ lk) rfl S.co S.gen rfl (PySem.W.codeRec_of KX hcd) (hb _ _ _ _ ?_)
  refine wpAny_newFunctionEnv_cells S.kind hkind fun env he s1 x => ?_
  subst he
  refine ⟨lim.keeps x.toInCall.keep, codeAny_func ?_⟩
  obtain ⟨t, ht, hq⟩ := hbody A outer s H vs Q E (hr.deeper _) hsp
  have I : Inv (cxOf CX P w K mg base N qual scope f cdv A outer s H E) [] (start N vs) H s1 := inv_start S hr.hd e0 hl r x
  refine wpAny_mono (ht [] s1 (start N vs) H _ I hq) (fun fl s' hs => ?_) fun e s' hs => hs
  have fin : ∀ {σ' : St} {H' : Hp} {v : V} {u : Value}, Inv (cxOf CX P w K mg base N qual scope f cdv A outer s H E) [] σ' H' s' → RelV v u → Q v H' → CE outer P w H s Q u s' :=
    fun {σ' H' v u} J rv q => ⟨v, H', J.os, J.bare, J.base, J.hok, rv, q⟩
  cases fl with
  | ret u =>
    obtain ⟨v, σ', H', J, rv, q⟩ := hs
    exact fin J rv q
  | next =>
    obtain ⟨σ', H', J, q⟩ := hs
    exact fin (v := V.non) (u := Value.none) J rfl q
  | brk =>
    obtain ⟨_, _, _, q⟩ := hs
    exact False.elim q
  | cont =>
    obtain ⟨_, _, _, q⟩ := hs
    exact False.elim q
end L2
namespace L2
open PySem PySem.Spec PyProof.Rows
section
variable {X : Cx} {x : Str} {p pos : Pos} {e : Expr} {es : List Expr} {t : TA} {id T : String} {r : List V → Hp → VK → Prop}
def tCB (r : List V → Hp → VK → Prop) (t : TA) : TE := fun σ H Q => t σ H fun vs H1 => r vs H1 Q
theorem pe_callB (hc : CallR X (.builtin id) r) (hg : Gl X x) (hm : X.mg x = none) (hv : bootBuiltins x = some (.builtin id)) (ha : PA X (e :: es) t) (hn : x ≠ "__name__" := by decide) (hdb : (x == ("__debug__" : Str)) = false := by decide)
    (he : starEach (e :: es) X.env = (false, eval e X.env) :: starEach es X.env := by rfl) (hpl : (backTo pos (starEach es X.env)).any (·.1) = false := by rfl) : PE X (.Call (.Name x p) (e :: es) [] pos) (tCB r t) := by
  (first | refine ⟨?_⟩ | skip)
  intro pins s σ H Q I h
  refine wpAny_Call_Name_kw (ld_blt I hg hm hv ?_ hn hdb)
  exact PyProof.Rows.callWith_builtin1 (thn (ha pos pins s σ H _ I h) fun us s1 ⟨vs, H1, I1, r1, q1⟩ => hc pins s1 σ H1 vs us Q I1 r1 q1) he hpl
theorem pe_callTy (hc : CallR X (.type T) r) (hg : Gl X x) (hm : X.mg x = none) (hv : bootBuiltins x = some (.type T)) (ha : PA X (e :: es) t) (hn : x ≠ "__name__" := by decide) (hdb : (x == ("__debug__" : Str)) = false := by decide)
    (he : starEach (e :: es) X.env = (false, eval e X.env) :: starEach es X.env := by rfl) (hpl : (backTo pos (starEach es X.env)).any (·.1) = false := by rfl) : PE X (.Call (.Name x p) (e :: es) [] pos) (tCB r t) := by
  (first | refine ⟨?_⟩ | skip)
  intro pins s σ H Q I h
  refine wpAny_Call_Name_kw (ld_blt I hg hm hv ?_ hn hdb)
  exact PyProof.Rows.callWith_type1 (thn (ha pos pins s σ H _ I h) fun us s1 ⟨vs, H1, I1, r1, q1⟩ => hc pins s1 σ H1 vs us Q I1 r1 q1) he hpl
end
end L2
namespace HT
open PySem PyProof.Rows
section
open PySem.SeqAt
open PySem.AutoSeq1 (wpAny_loadPart')
open PySem.MeetsSeq PySem.MeetsSeq2 PySem.MeetsSeq3
end
section
variable {prog : Program} {w : World} {A : Around} {E : Value → Shared → Prop} {s : Shared}
theorem cat_tup {t b : Addr} {vs ws : List Value} {Q : Value → Shared → Prop} (ht : IsTup s.heap t vs.toArray) (hb : IsTup s.heap b ws.toArray) (hv : vs ≠ [])
    (h1 : ws = [] → Q (.ref t) s) (h2 : ws ≠ [] → Q (.ref s.heap.objs.size) { s with heap := s.heap.push { cls := .type "tuple", data := .seq (vs ++ ws).toArray } })
    (hsz : vs.length + ws.length ≤ sizeLine) : wpAny (model prog w) A (binaryOp .Add (.ref t) (.ref b)) Q E s := by
  obtain ⟨⟨cls, dd, data, sl⟩, ho, hc, n, hd⟩ := id ht
  obtain ⟨⟨cls2, dd2, data2, sl2⟩, ho2, hc2, n2, hd2⟩ := id hb
  simp only at hc hd hc2 hd2
  subst hc hd hc2 hd2
  have e : vs.toArray ++ ws.toArray = (vs ++ ws).toArray := by simp
  by_cases hw : ws = []
  · exact concat_meets ⟨_, ho, rfl⟩ ⟨_, ho2, rfl⟩ noFill_tuple_add seq_tuple_add PySem.F.slot_tuple_add PySem.F.entry_tuple_add (PySem.F.args_tuple_add_2 _ _)
      (tuple_addW1 t b vs.toArray ws.toArray n n2 dd dd2 sl sl2 (by simpa using hv) (by simp [hw])) ⟨ho, ho2, h1 hw⟩
  · refine concat_meets ⟨_, ho, rfl⟩ ⟨_, ho2, rfl⟩ noFill_tuple_add seq_tuple_add PySem.F.slot_tuple_add PySem.F.entry_tuple_add (PySem.F.args_tuple_add_2 _ _)
      (tuple_addW2 t b vs.toArray ws.toArray n n2 dd dd2 sl sl2 (by simpa using hv) (by simpa using hw) (by rw [List.size_toArray, List.size_toArray]; exact hsz)) ⟨ho, ho2, ?_⟩
    rw [e]
    exact h2 hw
def sIx (n d : Nat) : Option Int → Nat
  | none => d
  | some v => if v < 0 then (v + (n : Int)).toNat else min v.toNat n
theorem sIx_none (n d : Nat) : sIx n d none = d := rfl
theorem sIx_nat (n d k : Nat) : sIx n d (some (k : Int)) = min k n := by
  show (if (k : Int) < 0 then ((k : Int) + (n : Int)).toNat else min (k : Int).toNat n) = min k n
  rw [if_neg (by omega), Int.toNat_natCast]
theorem sIx_le (n d : Nat) (hd : d ≤ n) (o : Option Int) : sIx n d o ≤ n := by
  cases o with
  | none => exact hd
  | some v =>
    show (if v < 0 then (v + (n : Int)).toNat else min v.toNat n) ≤ n
    by_cases hv : v < 0
    · rw [if_pos hv]; omega
    · rw [if_neg hv]; exact Nat.min_le_right _ _
theorem clip_eq (v : Int) (n d : Nat) : (if v < 0 then max (v + (n : Int)) 0 else min v (n : Int)) = ((sIx n d (some v) : Nat) : Int) := by
  show (if v < 0 then max (v + (n : Int)) 0 else min v (n : Int)) = (((if v < 0 then (v + (n : Int)).toNat else min v.toNat n) : Nat) : Int)
  by_cases hv : v < 0
  · simp only [if_pos hv]; omega
  · simp only [if_neg hv]; omega
theorem adjust_gen (lo hi : Option Int) (n : Nat) : Builtin.Slice.sliceAdjust lo hi 1 (n : Int) = (((sIx n 0 lo : Nat) : Int), ((sIx n n hi : Nat) : Int)) := by
  have h1 : ¬ ((1 : Int) < 0) := by omega
  unfold Builtin.Slice.sliceAdjust
  simp only [h1, if_false]
  refine Prod.ext ?_ ?_
  · cases lo with
    | none => rfl
    | some v => exact clip_eq v n 0
  · cases hi with
    | none => rfl
    | some v => exact clip_eq v n n
theorem places_gen (i j : Nat) : Builtin.Slice.slicePlaces (i : Int) (j : Int) 1 = j - i := by
  unfold Builtin.Slice.slicePlaces
  have h1 : (1 : Int) > 0 := by omega
  simp only [h1, if_true, Int.ediv_one]
  split <;> omega
theorem slicePart_ {v : Value} {o : Option Int} {Q : Option Int → Shared → Prop} (p : IsPart v o) (h : Q o s) : wpAny (model prog w) A (Builtin.Slice.slicePartIndex v) Q E s := by
  cases p with
  | none => exact slicePart_none h
  | int i t => exact slicePart_int h
theorem sliceApplied_gen {sl : Addr} {vl vu : Value} {lo hi : Option Int} {n : Nat} {Q : Int × Int × Nat → Shared → Prop} (hs : s.heap.IsSliceOf sl vl vu .none) (pl : IsPart vl lo) (pu : IsPart vu hi)
    (h : Q (((sIx n 0 lo : Nat) : Int), 1, sIx n n hi - sIx n 0 lo) s) : wpAny (model prog w) A (Builtin.Slice.sliceApplied (.ref sl) (pure (n : Int))) Q E s := by
  obtain ⟨os, hos, hcs, hds⟩ := id hs
  unfold Builtin.Slice.sliceApplied Builtin.Slice.sliceFields
  refine wpAny_bind (wpAny_bind (wpAny_field hos hds (x := vl) rfl (wpAny_bind (wpAny_field hos hds (x := vu) rfl (wpAny_bind (wpAny_field hos hds (x := .none) rfl (wpAny_pure ?_)))))))
  refine wpAny_bind (slicePart_none ?_)
  show wpAny _ _ (if ((1 : Int) == 0) = true then _ else _) _ _ s
  rw [if_neg (by decide)]
  refine wpAny_bind (slicePart_ pl (wpAny_bind (slicePart_ pu (wpAny_bind (wpAny_pure ?_)))))
  show wpAny _ _ (match Builtin.Slice.sliceAdjust lo hi 1 (n : Int) with | (lo, hi) => pure (lo, (1 : Int), Builtin.Slice.slicePlaces lo hi 1)) _ _ s
  rw [adjust_gen lo hi n]
  show wpAny _ _ (pure (((sIx n 0 lo : Nat) : Int), (1 : Int), Builtin.Slice.slicePlaces ((sIx n 0 lo : Nat) : Int) ((sIx n n hi : Nat) : Int) 1)) _ _ s
  rw [places_gen]
  exact wpAny_pure h
theorem pick_gen (xs : Array Value) (i k : Nat) : ((List.range k).filterMap fun (m : Nat) => xs[((i : Int) + (m : Int) * 1).toNat]?).toArray = ((xs.toList.drop i).take k).toArray := by
  have e : (fun (m : Nat) => xs[((i : Int) + (m : Int) * 1).toNat]?) = fun m => xs[i + m]? := by
    funext m
    have : ((i : Int) + (m : Int) * 1).toNat = i + m := by omega
    rw [this]
  rw [e]
  have := pick_run xs i k
  rw [List.filterMap_map] at this
  have e2 : ((fun x => xs[x]?) ∘ fun x => i + x) = fun m => xs[i + m]? := rfl
  rw [e2] at this
  rw [this]
theorem getItem_tuple_cut {t sl : Addr} {items : Array Value} {vl vu : Value} {lo hi : Option Int} {Q : Value → Shared → Prop} (ht : IsTup s.heap t items) (hs : s.heap.IsSliceOf sl vl vu .none) (pl : IsPart vl lo) (pu : IsPart vu hi)
    (hw : ¬ (sIx items.size 0 lo = 0 ∧ sIx items.size items.size hi = items.size))
    (h : Q (.ref s.heap.objs.size) { s with heap := s.heap.push { cls := .type "tuple", data := .seq ((items.toList.drop (sIx items.size 0 lo)).take (sIx items.size items.size hi - sIx items.size 0 lo)).toArray } })
    (hsz : items.size ≤ sizeLine) : wpAny (model prog w) A (getItem (.ref t) (.ref sl)) Q E s := by
  have htake : sizeOk (.seq ((items.toList.drop (sIx items.size 0 lo)).take (sIx items.size items.size hi - sIx items.size 0 lo)).toArray) := by
    show ((items.toList.drop (sIx items.size 0 lo)).take (sIx items.size items.size hi - sIx items.size 0 lo)).toArray.size ≤ sizeLine
    rw [List.size_toArray, List.length_take, List.length_drop, Array.length_toList]
    omega
  have hj : sIx items.size items.size hi ≤ items.size := sIx_le _ _ (Nat.le_refl _) hi
  obtain ⟨os, hos, hcs, hds⟩ := id hs
  have hTs : s.TypeIs (.ref sl) "slice" := ⟨os, hos, hcs⟩
  unfold getItem
  try with_reducible refine wpAny_holding ?_
  first | refine wpAny_bind (wpAny_pure ?_) | skip
  refine wpAny_bind (wpAny_sequenceKey ht.typeIs (by decide) ?_)
  refine wpAny_bind (wpAny_callSpecial?_slot (name := Str.ofString "__getitem__") ht.typeIs PyProof.Rows.slot_tuple_getitem
    (wpAny_call_entry PyProof.Rows.slot_tuple_getitem ht.typeIs entry_tuple_getitem ?_ (args_tuple_getitem _ _)))
  show wpAny _ _ (Builtin.Tuple.tupleItemsOf (.ref t) >>= _) _ _ s
  refine wpAny_bind (tupleItemsOf_ ht ?_)
  refine wpAny_bind (wpAny_typeOf hTs ?_)
  rw [if_pos (by decide)]
  refine wpAny_bind (sliceApplied_gen hs pl pu ?_)
  have hno : ¬ ((((sIx items.size 0 lo : Nat) : Int) == 0 && (1 : Int) == 1 && (sIx items.size items.size hi - sIx items.size 0 lo) == items.size) = true) := by
    intro q
    rw [Bool.and_eq_true, Bool.and_eq_true] at q
    have q1 : ((sIx items.size 0 lo : Nat) : Int) = 0 := eq_of_beq q.1.1
    have q2 : sIx items.size items.size hi - sIx items.size 0 lo = items.size := eq_of_beq q.2
    exact hw ⟨by omega, by omega⟩
  show wpAny _ _ (if (((sIx items.size 0 lo : Nat) : Int) == 0 && (1 : Int) == 1 && (sIx items.size items.size hi - sIx items.size 0 lo) == items.size) = true then _ else _) _ _ s
  rw [if_neg hno, pick_gen]
  first
    | exact wpAny_bind (m := Builtin.Tuple.tupleExact _) (wpAny_newObj_type (wpAny_pure ⟨_, rfl, wpAny_pure h⟩) htake)
    | exact wpAny_bind (m := Builtin.Tuple.tupleExact _) (wpAny_newObj_type (wpAny_bind (wpAny_pure (wpAny_pure ⟨_, rfl, wpAny_pure h⟩))) htake)
    | exact wpAny_bind (wpAny_bind (m := Builtin.Tuple.tupleExact _) (wpAny_newObj_type (wpAny_pure (wpAny_pure ⟨_, rfl, wpAny_pure h⟩)) htake))
    | exact wpAny_bind (wpAny_bind (m := Builtin.Tuple.tupleExact _) (wpAny_newObj_type (wpAny_pure ⟨_, rfl, wpAny_pure h⟩) htake))
end
end HT
namespace L2
open PySem PySem.Spec PyProof.Rows
abbrev TO := St → Hp → (Option Int → Hp → Prop) → Prop
structure PO (X : Cx) (e : Option Expr) (t : TO) : Prop where
  run :
    ∀ (pins : List (Addr × Obj)) (s : Shared) (σ : St) (H : Hp) (Q : Option Int → Hp → Prop), Inv X pins σ H s → t σ H Q →
      wpAny (model X.prog X.w) X.A (evalPart e X.env) (fun u s' => ∃ o H', Inv X pins σ H' s' ∧ IsPart u o ∧ Q o H') X.xe s
instance {X : Cx} {e : Option Expr} {t : TO} : CoeFun (PO X e t) fun _ =>
  ∀ (pins : List (Addr × Obj)) (s : Shared) (σ : St) (H : Hp) (Q : Option Int → Hp → Prop), Inv X pins σ H s → t σ H Q →
    wpAny (model X.prog X.w) X.A (evalPart e X.env) (fun u s' => ∃ o H', Inv X pins σ H' s' ∧ IsPart u o ∧ Q o H') X.xe s
    := ⟨PO.run⟩
def tNoPart : TO := fun _ H Q => Q none H
def tPart (t : TE) : TO := fun σ H Q => t σ H fun x H1 => ∃ i, x = .int i ∧ Q (some i) H1
section
variable {X : Cx} {e : Expr} {te : TE} {lo hi : Option Expr} {tl th : TO} {pos p2 : Pos}
theorem po_none : PO X none tNoPart := by
  (first | refine ⟨?_⟩ | skip)
  intro pins s σ H Q I h
  rw [evalPart_none]
  exact wpAny_pure ⟨none, H, I, .none, h⟩
theorem po_some (h : PE X e te) : PO X (some e) (tPart te) := by
  (first | refine ⟨?_⟩ | skip)
  intro pins s σ H Q I hw
  rw [evalPart_some]
  refine thn (h pins s σ H _ I hw) fun u s1 ⟨x, H1, I1, r1, q1⟩ => ?_
  obtain ⟨i, rfl, q⟩ := q1
  obtain ⟨t, rfl⟩ := r1
  exact ⟨some i, H1, I1, .int i t, q⟩
def SlR (X : Cx) (r : V → Option Int → Option Int → Hp → VK → Prop) : Prop :=
  ∀ (pins : List (Addr × Obj)) (s : Shared) (σ : St) (H : Hp) (x : V) (v vl vu : Value) (lo hi : Option Int) (sl : Addr) (Q : VK), Inv X pins σ H s → RelV x v → s.heap.IsSliceOf sl vl vu .none → IsPart vl lo → IsPart vu hi → r x lo hi H Q →
    ∃ T id, typeLookup (.type T) "__getitem__" = pure (some (.builtin id)) ∧ s.TypeIs v T ∧ wpAny (model X.prog X.w) X.A (getItem v (.ref sl)) (EP X pins σ Q) X.xe s
def tSl (r : V → Option Int → Option Int → Hp → VK → Prop) (te : TE) (tl th : TO) : TE := fun σ H Q => te σ H fun x H1 => tl σ H1 fun l H2 => th σ H2 fun u H3 => r x l u H3 Q
theorem pe_slice {r : V → Option Int → Option Int → Hp → VK → Prop} (hr : SlR X r) (he : PE X e te) (hl : PO X lo tl) (hu : PO X hi th) : PE X (.Subscript e (.Slice lo hi none p2) pos) (tSl r te tl th) := by
  (first | refine ⟨?_⟩ | skip)
  intro pins s σ H Q I h
  refine Subscript_ (thn (he pins s σ H _ I h) fun v s1 ⟨x, H1, I1, r1, q1⟩ => ?_)
  refine wpAny_Slice (thn (hl pins s1 σ H1 _ I1 q1) fun vl s2 ⟨l, H2, I2, pl, q2⟩ => thn (hu pins s2 σ H2 _ I2 q2) fun vu s3 ⟨u, H3, I3, pu, q3⟩ => ?_)
  rw [evalPart_none]
  refine wpAny_pure ?_
  have I4 : Inv X pins σ H3 { s3 with heap := s3.heap.push { cls := .type "slice", data := .fields #[vl, vu, .none] } } := I3.kept (t' := s3.toks) fun b ob q => Heap.get?_push_of_some _ q
  obtain ⟨T, id, hT, ht, hg⟩ := hr pins { s3 with heap := s3.heap.push { cls := .type "slice", data := .fields #[vl, vu, .none] } } σ H3 x v vl vu l u s3.heap.objs.size Q I4 r1 (Heap.IsSliceOf.new ..) pl pu q3
  show wpAny (model X.prog X.w) X.A (subscriptTail e (.Slice lo hi none p2) v (.ref s3.heap.objs.size)) (EP X pins σ Q) X.xe { s3 with heap := s3.heap.push { cls := .type "slice", data := .fields #[vl, vu, .none] } }
  exact tail_any (ops := [.ref s3.heap.objs.size, v]) ht hT hg (by with_unfolding_all rfl)
def cutV (xs : List V) (lo hi : Option Int) : List V := (xs.drop (HT.sIx xs.length 0 lo)).take (HT.sIx xs.length xs.length hi - HT.sIx xs.length 0 lo)
theorem cutV_length (xs : List V) (lo hi : Option Int) : (cutV xs lo hi).length ≤ xs.length := by
  unfold cutV
  rw [List.length_take, List.length_drop]
  omega
def rSlT (K : PySem.W.Frag) : V → Option Int → Option Int → Hp → VK → Prop := fun x lo hi H Q => ∃ a xs, x = .ref a ∧ SqT K H a xs ∧
  ¬ (HT.sIx xs.length 0 lo = 0 ∧ HT.sIx xs.length xs.length hi = xs.length) ∧ ∀ p, H p = none → Q (.ref p) (upd H p (.tup (cutV xs lo hi)))
theorem sl_tup : SlR X (rSlT X.K) := by
  (first | refine ⟨?_⟩ | skip)
  intro pins s σ H x v vl vu lo hi sl Q I rx hs pl pu h
  obtain ⟨a, xs, rfl, hx, hw, q⟩ := h
  cases rx
  obtain ⟨its, r, ht, hz⟩ := I.tuple hx
  have hlen : its.toArray.size = xs.length := by rw [List.size_toArray]; exact r.length.symm
  refine ⟨"tuple", _, PyProof.Rows.slot_tuple_getitem.lookup, ht.typeIs, ?_⟩
  refine HT.getItem_tuple_cut ht hs pl pu (by rw [hlen]; exact hw) ?_ (by rw [hlen]; exact hz)
  rw [hlen]
  refine ⟨.ref s.heap.objs.size, _, I.laid (t' := s.toks) (o := .tup (cutV xs lo hi)) (fun b ob q => Heap.get?_push_of_some _ q) (Nat.le_refl _) ?_, rfl, q _ (I.hok.fresh (Nat.le_refl _))⟩
  exact ⟨Nat.le_trans (cutV_length xs lo hi) hz, _, (r.drop (HT.sIx xs.length 0 lo)).take (HT.sIx xs.length xs.length hi - HT.sIx xs.length 0 lo), IsTupD.new _ _⟩
def rCatT (K : PySem.W.Frag) : R2 := fun x y H Q => ∃ a b xs ys, x = .ref a ∧ y = .ref b ∧ SqT K H a xs ∧ SqT K H b ys ∧ xs ≠ [] ∧ xs.length + ys.length ≤ sizeLine ∧
  (ys = [] → Q (.ref a) H) ∧ (ys ≠ [] → ∀ p, H p = none → Q (.ref p) (upd H p (.tup (xs ++ ys))))
theorem Vals.nil_iff {xs : List V} {us : List Value} (r : Vals xs us) : us = [] ↔ xs = [] := by
  cases r with
  | nil => simp
  | cons _ _ => simp
theorem op_catT : OpR X (binaryOp .Add) (rCatT X.K) := by
  (first | refine ⟨?_⟩ | skip)
  intro pins s σ H x y v u Q I rx ry h
  obtain ⟨a, b, xs, ys, rfl, rfl, ha, hb, hx, hz, q1, q2⟩ := h
  cases rx
  cases ry
  obtain ⟨its, r1, p1, _⟩ := I.tuple ha
  obtain ⟨its2, r2, p2, _⟩ := I.tuple hb
  refine HT.cat_tup p1 p2 (fun z => hx (r1.nil_iff.mp z)) (fun z => ⟨.ref a, H, I, rfl, q1 (r2.nil_iff.mp z)⟩) (fun z => ?_) (by rw [← r1.length, ← r2.length]; exact hz)
  refine ⟨.ref s.heap.objs.size, _, I.laid (t' := s.toks) (o := .tup (xs ++ ys)) (fun b ob q => Heap.get?_push_of_some _ q) (Nat.le_refl _) ?_, rfl, q2 (fun w => z (r2.nil_iff.mpr w)) _ (I.hok.fresh (Nat.le_refl _))⟩
  exact ⟨by rw [List.length_append]; exact hz, _, r1.append r2, IsTupD.new _ _⟩
end
end L2
namespace L2
open PySem PySem.Spec PyProof.Rows
def ixN (n : Nat) (i : Int) : Option Nat := if 0 ≤ i then (if i < n then some i.toNat else none) else if -(n : Int) ≤ i then some (i + n).toNat else none
def atI {α : Type} (xs : List α) (i : Int) : Option α := (ixN xs.length i).bind fun j => xs[j]?
theorem ixN_seq {n : Nat} {i : Int} {j : Nat} (h : ixN n i = some j) : seqIndex? i n = some j ∧ j < n ∧ -(n : Int) ≤ i ∧ i < n := by
  unfold ixN at h
  by_cases h0 : 0 ≤ i
  · rw [if_pos h0] at h
    by_cases h1 : i < n
    · rw [if_pos h1] at h
      have e : i.toNat = j := Option.some.inj h
      exact ⟨by rw [seqIndex_of h0 h1, e], by omega, by omega, h1⟩
    · rw [if_neg h1] at h; cases h
  · rw [if_neg h0] at h
    by_cases h1 : -(n : Int) ≤ i
    · rw [if_pos h1] at h
      have e : (i + n).toNat = j := Option.some.inj h
      exact ⟨by rw [seqIndex_neg (by omega) h1, e], by omega, h1, by omega⟩
    · rw [if_neg h1] at h; cases h
theorem atI_get {α : Type} {xs : List α} {i : Int} {v : α} (h : atI xs i = some v) : ∃ j, seqIndex? i xs.length = some j ∧ xs[j]? = some v ∧ j < xs.length ∧ -(xs.length : Int) ≤ i ∧ i < xs.length := by
  unfold atI at h
  cases e : ixN xs.length i with
  | none => rw [e] at h; cases h
  | some j =>
    rw [e] at h
    obtain ⟨h1, h2, h3, h4⟩ := ixN_seq e
    exact ⟨j, h1, h, h2, h3, h4⟩
theorem atI_nat {α : Type} {xs : List α} {j : Nat} {v : α} (h : xs[j]? = some v) : atI xs (j : Int) = some v := by
  have hj : j < xs.length := (List.getElem?_eq_some_iff.mp h).1
  have e : ixN xs.length (j : Int) = some j := by
    unfold ixN
    rw [if_pos (by omega), if_pos (by omega)]; simp
  unfold atI; rw [e]; exact h
def PlainIx (b : Expr) : Prop := ∀ o i, subscripted b false o i = operate [o, i] (getItem o i)
def IxR (X : Cx) (r : R2) : Prop :=
  ∀ (value slice : Expr) (pins : List (Addr × Obj)) (s : Shared) (σ : St) (H : Hp) (x y : V) (v u : Value) (Q : VK), Inv X pins σ H s → RelV x v → RelV y u → r x y H Q →
    subscripted slice false v u = operate [v, u] (getItem v u) → wpAny (model X.prog X.w) X.A (subscriptTail value slice v u) (EP X pins σ Q) X.xe s
def MtR (X : Cx) (id : String) (r : V → List V → Hp → VK → Prop) : Prop :=
  ∀ (pins : List (Addr × Obj)) (s : Shared) (σ : St) (H : Hp) (x : V) (xs : List V) (v : Value) (us : List Value) (Q : VK), Inv X pins σ H s → RelV x v → Vals xs us → r x xs H Q →
    wpAny (model X.prog X.w) X.A (call (.builtin id) (v :: us)) (EP X pins σ Q) X.xe s
section
variable {X : Cx} {a b : Expr} {ta tb : TE} {pos : Pos}
theorem pe_ix {r : R2} (hr : IxR X r) (ha : PE X a ta) (hb : PE X b tb) (hs : PlainIx b) : PE X (.Subscript a b pos) (tOp r ta tb) := by
  (first | refine ⟨?_⟩ | skip)
  intro pins s σ H Q I h
  exact Subscript_ (binT ha hb I h fun v u s2 x y H2 I2 rx ry q => hr a b pins s2 σ H2 x y v u Q I2 rx ry q (hs _ _))
def rIxL (K : PySem.W.Frag) : R2 := fun x y H Q => ∃ p xs i v, x = .ref p ∧ y = .int i ∧ SqL K H p xs ∧ atI xs i = some v ∧ Q v H
def rIxT (K : PySem.W.Frag) : R2 := fun x y H Q => ∃ p xs i v, x = .ref p ∧ y = .int i ∧ SqT K H p xs ∧ atI xs i = some v ∧ Q v H
def rIxS : R2 := fun x y H Q => ∃ z i c, x = .str z ∧ y = .int i ∧ z.length ≤ sizeLine ∧ atI z.cps.toList i = some c ∧ Q (.str ⟨#[c]⟩) H
theorem ix_list : IxR X (rIxL X.K) := by
  intro value slice pins s σ H x y v u Q I rx ry h hs
  obtain ⟨p, xs, i, z, rfl, rfl, hq, he, q⟩ := h
  cases rx
  obtain ⟨t, rfl⟩ := ry
  obtain ⟨its, r, pl, hz⟩ := I.list hq
  obtain ⟨j, h1, h2, h3, h4, h5⟩ := atI_get he
  obtain ⟨w, ew, rw'⟩ := r.get h2
  have hl := r.length
  have hn := line63
  have fin : EP X pins σ Q w s := ⟨z, H, I, rw', q⟩
  by_cases h0 : 0 ≤ i
  · have hj : i.toNat = j := by
      rw [seqIndex_of h0 h5] at h1
      exact Option.some.inj h1
    exact item_listR pl.isList h0 (by omega) (by rw [hj]; simpa using ew) fin hs
  · have hj : (i + (its.toArray.size : Int)).toNat = j := by
      rw [seqIndex_neg (by omega) h4] at h1
      rw [List.size_toArray, ← hl]
      exact Option.some.inj h1
    exact subscriptTail_builtinR (x := w) pl.isList.typeIs slot_list_getitem.lookup
      (wpAny_getItem_list_neg (Q := fun r s' => r = w ∧ EP X pins σ Q r s') pl.isList (by omega) (by rw [List.size_toArray] <;> omega) (by omega) (by rw [hj]; simpa using ew) ⟨rfl, fin⟩) hs
theorem ix_tup : IxR X (rIxT X.K) := by
  intro value slice pins s σ H x y v u Q I rx ry h hs
  obtain ⟨p, xs, i, z, rfl, rfl, hq, he, q⟩ := h
  cases rx
  obtain ⟨t, rfl⟩ := ry
  obtain ⟨its, r, pl, hz⟩ := I.tuple hq
  obtain ⟨j, h1, h2, h3, h4, h5⟩ := atI_get he
  obtain ⟨w, ew, rw'⟩ := r.get h2
  have hl := r.length
  have hn := line63
  have fin : EP X pins σ Q w s := ⟨z, H, I, rw', q⟩
  exact subscriptTail_builtinR (x := w) pl.typeIs slot_tuple_getitem.lookup
    (getItem_tuple (j := j) (Q := fun r s' => r = w ∧ EP X pins σ Q r s') pl (by omega) (by omega) (by rw [List.size_toArray, ← hl]; exact h1) (by simpa using ew) ⟨rfl, fin⟩) hs
theorem ix_str : IxR X rIxS := by
  intro value slice pins s σ H x y v u Q I rx ry h hs
  obtain ⟨z, i, c, rfl, rfl, hz, he, q⟩ := h
  obtain ⟨t, rfl⟩ := rx
  obtain ⟨t', rfl⟩ := ry
  obtain ⟨j, h1, h2, h3, h4, h5⟩ := atI_get he
  have hl : z.cps.toList.length = z.length := by simp [Str.length]
  rw [hl] at h1 h4 h5
  have hn := line63
  exact tail_any (typeIs_str s z t) slot_str_getitem.lookup (getItem_str (c := c) (by
    have e1 : decide (i < -(2 ^ 63 : Int)) = false := decide_eq_false (by omega)
    have e2 : decide (i ≥ 2 ^ 63) = false := decide_eq_false (by omega)
    rw [e1, e2, Bool.or_false]) (by rw [h1]; simpa using h2) ⟨.str ⟨#[c]⟩, H, I.tok _, ⟨_, rfl⟩, q⟩) hs
theorem mapSeq_set (its : List Value) (n j : Nat) (u : Value) : Obj.mapSeq (·.setIfInBounds j u) { cls := .type "list", data := .seq its.toArray n } = { cls := .type "list", data := .seq (its.set j u).toArray n } := by
  simp [Obj.mapSeq]
theorem Inv.lst {pins : List (Addr × Obj)} {σ : St} {H : Hp} {s : Shared} {p : Addr} {xs : List V} (I : Inv X pins σ H s) (h : H p = some (.lst xs)) :
    ∃ (its : List Value) (n : Nat), Vals xs its ∧ s.heap.get? p = some { cls := .type "list", data := .seq its.toArray n } ∧ xs.length ≤ sizeLine := by
  obtain ⟨z, its, n, r, e⟩ := I.hok p _ h
  exact ⟨its, n, r, e, z⟩
theorem Inv.lstUpd {pins : List (Addr × Obj)} {σ : St} {H : Hp} {s : Shared} {p : Addr} {xs ys : List V} {its its' : List Value} {n n' : Nat} {f : Obj → Obj} (I : Inv X pins σ H s) (h : H p = some (.lst xs))
    (ho : s.heap.get? p = some { cls := .type "list", data := .seq its.toArray n }) (hf : f { cls := .type "list", data := .seq its.toArray n } = { cls := .type "list", data := .seq its'.toArray n' }) (r : Vals ys its') (hz : ys.length ≤ sizeLine) (t : Nat) :
    Inv X pins σ (upd H p (.lst ys)) { s with heap := s.heap.update p f, toks := t } := by
  have e : (s.heap.update p f).get? p = some { cls := .type "list", data := .seq its'.toArray n' } := by
    rw [Heap.get?_update_self f ho (by rw [hf] <;> rfl), hf]
  refine I.write (x := p) (e := p) (by rw [h]; trivial) (.inl rfl) (fun b u hb q => (Heap.get?_update_other _ _ (Ne.symm hb)).trans q) ⟨_, e⟩ ?_
  exact ⟨hz, its', n', r, e⟩
def rSetL : V → V → V → Hp → (Hp → Prop) → Prop := fun o i v H Q => ∃ p xs k j, o = .ref p ∧ i = .int k ∧ H p = some (.lst xs) ∧ ixN xs.length k = some j ∧ Q (upd H p (.lst (xs.set j v)))
theorem set_list : PSet X rSetL := by
  (first | refine ⟨?_⟩ | skip)
  intro pins s σ H o i v ov iv u Q I ro ri rv h
  obtain ⟨p, xs, k, j, rfl, rfl, hp, hj, q⟩ := h
  cases ro
  obtain ⟨t, rfl⟩ := ri
  obtain ⟨its, n, r, ho, hz⟩ := I.lst hp
  obtain ⟨h1, h2, h3, h4⟩ := ixN_seq hj
  have hl := r.length
  have hn := line63
  have I' : Inv X pins σ (upd H p (.lst (xs.set j v))) { s with heap := s.heap.update p (Obj.mapSeq (·.setIfInBounds j u)) } :=
    I.lstUpd hp ho (mapSeq_set its n j u) (r.set rv j) (by rw [List.length_set]; exact hz) s.toks
  by_cases h0 : 0 ≤ k
  · have hk : k.toNat = j := by
      rw [seqIndex_of h0 h4] at h1
      exact Option.some.inj h1
    exact PySem.W.ki_setAt ho h0 (by omega) (by rw [List.size_toArray, ← hl]; exact h4) (by rw [hk]; exact ⟨_, I', q⟩)
  · have hk : (k + (its.toArray.size : Int)).toNat = j := by
      rw [seqIndex_neg (by omega) h3] at h1
      rw [List.size_toArray, ← hl]
      exact Option.some.inj h1
    exact PySem.W.ki_setBack ho (by omega) (by rw [List.size_toArray, ← hl]; exact h3) (by omega) (by rw [hk]; exact ⟨_, I', q⟩)
theorem slice_bounds (lo hi : Option Int) (n : Nat) : (sliceBounds lo hi none n).1 = ((HT.sIx n 0 lo : Nat) : Int) ∧ (sliceBounds lo hi none n).2.1 = ((HT.sIx n n hi : Nat) : Int) ∧ (sliceBounds lo hi none n).2.2 = 1 := by
  refine ⟨?_, ?_, rfl⟩
  · cases lo with
    | none => simp [sliceBounds, HT.sIx]
    | some i =>
      simp only [sliceBounds, HT.sIx, Option.getD_none, show (1 : Int) > 0 by decide, if_true]
      by_cases h : i < 0
      · simp only [h, if_true] <;> omega
      · simp only [h, if_false] <;> omega
  · cases hi with
    | none => simp [sliceBounds, HT.sIx]
    | some i =>
      simp only [sliceBounds, HT.sIx, Option.getD_none, show (1 : Int) > 0 by decide, if_true]
      by_cases h : i < 0
      · simp only [h, if_true] <;> omega
      · simp only [h, if_false] <;> omega
theorem slicePick_cut (its : List Value) (lo hi : Option Int) : slicePick its.toArray lo hi none = ((its.drop (HT.sIx its.length 0 lo)).take (HT.sIx its.length its.length hi - HT.sIx its.length 0 lo)).toArray := by
  obtain ⟨h1, h2, h3⟩ := slice_bounds lo hi its.toArray.size
  unfold slicePick
  rw [h1, h2, h3]
  simp only [sliceRange_one, pick_run, List.size_toArray] <;> rfl
def rSlL (K : PySem.W.Frag) : V → Option Int → Option Int → Hp → VK → Prop := fun x lo hi H Q => ∃ a xs, x = .ref a ∧ SqL K H a xs ∧ ∀ p, H p = none → Q (.ref p) (upd H p (.lst (cutV xs lo hi)))
theorem sl_list : SlR X (rSlL X.K) := by
  (first | refine ⟨?_⟩ | skip)
  intro pins s σ H x v vl vu lo hi sl Q I rx hs pl pu h
  obtain ⟨a, xs, rfl, hx, q⟩ := h
  cases rx
  obtain ⟨its, r, ht, hz⟩ := I.list hx
  have hlen := r.length
  refine ⟨"list", _, slot_list_getitem.lookup, ht.isList.typeIs, ?_⟩
  refine wpAny_getItem_list_slice ht.isList hs pl pu .none (by simp) ?_ (by rw [List.size_toArray] <;> omega)
  rw [slicePick_cut, ← hlen]
  refine ⟨.ref s.heap.objs.size, _, I.laid (t' := s.toks) (o := .lst (cutV xs lo hi)) (fun b ob q => Heap.get?_push_of_some _ q) (Nat.le_refl _) ?_, rfl, q _ (I.hok.fresh (Nat.le_refl _))⟩
  exact ⟨Nat.le_trans (cutV_length xs lo hi) hz, _, 0, (r.drop (HT.sIx xs.length 0 lo)).take (HT.sIx xs.length xs.length hi - HT.sIx xs.length 0 lo), Heap.get?_push_size _ rfl⟩
theorem call_tuple_of : CallR X (.type "tuple") (fun xs H Q => ∃ p ys, xs = [.ref p] ∧ ((SqL X.K H p ys ∧ ∀ l, H l = none → Q (.ref l) (upd H l (.tup ys))) ∨ (SqT X.K H p ys ∧ Q (.ref p) H))) := by
  (first | refine ⟨?_⟩ | skip)
  intro pins s σ H xs us Q I r h
  obtain ⟨p, ys, rfl, h⟩ := h
  obtain ⟨u, rfl, rx⟩ := vals1 r
  cases rx
  rcases h with ⟨hq, q⟩ | ⟨hq, q⟩
  · obtain ⟨its, r', pl, hz⟩ := I.list hq
    have hlen := r'.length
    refine call_tuple_list pl.isList (fun h' kp => ?_) (by simp only [List.size_toArray] <;> omega)
    have I1 : Inv X pins σ H { s with heap := h' } := I.kept (t' := s.toks) kp
    have I2 : Inv X pins σ (upd H h'.objs.size (.tup ys)) { s with heap := h'.push { cls := .type "tuple", data := .seq its.toArray } } :=
      I1.laid (t' := s.toks) (fun b o e => Heap.get?_push_of_some _ e) (Nat.le_refl _) (show ObjOk X.prog X.w _ _ _ (.tup ys) from ⟨hz, its, r', IsTupD.new _ _⟩)
    exact ⟨.ref h'.objs.size, _, I2, rfl, q _ (I1.hok.fresh (Nat.le_refl _))⟩
  · obtain ⟨its, r', pl, hz⟩ := I.tuple hq
    exact call_tuple_same pl ⟨.ref p, H, I, rfl, q⟩
def tyV (K : PySem.W.Frag) (T : String) (x : V) (H : Hp) : Prop := match x with
  | .str _ => T = "str"
  | .int _ => T = "int"
  | .ref p => (T = "list" ∧ ∃ xs, SqL K H p xs) ∨ (T = "tuple" ∧ ∃ o, K.lookup p = some o ∧ o.cls = .type "tuple" ∧ o.dict = none) ∨
      (T = "dict" ∧ ((∃ kvs, H p = some (.dK kvs)) ∨ ∃ kvs, H p = some (.dT kvs))) ∨ (T = "set" ∧ ∃ S n, H p = some (.set S n))
  | _ => False
theorem tyV_is {pins : List (Addr × Obj)} {σ : St} {H : Hp} {s : Shared} {T : String} {x : V} {v : Value} (I : Inv X pins σ H s) (r : RelV x v) (ty : tyV X.K T x H) :
    s.TypeIs v T ∧ ∀ a, v = .ref a → ∃ ob, s.heap.get? a = some ob ∧ ob.dict = none := by
  cases x with
  | str z =>
    obtain ⟨t, rfl⟩ := r
    cases (show T = "str" from ty)
    exact ⟨typeIs_str s z t, fun _ e => nomatch e⟩
  | int i =>
    obtain ⟨t, rfl⟩ := r
    cases (show T = "int" from ty)
    exact ⟨typeIs_int s i t, fun _ e => nomatch e⟩
  | ref p =>
    cases r
    rcases ty with ⟨rfl, xs, hq⟩ | ⟨rfl, o, hk, hc, hd⟩ | ⟨rfl, hk⟩ | ⟨rfl, S, n, hk⟩
    · obtain ⟨its, _, pl, _⟩ := I.list hq
      refine ⟨pl.isList.typeIs, fun a e => ?_⟩
      cases e
      obtain ⟨o, n, e, c, hd, _⟩ := pl
      exact ⟨o, e, hd⟩
    · refine ⟨⟨o, I.kIn p o hk, hc⟩, fun a e => ?_⟩
      cases e
      exact ⟨o, I.kIn _ o hk, hd⟩
    · have z : ∃ o, s.heap.get? p = some o ∧ o.ExactDict := by
        rcases hk with ⟨kvs, hk⟩ | ⟨kvs, hk⟩
        · obtain ⟨_, _, _, _, o, _, _, e, ex, _⟩ := I.hok p _ hk
          exact ⟨o, e, ex⟩
        · obtain ⟨_, _, _, _, o, _, _, e, ex, _⟩ := I.hok p _ hk
          exact ⟨o, e, ex⟩
      obtain ⟨o, e, ex⟩ := z
      refine ⟨⟨o, e, ex.1⟩, fun a e2 => ?_⟩
      cases e2
      exact ⟨o, e, ex.2.1⟩
    · obtain ⟨o, _, _, _, e, ex, _⟩ := I.hok p _ hk
      refine ⟨⟨o, e, ex.1⟩, fun a e2 => ?_⟩
      cases e2
      exact ⟨o, e, ex.2.1⟩
  | _ => exact False.elim ty
def tBM (K : PySem.W.Frag) (T : String) (r : V → List V → Hp → VK → Prop) (to : TE) (t : TA) : TE := fun σ H Q => to σ H fun x H1 => tyV K T x H1 ∧ t σ H1 fun xs H2 => r x xs H2 Q
variable {o e : Expr} {es : List Expr} {to : TE} {t : TA} {name : Str} {apos cpos : Pos} {T id : String} {r : V → List V → Hp → VK → Prop}
theorem pe_bm (pa : PlainAttrs T) (slot : Slot T name id) (hty : typeOf (.builtin id) = pure (.type "method_descriptor")) (hm : MtR X id r) (ho : PE X o to) (ha : PA X (e :: es) t)
    (hbase : attributeBase o name X.env (eval o X.env) = eval o X.env := by rfl)
    (hfew : ((backTo cpos (starEach (e :: es) X.env)).all (fun x => !x.1) && (backToKw cpos (keywordEach [] X.env)).all (fun x => x.1.isSome)
      && decide ((e :: es).length + ([] : List Keyword).length + (if ([] : List Keyword).isEmpty then 0 else 1) < 30)) = true := by rfl)
    (hline : (apos.endLine == cpos.line) = true := by rfl) (hs : starEach (e :: es) X.env = (false, eval e X.env) :: starEach es X.env := by rfl) (hplain : (backTo cpos (starEach es X.env)).any (·.1) = false := by rfl) :
    PE X (.Call (.Attribute o name apos) (e :: es) [] cpos) (tBM X.K T r to t) := by
  (first | refine ⟨?_⟩ | skip)
  intro pins s σ H Q I h
  refine wpAny_Call_method_late hbase hfew hline rfl (thn (ho pins s σ H _ I h) fun v s1 ⟨x, H1, I1, r1, ty, q1⟩ => ?_)
  obtain ⟨h1, h2⟩ := tyV_is I1 r1 ty
  refine ⟨T, id, pa, slot, hty, h1, h2, ?_⟩
  have hA := ha cpos pins s1 σ H1 _ I1 q1
  rw [hs] at hA ⊢
  refine Calls.callWith_builtin (by show (false || (backTo cpos (starEach es X.env)).any (·.1)) = false; rw [hplain] <;> rfl) (Calls.evalArgs_plain ?_)
  exact thn hA fun us s2 ⟨vs, H2, I2, r2, q2⟩ => hm pins s2 σ H2 x vs v us Q I2 r1 r2 q2
end
end L2
namespace L2
open PySem PySem.Spec PyProof.Rows
def MtM (X : Cx) (id : String) (r : V → List V → Hp → VK → Prop) : Prop :=
  ∀ (pins : List (Addr × Obj)) (s : Shared) (σ : St) (H : Hp) (x : V) (xs : List V) (v : Value) (us : List Value) (Q : VK), Inv X pins σ H s → RelV x v → Vals xs us → r x xs H Q →
    wpAny (model X.prog X.w) X.A (call (.builtin id) (v :: us)) (EP X pins σ Q) X.xe s
theorem Vals.one : ∀ {x : V} {us : List Value}, Vals [x] us → ∃ u, us = [u] ∧ RelV x u
  | _, _, .cons r .nil => ⟨_, rfl, r⟩
section
variable {X : Cx} {pins : List (Addr × Obj)} {σ : St} {H : Hp} {s : Shared} {l b : Addr} {xs ys zs : List V}
theorem Inv.lset {its its' : List Value} {n : Nat} {f : Array Value → Array Value} {t' : Nat} (I : Inv X pins σ H s) (hH : H l = some (.lst xs))
    (e : s.heap.get? l = some { cls := .type "list", data := .seq its.toArray n }) (hf : f its.toArray = its'.toArray) (hv : Vals ys its') (hz : ys.length ≤ sizeLine) :
    Inv X pins σ (upd H l (.lst ys)) { s with heap := s.heap.update l (Obj.mapSeq f), toks := t' } := by
  have q := PySem.IsL.update e f
  rw [hf] at q
  refine I.write (x := l) (e := l) (by rw [hH]; exact trivial) (.inl rfl) (fun b' u hb hu => (Heap.get?_update_other s.heap (Obj.mapSeq f) (Ne.symm hb)).trans hu) ⟨_, q⟩ ?_
  exact ⟨hz, its', _, hv, q⟩
theorem Inv.lnew {its : List Value} {t' : Nat} (I : Inv X pins σ H s) (hv : Vals ys its) (hz : ys.length ≤ sizeLine) :
    Inv X pins σ (upd H s.heap.objs.size (.lst ys)) { s with heap := s.heap.push { cls := .type "list", data := .seq its.toArray }, toks := t' } :=
  I.laid (fun _ _ q => Heap.get?_push_of_some _ q) (Nat.le_refl _) ⟨hz, its, 0, hv, Heap.get?_push_size _ rfl⟩
theorem Inv.fresh (I : Inv X pins σ H s) : H s.heap.objs.size = none := I.hok.fresh (Nat.le_refl _)
theorem Inv.lstM (I : Inv X pins σ H s) (hH : H l = some (.lst xs)) : xs.length ≤ sizeLine ∧ ∃ (its : List Value) (n : Nat), Vals xs its ∧ xs.length = its.length ∧ s.heap.get? l = some { cls := .type "list", data := .seq its.toArray n } := by
  obtain ⟨z, its, n, r, e⟩ := I.hok l _ hH
  exact ⟨z, its, n, r, r.length, e⟩
end
section
variable {X : Cx}
def rAppend : V → List V → Hp → VK → Prop := fun x vs H Q => ∃ l xs y, x = .ref l ∧ vs = [y] ∧ H l = some (.lst xs) ∧ xs.length < sizeLine ∧ Q .non (upd H l (.lst (xs ++ [y])))
theorem mt_append : MtM X "list.append" rAppend := by
  (first | refine ⟨?_⟩ | skip)
  intro pins s σ H x vs v us Q I rx rv h
  obtain ⟨l, xs, y, rfl, rfl, hH, hz, q⟩ := h
  cases rx
  obtain ⟨u, rfl, ru⟩ := rv.one
  obtain ⟨z, its, n, r, hl, e⟩ := I.lstM hH
  refine call_meets F.slot_list_append ⟨_, e, rfl⟩ F.entry_list_append (F.args_list_append_2 _ _) (PySem.list_append l its.toArray n u (by rw [List.size_toArray]; omega)) ⟨e, ?_⟩
  refine ⟨.non, _, I.lset (its' := its ++ [u]) hH e (by simp) (r.append (.cons ru .nil)) ?_, rfl, q⟩
  rw [List.length_append, List.length_singleton]
  omega
end
section
variable {prog : Program} {w : World} {A : Around} {E : Value → Shared → Prop} {s : Shared}
end
section
variable {X : Cx}
end
end L2
namespace Att
open PySem PySem.W PySem.Calls PyProof.Rows
theorem ints_of_wellAll {P : Params} {h : Heap} : ∀ (ns : List Int) (vs : List Value), WellAll P h vs (ns.map WData.int) → IntsAre vs ns := by
  intro ns
  induction ns with
  | nil =>
    intro vs w
    rw [List.map_nil] at w
    cases w
    exact .nil
  | cons n ns ih =>
    intro vs w
    rw [List.map_cons] at w
    cases w with
    | cons a b =>
      cases a
      exact .cons _ _ (ih _ b)
theorem script_of {l : OpenLaw} {n : Nat} (hn : l.most = some n) {P : Params} {h : Heap} {args : List WData} {vals : List Value}
    (hpre : l.row.toRowW.claim.pre args = true) (hwl : WellAll P h vals args) :
    ∃ a vs ns, vals = [Value.ref a] ∧ args = [WData.list (ns.map WData.int)] ∧ h.get? a = some { cls := .type "list", data := .seq vs.toArray } ∧ IntsAre vs ns ∧ ns.length ≤ n := by
  have hsh : WShape.hasAll [] args [.list .int] = true := (pre_splitW hpre).1
  have hc : l.pre.holds [] { args := args } = true := (pre_splitW hpre).2
  obtain ⟨d, r, rfl, h1, h2⟩ := hasAllW_cons hsh
  obtain rfl := hasAllW_nil h2
  obtain ⟨xs, rfl, h3⟩ := hasW_list h1
  obtain ⟨ns, rfl⟩ := items_int h3
  have hlen : ns.length ≤ n := by
    unfold OpenLaw.pre at hc
    have h4 : (WTm.not (.lt (.lit (.int (n : Int))) (.len (.arg 0)))).holds [] { args := [.list (ns.map .int)] } = true := by
      have h4 := (holds_andW hc).1
      rw [hn] at h4
      exact h4
    have h5 := condW_of h4 (w_not (w_lt w_lit (w_len_list (w_arg rfl))))
    rw [List.length_map] at h5
    refine Nat.le_of_not_lt fun q => ?_
    have q' : (n : Int) < ((ns.length : Nat) : Int) := by omega
    first
      | (rw [decide_eq_true q'] at h5; exact absurd h5 (by decide))
      | (simp at h5; omega)
  cases hwl with
  | cons w1 w2 =>
    cases w2
    cases w1 with
    | list ho hall => exact ⟨_, _, ns, rfl, rfl, ho, ints_of_wellAll ns _ hall, hlen⟩
theorem post_true (l : OpenLaw) (args : List WData) : l.row.toRowW.claim.post args (.bool true) args = true :=
  postW_of (r := l.row.toRowW) (X := (true == true))
    (show WShape.has [] (.bool true) .bool = true by first | rfl | decide | simp [WShape.has, WShape.arms, WShape.armsAll])
    (show (WTm.eq .res (.lit (.bool true))).value [] { args := args, res := some (.bool true), after := args } = some (.bool (true == true)) from w_eq_bool (w_res rfl) w_lit) rfl
theorem attach_call {l : OpenLaw} {n : Nat} {q : Program} {loose : List Str} {XP : (Str → Option Value) → Heap → Prop} {YP : World → Heap → Prop} {d : DefRec}
    (hn : l.most = some n) (hdf : d.params.defaults = [])
    (call : ∀ (w : World) (s₀ s₁ : Shared) (mg mb : Str → Option Value) (fa : Addr) (o : Obj) (pm cd doc : Value) (a : Addr) (vs : List Value) (ns : List Int),
      Ground q loose [] XP w s₀ mg mb s₁.heap → YP w s₁.heap →
      s₁.heap.get? fa = some o → o.data = .func (docDef d.name d.params d.body d.scope pm cd doc) → s₁.heap.CodeRec cd d.name → mg d.name = some (.ref fa) →
      s₁.heap.get? a = some { cls := .type "list", data := .seq vs.toArray } → IntsAre vs ns → ns.length ≤ n → s₁.gens = #[] →
      codeAny (model l.prog w) callerA (.call (.ref fa) ⟨[.ref a], []⟩) (fun r s' => r = .ok (.ret (.bool true)) ∧ OldK s₁.heap s'.heap ∧ s'.os = s₁.os ∧ AllBare s'.gens) s₁) :
    WalkO q loose XP YP l.row.toRowW d [] (fun f vs => PySem.call f vs) := by
  intro w s₀ s₁ mg mb G Y fa o pm cd doc dV kV ho hd hcd hD hmg hg args vals as hpre hlay hrd hwl hlo
  obtain rfl : dV = .none := Dflts.none hD hdf
  obtain rfl : kV = .none := Dflts.noKw hD
  obtain ⟨a, vs, ns, rfl, rfl, hobj, hints, hlen⟩ := script_of hn hpre hwl
  refine enter_call (codeAny_mono (call w s₀ s₁ mg mb fa o pm cd doc a vs ns G Y ho (fd_plain hd) hcd hmg hobj hints hlen hg) fun r s' hq => ?_)
  obtain ⟨rfl, h2, h3, h4⟩ := hq
  exact ⟨.inl ⟨.bool true, .bool true, [], rfl, fun _ => rfl, .bool true, post_true l _, fun _ => ⟨List.Pairwise.nil, fun _ hm => (nomatch hm)⟩⟩, h2, h3, h4⟩
section
variable {prog : Program} {w : World} {A : Around} {E : Value → Shared → Prop} {s : Shared} {K : Frag}
end
end Att
namespace L2
open PySem PySem.Spec PyProof.Rows
theorem vals_ints : ∀ {vs : List Value} {ns : List Int}, IntsAre vs ns → Vals (ns.map V.int) vs
  | _, _, .nil => .nil
  | _, _, .cons n t h => .cons ⟨t, rfl⟩ (vals_ints h)
end L2
namespace L2
open PySem PySem.Spec PyProof.Rows
end L2
namespace L2
open PySem PySem.Spec PyProof.Rows
def defArgs (s : Stmt) : Arguments := match s with
  | .FunctionDef _ a _ _ _ _ _ _ _ _ => a
  | _ => { posonlyargs := [], args := [], vararg := none, kwonlyargs := [], kw_defaults := [], kwarg := none, defaults := [] }
def defBody (s : Stmt) : List Stmt := match s with
  | .FunctionDef _ _ b _ _ _ _ _ _ _ => b
  | _ => []
def defScope (s : Stmt) : Scope := match s with
  | .FunctionDef _ _ _ _ _ _ sc _ _ _ => sc
  | _ => { kind := .function, names := [], isGenerator := false, isCoroutine := false }
abbrev CX0 : CXT := fun _ _ _ _ _ _ => False
abbrev E0 : XK := fun _ _ _ => False
theorem pass0 {X : Cx} : Passes CX0 X E0 := fun _ _ _ _ _ _ _ h => h.elim
structure Fun (K : PySem.W.Frag) (x qual : Str) (st : Stmt) (f : Addr) (fd : FuncData) : Prop where
  ex : ∃ (oc : Value) (od : Option Addr) (kV doc pm : Value) (an : Option Addr) (cdv ct : Value) (osl : Array (Option Value)),
    fd = PySem.W.fnOf x qual (defArgs st) (defBody st) (defScope st) .none kV doc pm an cdv ct ∧ K.lookup f = some ⟨oc, od, .func fd, osl⟩ ∧ PySem.W.codeIn K cdv qual = true
  kp : PySem.W.keepIn K (.ref f) = true
section
variable {P : Program} {w : World} {K : PySem.W.Frag} {mg : Str → Option Value} {base : Heap}
theorem Fun.ok {x qual : Str} {st : Stmt} {f : Addr} {fd : FuncData} {N ps : List Str} {k : Nat} {sp : Sp} (F : Fun K x qual st f fd) (S : FnScope N ps (defScope st)) (len : ∀ vs H Q E, sp vs H Q E → vs.length = ps.length)
    (hbody : ∀ (cdv : Value) (A : Around) (outer : List Env) (s : Shared) (H : Hp) (vs : List V) (Q : VK) (E : XK), Room k (A.deeper (envOfC qual (defScope st) s.heap.objs.size f cdv)) → sp vs H Q E →
      ∃ t, PSs (cxOf CX0 P w K mg base N qual (defScope st) f cdv A outer s H E).nox (defBody st) t ∧ t { nx := fun _ H' => Q .non H', rt := Q } (start N vs) H) : FnOk P w K mg base CX0 (k + 1) f fd ps sp := by
  obtain ⟨oc, od, kV, doc, pm, an, cdv, ct, osl, rfl, lk, hcd⟩ := F.ex
  refine fn_of lk hcd S len fun A outer s H vs Q E hr hsp => ?_
  obtain ⟨t, h, q⟩ := hbody cdv A outer s H vs Q E hr hsp
  exact ⟨t, h.nox, q⟩
theorem Fun.binds {x qual : Str} {st : Stmt} {f : Addr} {fd : FuncData} {ps : List Str} (F : Fun K x qual st f fd)
    (h : ∀ (kV doc pm : Value) (an : Option Addr) (cdv ct : Value) (us : List Value), us.length = ps.length → bindArgs (PySem.W.fnOf x qual (defArgs st) (defBody st) (defScope st) .none kV doc pm an cdv ct) ⟨us, []⟩ = pure (ps.zip us)) : Binds K fd ps [] := by
  obtain ⟨oc, od, kV, doc, pm, an, cdv, ct, osl, rfl, lk, hcd⟩ := F.ex
  exact .all (h kV doc pm an cdv ct)
theorem fun_mk {x qual : Str} {st : Stmt} {f : Addr} {oc : Value} {od an : Option Addr} {osl : Array (Option Value)} {kV doc pm cdv ct : Value} (l : K.lookup f = some ⟨oc, od, .func (PySem.W.fnOf x qual (defArgs st) (defBody st) (defScope st) .none kV doc pm an cdv ct), osl⟩)
    (c : PySem.W.codeIn K cdv qual = true) (k : PySem.W.keepIn K (.ref f) = true) : Fun K x qual st f (PySem.W.fnOf x qual (defArgs st) (defBody st) (defScope st) .none kV doc pm an cdv ct) := ⟨⟨oc, od, kV, doc, pm, an, cdv, ct, osl, rfl, l, c⟩, k⟩
end
section
variable {X : Cx}
end
theorem ite2 {c A B : Prop} [Decidable c] (h1 : c → A) (h2 : ¬ c → B) : if c then A else B := by
  by_cases h : c
  · rw [if_pos h]
    exact h1 h
  · rw [if_neg h]
    exact h2 h
end L2
set_option Elab.async false
set_option linter.all false
set_option maxRecDepth 100000
namespace L2
open PySem PySem.Spec PyProof.Rows
section
variable {κ : Type} [DecidableEq κ]
def valV (kvs : List (κ × V)) (k : κ) : Option V := (kvs.find? fun kv => decide (kv.1 = k)).map (·.2)
def putK (kvs : List (κ × V)) (k : κ) (v : V) : List (κ × V) :=
  if (kvs.any fun kv => decide (kv.1 = k)) = true then kvs.map (fun kv => if kv.1 = k then (kv.1, v) else kv) else kvs ++ [(k, v)]
theorem valV_pos {p : κ × V} {r : List (κ × V)} {k : κ} (e : p.1 = k) : valV (p :: r) k = some p.2 := by simp [valV, List.find?_cons, e]
theorem valV_neg {p : κ × V} {r : List (κ × V)} {k : κ} (e : ¬ p.1 = k) : valV (p :: r) k = valV r k := by simp [valV, List.find?_cons, e]
theorem valV_any (k : κ) : ∀ kvs : List (κ × V), (kvs.any fun kv => decide (kv.1 = k)) = (valV kvs k).isSome
  | [] => rfl
  | p :: r => by
    rw [List.any_cons]
    by_cases e : p.1 = k
    · simp only [valV_pos e, decide_eq_true e, Bool.true_or, Option.isSome_some]
    · rw [valV_neg e, decide_eq_false e, Bool.false_or]; exact valV_any k r
theorem length_putK (kvs : List (κ × V)) (k : κ) (v : V) : (putK kvs k v).length ≤ kvs.length + 1 := by
  unfold putK
  split
  · rw [List.length_map]; omega
  · rw [List.length_append, List.length_cons, List.length_nil]; omega
theorem RelO.isSome_eq {o : Option V} {u : Option Value} (r : RelO o u) : o.isSome = u.isSome := by
  cases o with
  | none => cases u with
    | none => rfl
    | some _ => exact (show False from r).elim
  | some _ => cases u with
    | none => exact (show False from r).elim
    | some _ => rfl
theorem KV.val {kvs : List (κ × V)} {vs : List (κ × Value)} (r : KV kvs vs) (k : κ) : RelO (valV kvs k) (valueAt vs k) := by
  unfold KV at r
  induction r with
  | nil => exact True.intro
  | @cons p q ps qs h t ih =>
    obtain ⟨h1, h2⟩ := h
    by_cases e : p.1 = k
    · have e' : q.1 = k := h1.symm.trans e
      have b : valueAt (q :: qs) k = some q.2 := by simp [valueAt, List.find?_cons, e']
      rw [valV_pos e, b]; exact h2
    · have e' : ¬ q.1 = k := fun z => e (h1.trans z)
      have b : valueAt (q :: qs) k = valueAt qs k := by simp [valueAt, List.find?_cons, e']
      rw [valV_neg e, b]; exact ih
theorem KV.any {kvs : List (κ × V)} {vs : List (κ × Value)} (r : KV kvs vs) (k : κ) : (kvs.any fun kv => decide (kv.1 = k)) = vs.any fun kv => decide (kv.1 = k) := by
  unfold KV at r
  induction r with
  | nil => rfl
  | cons h t ih => rw [List.any_cons, List.any_cons, ih, h.1]
theorem KV.repl {kvs : List (κ × V)} {vs : List (κ × Value)} (r : KV kvs vs) (k : κ) {y : V} {u : Value} (ry : RelV y u) :
    KV (kvs.map fun kv => if kv.1 = k then (kv.1, y) else kv) (vs.map fun kv => if kv.1 = k then (kv.1, u) else kv) := by
  unfold KV at r ⊢
  induction r with
  | nil => exact .nil
  | @cons p q ps qs h t ih =>
    rw [List.map_cons, List.map_cons]
    refine .cons ?_ ih
    obtain ⟨h1, h2⟩ := h
    by_cases e : p.1 = k
    · rw [if_pos e, if_pos (h1.symm.trans e)]; exact ⟨h1, ry⟩
    · rw [if_neg e, if_neg (fun z => e (h1.trans z))]; exact ⟨h1, h2⟩
theorem KV.put {kvs : List (κ × V)} {vs : List (κ × Value)} (r : KV kvs vs) (k : κ) {y : V} {u : Value} (ry : RelV y u) : KV (putK kvs k y) (stored vs k u) := by
  unfold putK stored
  rw [r.any k]
  by_cases e : (vs.any fun kv => decide (kv.1 = k)) = true
  · rw [if_pos e, if_pos e]; exact r.repl k ry
  · rw [if_neg e, if_neg e]; exact Paired.snoc r ⟨rfl, ry⟩
theorem KV.length {kvs : List (κ × V)} {vs : List (κ × Value)} (r : KV kvs vs) : kvs.length = vs.length := Paired.length r
end
theorem kV_is {P : Program} {w : World} {k : Key} {u : Value} (r : RelV (kV k) u) : (mixKind P w).is k u = true := by
  cases k with
  | inl i => obtain ⟨t, e⟩ := (show ∃ t, u = Value.int i t from r); subst e; exact mixKind_int P w i t
  | inr x => obtain ⟨t, e⟩ := (show ∃ t, u = Value.str x t from r); subst e; exact mixKind_str P w x t
theorem items_are {P : Program} {w : World} : ∀ {ks : List Key} {us : List Value}, Vals (ks.map kV) us → ItemsAre (mixKind P w) ks us
  | [], _, r => by rw [List.map_nil] at r; cases r; exact .nil
  | k :: ks, _, r => by
    rw [List.map_cons] at r
    cases r with
    | cons h t => exact .cons (kV_is h) (items_are t)
abbrev KT (H : Hp) : List (List Key × V) → List (List Key × Addr × Value) → Prop := Paired fun p q => p.1 = q.1 ∧ H q.2.1 = some (.tup (p.1.map kV)) ∧ RelV p.2 q.2.2
theorem KT.val {H : Hp} {kvs : List (List Key × V)} {xs : List (List Key × Addr × Value)} (r : KT H kvs xs) (k : List Key) : RelO (valV kvs k) ((atKey xs k).map (·.2)) := by
  induction r with
  | nil => exact True.intro
  | @cons p q ps qs h t ih =>
    obtain ⟨h1, _, h2⟩ := h
    by_cases e : p.1 = k
    · have e' : q.1 = k := h1.symm.trans e
      have b : atKey (q :: qs) k = some q.2 := by simp [atKey, List.find?_cons, e']
      rw [valV_pos e, b]; exact h2
    · have e' : ¬ q.1 = k := fun z => e (h1.trans z)
      have b : atKey (q :: qs) k = atKey qs k := by simp [atKey, List.find?_cons, e']
      rw [valV_neg e, b]; exact ih
theorem KT.repl {H : Hp} {kvs : List (List Key × V)} {xs : List (List Key × Addr × Value)} (r : KT H kvs xs) (k : List Key) {y : V} {u : Value} (ry : RelV y u) :
    KT H (kvs.map fun kv => if kv.1 = k then (kv.1, y) else kv) (xs.map (putAt k u)) := by
  induction r with
  | nil => exact .nil
  | @cons p q ps qs h t ih =>
    rw [List.map_cons, List.map_cons]
    refine .cons ?_ ih
    obtain ⟨h1, h2, h3⟩ := h
    unfold putAt
    by_cases e : p.1 = k
    · rw [if_pos e, if_pos (h1.symm.trans e)]; exact ⟨h1, h2, ry⟩
    · rw [if_neg e, if_neg (fun z => e (h1.trans z))]; exact ⟨h1, h2, h3⟩
theorem KT.put {H : Hp} {kvs : List (List Key × V)} {xs : List (List Key × Addr × Value)} (r : KT H kvs xs) (k : List Key) {b : Addr} {y : V} {u : Value} (hb : H b = some (.tup (k.map kV))) (ry : RelV y u) :
    KT H (putK kvs k y) (storedH xs k b u) := by
  have e : (kvs.any fun kv => decide (kv.1 = k)) = (atKey xs k).isSome := by
    rw [valV_any, (r.val k).isSome_eq, Option.isSome_map]
  unfold putK storedH
  rw [e]
  by_cases q : (atKey xs k).isSome = true
  · rw [if_pos q, if_pos q]; exact r.repl k ry
  · rw [if_neg q, if_neg q]; exact Paired.snoc r ⟨rfl, hb, ry⟩
theorem KT.keeps {H H' : Hp} {kvs : List (List Key × V)} {xs : List (List Key × Addr × Value)} (r : KT H kvs xs) (ht : ∀ b ys, H b = some (.tup ys) → H' b = some (.tup ys)) : KT H' kvs xs :=
  Paired.mapP r fun _ _ z => ⟨z.1, ht _ _ z.2.1, z.2.2⟩
section
variable {P : Program} {w : World} {H : Hp} {h : Heap} {a : Addr}
theorem rd_of {u : HO} (ok : HOk P w H h) (e : Rd H a u) : ObjOk P w H h a u := e.ok ok
theorem dk_rd {kvs : List (Key × V)} (ok : HOk P w H h) (e : Rd H a (.dK kvs)) : kvs.length ≤ sizeLine ∧ (a == sysModules) = false ∧ ∃ vs, KV kvs vs ∧ h.DictOf (mixKind P w) a vs :=
  show ObjOk P w H h a (.dK kvs) from rd_of ok e
theorem dk_of {kvs : List (Key × V)} (ok : HOk P w H h) (e : H a = some (.dK kvs)) : kvs.length ≤ sizeLine ∧ (a == sysModules) = false ∧ ∃ vs, KV kvs vs ∧ h.DictOf (mixKind P w) a vs := dk_rd ok (.inl e)
theorem key_of {ks : List Key} (ok : HOk P w H h) (e : H a = some (.tup (ks.map kV))) : (tupleKind (mixKind P w)).is h ks a := by
  obtain ⟨_, its, r, o, h1, h2, n, h3, _⟩ := (show ObjOk P w H h a (.tup (ks.map kV)) from ok a _ e)
  exact ⟨o, its.toArray, n, h1, h2, h3, by simpa using items_are r⟩
theorem dt_rd {kvs : List (List Key × V)} (ok : HOk P w H h) (e : Rd H a (.dT kvs)) : kvs.length ≤ sizeLine ∧ (a == sysModules) = false ∧
    ∃ xs, KT H kvs xs ∧ h.DictOfH (tupleKind (mixKind P w)) a xs := by
  obtain ⟨z, y, xs, r, o, es, ep, h1, h2, h3, h4, h5⟩ := (show ObjOk P w H h a (.dT kvs) from rd_of ok e)
  refine ⟨z, y, xs, r, o, es, ep, h1, h2, h3, h4, fun x hx => ?_, h5⟩
  have all : ∀ {l : List (List Key × V)} {m : List (List Key × Addr × Value)}, KT H l m → ∀ x ∈ m, (tupleKind (mixKind P w)).is h x.1 x.2.1 := by
    intro l m q
    induction q with
    | nil => intro x hx; exact nomatch hx
    | @cons p q ps qs hq t ih =>
      intro x hx
      rcases List.mem_cons.mp hx with e | hx
      · subst e
        exact key_of ok (by rw [← hq.1]; exact hq.2.1)
      · exact ih x hx
  exact all r x hx
theorem dt_of {kvs : List (List Key × V)} (ok : HOk P w H h) (e : H a = some (.dT kvs)) : kvs.length ≤ sizeLine ∧ (a == sysModules) = false ∧
    ∃ xs, KT H kvs xs ∧ h.DictOfH (tupleKind (mixKind P w)) a xs := dt_rd ok (.inl e)
end
def DGet (H : Hp) (a : Addr) (y : V) (r : Option V) : Prop :=
  (∃ kvs k, Rd H a (.dK kvs) ∧ y = kV k ∧ r = valV kvs k) ∨ ∃ kvs k b, Rd H a (.dT kvs) ∧ y = .ref b ∧ H b = some (.tup (k.map kV)) ∧ r = valV kvs k
def DPut (H : Hp) (a : Addr) (y v : V) (H' : Hp) : Prop :=
  (∃ kvs k, H a = some (.dK kvs) ∧ y = kV k ∧ kvs.length < sizeLine ∧ H' = upd H a (.dK (putK kvs k v))) ∨
  ∃ kvs k b, H a = some (.dT kvs) ∧ y = .ref b ∧ H b = some (.tup (k.map kV)) ∧ kvs.length < sizeLine ∧ H' = upd H a (.dT (putK kvs k v))
section
variable {X : Cx} {pins : List (Addr × Obj)} {σ : St} {H : Hp} {s : Shared} {a : Addr} {y v : V} {u r : Value} {o : Option V} {A : Around} {E : Value → Shared → Prop}
theorem d_getItem {Q : Value → Shared → Prop} (hu : A.units + 1 < cLine) (I : Inv X pins σ H s) (g : DGet H a y (some v)) (ry : RelV y u) (h : ∀ w' s', Inv X pins σ H s' → RelV v w' → Q w' s') :
    wpAny (model X.prog X.w) A (getItem (.ref a) u) Q E s := by
  rcases g with ⟨kvs, k, e, ey, l⟩ | ⟨kvs, k, b, e, ey, eb, l⟩
  · subst ey
    obtain ⟨z, hd, vs, rel, dd⟩ := dk_rd I.hok e
    obtain ⟨w', hw, rw'⟩ := RelO.some_of (v := v) (o := valueAt vs k) (by rw [l]; exact rel.val k)
    exact wpAny_getItem_of (kV_is ry) dd.mapOf hw (h w' _ (I.tok _) rw')
  · subst ey
    cases (show u = Value.ref b from ry)
    obtain ⟨z, hd, xs, rel, dd⟩ := dt_rd I.hok e
    obtain ⟨w', hw, rw'⟩ := RelO.some_of (v := v) (o := (atKey xs k).map (·.2)) (by rw [l]; exact rel.val k)
    obtain ⟨p, hp, hp2⟩ := Option.map_eq_some_iff.mp hw
    refine wpAny_getItem_heap (tupleKind_room_in1 hu) (key_of I.hok eb) dd hp ?_
    rw [hp2]
    exact h w' _ (I.tok _) rw'
theorem d_write {h' : Heap} {t' : Nat} {ob : HO} (I : Inv X pins σ H s) (mu : Mut (H a)) (hs : Heap.SameBut a s.heap h') (he : ∃ q, h'.get? a = some q) (new : ObjOk X.prog X.w (upd H a ob) h' a ob) :
    Inv X pins σ (upd H a ob) { s with heap := h', toks := t' } :=
  I.write (x := a) (e := a) mu (.inl rfl) (fun b q hb z => (hs.2 b hb).trans z) he new
theorem dk_new {P : Program} {w : World} {H' : Hp} {h' : Heap} {kvs : List (Key × V)} {vs : List (Key × Value)} (z : kvs.length ≤ sizeLine) (hd : (a == sysModules) = false) (rel : KV kvs vs) (dd : h'.DictOf (mixKind P w) a vs) :
    ObjOk P w H' h' a (.dK kvs) := ⟨z, hd, vs, rel, dd⟩
theorem d_setItem {H' : Hp} {Q : Unit → Shared → Prop} (hu : A.units + 1 < cLine) (I : Inv X pins σ H s) (g : DPut H a y v H') (ry : RelV y u) (rv : RelV v r) (h : ∀ s', Inv X pins σ H' s' → Q () s') :
    wpAny (model X.prog X.w) A (setItem (.ref a) u r) Q E s := by
  rcases g with ⟨kvs, k, e, ey, l, eH⟩ | ⟨kvs, k, b, e, ey, eb, l, eH⟩
  · subst ey eH
    obtain ⟨z, hd, vs, rel, dd⟩ := dk_of I.hok e
    have hz : vs.length ≤ sizeLine := by rw [← rel.length]; exact z
    have hl : (putK kvs k v).length ≤ sizeLine := by have := length_putK kvs k v; omega
    refine wpAny_setItem_pairs (hsz := hz) (kV_is ry) dd fun h' dd' hs => h _ ?_
    have he : ∃ q, h'.get? a = some q := let ⟨q, _, _, hq, _⟩ := dd'; ⟨q, hq⟩
    exact d_write I (by rw [e]; exact True.intro) hs he (dk_new hl hd (rel.put k rv) dd')
  · subst ey eH
    cases (show u = Value.ref b from ry)
    obtain ⟨z, hd, xs, rel, dd⟩ := dt_of I.hok e
    have hz : xs.length ≤ sizeLine := by rw [← Paired.length rel]; exact z
    have hl : (putK kvs k v).length ≤ sizeLine := by have := length_putK kvs k v; omega
    refine wpAny_setItem_heap (hsz := hz) (tupleKind_room_in1 hu) (key_of I.hok eb) dd fun h' dd' hs => h _ ?_
    obtain ⟨q, es, ep, hq, h2, h3, h4, _, h5⟩ := dd'
    refine d_write I (by rw [e]; exact True.intro) hs ⟨q, hq⟩ ⟨hl, hd, _, (rel.put k eb rv).keeps fun c ys ec => ?_, q, es, ep, hq, h2, h3, h4, h5⟩
    rw [upd_ne (ne_of ec e (fun z => nomatch z))]
    exact ec
end
section
variable {X : Cx} {pins : List (Addr × Obj)} {σ : St} {H : Hp} {s : Shared} {a : Addr} {kvs : List (Key × V)} {k : Key} {u : Value} {A : Around} {E : Value → Shared → Prop}
theorem d_len {Q : Value → Shared → Prop} (I : Inv X pins σ H s) (e : Rd H a (.dK kvs)) (h : ∀ t s', Inv X pins σ H s' → Q (.int kvs.length t) s') : wpAny (model X.prog X.w) A (call (.builtin "len") [.ref a]) Q E s := by
  obtain ⟨z, hd, vs, rel, dd⟩ := dk_rd I.hok e
  refine call_len_dict hd dd (by rw [← rel.length]; rw [sizeLine_eq] at z; omega) ?_
  rw [← rel.length]
  exact h _ _ (I.tok _)
end
theorem dict_typeIs {X : Cx} {pins : List (Addr × Obj)} {σ : St} {H : Hp} {s : Shared} {a : Addr} {y : V} {o : Option V} (I : Inv X pins σ H s) (g : DGet H a y o) : s.TypeIs (.ref a) "dict" := by
  rcases g with ⟨kvs, k, e, _, _⟩ | ⟨kvs, k, b, e, _, _, _⟩
  · obtain ⟨_, _, vs, _, dd⟩ := dk_rd I.hok e
    exact dd.typeIs
  · obtain ⟨_, _, xs, _, dd⟩ := dt_rd I.hok e
    exact dd.typeIs
section
variable {X : Cx} {o i e value : Expr} {pos pos' tpos : Pos} {td ty tv : TE}
end
section
variable {X : Cx} {pos : Pos}
end
section
variable {X : Cx} {pins : List (Addr × Obj)} {σ : St} {H : Hp} {s : Shared} {a : Addr} {y d : V} {u r : Value} {o : Option V} {A : Around} {E : Value → Shared → Prop}
end
section
variable {X : Cx} {o e f : Expr} {apos cpos : Pos} {td ty tx : TE}
end
section
variable {X : Cx} {pins : List (Addr × Obj)} {σ : St} {H : Hp} {s : Shared} {a : Addr} {kvs : List (Key × V)} {A : Around} {E : Value → Shared → Prop}
end
section
variable {X : Cx} {pins : List (Addr × Obj)} {σ : St} {H : Hp} {s : Shared} {a : Addr} {y : V} {u : Value} {A : Around} {E : Value → Shared → Prop}
end
end L2
namespace L2
open PySem PySem.Spec PyProof.Rows
section
variable {X : Cx}
theorem call_lenD : CallR X (.builtin "len") (fun xs H Q => ∃ a kvs, xs = [V.ref a] ∧ H a = some (.dK kvs) ∧ Q (.int kvs.length) H) := by
  (first | refine ⟨?_⟩ | skip)
  intro pins s σ H xs us Q I r h
  obtain ⟨a, kvs, rfl, ha, q⟩ := h
  obtain ⟨u, rfl, ru⟩ := vals1 r
  cases ru
  exact d_len I (.inl ha) fun t s' I' => ⟨.int kvs.length, H, I', ⟨t, rfl⟩, q⟩
end
section
variable {κ : Type} [DecidableEq κ]
end
end L2
set_option Elab.async false
set_option linter.all false
set_option maxRecDepth 100000
set_option maxHeartbeats 4000000
namespace L2
open PySem PySem.Spec PyProof.Rows
theorem inv_track {X : Cx} {pins : List (Addr × Obj)} {σ : St} {H : Hp} {s : Shared} {D : Addr} {o : HO} (I : Inv X pins σ H s) (hn : H D = none) (hs : X.s₀.heap.objs.size ≤ D) (hL : D ≠ X.env.locals)
    (hc : ∀ x c, X.env.cells.lookup x = some c → c ≠ D) (hp : ∀ p ∈ X.pn ++ pins, p.1 ≠ D) (new : ObjOk X.prog X.w (upd H D o) s.heap D o) : Inv X pins σ (upd H D o) s := by
  have low : ∀ {b : Addr} {u : Obj}, X.s₀.heap.get? b = some u → b ≠ D := fun e => Nat.ne_of_lt (Nat.lt_of_lt_of_le (Heap.lt_size e) hs)
  refine ⟨I.ok, I.os, I.bare, ⟨I.base.keep, I.base.slot, fun b u e n hx => ?_, I.base.there, fun b xs e => ?_, fun b u v e => ?_, fun b ps e => ?_⟩, I.loc, I.cell, ?_, fun x c e => ?_, fun p hm => ?_, fun b u e => ?_, I.len⟩
  · rw [upd_ne (low e)]; exact I.base.free b u e n hx
  · have q := I.base.tups b xs e
    rw [upd_ne (ne_of_none q hn)]; exact q
  · have q := I.base.frzs b u v e
    rw [upd_ne (ne_of_none q hn)]; exact q
  · obtain ⟨more, q⟩ := I.base.tbls b ps e
    exact ⟨more, by rw [upd_ne (ne_of_none q hn)]; exact q⟩
  · rw [upd_ne (Ne.symm hL)]; exact I.free
  · rw [upd_ne (hc x c e)]; exact I.freeC x c e
  · obtain ⟨e, n, r⟩ := I.pin p hm
    exact ⟨e, by rw [upd_ne (hp p hm)]; exact n, r⟩
  · by_cases hb : b = D
    · subst hb; rw [upd_same] at e; cases e; exact new
    · rw [upd_ne hb] at e
      exact (I.hok b u e).stay (fun c v _ q => q) (fun c q => by rw [upd_ne (ne_of_none q hn)]; exact q) fun c xs q => by rw [upd_ne (ne_of_none q hn)]; exact q
theorem forIn_pure {α β : Type} {l : List α} {f : α → β → Sem (ForInStep β)} {g : α → β → β} (h : ∀ x ∈ l, ∀ b, f x b = pure (.yield (g x b))) (b : β) : forIn l b f = pure (l.foldl (fun b x => g x b) b) := by
  induction l generalizing b with
  | nil => rfl
  | cons x l ih =>
    rw [List.forIn_cons, h x List.mem_cons_self, pure_bind]
    exact ih (fun y hy => h y (List.mem_cons_of_mem _ hy)) _
def clStep (cells : List (Str × Addr)) (p : Str × NameKind) (cs : List (Str × Addr)) : List (Str × Addr) := if p.2 == .free then (p.1, (cells.lookup p.1).getD 0) :: cs else cs
def clOf (names : List (Str × NameKind)) (cells : List (Str × Addr)) : List (Str × Addr) := names.foldl (fun cs p => clStep cells p cs) []
theorem closure_of {scope : Scope} {env : Env} (h : ∀ p ∈ scope.names, p.2 = .free → ∃ c, env.cells.lookup p.1 = some c) : closureFor scope env = pure (clOf scope.names env.cells) := by
  unfold closureFor
  dsimp only
  rw [forIn_pure (g := fun p cs => clStep env.cells p cs) (fun p hp cs => ?_)]
  · rfl
  · obtain ⟨n, k⟩ := p
    unfold clStep
    by_cases hk : k = .free
    · obtain ⟨c, e⟩ := h _ hp hk
      subst hk
      simp only [cellOf, e, beq_self_eq_true, if_true, Option.getD_some]
      rfl
    · have : (k == NameKind.free) = false := by simpa using hk
      simp only [this, Bool.false_eq_true, if_false]
theorem mem_clFold {cells : List (Str × Addr)} : ∀ (names : List (Str × NameKind)) (acc : List (Str × Addr)) (p : Str × Addr), p ∈ names.foldl (fun cs q => clStep cells q cs) acc → p ∈ acc ∨ ((p.1, NameKind.free) ∈ names ∧ p.2 = (cells.lookup p.1).getD 0)
  | [], acc, p, h => .inl h
  | q :: r, acc, p, h => by
    rw [List.foldl_cons] at h
    rcases mem_clFold r _ p h with h | ⟨h1, h2⟩
    · unfold clStep at h
      obtain ⟨n, k⟩ := q
      split at h
      · rename_i hk
        rcases List.mem_cons.mp h with e | h
        · refine .inr ⟨?_, by rw [e]⟩
          have hk' : k = .free := by simpa using hk
          rw [e, hk']; exact List.mem_cons_self
        · exact .inl h
      · exact .inl h
    · exact .inr ⟨List.mem_cons_of_mem _ h1, h2⟩
theorem clFold_has {cells : List (Str × Addr)} {x : Str} : ∀ (names : List (Str × NameKind)) (acc : List (Str × Addr)), ((x, NameKind.free) ∈ names ∨ ∃ c, (x, c) ∈ acc) → ∃ c, (x, c) ∈ names.foldl (fun cs q => clStep cells q cs) acc
  | [], acc, h => by
    rcases h with h | h
    · cases h
    · exact h
  | q :: r, acc, h => by
    rw [List.foldl_cons]
    refine clFold_has r _ ?_
    rcases h with h | ⟨c, h⟩
    · rcases List.mem_cons.mp h with e | h
      · refine .inr ⟨(cells.lookup x).getD 0, ?_⟩
        rw [← e]
        show _ ∈ (if (NameKind.free == NameKind.free) = true then _ else _)
        rw [if_pos (by rfl)]
        exact List.mem_cons_self
      · exact .inl h
    · refine .inr ⟨c, ?_⟩
      unfold clStep
      split
      · exact List.mem_cons_of_mem _ h
      · exact h
theorem lookup_of_mem {β : Type} {x : Str} : ∀ {l : List (Str × β)} {c : β}, (x, c) ∈ l → ∃ d, l.lookup x = some d
  | [], _, h => nomatch h
  | (y, d) :: r, c, h => by
    rw [List.lookup_cons]
    by_cases e : x = y
    · subst e; exact ⟨d, by simp⟩
    · rcases List.mem_cons.mp h with q | q
      · cases q; exact absurd rfl e
      · obtain ⟨d', q'⟩ := lookup_of_mem q
        have : (x == y) = false := by simpa using e
        rw [this]
        exact ⟨d', q'⟩
theorem clOf_get {names : List (Str × NameKind)} {cells : List (Str × Addr)} {x : Str} {c : Addr} (h : (clOf names cells).lookup x = some c) : (x, NameKind.free) ∈ names ∧ c = (cells.lookup x).getD 0 := by
  rcases mem_clFold names [] (x, c) (PySem.mem_of_lookup h) with h | h
  · cases h
  · exact h
theorem clOf_has {names : List (Str × NameKind)} {cells : List (Str × Addr)} {x : Str} (h : (x, NameKind.free) ∈ names) : (clOf names cells).lookup x = some ((cells.lookup x).getD 0) := by
  obtain ⟨c, hc⟩ := clFold_has (cells := cells) names [] (.inl h)
  obtain ⟨d, hd⟩ := lookup_of_mem hc
  rw [show (clOf names cells).lookup x = some d from hd, (clOf_get hd).2]
abbrev cxC (X : Cx) (scope : Scope) (Nc : List Str) (C : Addr) (s : Shared) (H : Hp) (fp : List Addr) (pins : List (Addr × Obj)) : Cx :=
  { X with N := Nc, s₀ := s, H₀ := H, env := compEnvC scope (clOf scope.names X.env.cells) C X.env, outer := X.stack, stack := X.stack, ex := fp, fn := fun _ => false, pn := X.pn ++ pins, xe := fun _ _ => False }
structure CompScope (X : Cx) (scope : Scope) (N' own : List Str) : Prop where
  kind : scope.kind = .function
  nocell : ∀ y ∈ scope.names, y.2 ≠ .cell
  names : ∀ y ∈ scope.names, y.2 = .local → scope.names.lookup y.1 = some .local
  frees : ∀ y ∈ scope.names, y.2 = .free → X.env.scope.names.lookup y.1 = some .cell ∨ X.env.scope.names.lookup y.1 = some .free
  len : N'.length = X.N.length
  pre : ∀ (i : Nat) (y : Str), N'[i]? = some y → X.N[i]? = some y ∨ (y, NameKind.free) ∉ scope.names
  nol : ∀ y ∈ N', scope.names.lookup y ≠ some .local
theorem relabel_lookup {env : Env} {x : Str} : ∀ {names : List (Str × NameKind)} {k : NameKind},
    (names.map fun (n, k) => if (k == NameKind.free && env.scope.kind == .function && env.kindOf n == some .cell) then (n, NameKind.cell) else (n, k)).lookup x = some k →
    names.lookup x = some k ∨ (k = .cell ∧ names.lookup x = some .free)
  | [], k, h => by simp at h
  | (n, j) :: r, k, h => by
    have h' : List.lookup x ((if (j == NameKind.free && env.scope.kind == .function && env.kindOf n == some .cell) = true then (n, NameKind.cell) else (n, j)) ::
      r.map fun (n, k) => if (k == NameKind.free && env.scope.kind == .function && env.kindOf n == some .cell) then (n, NameKind.cell) else (n, k)) = some k := h
    cases hx : x == n with
    | true =>
      by_cases hc : (j == NameKind.free && env.scope.kind == .function && env.kindOf n == some .cell) = true
      · rw [if_pos hc] at h'
        simp only [List.lookup_cons, hx] at h' ⊢
        simp only [Bool.and_eq_true, beq_iff_eq] at hc
        cases h'
        exact .inr ⟨rfl, by rw [hc.1.1]⟩
      · rw [if_neg hc] at h'
        simp only [List.lookup_cons, hx] at h' ⊢
        exact .inl h'
    | false =>
      have q : (r.map fun (n, k) => if (k == NameKind.free && env.scope.kind == .function && env.kindOf n == some .cell) then (n, NameKind.cell) else (n, k)).lookup x = some k := by
        by_cases hc : (j == NameKind.free && env.scope.kind == .function && env.kindOf n == some .cell) = true
        · rw [if_pos hc] at h'; simpa only [List.lookup_cons, hx] using h'
        · rw [if_neg hc] at h'; simpa only [List.lookup_cons, hx] using h'
      simp only [List.lookup_cons, hx]
      exact relabel_lookup q
section
variable {X : Cx} {pins : List (Addr × Obj)} {σ : St} {H : Hp} {s : Shared} {scope : Scope} {N' own : List Str}
theorem CompScope.cells (S : CompScope X scope N' own) (I : Inv X pins σ H s) : ∀ p ∈ scope.names, p.2 = .free → ∃ c, X.env.cells.lookup p.1 = some c := fun p hp hk => I.ok.has p.1 (S.frees p hp hk)
theorem cl_cell (S : CompScope X scope N' own) (I : Inv X pins σ H s) {x : Str} {c : Addr} (h : (clOf scope.names X.env.cells).lookup x = some c) : X.env.cells.lookup x = some c := by
  obtain ⟨hm, e⟩ := clOf_get h
  obtain ⟨d, hd⟩ := S.cells I _ hm rfl
  rw [hd] at e
  rw [hd, e]
  rfl
theorem inv_comp (S : CompScope X scope N' own) (I : Inv X pins σ H s) {C D : Addr} {oD : Obj} {fp : List Addr} {h4 : Heap} {tk : Nat} {m : Str → Option Value} (k : ∀ b u, s.heap.get? b = some u → h4.get? b = some u) (hC : s.heap.objs.size ≤ C) (hD : s.heap.objs.size ≤ D) (hDC : D ≠ C) (eD : h4.get? D = some oD) (cD : ∀ v, oD.data ≠ .cell v)
    (ns : h4.Ns C m) (ff : ∀ b ∈ fp, FpOk X pins H b) (fl : ∀ b ∈ fp, b < s.heap.objs.size) :
    Inv (cxC X scope (N' ++ own) C s H fp pins) [(D, oD)] (σ ++ List.replicate own.length none) H { s with heap := h4, toks := tk } := by
  have nostk : ∀ {b : Addr}, s.heap.objs.size ≤ b → b ∉ frs X.stack := fun {b} hb hm => by
    rcases List.mem_cons.mp (I.stkSub b hm) with e | hm
    · rw [e] at hb; exact absurd (Nat.lt_of_lt_of_le I.lt hb) (Nat.lt_irrefl _)
    · exact I.nofs hb hm
  have lk : ∀ x, ((compEnvC scope (clOf scope.names X.env.cells) C X.env).kindOf x = some .cell ∨ (compEnvC scope (clOf scope.names X.env.cells) C X.env).kindOf x = some .free) → (x, NameKind.free) ∈ scope.names := fun x hx => by
    have q : scope.names.lookup x = some .cell ∨ scope.names.lookup x = some .free := by
      rcases hx with hx | hx
      · rcases relabel_lookup (env := X.env) (names := scope.names) hx with q | ⟨_, q⟩
        · exact .inl q
        · exact .inr q
      · rcases relabel_lookup (env := X.env) (names := scope.names) hx with q | ⟨z, _⟩
        · exact .inr q
        · cases z
    rcases q with q | q
    · exact absurd rfl (S.nocell _ (PySem.mem_of_lookup q))
    · exact PySem.mem_of_lookup q
  refine ⟨⟨I.ok.mod, S.kind, I.ok.glob, I.ok.blt, hC, fun x y c h1 h2 => ?_, fun x hx => ?_, fun x c h => ?_, I.ok.hd, I.ok.frames, .inl rfl, fun b hb => ⟨?_, fun x c h => ?_⟩, I.bs, Nat.le_trans I.ok.bsz I.sz, fun b o e hb => ?_, fun b hb hm => ?_, I.stack, I.stkFree⟩,
    rfl, I.bare, Un.kept k, ⟨m, ns, fun i x v e1 e2 e3 => ?_⟩, fun x c h => ?_, I.hok.fresh hC, fun x c h => ?_, fun p hp => ?_, I.hok.kept k, ?_⟩
  · exact I.ok.inj x y c (cl_cell S I h1) (cl_cell S I h2)
  · exact ⟨_, clOf_has (lk x hx)⟩
  · cases h
  · have := fl b hb; intro e; rw [e] at this; exact absurd (Nat.lt_of_lt_of_le this hC) (Nat.lt_irrefl _)
  · exact (ff b hb).2.2.2.2.1 x c (cl_cell S I h)
  · rcases (ff b hb).2.2.2.1 with z | z
    · exact I.ok.noex b o e z
    · exact absurd (Nat.lt_of_lt_of_le (Heap.lt_size e) (Nat.le_trans I.ok.bsz z)) (Nat.lt_irrefl _)
  · rcases List.mem_cons.mp (I.stkSub b hm) with e | hm
    · exact (ff b hb).2.1 e
    · exact (ff b hb).2.2.1 hm
  · -- names
    have hi : i < σ.length := by
      by_cases hi : i < σ.length
      · exact hi
      · rw [List.getElem?_append_right (by omega), List.getElem?_replicate] at e2
        split at e2 <;> cases e2
    rw [List.getElem?_append_left hi] at e2
    have hN : N'[i]? = some x := by
      have e1' : (N' ++ own)[i]? = some x := e1
      rw [List.getElem?_append_left (by rw [S.len, ← I.len]; exact hi)] at e1'
      exact e1'
    have e3' : ((compEnvC scope (clOf scope.names X.env.cells) C X.env).kindOf x = some .cell ∨ (compEnvC scope (clOf scope.names X.env.cells) C X.env).kindOf x = some .free) ∨ (compEnvC scope (clOf scope.names X.env.cells) C X.env).kindOf x = some .local := by
      rcases e3 with z | z | z
      · exact .inr z
      · exact .inl (.inl z)
      · exact .inl (.inr z)
    rcases e3' with e3' | e3'
    · have hm := lk x e3'
      rcases S.pre i x hN with hX | hX
      · have fr := S.frees _ hm rfl
        obtain ⟨m0, hn0, hl0⟩ := I.loc
        obtain ⟨u, r, l⟩ := hl0 i x v hX e2 (by rcases fr with z | z; exact .inr (.inl z); exact .inr (.inr z))
        refine ⟨u, r, .inr ⟨e3', ?_⟩⟩
        rcases l with ⟨z, _⟩ | ⟨_, c, ec, ⟨o, ho, hd⟩⟩
        · rcases fr with f | f <;> (have z' : X.env.scope.names.lookup x = some .local := z; rw [f] at z'; cases z')
        · refine ⟨c, ?_, ⟨o, k _ _ ho, hd⟩⟩
          show (clOf scope.names X.env.cells).lookup x = some c
          rw [clOf_has hm, ec]
          rfl
      · exact absurd hm hX
    · -- a local of the block among the outer names: hidden
      rcases relabel_lookup (env := X.env) (names := scope.names) e3' with q | ⟨z, _⟩
      · exact absurd q (S.nol x (List.mem_of_getElem? hN))
      · cases z
  · obtain ⟨v, o, ho, hd⟩ := I.cell x c (cl_cell S I h)
    exact ⟨v, o, k _ _ ho, hd⟩
  · exact I.freeC x c (cl_cell S I h)
  · have hp' : p ∈ (X.pn ++ pins) ++ [(D, oD)] := hp
    rcases List.mem_append.mp hp' with hp' | hp'
    · obtain ⟨e, n, ne, nf, d⟩ := I.pin p hp'
      refine ⟨k _ _ e, n, Nat.ne_of_lt (Nat.lt_of_lt_of_le (Heap.lt_size e) hC), fun hm => ?_, d⟩
      rcases List.mem_cons.mp (I.stkSub p.1 hm) with z | z
      · exact ne z
      · exact nf z
    · have e : p = (D, oD) := by simpa using hp'
      subst e
      exact ⟨eD, I.hok.fresh hD, hDC, nostk hD, cD⟩
  · show (σ ++ List.replicate own.length none).length = (N' ++ own).length
    rw [List.length_append, List.length_append, List.length_replicate, S.len, I.len]
abbrev ctests (ifs : List Expr) (env : Env) : Sem Bool := forIn ifs true fun c r => if r = true then do let ok ← isTrue c env (eval c env); pure (ForInStep.yield ok) else pure (ForInStep.yield r)
theorem codeAny_compLoop_go {prog : Program} {w : World} {A : Around} {R : Result → Shared → Prop} {s : Shared} {elt target iter : Expr} {ifs : List Expr} {scope : Scope} {pos : Pos} {it acc : Value} {env : Env} (I : Nat → Shared → Prop)
    (turn : ∀ n s, I n s → wpAny (model prog w) A (pyNext it) (fun r s₁ => match r with
      | none => R (.ok .next) s₁
      | some v => wpAny (model prog w) A (letOwnedTupleGo target it v) (fun _ s₁' => wpAny (model prog w) A (assign target env v) (fun _ s₂ =>
          wpAny (model prog w) A (ctests ifs env) (fun ok s₃ =>
            if ok = true then wpAny (model prog w) A (eval elt env) (fun x s₄ =>
              wpAny (model prog w) A (call (.builtin "list.append") [acc, x]) (fun _ s₅ => ∃ m, m < n ∧ I m s₅) (notedBy (model prog w) A env fun e s' => R (.error e) s') s₄) (notedBy (model prog w) A env fun e s' => R (.error e) s') s₃
            else ∃ m, m < n ∧ I m s₃) (notedBy (model prog w) A env fun e s' => R (.error e) s') s₂) (notedBy (model prog w) A env fun e s' => R (.error e) s') s₁') (notedBy (model prog w) A env fun e s' => R (.error e) s') s₁) (notedBy (model prog w) A env fun e s' => R (.error e) s') s)
    (n : Nat) (h : I n s) :
    codeAny (model prog w) A (.compLoop (.ListComp elt [⟨target, iter, ifs, 0⟩] scope pos) 0 it acc env) R s := by
  refine codeAny_loop rfl I (fun n s hI => ?_) n h
  show wpAny _ A ((compTurn (.ListComp elt [⟨target, iter, ifs, 0⟩] scope pos) 0 it acc env).onRaise (fun x => do noteFrame x env; theTreesLotGoes x)) _ _ s
  refine wpAny_noted ?_
  rw [compTurn_list]
  refine wpAny_bind (wpAny_standAt (wpAny_bind (wpAny_mono (turn n s hI) (fun r s₁ h₁ => ?_) fun _ _ h' => h')))
  cases r with
  | none => exact wpAny_pure h₁
  | some v =>
    refine wpAny_bind (wpAny_mono h₁ (fun _ s₁' h₁' => ?_) fun _ _ h' => h')
    refine wpAny_bind (wpAny_mono h₁' (fun _ s₂ h₂ => wpAny_bind (wpAny_mono h₂ (fun ok s₃ h₃ => ?_) fun _ _ h' => h')) fun _ _ h' => h')
    cases ok with
    | false => exact wpAny_pure ⟨rfl, h₃⟩
    | true =>
      exact wpAny_bind (wpAny_bind (wpAny_mono h₃ (fun x s₄ h₄ => wpAny_bind (wpAny_mono h₄ (fun _ s₅ h₅ => wpAny_pure (wpAny_pure ⟨rfl, h₅⟩)) fun _ _ h' => h')) fun _ _ h' => h'))
structure PF (X : Cx) (ifs : List Expr) (t : TT) : Prop where
  run :
    ∀ (pins : List (Addr × Obj)) (s : Shared) (σ : St) (H : Hp) (Q : Bool → Hp → Prop), Inv X pins σ H s → t σ H Q → wpAny (model X.prog X.w) X.A (ctests ifs X.env) (TP X pins σ Q) X.xe s
instance {X : Cx} {ifs : List Expr} {t : TT} : CoeFun (PF X ifs t) fun _ =>
  ∀ (pins : List (Addr × Obj)) (s : Shared) (σ : St) (H : Hp) (Q : Bool → Hp → Prop), Inv X pins σ H s → t σ H Q → wpAny (model X.prog X.w) X.A (ctests ifs X.env) (TP X pins σ Q) X.xe s
    := ⟨PF.run⟩
def tYes : TT := fun _ H Q => Q true H
theorem pf_nil {X : Cx} : PF X [] tYes := ⟨fun _ _ _ H _ I h => wpAny_tests_nil ⟨H, I, h⟩⟩
theorem noRaise {α : Type} {M : Model} {A : Around} {E : Value → Shared → Prop} {s : Shared} {t : Sem α} {Q Q' : α → Shared → Prop} (h : wpAny M A t Q (fun _ _ => False) s) (k : ∀ a s, Q a s → Q' a s) : wpAny M A t Q' E s := wpAny_mono h k fun _ _ z => z.elim
def CompW (own : Nat) (J : It) (g : TG) (tt : TT) (te : TE) (Q : VK) (σ : St) (H1 : Hp) : Prop := ∃ W : Nat → Nat → List V → St → Hp → Prop, (∃ m, W 0 m [] (σ ++ List.replicate own none) H1) ∧ ∀ i m ys σ' H', W i m ys σ' H' →
  (J.stop i H' ∧ ys.length ≤ sizeLine ∧ ∀ D, H' D = none → Q (.ref D) (upd H' D (.lst ys))) ∨
  (J.go i H' ∧ ys.length < sizeLine ∧ ∃ N : List V → St → Hp → Prop, (∀ ys σ3 H3, N ys σ3 H3 → ∃ m', m' < m ∧ W (i + 1) m' ys σ3 H3) ∧
    ∀ x H2, J.yld i H' x H2 → g x σ' H2 fun σ3 H3 => tt σ3 H3 fun b H4 => if b = true then te σ3 H4 fun y H5 => N (ys ++ [y]) σ3 H5 else N ys σ3 H4)
def tComp (own : Nat) (wi : TI) (g : TG) (tt : TT) (te : TE) : TE := fun σ H Q => wi σ H fun J H1 => CompW own J g tt te Q σ H1
theorem pe_comp {elt target iter : Expr} {ifs : List Expr} {pos : Pos} {wi : TI} {g : TG} {tt : TT} {te : TE} (S : CompScope X scope N' own) (hc : X.calm = true) (hi : PI X target iter wi)
    (hg : ∀ C s H fp pins, PG (cxC X scope (N' ++ own) C s H fp pins) target g) (ht : ∀ C s H fp pins, PF (cxC X scope (N' ++ own) C s H fp pins) ifs tt) (he : ∀ C s H fp pins, PE (cxC X scope (N' ++ own) C s H fp pins) elt te)
    (hs : ∀ x, foldedSetIterable iter X.env x = pure x := by intro _; rfl) :
    PE X (.ListComp elt [⟨target, iter, ifs, 0⟩] scope pos) (tComp own.length wi g tt te) := by
  (first | refine ⟨?_⟩ | skip)
  intro pins s σ H Q I h
  rw [eval_ListComp]
  refine wpAny_comprehension_free (use := none) rfl hs (closure_of (S.cells I)) S.kind S.names ?_
  refine thn (hi pins s σ H _ I h) fun v s1 h1 => thn h1 fun itv s2 h2 => ?_
  obtain ⟨it, fp, tn, J, H2, e, I2, T, st2, f2, W, ⟨m0, w0⟩, turn⟩ := h2
  subst e
  have fl : ∀ b ∈ fp, b < s2.heap.objs.size := fun b hb => by obtain ⟨o, e, _⟩ := T.obj _ _ st2 b hb; exact Heap.lt_size e
  refine wpAny_newObj_type (wpAny_newFunctionEnv S.nocell (by intro y hy; simp at hy) (fun h4 ns4 sb4 => ?_) S.kind)
  dsimp only at ns4 sb4 ⊢
  generalize hH3 : s2.heap.push { cls := .type "list", dict := none, data := .seq ([] : List Value).toArray } = h3 at ns4 sb4 ⊢
  have hC : h3.objs.size = s2.heap.objs.size + 1 := by rw [← hH3, Heap.size_push]
  have hDC : s2.heap.objs.size ≠ h3.objs.size := by rw [hC]; exact Nat.ne_of_lt (Nat.lt_succ_self _)
  have hCle : s2.heap.objs.size ≤ h3.objs.size := by rw [hC]; exact Nat.le_succ _
  have eD3 : h3.get? s2.heap.objs.size = some { cls := .type "list", data := .seq ([] : List Value).toArray } := hH3 ▸ Heap.get?_push_size _ rfl
  have k4 : ∀ b u, s2.heap.get? b = some u → h4.get? b = some u := fun b u e =>
    (sb4.2 b (Nat.ne_of_lt (Nat.lt_of_lt_of_le (Heap.lt_size e) hCle))).trans (Heap.get?_push_of_some _ (hH3 ▸ Heap.get?_push_of_some _ e))
  have eD4 : h4.get? s2.heap.objs.size = some { cls := .type "list", data := .seq ([] : List Value).toArray } := (sb4.2 _ hDC).trans (Heap.get?_push_of_some _ eD3)
  generalize hDd : s2.heap.objs.size = D at *
  generalize hCd : h3.objs.size = C at *
  have I4 := inv_comp S I2 (C := C) (D := D) (fp := fp) (h4 := h4) (tk := s2.toks + ([] : List (Str × Value)).length) k4 (by rw [hDd]; exact hCle) (by rw [hDd]; exact Nat.le_refl _) hDC eD4 (by intro v z; cases z) ns4 f2 (by rw [hDd]; exact fl)
  have lowC : ∀ (b : Addr) (u : Obj), s2.heap.get? b = some u → b ≠ C := fun b u e => Nat.ne_of_lt (Nat.lt_of_lt_of_le (Heap.lt_size e) (by rw [hDd]; exact hCle))
  have nofp : ∀ b ∈ fp, b ∉ frs X.stack := fun b hb hm => by
    rcases List.mem_cons.mp (I2.stkSub b hm) with z | z
    · exact (f2 b hb).2.1 z
    · exact (f2 b hb).2.2.1 z
  have fpD : ∀ b ∈ fp, b ≠ D := fun b hb => Nat.ne_of_lt (fl b hb)
  have stat : ∀ {H' : Hp} {o : Obj}, (∀ b ∈ fp, H' b = none) → ∀ b ∈ fp, FpOk (cxC X scope (N' ++ own) C s2 H2 fp pins) [(D, o)] H' b := fun {H' o} hn b hb =>
    ⟨hn b hb, Nat.ne_of_lt (Nat.lt_of_lt_of_le (fl b hb) hCle), nofp b hb, .inl hb, fun x c e => (f2 b hb).2.2.2.2.1 x c (cl_cell S I2 e), fun p hp => by
      have hp' : p ∈ (X.pn ++ pins) ++ [(D, o)] := hp
      rcases List.mem_append.mp hp' with z | z
      · exact (f2 b hb).2.2.2.2.2 p z
      · have e : p = (D, o) := by simpa using z
        rw [e]; exact Ne.symm (fpD b hb)⟩
  have loop : ∀ s3 : Shared, Inv (cxC X scope (N' ++ own) C s2 H2 fp pins) [(D, { cls := .type "list", data := .seq ([] : List Value).toArray })] (σ ++ List.replicate own.length none) H2 s3 → tn 0 s3.heap →
      codeAny (model X.prog X.w) X.A (.compLoop (.ListComp elt [⟨target, iter, ifs, 0⟩] scope pos) 0 (.ref it) (.ref D) (compEnvC scope (clOf scope.names X.env.cells) C X.env))
        (compPost (model X.prog X.w) X.A X.xe none (EP X pins σ Q) (.ref D) C) s3 := by
    intro s3 I3 st3
    refine codeAny_compLoop_go (fun n s' => ∃ (i : Nat) (ys : List V) (σ' : St) (H' : Hp) (vals : List Value) (cnt : Nat), Inv (cxC X scope (N' ++ own) C s2 H2 fp pins) [(D, { cls := .type "list", data := .seq vals.toArray cnt })] σ' H' s' ∧
      tn i s'.heap ∧ (∀ b ∈ fp, H' b = none) ∧ Vals ys vals ∧ W i n ys σ' H') ?_ m0 ⟨0, [], _, H2, [], 0, I3, st3, fun b hb => (f2 b hb).1, .nil, w0⟩
    rintro n s3 ⟨i, ys, σ3, H3, vals, cnt, I3, st3, fr3, rv, w3⟩
    rcases turn i n ys σ3 H3 w3 with ⟨stop, hz, q⟩ | ⟨go, hz, N, hN, step⟩
    · refine thn (T.done (cxC X scope (N' ++ own) C s2 H2 fp pins) rfl rfl rfl hc i _ s3 σ3 H3 _ I3 (stat fr3) st3 stop) fun r s4 ⟨hr, I4⟩ => ?_
      subst hr
      obtain ⟨m, ns, _⟩ := id I4.loc
      refine ⟨m, ns, fun h' sb => ?_⟩
      have u4 : Un (frs X.stack) fp H2 H3 s2.heap s4.heap := I4.base
      have nC : H3 C = none := I4.free
      have keepC : ∀ (b : Addr) (u : Obj), b ≠ C → s4.heap.get? b = some u → h'.get? b = some u := fun b u hb e => (sb.2 b hb).trans e
      have u' : Un (frs X.stack) fp H2 H3 s2.heap h' :=
        ⟨fun b o e n hb hx => keepC b o (lowC b o e) (u4.keep b o e n hb hx), fun b o e n hb hx => let ⟨sl, q⟩ := u4.slot b o e n hb hx; ⟨sl, keepC _ _ (lowC b o e) q⟩, u4.free, fun b o e hx => let ⟨o', q⟩ := u4.there b o e hx; ⟨o', keepC _ _ (lowC b o e) q⟩, u4.tups, u4.frzs, u4.tbls⟩
      have hok' : HOk X.prog X.w H3 h' := fun b u e => (I4.hok b u e).stay (fun c v hc' q => keepC c v (by
        rintro rfl
        rcases hc' with z | z
        · rw [← z, nC] at e; cases e
        · rw [nC] at z; cases z) q) (fun _ q => q) fun _ _ q => q
      have I5 : Inv X pins σ H3 { s4 with heap := h' } := I2.call' (ch := fp) (s' := { s4 with heap := h' }) I4.os u' hok' I4.bare fun b hb => ⟨(f2 b hb).2.2.2.1, (f2 b hb).2.1, (f2 b hb).2.2.2.2.1, (f2 b hb).2.2.2.2.2⟩
      obtain ⟨eD, nD, _⟩ := I4.pin (D, _) (List.mem_append_right _ List.mem_cons_self)
      refine ⟨.ref D, upd H3 D (.lst ys), inv_track I5 nD (by rw [← hDd]; exact I2.sz) ?_ ?_ ?_ ⟨hz, vals, cnt, rv, keepC D _ hDC eD⟩, rfl, q D nD⟩
      · have := I2.lt; rw [hDd] at this; exact Nat.ne_of_gt this
      · intro x c e z
        obtain ⟨v, o, ho, _⟩ := I2.cell x c e
        have := Heap.lt_size ho; rw [hDd, z] at this; exact Nat.lt_irrefl _ this
      · intro p hp z
        have := Heap.lt_size (I2.pin p hp).1; rw [hDd, z] at this; exact Nat.lt_irrefl _ this
    · refine thn (T.item (cxC X scope (N' ++ own) C s2 H2 fp pins) rfl rfl rfl hc i _ s3 σ3 H3 _ I3 (stat fr3) st3 go) fun r s4 ⟨u, hr, h4⟩ => ?_
      subst hr
      refine thn h4 fun _ s5 ⟨x, H5, I5, r5, y5, st5, fr5⟩ => ?_
      have I5' := I5.pinned (stat fr5) (T.obj _ _ st5)
      have keepT : ∀ {σ7 : St} {H7 : Hp} {s7 : Shared} {pl : List (Addr × Obj)}, Inv (cxC X scope (N' ++ own) C s2 H2 fp pins) (pl ++ pinsAt fp s5.heap) σ7 H7 s7 → tn (i + 1) s7.heap ∧ ∀ b ∈ fp, H7 b = none := fun {σ7 H7 s7 pl} I7 =>
        ⟨T.keep _ _ _ st5 fun b hb o e => (I7.pin (b, o) (List.mem_append_right _ (List.mem_append_right _ (mem_pinsAt hb e)))).1, fun b hb => by
          obtain ⟨o, e, d⟩ := T.obj _ _ st5 b hb
          exact (I7.pin (b, o) (List.mem_append_right _ (List.mem_append_right _ (mem_pinsAt hb e)))).2.1⟩
      refine noRaise (hg C s2 H2 fp pins _ s5 σ3 H5 x u _ I5' r5 (step x H5 y5)) fun _ s6 ⟨σ6, H6, I6, q6⟩ => ?_
      refine noRaise (ht C s2 H2 fp pins _ s6 σ6 H6 _ I6 q6) fun b s7 ⟨H7, I7, q7⟩ => ?_
      cases b with
      | false =>
        obtain ⟨m', hm, w7⟩ := hN _ _ _ q7
        obtain ⟨t7, fr7⟩ := keepT I7
        exact ⟨m', hm, i + 1, ys, σ6, H7, vals, cnt, I7.unpinned, t7, fr7, rv, w7⟩
      | true =>
        refine noRaise (he C s2 H2 fp pins _ s7 σ6 H7 _ I7 q7) fun y s8 ⟨yv, H8, I8, r8, q8⟩ => ?_
        obtain ⟨m', hm, w8⟩ := hN _ _ _ q8
        obtain ⟨eD, nD, neD, nfD, cD⟩ := I8.pin (D, _) (List.mem_append_right _ (List.mem_append_left _ List.mem_cons_self))
        have hvl := rv.length
        refine call_meets F.slot_list_append ⟨_, eD, rfl⟩ F.entry_list_append (F.args_list_append_2 _ _) (PySem.list_append D vals.toArray cnt y (by rw [List.size_toArray]; omega)) ⟨eD, ?_⟩
        have I8' : Inv (cxC X scope (N' ++ own) C s2 H2 fp pins) (pinsAt fp s5.heap) σ6 H8 s8 := I8.pins_of fun p hp => I8.pin p (List.mem_append_right _ (List.mem_append_right _ hp))
        have hno : ∀ p ∈ (X.pn ++ pins) ++ pinsAt fp s5.heap, p.1 ≠ D := fun p hp => by
          rcases List.mem_append.mp hp with z | z
          · intro q
            have := Heap.lt_size (I2.pin p z).1; rw [hDd, q] at this; exact Nat.lt_irrefl _ this
          · exact fpD _ (of_pinsAt z).1
        have I9 := I8'.turned (t' := s8.toks) (it := D) (h' := s8.heap.update D (Obj.mapSeq fun x => x.push y)) (fun b o hb e => (Heap.get?_update_other s8.heap _ (Ne.symm hb)).trans e) nD neD (.inr (by show s2.heap.objs.size ≤ D; rw [hDd]; exact Nat.le_refl _))
          (fun x c e z => by
            obtain ⟨v, o, ho, _⟩ := I2.cell x c (cl_cell S I2 e)
            have := Heap.lt_size ho; rw [hDd, z] at this; exact Nat.lt_irrefl _ this) hno
        obtain ⟨t9, fr9⟩ := keepT (pl := []) I9
        have qD : ∃ n', (s8.heap.update D (Obj.mapSeq fun x => x.push y)).get? D = some { cls := .type "list", data := .seq (vals ++ [y]).toArray n' } := by
          have q := PySem.IsL.update (l := D) (items := vals.toArray) (n := cnt) (h := s8.heap) eD fun x => x.push y
          have e : vals.toArray.push y = (vals ++ [y]).toArray := by simp
          rw [← e]
          exact ⟨_, q⟩
        obtain ⟨n', qD⟩ := qD
        refine ⟨m', hm, i + 1, ys ++ [yv], σ6, H8, vals ++ [y], n', I9.pins_of fun p hp => ?_, t9, fr9, rv.append (.cons r8 .nil), w8⟩
        have e := List.mem_singleton.mp hp
        rw [e]
        exact ⟨qD, nD, neD, nfD, by intro v z; cases z⟩
  have t4 : tn 0 h4 := T.keep _ _ _ st2 fun b _ o e => k4 b o e
  exact codeAny_compStart_list (loop _ I4 t4) (T.self _ 0 _ _ _ t4 (loop _ I4 t4))
end
end L2
set_option Elab.async false
set_option linter.all false
set_option maxRecDepth 100000
set_option maxHeartbeats 4000000
namespace L2
open PySem PySem.Spec PyProof.Rows
def Its (x : Str) : It := ⟨fun i _ => i < x.cps.size, fun i H v H' => H' = H ∧ ∃ c, x.cps[i]? = some c ∧ v = .str ⟨#[c]⟩, fun i _ => i = x.cps.size⟩
theorem turn_str {P : Program} {w : World} {K : PySem.W.Frag} {tg : Expr} {n : String} (it : Addr) (x : Str) (t : Tok) (hn : ["enumerate", "zip", "dict_itemiterator", "dict_reverseitemiterator", "odict_iterator", "itertools.zip_longest", "itertools.pairwise"].contains n = false)
    (W : ∀ A : Around, A.handled = none → Walks P w A it [it] [it] x.cps.size (SignAt x) (fun i h => h.IsStrIter it n x t i))
    (hself : ∀ (A : Around) (i : Nat) (s : Shared) (Q : Value → Shared → Prop) (E : Value → Shared → Prop), s.heap.IsStrIter it n x t i → Q (.ref it) s → wpAny (model P w) A (pyIter (.ref it)) Q E s) :
    Turn P w K tg (Its x) [it] it (fun i h => h.IsStrIter it n x t i) where
  mem := by simp
  obj := fun i h st b hb => by
    have e : b = it := by simpa using hb
    subst e
    obtain ⟨o, e, c, d⟩ := st
    exact ⟨o, e, fun v z => by rw [d] at z; cases z⟩
  keep := fun i h h' st k => by
    obtain ⟨o, e, r⟩ := st
    exact ⟨o, k it (by simp) o e, r⟩
  item := by
    intro X hP hw hK hc i pins s σ H E I hf st hg
    subst hP hw hK
    obtain ⟨f0, f1, f2, f3, f4, f5⟩ := hf it (by simp)
    refine (W X.A (I.ok.hd hc)).item i s _ _ hg st fun v h' tk hv st' kk => ?_
    obtain ⟨c, u, ec, rfl⟩ := hv
    have I1 : Inv X pins σ H { s with heap := h', toks := tk } := I.turned (fun b o hb e => kk b o (by simpa using hb) e) f0 f1 f3 f4 f5
    obtain ⟨o, e, c', d⟩ := id st'
    exact ⟨_, rfl, go_of (s := { s with heap := h', toks := tk }) e c' d hn ⟨.str ⟨#[c]⟩, H, I1, ⟨u, rfl⟩, ⟨rfl, c, ec, rfl⟩, st', fun b hb => (hf b hb).1⟩⟩
  done := by
    intro X hP hw hK hc i pins s σ H E I hf st hg
    subst hP hw hK
    obtain ⟨f0, f1, f2, f3, f4, f5⟩ := hf it (by simp)
    have hg' : i = x.cps.size := hg
    subst hg'
    exact (W X.A (I.ok.hd hc)).done s _ _ st fun h' tk kk => ⟨rfl, I.turned (fun b o hb e => kk b o (by simpa using hb) e) f0 f1 f3 f4 f5⟩
  self := hself
section
variable {X : Cx} {tg : Expr}
theorem boolsAre_of {bs : List Bool} : ∀ {us : List Value}, Vals (bs.map V.bl) us → LSm.BoolsAre us bs := by
  induction bs with
  | nil => intro us r; rw [List.map_nil] at r; cases r; exact .nil
  | cons n ns ih =>
    intro us r
    rw [List.map_cons] at r
    cases r with
    | cons r1 r2 =>
      have e : _ = Value.bool n := r1
      subst e
      exact .cons n (ih r2)
theorem strsAre_of {bs : List Str} : ∀ {us : List Value}, Vals (bs.map V.str) us → StrsAre us bs := by
  induction bs with
  | nil => intro us r; rw [List.map_nil] at r; cases r; exact .nil
  | cons n ns ih =>
    intro us r
    rw [List.map_cons] at r
    cases r with
    | cons r1 r2 =>
      obtain ⟨t, e⟩ := r1
      subst e
      exact .cons n t (ih r2)
theorem call_all (hc : X.calm = true) : CallR X (.builtin "all") (fun xs H Q => ∃ (l : Addr) (bs : List Bool), xs = [.ref l] ∧ SqL X.K H l (bs.map V.bl) ∧ Q (.bl (bs.all id)) H) := by
  (first | refine ⟨?_⟩ | skip)
  intro pins s σ H xs us Q I r h
  obtain ⟨l, bs, rfl, hl, q⟩ := h
  obtain ⟨u, rfl, ru⟩ := vals1 r
  cases ru
  obtain ⟨its, rv, p, _⟩ := I.list hl
  have hlt : l < s.heap.objs.size := p.lt
  refine call_all_walk (wpAny_pyIter_list p.isList ?_)
  refine ⟨s.heap.objs.size, [s.heap.objs.size, l], [s.heap.objs.size], its.toArray.size, _, _, fun i => (bs[i]?).getD true, rfl, Walks.list (A := X.A.in1) (I.ok.hd hc) _ l (Nat.ne_of_lt hlt) its.toArray,
    ⟨⟨_, Heap.get?_push_size _ rfl, rfl, rfl⟩, p.isList.push _⟩, fun i v s' Q' E' hP hQ => ?_, fun h' tk hk => ?_⟩
  · obtain ⟨b, e, rfl⟩ := (boolsAre_of rv).get i v (by simpa using hP)
    simp only [e, Option.getD_some] at hQ
    exact wpAny_truthy_bool hQ
  · have e : ((List.range its.toArray.size).all fun i => (bs[i]?).getD true) = bs.all id := by
      rw [List.size_toArray, (boolsAre_of rv).length]; exact LSm.range_all bs
    rw [e]
    exact ⟨.bl (bs.all id), H, I.kept (LSm.kept_iter hk), rfl, q⟩
def rJoin (K : PySem.W.Frag) : V → List V → Hp → VK → Prop := fun x vs H Q => ∃ (sep : Str) (l : Addr) (ys : List Str), x = .str sep ∧ vs = [.ref l] ∧ SqL K H l (ys.map V.str) ∧ (ys.map (·.length)).sum + ys.length * sep.length ≤ 16777216 ∧ Q (.str (Txt.join sep ys)) H
theorem mt_join : MtR X "str.join" (rJoin X.K) := by
  (first | refine ⟨?_⟩ | skip)
  intro pins s σ H x xs v us Q I rx rv h
  obtain ⟨sep, l, ys, rfl, rfl, hl, hz, q⟩ := h
  obtain ⟨t, rfl⟩ := rx
  obtain ⟨u, rfl, ru⟩ := Vals.one rv
  cases ru
  obtain ⟨its, r, p, _⟩ := I.list hl
  exact join_list p.isList (by simpa using strsAre_of r) hz fun t' k => ⟨.str (Txt.join sep ys), H, I.tok _, ⟨t', rfl⟩, q⟩
theorem join_len (sep : Str) (ys : List Str) : (Txt.join sep ys).length ≤ (ys.map (·.length)).sum + ys.length * sep.length := by
  show (Builtin.Str.glued sep ys).length ≤ _
  rw [StrLaws.glued_eq_join]
  exact StrLaws.join_length_le sep ys
def rSlS : V → Option Int → Option Int → Hp → VK → Prop := fun x lo hi H Q => ∃ z, x = .str z ∧ z.length ≤ sizeLine ∧ ((Txt.slice z lo hi).length ≤ z.length → Q (.str (Txt.slice z lo hi)) H)
theorem sl_str : SlR X rSlS := by
  (first | refine ⟨?_⟩ | skip)
  intro pins s σ H x v vl vu lo hi sl Q I rx hs pl pu h
  obtain ⟨z, rfl, hz, q⟩ := h
  obtain ⟨t, rfl⟩ := rx
  obtain ⟨o, e, c, d⟩ := hs
  have fin : ∀ t' k, EP X pins σ Q (.str (Txt.slice z lo hi) t') { s with toks := k } := fun t' k => ⟨.str (Txt.slice z lo hi), H, I.tok k, ⟨t', rfl⟩, q (Txt.slice_le z _ _)⟩
  refine ⟨"str", _, F.slot_str_getitem.lookup, typeIs_str _ _ _, ?_⟩
  cases pl with
  | none =>
    cases pu with
    | none => exact wpAny_getItem_str_slice (l := none) (u := none) (st := none) ⟨o, e, c, d⟩ rfl (post_val_or_str ⟨Nat.le_trans (Txt.slice_le z _ _) hz, fin⟩)
    | int j uj => exact wpAny_getItem_str_slice (l := none) (u := some (j, uj)) (st := none) ⟨o, e, c, d⟩ rfl (post_val_or_str ⟨Nat.le_trans (Txt.slice_le z _ _) hz, fin⟩)
  | int i ui =>
    cases pu with
    | none => exact wpAny_getItem_str_slice (l := some (i, ui)) (u := none) (st := none) ⟨o, e, c, d⟩ rfl (post_val_or_str ⟨Nat.le_trans (Txt.slice_le z _ _) hz, fin⟩)
    | int j uj => exact wpAny_getItem_str_slice (l := some (i, ui)) (u := some (j, uj)) (st := none) ⟨o, e, c, d⟩ rfl (post_val_or_str ⟨Nat.le_trans (Txt.slice_le z _ _) hz, fin⟩)
end
end L2
set_option Elab.async false
set_option linter.all false
set_option maxRecDepth 100000
set_option maxHeartbeats 4000000
namespace L2
open PySem PySem.Spec PyProof.Rows
def checkC (fsc scope : Scope) (N N' : List Str) : Bool :=
  scope.kind == .function && scope.names.all (fun y => y.2 != .cell && (y.2 != .local || scope.names.lookup y.1 == some .local) && (y.2 != .free || (fsc.names.lookup y.1 == some .cell || fsc.names.lookup y.1 == some .free)))
    && N'.length == N.length && (N'.zip N).all (fun p => p.1 == p.2 || !(scope.names.any fun q => q.1 == p.1 && q.2 == .free)) && N'.all (fun y => scope.names.lookup y != some .local)
theorem comp_scope {X : Cx} {scope fsc : Scope} {N N' own : List Str} (hX : X.env.scope = fsc) (hN : X.N = N) (h : checkC fsc scope N N' = true) : CompScope X scope N' own := by
  unfold checkC at h
  simp only [Bool.and_eq_true, List.all_eq_true, beq_iff_eq, bne_iff_ne, Bool.or_eq_true, ne_eq] at h
  obtain ⟨⟨⟨⟨h1, h2⟩, h3⟩, h4⟩, h5⟩ := h
  subst hX hN
  refine ⟨h1, fun y hy => (h2 y hy).1.1, fun y hy e => ?_, fun y hy e => ?_, h3, fun i y e => ?_, fun y hy => h5 y hy⟩
  · rcases (h2 y hy).1.2 with z | z
    · exact absurd e z
    · exact z
  · rcases (h2 y hy).2 with z | z
    · exact absurd e z
    · exact z
  · have hi : i < N'.length := (List.getElem?_eq_some_iff.mp e).1
    have e2 : X.N[i]? = some X.N[i] := List.getElem?_eq_getElem (by omega)
    have m : (y, X.N[i]) ∈ N'.zip X.N := by
      refine List.mem_iff_getElem?.mpr ⟨i, ?_⟩
      rw [List.getElem?_zip_eq_some]
      exact ⟨e, e2⟩
    rcases h4 _ m with z | z
    · left
      rw [e2]
      have z' : y = X.N[i] := z
      rw [← z']
    · right
      intro q
      have z' : (!(scope.names.any fun q => q.1 == y && q.2 == .free)) = true := z
      rw [Bool.not_eq_true', List.any_eq_false] at z'
      exact z' _ q (by simp)
theorem atI_has {α : Type} (xs : List α) {d : Int} (h0 : 0 ≤ d) (h1 : d < xs.length) : ∃ y, y ∈ xs ∧ atI xs d = some y := by
  have hn : d.toNat < xs.length := by omega
  refine ⟨xs[d.toNat], List.getElem_mem hn, ?_⟩
  unfold atI ixN
  rw [if_pos h0, if_pos h1]
  exact List.getElem?_eq_getElem hn
end L2
set_option Elab.async false
set_option linter.all false
set_option maxRecDepth 100000
set_option maxHeartbeats 4000000
namespace L2
open PySem PySem.Spec PyProof.Rows
section
variable {X : Cx}
end
section
variable {prog : Program} {w : World} {A : Around} {J : Addr} {fp wr : List Addr} {n : Nat} {P : Nat → Value → Prop} {Sn : Nat → Heap → Prop}
end
end L2
set_option Elab.async false
set_option linter.all false
set_option maxRecDepth 100000
set_option maxHeartbeats 4000000
namespace L2
open PySem PySem.Spec PyProof.Rows
section
variable {prog : Program} {w : World} {A : Around} {E : Value → Shared → Prop} {s : Shared}
end
section
variable {X : Cx} {e e2 : Expr} {t : TA} {tk : TA} {p pos kpos : Pos}
end
end L2
set_option Elab.async false
set_option linter.all false
set_option maxRecDepth 100000
set_option maxHeartbeats 4000000
namespace L2
open PySem PySem.Spec PyProof.Rows
theorem dict_len : typeLookup (.type "dict") "__len__" = pure (some (.builtin "dict.__len__")) := by rw [typeLookup_type, builtinLookup_eq_fast]; kernel_rfl
section
variable {prog : Program} {w : World} {A : Around} {E : Value → Shared → Prop} {s : Shared}
theorem collect_dict {d : Addr} {kvs : List (Key × Value)} {Q : List Value → Shared → Prop} (hh : A.handled = none) (hd : (d == sysModules) = false) (hm : s.heap.DictOf (mixKind prog w) d kvs) (hn : kvs.length ≤ sizeLine)
    (hQ : ∀ s' acc, (∀ b o, s.heap.get? b = some o → s'.heap.get? b = some o) → s'.gens = s.gens → s'.drawn = s.drawn → s'.os = s.os → ItemsOf (fun i v => ∃ k x, kvs[i]? = some (k, x) ∧ (mixKind prog w).is k v = true) acc kvs.length → Q acc.toList s') :
    wpAny (model prog w) A (collect (.ref d)) Q E s := by
  have hdl : d < s.heap.objs.size := by obtain ⟨o, es, ep, ho, _⟩ := id hm; exact Heap.lt_size ho
  unfold collect
  refine wpAny_bind (wpAny_runValue (codeAny_builtin F.entry_proto_collect ?_))
  rw [Around.under_plainId F.plain_proto_collect _]
  show wpAny _ A.in1 (newList [] >>= fun l => again (.builtin "list.__iadd__" ⟨[l, .ref d], []⟩)) _ _ s
  refine wpAny_bind (wpAny_newObj_type ?_)
  refine wpAny_pure ⟨plainId_quiet F.plain_list_iadd _, codeAny_builtin F.entry_list_iadd ?_⟩
  rw [Around.under_plainId F.plain_list_iadd _]
  show wpAny _ A.in1 (Builtin.List.listExtendWith (.ref s.heap.objs.size) (.ref d) (.ref s.heap.objs.size)) _ _ _
  generalize hH : s.heap.push { cls := .type "list", data := .seq ([] : List Value).toArray } = H
  have hHs : H.objs.size = s.heap.objs.size + 1 := by rw [← hH, Heap.size_push]
  have kH : ∀ b o, s.heap.get? b = some o → H.get? b = some o := fun b o e => hH ▸ Heap.get?_push_of_some _ e
  have hm1 : H.DictOf (mixKind prog w) d kvs := hm.at fun o e => kH d o e
  obtain ⟨ep, at1⟩ := hm1.dictAt
  have hS : H.get? s.heap.objs.size = some { cls := .type "list", data := .seq ([] : List Value).toArray } := hH ▸ Heap.get?_push_size _ rfl
  unfold Builtin.List.listExtendWith
  have hT : Shared.TypeIs { s with heap := H } (.ref d) "dict" := Heap.DictOf.typeIs (s := { s with heap := H }) hm1
  refine wpAny_bind (wpAny_typeOf hT ?_)
  have h1 : Builtin.List.listSameRef (.ref s.heap.objs.size) (.ref d) = false := by
    have : s.heap.objs.size ≠ d := Nat.ne_of_gt hdl
    simp [Builtin.List.listSameRef, this]
  have h2 : (Value.type "dict" == Value.type "list") = false := by decide
  have h3 : (Value.type "dict" == Value.type "tuple") = false := by decide
  simp only [h1, h2, h3, Bool.or_false, Bool.false_eq_true, if_false]
  refine wpAny_bind (wpAny_pyIter_dict (s := { s with heap := H }) hd at1 ?_)
  refine wpAny_bind (wpAny_holding ?_)
  unfold Builtin.List.listLengthHint
  have hT2 : Shared.TypeIs { s with heap := H.push { cls := .type "dict_keyiterator", data := .fields #[.ref d, .int 0 0, .int kvs.length 0, .int ep 0] } } (.ref d) "dict" := by
    obtain ⟨o, ho, hc⟩ := hT
    exact ⟨o, Heap.get?_push_of_some _ ho, hc⟩
  refine wpAny_bind (wpAny_specialOf hT2 dict_len ?_)
  wp_delta
  refine wpAny_bind (wpAny_isInstance (b := true) hT2 (by rw [isSubtype_type]; kernel_rfl) ?_)
  show wpAny _ A.in1 (typeOf (Value.ref d) >>= _) _ _ _
  refine wpAny_bind (wpAny_typeOf hT2 ?_)
  refine wpAny_pure ?_
  rw [if_pos (by decide)]
  refine wpAny_bind (wpAny_rule ?_)
  generalize hG : H.push { cls := .type "dict_keyiterator", data := .fields #[.ref d, .int 0 0, .int kvs.length 0, .int ep 0] } = G at hT2 ⊢
  have hI : G.get? H.objs.size = some { cls := .type "dict_keyiterator", data := .fields #[.ref d, .int 0 0, .int kvs.length 0, .int ep 0] } := hG ▸ Heap.get?_push_size _ rfl
  have kG : ∀ b o, H.get? b = some o → G.get? b = some o := fun b o e => hG ▸ Heap.get?_push_of_some _ e
  have hS2 := kG _ _ hS
  refine wpAny_bind ?_
  show wpAny _ A.in1 (updateSeq s.heap.objs.size (·.push .none) >>= fun _ => updateSeq s.heap.objs.size (·.pop)) _ _ { s with heap := G }
  refine wpAny_bind (wpAny_updateSeq (s := { s with heap := G }) hS2 rfl ?_)
  have hS3 := Heap.get?_update_self (Obj.mapSeq (·.push .none)) hS2 rfl
  refine (wpAny_updateSeq (s := { s with heap := G.update s.heap.objs.size (Obj.mapSeq (·.push .none)) }) hS3 rfl ?_)
  have hS4 := Heap.get?_update_self (Obj.mapSeq (·.pop)) hS3 rfl
  generalize hG2 : (G.update s.heap.objs.size (Obj.mapSeq (·.push .none))).update s.heap.objs.size (Obj.mapSeq (·.pop)) = G2 at hS4 ⊢
  have kG2 : ∀ b o, b ≠ s.heap.objs.size → G.get? b = some o → G2.get? b = some o := fun b o hb e => by
    rw [← hG2]
    exact (Heap.get?_update_other _ _ (Ne.symm hb)).trans ((Heap.get?_update_other _ _ (Ne.symm hb)).trans e)
  have nI : H.objs.size ≠ s.heap.objs.size := by rw [hHs]; exact Nat.succ_ne_self _
  have nd : d ≠ s.heap.objs.size := Nat.ne_of_lt hdl
  have ndI : d ≠ H.objs.size := by rw [hHs]; exact Nat.ne_of_lt (Nat.lt_succ_of_lt hdl)
  have W := Walks.dictKeys (knd := mixKind prog w) (A := A.in1) hh H.objs.size d ndI kvs ep
  have st0 : G2.IsKeyIter H.objs.size d 0 kvs.length ep ∧ G2.DictAt (mixKind prog w) d kvs ep := ⟨⟨_, kG2 _ _ nI hI, rfl, rfl⟩, at1.at' fun o e => kG2 d o nd (kG d o e)⟩
  have hSf : s.heap.objs.size ∉ [H.objs.size, d] := by
    intro z
    rcases List.mem_cons.mp z with z | z
    · exact nI z.symm
    · exact nd (List.mem_singleton.mp z).symm
  refine wpAny_pure ⟨plainId_quiet F.plain_extend_loop _, codeAny_extend_loopS W.toS hn _ hSf _ kvs.length 0 { s with heap := G2 } #[] _ rfl (Nat.zero_le _) st0 hS4 (ItemsOf.nil _) fun s' acc' c' hm' hS' hacc => ?_⟩
  show wpAny _ A (load s.heap.objs.size >>= _) _ _ s'
  refine wpAny_bind (wpAny_load hS' ?_)
  refine wpAny_pure (hQ s' acc' (fun b ob e => hm'.heap b ob (fun hb => ?_) (kG2 b ob (Nat.ne_of_lt (Heap.lt_size e)) (kG b ob (kH b ob e)))) hm'.gens hm'.drawn hm'.os hacc)
  have hlt := Heap.lt_size e
  rcases List.mem_cons.mp hb with h | h
  · exact absurd hlt (h ▸ Nat.lt_irrefl _)
  · rw [List.mem_singleton.mp h, hHs] at hlt; exact absurd hlt (Nat.not_lt.mpr (Nat.le_succ _))
theorem code_tuple_dict {d : Addr} {kvs : List (Key × Value)} {Q₁ : Value → Shared → Prop} (hh : A.handled = none) (hd : (d == sysModules) = false) (hm : s.heap.DictOf (mixKind prog w) d kvs) (hn : kvs.length ≤ sizeLine)
    (h : ∀ (s' : Shared) (acc : Array Value), (∀ b o, s.heap.get? b = some o → s'.heap.get? b = some o) → s'.gens = s.gens → s'.drawn = s.drawn → s'.os = s.os → ItemsOf (fun i v => ∃ k x, kvs[i]? = some (k, x) ∧ (mixKind prog w).is k v = true) acc kvs.length →
      Q₁ (.ref s'.heap.objs.size) { s' with heap := s'.heap.push { cls := .type "tuple", data := .seq acc } }) :
    codeAny (model prog w) A (.call (.builtin "tuple.__new__") ⟨[.type "tuple", .ref d], []⟩) (wants Q₁ E) s := by
  refine codeAny_of_tree ?_
  show wpAny _ A.in1 (do checkBuiltinCall "tuple.__new__" ⟨[.type "tuple", .ref d], []⟩; again (.builtin "tuple.__new__" ⟨[.type "tuple", .ref d], []⟩)) _ _ s
  refine wpAny_bind (wpAny_of_eq (F.newCall_tuple_1 _) (wpAny_pure ⟨plainId_quiet F.plain_tuple_new _, codeAny_builtin F.entry_tuple_new ?_⟩))
  rw [Around.under_plainId F.plain_tuple_new _]
  have hsub := sub_tuple_self
  have hinit := init_tuple_lookup
  have hmh := madeHere_tuple
  have hTI : s.TypeIs (.ref d) "dict" := hm.typeIs
  wp_walk using wpAny_typeOf hTI, collect_dict (A := A.in1) hh hd hm hn
  intro s' acc k1 k2 k3 k4 hacc
  show wpAny _ _ (Builtin.Tuple.tupleExact acc.toList.toArray >>= fun v => ret v) _ _ _
  unfold Builtin.Tuple.tupleExact
  refine wpAny_bind (wpAny_newObj_type ?_ (by show acc.toList.toArray.size ≤ sizeLine; simp only [Array.toArray_toList]; rw [hacc.1]; exact hn))
  refine wpAny_pure ?_
  have e : acc.toList.toArray = acc := by simp
  rw [e]
  exact h s' acc k1 k2 k3 k4 hacc
theorem call_tuple_dict {d : Addr} {kvs : List (Key × Value)} {Q : Value → Shared → Prop} (hh : A.handled = none) (hd : (d == sysModules) = false) (hm : s.heap.DictOf (mixKind prog w) d kvs) (hn : kvs.length ≤ sizeLine)
    (h : ∀ (s' : Shared) (acc : Array Value), (∀ b o, s.heap.get? b = some o → s'.heap.get? b = some o) → s'.gens = s.gens → s'.drawn = s.drawn → s'.os = s.os → ItemsOf (fun i v => ∃ k x, kvs[i]? = some (k, x) ∧ (mixKind prog w).is k v = true) acc kvs.length →
      Q (.ref s'.heap.objs.size) { s' with heap := s'.heap.push { cls := .type "tuple", data := .seq acc } }) :
    wpAny (model prog w) A (call (.type "tuple") [.ref d]) Q E s := by
  refine callType_codes (Q₁ := fun obj s₁ => s₁.TypeIs obj "tuple" ∧ Q obj s₁) F.called_tuple (F.typeCall_tuple_1 _) F.entry_object_init
    (code_tuple_dict hh hd hm hn fun s' acc k1 k2 k3 k4 hacc => ⟨⟨_, Heap.get?_push_size _ rfl, rfl⟩, h s' acc k1 k2 k3 k4 hacc⟩) fun obj s₁ h₁ => ?_
  exact ⟨h₁.1, F.args_object_init_2 obj _, object_init_meets F.called_tuple.init.lookup F.called_tuple.made (by decide) prog w A.in1 _ s₁ ⟨h₁.1, rfl, h₁.2⟩⟩
end
theorem vals_by : ∀ {xs : List V} {us : List Value}, xs.length = us.length → (∀ (j : Nat) (v : Value) (x : V), us[j]? = some v → xs[j]? = some x → RelV x v) → Vals xs us
  | [], [], _, _ => .nil
  | x :: xs, u :: us, h, r => .cons (r 0 u x rfl rfl) (vals_by (by simpa using h) fun j v y a b => r (j + 1) v y a b)
theorem kv_len {kvs : List (Key × V)} {vs : List (Key × Value)} (r : KV kvs vs) : kvs.length = vs.length := Paired.length r
theorem kv_get : ∀ {kvs : List (Key × V)} {vs : List (Key × Value)} {i : Nat} {k : Key} {x : Value}, KV kvs vs → vs[i]? = some (k, x) → ∃ y, kvs[i]? = some (k, y)
  | _, _, 0, k, x, .cons (a := p) r _, h => by
    rw [List.getElem?_cons_zero] at h
    rw [Option.some.inj h] at r
    have e : p.1 = k := r.1
    exact ⟨p.2, by rw [List.getElem?_cons_zero, ← e]⟩
  | _, _, i + 1, k, x, .cons _ r, h => by
    obtain ⟨y, e⟩ := kv_get (i := i) r (by simpa using h)
    exact ⟨y, by simpa using e⟩
section
variable {X : Cx}
theorem call_tupleD (hc : X.calm = true) : CallR X (.type "tuple") (fun xs H Q => ∃ (d : Addr) (kvs : List (Key × V)), xs = [.ref d] ∧ H d = some (.dK kvs) ∧ ∀ p, H p = none → Q (.ref p) (upd H p (.tup (kvs.map fun q => kV q.1)))) := by
  intro pins s σ H xs us Q I r h
  obtain ⟨d, kvs, rfl, hd, q⟩ := h
  obtain ⟨u, rfl, ru⟩ := vals1 r
  cases ru
  obtain ⟨hz, hsys, vs, kv, dd⟩ := dk_of I.hok hd
  have hl := kv_len kv
  refine call_tuple_dict (I.ok.hd hc) hsys dd (by rw [← hl]; exact hz) fun s' acc k1 k2 k3 k4 hacc => ?_
  obtain ⟨hp, g, dr, tk, os⟩ := s'
  obtain ⟨hp0, g0, dr0, tk0, os0⟩ := s
  dsimp only at k1 k2 k3 k4
  subst k2 k3 k4
  have I1 : Inv X pins σ H ⟨hp, g, dr, tk, os⟩ := I.kept (t' := tk) (h' := hp) k1
  refine ⟨.ref hp.objs.size, _, I1.laid (t' := tk) (o := .tup (kvs.map fun q => kV q.1)) (fun b o e => Heap.get?_push_of_some _ e) (Nat.le_refl _) ⟨by rw [List.length_map]; exact hz, acc.toList, vals_by ?_ fun j v x hv hx => ?_, by simpa using IsTupD.new _ _⟩, rfl, q _ I1.fresh⟩
  · rw [List.length_map, hl]; exact hacc.1.symm.trans (Array.length_toList).symm
  · obtain ⟨k, y, e1, e2⟩ := hacc.2 j v (by simpa using hv)
    obtain ⟨z, e3⟩ := kv_get kv e1
    rw [List.getElem?_map, e3] at hx
    have e4 : kV k = x := Option.some.inj hx
    subst e4
    rcases keyIs_shape e2 with ⟨i, t, rfl, rfl⟩ | ⟨z', t, rfl, rfl⟩
    · exact ⟨t, rfl⟩
    · exact ⟨t, rfl⟩
end
end L2
set_option Elab.async false
set_option linter.all false
set_option maxRecDepth 100000
set_option maxHeartbeats 4000000
namespace L2
open PySem PySem.Spec PyProof.Rows
namespace RV
theorem owner : Manifest.owners.lookup (String.ofList ['d', 'e', 's', 'r', 'e', 'v', 'e', 'r'].reverse) = some Manifest.sig_reversed := by kernel_rfl
theorem slot_next : Slot "reversed" "__next__" "reversed.__next__" :=
  .of (owner := "reversed") (n := "__next__") (by rw [typeLookup_type, builtinLookup_eq_fast]; kernel_rfl) (by decide +kernel) (by decide +kernel) (by decide +kernel)
    (by first | exact .inl (by decide +kernel) | exact .inr (by decide +kernel)) (by rw [isSubtype_type]; kernel_rfl)
theorem entry_next : entryFor table "reversed.__next__" = some Builtin.«reversed.__next__» := entryFor_of_tree (by kernel_rfl)
theorem args_next (a : Value) : argsOk "reversed.__next__" ⟨[a], []⟩ := by
  unfold argsOk; rw [signature?_of (id := "reversed.__next__") (n := ['_', '_', 't', 'x', 'e', 'n', '_', '_']) (o := ['d', 'e', 's', 'r', 'e', 'v', 'e', 'r']) (by kernel_rfl) owner]; kernel_rfl
theorem slot_iter : Slot "reversed" "__iter__" "reversed.__iter__" :=
  .of (owner := "reversed") (n := "__iter__") (by rw [typeLookup_type, builtinLookup_eq_fast]; kernel_rfl) (by decide +kernel) (by decide +kernel) (by decide +kernel)
    (by first | exact .inl (by decide +kernel) | exact .inr (by decide +kernel)) (by rw [isSubtype_type]; kernel_rfl)
theorem args_iter (a : Value) : argsOk "reversed.__iter__" ⟨[a], []⟩ := by
  unfold argsOk; rw [signature?_of (id := "reversed.__iter__") (n := ['_', '_', 'r', 'e', 't', 'i', '_', '_']) (o := ['d', 'e', 's', 'r', 'e', 'v', 'e', 'r']) (by kernel_rfl) owner]; kernel_rfl
theorem entry_iter : entryFor table "reversed.__iter__" = some Builtin.«dict_keyiterator.__iter__» :=
  entryFor_alias (id' := "dict_keyiterator.__iter__") (by kernel_rfl) (by first | rfl | decide +kernel | (unfold String.splitOn; simp +decide [String.splitOnAux])) (by decide +kernel) (by kernel_rfl)
theorem slot_init : Slot "reversed" "__init__" "object.__init__" :=
  .of (owner := "object") (n := "__init__") (by rw [typeLookup_type, builtinLookup_eq_fast]; kernel_rfl) (by decide +kernel) (by decide +kernel) (by decide +kernel)
    (by first | exact .inl (by decide +kernel) | exact .inr (by decide +kernel)) (by rw [isSubtype_type]; kernel_rfl)
theorem called : TypeCalled "reversed" "reversed.__new__" "object.__init__" :=
  ⟨by decide +kernel, by decide +kernel, ⟨_, _, F.mro_reversed⟩, F.made_reversed, by decide +kernel, by rw [isSubtype_type]; kernel_rfl, slot_init⟩
theorem no_rev : typeLookup (.type "tuple") "__reversed__" = pure none := by rw [typeLookup_type, builtinLookup_eq_fast]; kernel_rfl
theorem sub_td : isSubtype (.type "tuple") (.type "dict") = pure false := by rw [isSubtype_type]; kernel_rfl
end RV
def revT (t : Addr) (i : Int) : Obj := { cls := .type "reversed", data := .fields #[.ref t, rawInt i] }
section
variable {prog : Program} {w : World} {A : Around} {E : Value → Shared → Prop} {s : Shared}
theorem code_revT {t : Addr} {items : Array Value} {Q₁ : Value → Shared → Prop} (ht : IsTup s.heap t items) (hz : items.size ≤ sizeLine)
    (h : ∀ tk, Q₁ (.ref s.heap.objs.size) { s with heap := s.heap.push (revT t ((items.size : Int) - 1)), toks := tk }) :
    codeAny (model prog w) A (.call (.builtin "reversed.__new__") ⟨[.type "reversed", .ref t], []⟩) (wants Q₁ E) s := by
  refine codeAny_of_tree ?_
  show wpAny _ A.in1 (do checkBuiltinCall "reversed.__new__" ⟨[.type "reversed", .ref t], []⟩; again (.builtin "reversed.__new__" ⟨[.type "reversed", .ref t], []⟩)) _ _ s
  refine wpAny_bind (wpAny_of_eq (F.newCall_reversed_1 _) (wpAny_pure ⟨plainId_quiet F.plain_reversed_new _, codeAny_builtin F.entry_reversed_new ?_⟩))
  rw [Around.under_plainId F.plain_reversed_new _]
  unfold Builtin.«reversed.__new__»
  refine wpAny_bind (wpAny_of_eq (newClass_reversed _) ?_)
  try dsimp only
  refine wpAny_bind (wpAny_of_eq (a := ()) (by first | rfl | kernel_rfl) ?_)
  refine wpAny_bind (wpAny_of_eq (a := ()) (by first | rfl | kernel_rfl) ?_)
  try dsimp only
  refine wpAny_bind (wpAny_specialOf ht.typeIs RV.no_rev ?_)
  try dsimp only
  refine wpAny_bind ?_
  show wpAny _ A.in1 (isInstance (.ref t) (.type "dict") >>= _) _ _ s
  refine wpAny_bind (wpAny_isInstance (b := false) ht.typeIs RV.sub_td ?_)
  show wpAny _ A.in1 (specialOf (.ref t) "__getitem__" >>= _) _ _ s
  refine wpAny_bind (wpAny_specialOf ht.typeIs slot_tuple_getitem.lookup ?_)
  refine wpAny_of_eq (a := true) (by first | rfl | kernel_rfl) ?_
  show wpAny _ A.in1 (call (.builtin "len") [.ref t] >>= _) _ _ s
  refine wpAny_bind (PyProof.Rows.len_tuple ht (by have := line63; omega) ?_)
  refine wpAny_bind (wpAny_of_eq (a := some (items.size : Int)) (by first | rfl | kernel_rfl) ?_)
  refine wpAny_bind (m := newObj (.type "reversed") (.fields #[.ref t, rawInt ((items.size : Int) - 1)])) (wpAny_newObj_type (wpAny_pure (h _)))
theorem call_revT {t : Addr} {items : Array Value} {Q : Value → Shared → Prop} (ht : IsTup s.heap t items) (hz : items.size ≤ sizeLine)
    (h : ∀ tk, Q (.ref s.heap.objs.size) { s with heap := s.heap.push (revT t ((items.size : Int) - 1)), toks := tk }) : wpAny (model prog w) A (call (.type "reversed") [.ref t]) Q E s := by
  refine callType_codes (Q₁ := fun obj s₁ => s₁.TypeIs obj "reversed" ∧ Q obj s₁) RV.called (F.typeCall_reversed_1 _) F.entry_object_init
    (code_revT ht hz fun tk => ⟨⟨_, Heap.get?_push_size _ rfl, rfl⟩, h tk⟩) fun obj s₁ h₁ => ?_
  exact ⟨h₁.1, F.args_object_init_2 obj _, object_init_meets RV.called.init.lookup RV.called.made (by decide) prog w A.in1 _ s₁ ⟨h₁.1, rfl, h₁.2⟩⟩
def IsRevT (h : Heap) (a t : Addr) (i : Int) : Prop := h.get? a = some (revT t i)
theorem next_revT {it t : Addr} {i : Nat} {items : Array Value} {x : Value} {Q : Option Value → Shared → Prop} (hit : IsRevT s.heap it t (i : Int)) (ht : IsTup s.heap t items) (hz : items.size ≤ sizeLine) (hx : items[i]? = some x)
    (hQ : ∀ h' tk, IsRevT h' it t ((i : Int) - 1) → Heap.SameBut it s.heap h' → Q (some x) { s with heap := h', toks := tk }) : wpAny (model prog w) A (pyNext (.ref it)) Q E s := by
  have hT : s.TypeIs (.ref it) "reversed" := ⟨_, hit, rfl⟩
  have hil : i < items.size := (Array.getElem?_eq_some_iff.mp hx).1
  unfold pyNext
  refine wpAny_bind (wpAny_attempt (wpAny_callSpecial?_slot (name := Str.ofString "__next__") hT RV.slot_next
    (wpAny_call_entry RV.slot_next hT RV.entry_next ?_ (RV.args_next _))))
  unfold Builtin.«reversed.__next__»
  refine wpAny_bind (wpAny_of_eq (a := (Value.ref it, [])) rfl ?_)
  try dsimp only
  refine wpAny_bind (wpAny_field hit rfl (x := .ref t) rfl ?_)
  refine wpAny_bind (wpAny_field hit rfl (x := rawInt (i : Int)) rfl ?_)
  show wpAny _ _ (if (i : Int) < 0 then _ else _) _ _ s
  rw [if_neg (by omega)]
  refine wpAny_bind (wpAny_specialOf ht.typeIs slot_tuple_getitem.lookup ?_)
  show wpAny _ _ (mkInt (i : Int) >>= _) _ _ s
  refine wpAny_bind (wpAny_mkInt ?_)
  have hn := line63
  refine wpAny_bind (wpAny_attempt (PyProof.Rows.getItem_tuple (s := { s with toks := s.toks + 1 }) (j := i) ht (by omega) (by omega) ?_ hx ?_))
  · unfold seqIndex?
    have e0 : ¬ (i : Int) < 0 := by omega
    simp only [if_neg e0]
    rw [if_pos (by simp; exact hil)]
    simp
  · show wpAny _ _ (field (.ref it) 1 >>= _) _ _ _
    refine wpAny_bind (wpAny_field hit rfl (x := rawInt (i : Int)) rfl ?_)
    refine wpAny_bind (wpAny_setField_rec hit (by simp) fun h' he' hs' => ?_)
    refine wpAny_pure ⟨x, rfl, wpAny_pure (hQ h' _ ?_ hs')⟩
    exact he'
theorem next_revT_end {it t : Addr} {Q : Option Value → Shared → Prop} (hh : A.handled = none) (hit : IsRevT s.heap it t (-1))
    (hQ : ∀ h', Heap.ExtBut it s.heap h' → Q none { s with heap := h' }) : wpAny (model prog w) A (pyNext (.ref it)) Q E s := by
  have hT : s.TypeIs (.ref it) "reversed" := ⟨_, hit, rfl⟩
  unfold pyNext
  refine wpAny_bind (wpAny_attempt (wpAny_callSpecial?_slot (name := Str.ofString "__next__") hT RV.slot_next
    (wpAny_call_entry RV.slot_next hT RV.entry_next ?_ (RV.args_next _))))
  unfold Builtin.«reversed.__next__»
  refine wpAny_bind (wpAny_of_eq (a := (Value.ref it, [])) rfl ?_)
  try dsimp only
  refine wpAny_bind (wpAny_field hit rfl (x := .ref t) rfl ?_)
  refine wpAny_bind (wpAny_field hit rfl (x := rawInt (-1)) rfl ?_)
  show wpAny _ _ (if (-1 : Int) < 0 then _ else _) _ _ s
  rw [if_pos (by decide)]
  refine wpAny_bind (wpAny_rule ?_)
  refine wpAny_bind ?_
  show wpAny _ _ (setField (.ref it) 1 (rawInt (-1)) >>= fun _ => setField (.ref it) 0 .none) _ _ s
  refine wpAny_bind (wpAny_setField_rec hit (by simp) fun h1 he1 hs1 => ?_)
  refine wpAny_setField_rec he1 (by simp) fun h2 he2 hs2 => ?_
  first
  | show wpAny _ _ (newExc (.type "StopIteration") [] >>= _) _ _ _
  | (refine wpAny_bind ?_; show wpAny _ _ (newExc (.type "StopIteration") [] >>= _) _ _ _)
  refine wpAny_bind ?_
  simp only [newExc, newTuple]
  refine wpAny_bind (wpAny_newObj_type ?_ (by size_fits))
  refine wpAny_bind (m := firstArgMember _ _) (wpAny_of_eq (a := Value.none) (by first | rfl | (simp only [firstArgMember]; rfl)) ?_)
  refine wpAny_newObj_type ?_ (by size_fits)
  simp only [raiseNew]
  refine wpAny_bind (wpAny_handled ?_)
  first | rw [show A.in1.handled = none from hh] | rw [hh]
  refine wpAny_bind (wpAny_pure (wpAny_throw ?_))
  refine wpAny_bind (wpAny_isInstance (T := "StopIteration") (b := true) ⟨_, Heap.get?_push_size _ rfl, rfl⟩ isSubtype_stop ?_)
  exact wpAny_pure (hQ _ (((hs1.extBut.trans hs2.extBut).push _).push _))
theorem iter_revT {it t : Addr} {i : Int} {Q : Value → Shared → Prop} (hit : IsRevT s.heap it t i) (h : Q (.ref it) s) : wpAny (model prog w) A (pyIter (.ref it)) Q E s := by
  have hT : s.TypeIs (.ref it) "reversed" := ⟨_, hit, rfl⟩
  refine wpAny_pyIter_slot hT RV.slot_iter (wpAny_call_entry RV.slot_iter hT RV.entry_iter ?_ (RV.args_iter _))
  show wpAny _ _ (ret (.ref it)) _ _ s
  exact wpAny_pure ⟨_, rfl, "reversed", _, hT, RV.slot_next.lookup, h⟩
end
section
variable {X : Cx} {tg : Expr}
theorem boot_rev : bootBuiltins "reversed" = some (.type "reversed") := by decide +kernel
end
end L2
set_option Elab.async false
set_option linter.all false
set_option maxRecDepth 100000
set_option maxHeartbeats 4000000
namespace L2
open PySem PySem.Spec PyProof.Rows
section
variable {X : Cx} {pins : List (Addr × Obj)} {σ : St} {H : Hp} {s : Shared}
theorem paired_at {α β : Type} {R : α → β → Prop} : ∀ {l : List α} {m : List β} {j : Nat} {a : α} {b : β}, Paired R l m → l[j]? = some a → m[j]? = some b → R a b
  | _, _, 0, a, b, .cons r _, h1, h2 => by
    rw [List.getElem?_cons_zero] at h1 h2
    rw [← Option.some.inj h1, ← Option.some.inj h2]; exact r
  | _, _, j + 1, a, b, .cons _ r, h1, h2 => paired_at (j := j) r (by simpa using h1) (by simpa using h2)
theorem vals_at {xs : List V} {its : List Value} (r : Vals xs its) {j : Nat} (h : j < its.toArray.size) : ∃ x, xs[j]? = some x ∧ RelV x its.toArray[j] := by
  have hj : j < xs.length := by rw [r.length]; simpa using h
  obtain ⟨u, e, ru⟩ := r.get (i := j) (x := xs[j]) (by simp [hj])
  refine ⟨xs[j], by simp [hj], ?_⟩
  have : its[j]? = some its.toArray[j] := by simp
  rw [this] at e
  rw [Option.some.inj e]; exact ru
end
end L2
set_option Elab.async false
set_option linter.all false
set_option maxRecDepth 100000
set_option maxHeartbeats 4000000
namespace L2
open PySem PySem.Spec PyProof.Rows
section
variable {X : Cx}
theorem op_mulS : OpR X (binaryOp .Mult) (fun x y H Q => ∃ (z : Str) (n : Int), x = .str z ∧ y = .int n ∧ ((n = 0 ∧ Q (.str Str.empty) H) ∨ (n = 1 ∧ Q (.str z) H))) := by
  intro pins s σ H x y v u Q I rx ry h
  obtain ⟨z, n, rfl, rfl, h⟩ := h
  obtain ⟨t, rfl⟩ := rx
  obtain ⟨t', rfl⟩ := ry
  rcases h with ⟨rfl, q⟩ | ⟨rfl, q⟩
  · exact PySem.P.mul_str_none (by decide) (by decide) ⟨.str Str.empty, H, I.tok _, ⟨_, rfl⟩, q⟩
  · refine PySem.P.mul_str (by decide) (fun _ h => by cases h) (fun _ h => by cases h) ?_
    rw [if_neg (by decide), if_pos (show ((1 : Int) == 1 || z.length == 0) = true from rfl)]
    exact ⟨.str z, H, I, ⟨_, rfl⟩, q⟩
end
end L2
set_option Elab.async false
set_option linter.all false
set_option maxRecDepth 100000
set_option maxHeartbeats 4000000
namespace L2
open PySem PySem.Spec PyProof.Rows
section
variable {prog : Program} {w : World} {A : Around} {E : Value → Shared → Prop} {s : Shared}
theorem getItem_tuple_whole {t sl : Addr} {items : Array Value} {vl vu : Value} {lo hi : Option Int} {Q : Value → Shared → Prop} (ht : IsTup s.heap t items) (hs : s.heap.IsSliceOf sl vl vu .none) (pl : IsPart vl lo) (pu : IsPart vu hi)
    (hw : HT.sIx items.size 0 lo = 0 ∧ HT.sIx items.size items.size hi = items.size) (h : Q (.ref t) s) : wpAny (model prog w) A (getItem (.ref t) (.ref sl)) Q E s := by
  obtain ⟨os, hos, hcs, hds⟩ := id hs
  have hTs : s.TypeIs (.ref sl) "slice" := ⟨os, hos, hcs⟩
  unfold getItem
  try with_reducible refine wpAny_holding ?_
  first | refine wpAny_bind (wpAny_pure ?_) | skip
  refine wpAny_bind (wpAny_sequenceKey ht.typeIs (by decide) ?_)
  refine wpAny_bind (wpAny_callSpecial?_slot (name := Str.ofString "__getitem__") ht.typeIs PyProof.Rows.slot_tuple_getitem
    (wpAny_call_entry PyProof.Rows.slot_tuple_getitem ht.typeIs entry_tuple_getitem ?_ (args_tuple_getitem _ _)))
  show wpAny _ _ (Builtin.Tuple.tupleItemsOf (.ref t) >>= _) _ _ s
  refine wpAny_bind (tupleItemsOf_ ht ?_)
  refine wpAny_bind (wpAny_typeOf hTs ?_)
  rw [if_pos (by decide)]
  refine wpAny_bind (HT.sliceApplied_gen hs pl pu ?_)
  have hyes : ((((HT.sIx items.size 0 lo : Nat) : Int) == 0 && (1 : Int) == 1 && (HT.sIx items.size items.size hi - HT.sIx items.size 0 lo) == items.size) = true) := by
    rw [hw.1, hw.2]; simp
  show wpAny _ _ (if (((HT.sIx items.size 0 lo : Nat) : Int) == 0 && (1 : Int) == 1 && (HT.sIx items.size items.size hi - HT.sIx items.size 0 lo) == items.size) = true then _ else _) _ _ s
  rw [if_pos hyes]
  unfold Builtin.Tuple.tupleIsExact
  refine wpAny_bind (wpAny_bind (wpAny_typeOf ht.typeIs (wpAny_pure ?_)))
  rw [if_pos (by decide)]
  refine wpAny_bind (wpAny_rule ?_)
  first
    | exact wpAny_pure ⟨_, rfl, wpAny_pure h⟩
    | exact wpAny_bind (wpAny_pure (wpAny_pure ⟨_, rfl, wpAny_pure h⟩))
    | exact wpAny_bind (wpAny_pure ⟨_, rfl, wpAny_pure h⟩)
end
section
variable {X : Cx}
def gLst (K : PySem.W.Frag) (n : Nat) (t : TGs) : TG := fun v σ H Q => ∃ a xs, v = .ref a ∧ SqL K H a xs ∧ xs.length = n ∧ t xs σ H Q
theorem pg_lst {es : List Expr} {k : Nat} {t : TGs} {n : Nat} {pos : Pos} (hc : X.calm = true) (h : PGs X es t)
    (hn : (assignEach es X.env).length = n := by rfl) (hst : (assignEach es X.env).findIdx? (·.1) = none := by rfl) : PG X (.Tuple es k pos) (gLst X.K n t) := ⟨by
  intro pins s σ H v u Q I r hw
  obtain ⟨a, xs, e1, hq, hl, hw⟩ := hw
  subst e1
  cases r
  obtain ⟨its, rv, ht, hz⟩ := I.list hq
  rw [assign_Tuple]
  refine wpAny_bind (wpAny_standAt ?_)
  unfold unpack
  rw [show (assignEach es X.env).length = its.toArray.size from by simp [hn, ← hl, rv.length], hst]
  refine wpAny_bind (wpAny_holding (PySem.W.kun_itemsOf (I.ok.hd hc) ht.isList fun h' hx => ?_))
  have I1 : Inv X pins σ H { s with heap := h' } := I.kept (t' := s.toks) fun b o e => hx b o (Nat.ne_of_lt (Heap.lt_size e)) e
  exact h pins _ σ H xs _ Q I1 (by simpa using rv) hw⟩
variable {a b c d : Expr} {ta tb tc td : TE} {pos : Pos}
end
end L2
set_option Elab.async false
set_option linter.all false
set_option maxRecDepth 100000
set_option maxHeartbeats 4000000
namespace L2
open PySem PySem.Spec PyProof.Rows
namespace RV
theorem no_len : typeLookup (.type "reversed") "__len__" = pure none := by rw [typeLookup_type, builtinLookup_eq_fast]; kernel_rfl
theorem slot_hint : Slot "reversed" "__length_hint__" "reversed.__length_hint__" :=
  .of (owner := "reversed") (n := "__length_hint__") (by rw [typeLookup_type, builtinLookup_eq_fast]; kernel_rfl) (by decide +kernel) (by decide +kernel) (by decide +kernel)
    (by first | exact .inl (by decide +kernel) | exact .inr (by decide +kernel)) (by rw [isSubtype_type]; kernel_rfl)
theorem entry_hint : entryFor table "reversed.__length_hint__" = some Builtin.«reversed.__length_hint__» := entryFor_of_tree (by kernel_rfl)
theorem args_hint (a : Value) : argsOk "reversed.__length_hint__" ⟨[a], []⟩ := by
  unfold argsOk; rw [signature?_of (id := "reversed.__length_hint__") (n := ['_', '_', 't', 'n', 'i', 'h', '_', 'h', 't', 'g', 'n', 'e', 'l', '_', '_']) (o := ['d', 'e', 's', 'r', 'e', 'v', 'e', 'r']) (by kernel_rfl) owner]; kernel_rfl
end RV
section
variable {prog : Program} {w : World} {A : Around} {E : Value → Shared → Prop} {s : Shared}
theorem Walks_revT (hh : A.handled = none) (I t : Addr) (hne : t ≠ I) (items : Array Value) (hz : items.size ≤ sizeLine) :
    Walks prog w A I [I, t] [I] items.size (fun i v => items[items.size - 1 - i]? = some v) (fun i h => i ≤ items.size ∧ IsRevT h I t ((items.size : Int) - 1 - (i : Int)) ∧ IsTup h t items) where
  sub := fun b hb => by simp at hb; simp [hb]
  frame := fun _ _ _ st hk => by
    obtain ⟨h0, h1, o, e, c, n, d⟩ := st
    exact ⟨h0, hk I (by simp) _ h1, o, hk t (by simp) o e, c, n, d⟩
  item := fun i s Q E hi st hQ => by
    obtain ⟨h0, h1, ht⟩ := st
    have e : (items.size : Int) - 1 - (i : Int) = ((items.size - 1 - i : Nat) : Int) := by omega
    rw [e] at h1
    have hj : items.size - 1 - i < items.size := by omega
    refine next_revT h1 ht hz (x := items[items.size - 1 - i]) (by simp [hj]) fun h' tk hit' sb => ?_
    have e2 : ((items.size - 1 - i : Nat) : Int) - 1 = (items.size : Int) - 1 - ((i + 1 : Nat) : Int) := by omega
    rw [e2] at hit'
    obtain ⟨o, eo, c, n, d⟩ := ht
    exact hQ _ h' tk (by simp [hj]) ⟨hi, hit', o, (sb.2 t hne).trans eo, c, n, d⟩ fun b o hb e => (sb.2 b fun h => hb (by simp [h])).trans e
  done := fun s Q E st hQ => by
    obtain ⟨h0, h1, ht⟩ := st
    have e : (items.size : Int) - 1 - (items.size : Int) = -1 := by omega
    rw [e] at h1
    exact next_revT_end hh h1 fun h' eb => hQ h' s.toks fun b o hb e => eb b o (fun h => hb (by simp [h])) e
  self := fun _ _ _ _ st h => iter_revT st.2.1 h
theorem hint_revT {I t : Addr} {items : Array Value} {Q : Value → Shared → Prop} (hit : IsRevT s.heap I t ((items.size : Int) - 1)) (ht : IsTup s.heap t items) (hz : items.size ≤ sizeLine)
    (h : ∀ tk u, s.toks ≤ tk → Q (.int (items.size : Int) u) { s with toks := tk }) : wpAny (model prog w) A (call (.builtin "reversed.__length_hint__") [.ref I]) Q E s := by
  have hT : s.TypeIs (.ref I) "reversed" := ⟨_, hit, rfl⟩
  refine wpAny_call_entry RV.slot_hint hT RV.entry_hint ?_ (RV.args_hint _)
  unfold Builtin.«reversed.__length_hint__»
  refine wpAny_bind (wpAny_of_eq (a := Value.ref I) rfl ?_)
  refine wpAny_bind (wpAny_field hit rfl (x := .ref t) rfl ?_)
  show wpAny _ _ (call (.builtin "len") [.ref t] >>= _) _ _ s
  refine wpAny_bind (PyProof.Rows.len_tuple ht (by have := line63; omega) ?_)
  refine wpAny_bind (wpAny_of_eq (a := some (items.size : Int)) (by first | rfl | kernel_rfl) ?_)
  refine wpAny_bind (wpAny_field (s := { s with toks := s.toks + 1 + 1 }) hit rfl (x := rawInt ((items.size : Int) - 1)) rfl ?_)
  show wpAny _ _ (if (items.size : Int) < (items.size : Int) - 1 + 1 then _ else _) _ _ _
  rw [if_neg (by omega)]
  unfold retInt
  refine wpAny_bind (wpAny_mkInt ?_)
  have e : (items.size : Int) - 1 + 1 = items.size := by omega
  rw [e]
  exact wpAny_pure ⟨_, rfl, h _ _ (by show s.toks ≤ s.toks + 1 + 1 + 1; omega)⟩
theorem collect_revT {I t : Addr} {items : Array Value} {Q : List Value → Shared → Prop} (hh : A.handled = none) (hne : t ≠ I) (hit : IsRevT s.heap I t ((items.size : Int) - 1)) (ht : IsTup s.heap t items) (hn : items.size ≤ sizeLine)
    (hQ : ∀ s' acc, (∀ b o, b ≠ I → s.heap.get? b = some o → s'.heap.get? b = some o) → s'.gens = s.gens → s'.drawn = s.drawn → s'.os = s.os → ItemsOf (fun i v => items[items.size - 1 - i]? = some v) acc items.size → Q acc.toList s') :
    wpAny (model prog w) A (collect (.ref I)) Q E s := by
  have hIl : I < s.heap.objs.size := Heap.lt_size hit
  have htl : t < s.heap.objs.size := by obtain ⟨o, e, _⟩ := id ht; exact Heap.lt_size e
  unfold collect
  refine wpAny_bind (wpAny_runValue (codeAny_builtin F.entry_proto_collect ?_))
  rw [Around.under_plainId F.plain_proto_collect _]
  show wpAny _ A.in1 (newList [] >>= fun l => again (.builtin "list.__iadd__" ⟨[l, .ref I], []⟩)) _ _ s
  refine wpAny_bind (wpAny_newObj_type ?_)
  refine wpAny_pure ⟨plainId_quiet F.plain_list_iadd _, codeAny_builtin F.entry_list_iadd ?_⟩
  rw [Around.under_plainId F.plain_list_iadd _]
  show wpAny _ A.in1 (Builtin.List.listExtendWith (.ref s.heap.objs.size) (.ref I) (.ref s.heap.objs.size)) _ _ _
  generalize hH : s.heap.push { cls := .type "list", data := .seq ([] : List Value).toArray } = H
  have hHs : H.objs.size = s.heap.objs.size + 1 := by rw [← hH, Heap.size_push]
  have kH : ∀ b o, s.heap.get? b = some o → H.get? b = some o := fun b o e => hH ▸ Heap.get?_push_of_some _ e
  have hit1 : IsRevT H I t ((items.size : Int) - 1) := kH _ _ hit
  have ht1 : IsTup H t items := by obtain ⟨o, e, r⟩ := id ht; exact ⟨o, kH _ _ e, r⟩
  have hS : H.get? s.heap.objs.size = some { cls := .type "list", data := .seq ([] : List Value).toArray } := hH ▸ Heap.get?_push_size _ rfl
  have hT : Shared.TypeIs { s with heap := H } (.ref I) "reversed" := ⟨_, hit1, rfl⟩
  unfold Builtin.List.listExtendWith
  refine wpAny_bind (wpAny_typeOf hT ?_)
  have h1 : Builtin.List.listSameRef (.ref s.heap.objs.size) (.ref I) = false := by
    have : s.heap.objs.size ≠ I := Nat.ne_of_gt hIl
    simp [Builtin.List.listSameRef, this]
  have h2 : (Value.type "reversed" == Value.type "list") = false := by decide
  have h3 : (Value.type "reversed" == Value.type "tuple") = false := by decide
  simp only [h1, h2, h3, Bool.or_false, Bool.false_eq_true, if_false]
  refine wpAny_bind (iter_revT (s := { s with heap := H }) hit1 ?_)
  refine wpAny_bind (wpAny_holding ?_)
  unfold Builtin.List.listLengthHint
  refine wpAny_bind (wpAny_specialOf hT RV.no_len ?_)
  show wpAny _ A.in1 (specialOf (Value.ref I) (Str.ofString "__length_hint__") >>= _) _ _ _
  refine wpAny_bind (wpAny_specialOf hT RV.slot_hint.lookup ?_)
  (generalize hid : ("reversed.__length_hint__" : String) = id0; (fail_if_success (clear hid id0)); wp_delta; rw [show splitId id0 = some ("reversed", "__length_hint__") from by subst hid; decide +kernel]; subst hid)
  refine wpAny_bind (wpAny_isInstance (b := true) hT (by rw [isSubtype_type]; kernel_rfl) ?_)
  show wpAny _ A.in1 (rule "list.length-hint.hint" >>= _) _ _ _
  refine wpAny_bind (wpAny_rule ?_)
  refine wpAny_bind (wpAny_of_eq (RV.slot_hint.bind _) ?_)
  dsimp only
  refine wpAny_bind (wpAny_attempt (hint_revT (s := { s with heap := H }) hit1 ht1 hn fun tk u htk => ?_))
  dsimp only
  rw [show asInt? (Value.int (items.size : Int) u) = pure (some (items.size : Int)) from rfl]
  rw [pure_bind]
  dsimp only
  have f1 : Builtin.List.listFitsIndex (items.size : Int) = true := by
    unfold Builtin.List.listFitsIndex
    have := line63
    simp only [Bool.and_eq_true, decide_eq_true_eq]
    omega
  have f2 : Builtin.List.listTooLong (items.size : Int).toNat = false := by
    unfold Builtin.List.listTooLong
    simp only [Int.toNat_natCast, decide_eq_false_iff_not]
    omega
  try dsimp only
  rw [if_neg (by rw [f1]; decide)]
  rw [if_neg (by omega)]
  rw [if_neg (by rw [f2]; decide)]
  have ntI : s.heap.objs.size ∉ [I, t] := by
    intro z
    rcases List.mem_cons.mp z with z | z
    · exact Nat.ne_of_gt hIl z
    · exact Nat.ne_of_gt htl (List.mem_singleton.mp z)
  have W := Walks_revT (prog := prog) (w := w) (A := A.in1) hh I t hne items hn
  refine wpAny_pure ?_
  have go : ∀ G : Heap, (∀ b o, b ≠ s.heap.objs.size → H.get? b = some o → G.get? b = some o) → 
      ∀ s', Moved [s.heap.objs.size, I] (fun a b => b = a) { s with heap := G, toks := tk } s' → (∀ b o, b ≠ I → s.heap.get? b = some o → s'.heap.get? b = some o) ∧ s'.gens = s.gens ∧ s'.drawn = s.drawn ∧ s'.os = s.os := fun G kG s' hm => by
    refine ⟨fun b o hb e => hm.heap b o (fun h => by rcases List.mem_cons.mp h with h | h; exact Nat.ne_of_lt (Heap.lt_size e) h; exact hb (List.mem_singleton.mp h)) (kG b o (Nat.ne_of_lt (Heap.lt_size e)) (kH b o e)), hm.gens, hm.drawn, hm.os⟩
  by_cases h0 : items.size = 0
  · rw [if_neg (by simp [h0]; decide)]
    have st0 : 0 ≤ items.size ∧ IsRevT H I t ((items.size : Int) - 1 - ((0 : Nat) : Int)) ∧ IsTup H t items := ⟨Nat.zero_le _, by simpa using hit1, ht1⟩
    refine wpAny_pure ⟨plainId_quiet F.plain_extend_loop _, codeAny_extend_loopS W.toS hn _ ntI _ items.size 0 { s with heap := H, toks := tk } #[] _ rfl (Nat.zero_le _) st0 hS (ItemsOf.nil _) fun s' acc' c' hm' hS' hacc => ?_⟩
    show wpAny _ A (load s.heap.objs.size >>= _) _ _ s'
    refine wpAny_bind (wpAny_load hS' ?_)
    obtain ⟨k1, k2, k3, k4⟩ := go H (fun _ _ _ e => e) s' hm'
    exact wpAny_pure (hQ s' acc' k1 k2 k3 k4 hacc)
  · rw [if_pos (by simp [h0])]
    refine wpAny_bind (wpAny_rule ?_)
    refine wpAny_bind ?_
    show wpAny _ A.in1 (updateSeq s.heap.objs.size (·.push .none) >>= fun _ => updateSeq s.heap.objs.size (·.pop)) _ _ { s with heap := H, toks := tk }
    refine wpAny_bind (wpAny_updateSeq (s := { s with heap := H, toks := tk }) hS rfl ?_ (hz := by show 0 ≤ sizeLine; exact Nat.zero_le _) (_hz' := by show 1 ≤ sizeLine + 1; exact Nat.le_add_left _ _))
    have hS3 := Heap.get?_update_self (Obj.mapSeq (·.push .none)) hS rfl
    refine (wpAny_updateSeq (s := { s with heap := H.update s.heap.objs.size (Obj.mapSeq (·.push .none)), toks := tk }) hS3 rfl ?_ (hz := by show 1 ≤ sizeLine; decide) (_hz' := by show 0 ≤ sizeLine + 1; exact Nat.zero_le _))
    have hS4 := Heap.get?_update_self (Obj.mapSeq (·.pop)) hS3 rfl
    generalize hG2 : (H.update s.heap.objs.size (Obj.mapSeq (·.push .none))).update s.heap.objs.size (Obj.mapSeq (·.pop)) = G2 at hS4 ⊢
    have kG2 : ∀ b o, b ≠ s.heap.objs.size → H.get? b = some o → G2.get? b = some o := fun b o hb e => by
      rw [← hG2]
      exact (Heap.get?_update_other _ _ (Ne.symm hb)).trans ((Heap.get?_update_other _ _ (Ne.symm hb)).trans e)
    have st0 : 0 ≤ items.size ∧ IsRevT G2 I t ((items.size : Int) - 1 - ((0 : Nat) : Int)) ∧ IsTup G2 t items := ⟨Nat.zero_le _, by rw [show (items.size : Int) - 1 - ((0 : Nat) : Int) = (items.size : Int) - 1 by omega]; exact kG2 _ _ (Nat.ne_of_lt hIl) hit1, by obtain ⟨o, e, r⟩ := id ht1; exact ⟨o, kG2 _ _ (Nat.ne_of_lt htl) e, r⟩⟩
    refine wpAny_pure ⟨plainId_quiet F.plain_extend_loop _, codeAny_extend_loopS W.toS hn _ ntI _ items.size 0 { s with heap := G2, toks := tk } #[] _ rfl (Nat.zero_le _) st0 hS4 (ItemsOf.nil _) fun s' acc' c' hm' hS' hacc => ?_⟩
    show wpAny _ A (load s.heap.objs.size >>= _) _ _ s'
    refine wpAny_bind (wpAny_load hS' ?_)
    obtain ⟨k1, k2, k3, k4⟩ := go G2 kG2 s' hm'
    exact wpAny_pure (hQ s' acc' k1 k2 k3 k4 hacc)
theorem code_tuple_revT {I t : Addr} {items : Array Value} {Q₁ : Value → Shared → Prop} (hh : A.handled = none) (hne : t ≠ I) (hit : IsRevT s.heap I t ((items.size : Int) - 1)) (ht : IsTup s.heap t items) (hn : items.size ≤ sizeLine)
    (h : ∀ (s' : Shared) (acc : Array Value), (∀ b o, b ≠ I → s.heap.get? b = some o → s'.heap.get? b = some o) → s'.gens = s.gens → s'.drawn = s.drawn → s'.os = s.os → ItemsOf (fun i v => items[items.size - 1 - i]? = some v) acc items.size →
      Q₁ (.ref s'.heap.objs.size) { s' with heap := s'.heap.push { cls := .type "tuple", data := .seq acc } }) :
    codeAny (model prog w) A (.call (.builtin "tuple.__new__") ⟨[.type "tuple", .ref I], []⟩) (wants Q₁ E) s := by
  refine codeAny_of_tree ?_
  show wpAny _ A.in1 (do checkBuiltinCall "tuple.__new__" ⟨[.type "tuple", .ref I], []⟩; again (.builtin "tuple.__new__" ⟨[.type "tuple", .ref I], []⟩)) _ _ s
  refine wpAny_bind (wpAny_of_eq (F.newCall_tuple_1 _) (wpAny_pure ⟨plainId_quiet F.plain_tuple_new _, codeAny_builtin F.entry_tuple_new ?_⟩))
  rw [Around.under_plainId F.plain_tuple_new _]
  have hsub := sub_tuple_self
  have hinit := init_tuple_lookup
  have hmh := madeHere_tuple
  have hTI : s.TypeIs (.ref I) "reversed" := ⟨_, hit, rfl⟩
  wp_walk using wpAny_typeOf hTI, collect_revT (A := A.in1) hh hne hit ht hn
  intro s' acc k1 k2 k3 k4 hacc
  show wpAny _ _ (Builtin.Tuple.tupleExact acc.toList.toArray >>= fun v => ret v) _ _ _
  unfold Builtin.Tuple.tupleExact
  refine wpAny_bind (wpAny_newObj_type ?_ (by show acc.toList.toArray.size ≤ sizeLine; simp only [Array.toArray_toList]; rw [hacc.1]; exact hn))
  refine wpAny_pure ?_
  have e : acc.toList.toArray = acc := by simp
  rw [e]
  exact h s' acc k1 k2 k3 k4 hacc
theorem call_tuple_revT {I t : Addr} {items : Array Value} {Q : Value → Shared → Prop} (hh : A.handled = none) (hne : t ≠ I) (hit : IsRevT s.heap I t ((items.size : Int) - 1)) (ht : IsTup s.heap t items) (hn : items.size ≤ sizeLine)
    (h : ∀ (s' : Shared) (acc : Array Value), (∀ b o, b ≠ I → s.heap.get? b = some o → s'.heap.get? b = some o) → s'.gens = s.gens → s'.drawn = s.drawn → s'.os = s.os → ItemsOf (fun i v => items[items.size - 1 - i]? = some v) acc items.size →
      Q (.ref s'.heap.objs.size) { s' with heap := s'.heap.push { cls := .type "tuple", data := .seq acc } }) :
    wpAny (model prog w) A (call (.type "tuple") [.ref I]) Q E s := by
  refine callType_codes (Q₁ := fun obj s₁ => s₁.TypeIs obj "tuple" ∧ Q obj s₁) F.called_tuple (F.typeCall_tuple_1 _) F.entry_object_init
    (code_tuple_revT hh hne hit ht hn fun s' acc k1 k2 k3 k4 hacc => ⟨⟨_, Heap.get?_push_size _ rfl, rfl⟩, h s' acc k1 k2 k3 k4 hacc⟩) fun obj s₁ h₁ => ?_
  exact ⟨h₁.1, F.args_object_init_2 obj _, object_init_meets F.called_tuple.init.lookup F.called_tuple.made (by decide) prog w A.in1 _ s₁ ⟨h₁.1, rfl, h₁.2⟩⟩
end
section
variable {X : Cx}
end
end L2
set_option Elab.async false
set_option linter.all false
set_option maxRecDepth 100000
set_option maxHeartbeats 4000000
namespace L2
open PySem PySem.Spec PyProof.Rows
def FnAt (f : Addr) (o : Obj) : Heap → Prop := fun h => h.get? f = some o
def CdAt (c : Addr) (q : Str) : Heap → Prop := fun h => ∃ o vs t, h.get? c = some o ∧ o.data = .fields vs ∧ vs[1]? = some (.str q t)
def less (H : Hp) (c : Addr) : Hp := fun b => if b = c then none else H b
def back (H K : Hp) (c : Addr) : Hp := fun b => if b = c then K c else H b
end L2
set_option Elab.async false
set_option linter.all false
set_option maxRecDepth 100000
set_option maxHeartbeats 4000000
namespace L2
open PySem PySem.Spec PyProof.Rows
section
variable {X : Cx}
end
end L2
set_option Elab.async false
set_option linter.all false
set_option maxRecDepth 100000
set_option maxHeartbeats 4000000
namespace L2
open PySem PySem.Spec PyProof.Rows
def OnlyT (T : Addr) (H : Hp) : Prop := H T = some (.tbl #[]) ∧ ∀ b, b ≠ T → H b = none ∨ ∃ o xs, H b = some (.frz o (.lst xs))
open PySem.W in
theorem law_callT {P : Program} {w : World} {K : PySem.W.Frag} {mg mb : Str → Option Value} {k : Nat} {fa a T c0 : Addr} {fd : FuncData} {x : Str} {sp : Sp} {s₁ : Shared} {vs : List Value} {ns : List Int}
    (KX : K.In s₁.heap) (hns : s₁.heap.Ns mainGlobals mg) (hb : s₁.heap.Ns builtinsNs mb) (hbb : ∀ x : Str, x ≠ "__name__" → mb x = bootBuiltins x) (hlim : s₁.heap.NoLimit) (hg : s₁.gens = #[])
    (ha : s₁.heap.get? a = some { cls := .type "list", data := .seq vs.toArray }) (hi : IntsAre vs ns) (hl : ns.length ≤ sizeLine) (hr : Room k callerA)
    (hC : CodeHd s₁.heap c0 T) (hT : s₁.heap.get? T = some (tabObj #[])) (hTK : K.lookup T = none) (hbm : ∃ bm ob, mg "__builtins__" = some (.ref bm) ∧ bm ≠ builtinsNs ∧ s₁.heap.get? bm = some ob ∧ ob.cls = .type "module" ∧ ob.dict = some builtinsNs ∧ ob.data = .plain)
    (F : ∀ base : Heap, K.In base → base.Ns mainGlobals mg → base.BuiltinsAt mg T → FnOk P w K mg base CX0 k fa fd [x] sp) (hbind : ∀ (s : Shared) (u : Value), BindsTo s fd ⟨[u], []⟩ [(x, u)])
    (hsp : ∀ H : Hp, OnlyT T H → SqL K H a (ns.map V.int) → sp [.ref a] H (fun v _ => v = .bl true) E0) :
    codeAny (model P w) callerA (.call (.ref fa) ⟨[.ref a], []⟩) (fun r s' => r = .ok (.ret (.bool true)) ∧ OldK s₁.heap s'.heap ∧ s'.os = s₁.os ∧ AllBare s'.gens) s₁ := by
  have rv := vals_ints hi
  have lenV := hi.length
  have naT : a ≠ T := fun z => by rw [z, hT] at ha; cases ha
  have core : ∀ H : Hp, OnlyT T H → SqL K H a (ns.map V.int) → HOk P w H s₁.heap → (∀ b, H b ≠ none → b = a ∨ b = T) → (H a ≠ none → K.lookup a = none) →
      codeAny (model P w) callerA (.call (.ref fa) ⟨[.ref a], []⟩) (fun r s' => r = .ok (.ret (.bool true)) ∧ OldK s₁.heap s'.heap ∧ s'.os = s₁.os ∧ AllBare s'.gens) s₁ := by
    intro H hO hS hok hA hK
    have base_of : ∀ {b : Addr} {o : Obj}, s₁.heap.get? b = some o → H b = none → (hidT s₁.heap H).get? b = some o := fun e n => hidT_get e n
    have free_of : ∀ {b : Addr} {o : Obj}, s₁.heap.get? b = some o → (∀ its n, o.data ≠ .seq its n) → (∀ fs, o.data ≠ .fields fs) → H b = none := fun {b o} e d1 d2 => by
      cases q : H b with
      | none => rfl
      | some u =>
        rcases hA b (by rw [q]; simp) with z | z
        · rw [z, ha] at e; cases e; exact absurd rfl (d1 _ _)
        · rw [z, hT] at e; cases e; exact absurd rfl (d2 _)
    have nsK : ∀ {b : Addr} {m : Str → Option Value}, s₁.heap.Ns b m → (hidT s₁.heap H).Ns b m := fun {b m} ⟨o, es, ep, e, d, r⟩ => ⟨o, es, ep, base_of e (free_of e (fun its n z => by rw [z] at d; cases d) (fun fs z => by rw [z] at d; cases d)), d, r⟩
    have hKb : K.In (hidT s₁.heap H) := fun b o e => base_of (KX b o e) (by
      cases q : H b with
      | none => rfl
      | some u =>
        rcases hA b (by rw [q]; simp) with z | z
        · subst z; rw [hK (by rw [q]; simp)] at e; cases e
        · subst z; rw [hTK] at e; cases e)
    have hM : Mod K mg (hidT s₁.heap H) := ⟨hKb, nsK hns, ⟨mb, nsK hb, hbb⟩, let ⟨mc, h1, h2⟩ := hlim; ⟨mc, nsK h1, h2⟩⟩
    have hB : (hidT s₁.heap H).BuiltinsAt mg T := by
      obtain ⟨bm, ob, b1, b2, b3, b4, b5, b6⟩ := hbm
      refine ⟨bm, ob, b1, b2, fun z => ?_, fun z => ?_, base_of b3 (free_of b3 (fun its n z => by rw [b6] at z; cases z) (fun fs z => by rw [b6] at z; cases z)), b4, b5, b6⟩
      · obtain ⟨o, es, ep, e, d, _⟩ := hns
        rw [← z, b3] at e; cases e; rw [b6] at d; cases d
      · rw [z, hT] at b3; cases b3; cases b6
    have e0 : Env0 P w K mg (hidT s₁.heap H) callerA [] s₁ H := ⟨rfl, hM, fun b o e => of_hidT e, Nat.le_of_eq (hidT_size _ _), trivial, fun b hb => absurd (show b ∈ ([] : List Addr) from hb) (by simp), hok, .of_eq hg⟩
    refine codeAny_mono ((F _ hKb (nsK hns) hB).run callerA [] s₁ H ⟨[.ref a], []⟩ [.ref a] [.ref a] _ _ hr e0 (hbind s₁ (.ref a)) (.cons rfl .nil) (hsp H hO hS)) fun r s' h => ?_
    cases r with
    | error e => exact h.elim
    | ok fl =>
      cases fl with
      | next => exact False.elim h
      | brk => exact False.elim h
      | cont => exact False.elim h
      | ret u =>
        obtain ⟨v, H', os, bare, un, hok', r', q⟩ := h
        have q' : v = .bl true := q
        subst q'
        obtain rfl : u = Value.bool true := r'
        refine ⟨rfl, ⟨fun b o e => ?_, fun b o e => un.there b o e (by simp)⟩, os, bare⟩
        by_cases zT : b = T
        · subst zT
          obtain ⟨more, e2⟩ := un.tbls b #[] hO.1
          rw [hT] at e; cases e
          have e3 : s'.heap.get? b = some { cls := .none, data := .fields (#[] ++ more) } := hok' b _ e2
          obtain ⟨oc, vc, f, tf, fl, tg, i1, tx, tt, c1, c2, c3, c4, _⟩ := hC
          exact .inr (.inl ⟨⟨c0, oc, vc, c1, c2, c3, c4⟩, rfl, #[], more, rfl, e3⟩)
        · refine .inl ?_
          rcases hO.2 b zT with z | ⟨ob, xs, z⟩
          · exact un.keep b o e z (by intro z; exact absurd (show b ∈ ([] : List Addr) from z) (by simp)) (by simp)
          · have z2 := un.frzs b ob _ z
            obtain ⟨e1, _⟩ := hok b _ z
            obtain ⟨e2, _⟩ := hok' b _ z2
            rw [e] at e1; cases e1
            exact e2
  cases hk : K.lookup a with
  | some o =>
    have e := KX a o hk
    rw [ha] at e
    cases e
    refine core (fun b => if b = T then some (.tbl #[]) else none) ⟨if_pos rfl, fun b n => .inl (if_neg n)⟩ (.inr ⟨_, vs.toArray, _, hk, rfl, rfl, rfl, by rw [List.size_toArray, lenV]; exact hl, by simpa using rv⟩) (fun b u z => ?_) (fun b z => ?_) fun z => absurd (if_neg naT) z
    · by_cases hb : b = T
      · have z' := (if_pos hb).symm.trans z
        cases z'; rw [hb]; exact hT
      · have z' := (if_neg hb).symm.trans z
        cases z'
    · by_cases hb : b = T
      · exact .inr hb
      · exact absurd (if_neg hb) z
  | none =>
    refine core (fun b => if b = T then some (.tbl #[]) else if b = a then some (.frz { cls := .type "list", data := .seq vs.toArray } (.lst (ns.map V.int))) else none) ⟨if_pos rfl, fun b n => ?_⟩ (.inl (.inr ⟨{ cls := .type "list", data := .seq vs.toArray }, (if_neg naT).trans (if_pos rfl)⟩)) (fun b u z => ?_) (fun b z => ?_) fun _ => hk
    · by_cases hb : b = a
      · exact .inr ⟨_, _, (if_neg n).trans (if_pos hb)⟩
      · exact .inl ((if_neg n).trans (if_neg hb))
    · by_cases hbT : b = T
      · have z' := (if_pos hbT).symm.trans z
        cases z'; rw [hbT]; exact hT
      · have z := (if_neg hbT).symm.trans z
        by_cases hb : b = a
        · have z' := (if_pos hb).symm.trans z
          cases z'
          subst hb
          exact ⟨ha, by rw [List.length_map]; exact hl, vs, _, rv, ha⟩
        · have z' := (if_neg hb).symm.trans z
          cases z'
    · by_cases hbT : b = T
      · exact .inr hbT
      · by_cases hb : b = a
        · exact .inl hb
        · exact absurd ((if_neg hbT).trans (if_neg hb)) z
open PySem.W in
theorem walk_ofT {l : PySem.W.OpenLaw} {n k : Nat} {q : Program} {loose : List Str} {XP : (Str → Option Value) → Heap → Prop} {YP : World → Heap → Prop} {d : DefRec} {K : Params → PySem.W.Frag} {sp : Addr → World → Sp} {x tn : Str}
    (hn : l.most = some n) (hn2 : n ≤ sizeLine) (hdf : d.params.defaults = []) (hr : Room k callerA) (hrec : ∃ e, (recsOf q).find? (fun e => e.name == tn) = some e)
    (hY : ∀ (w : World) (h : Heap), YP w h → (K w.params).In h)
    (F : ∀ (w : World) (mg : Str → Option Value) (fa : Addr) (h : Heap), (K w.params).In h → h.Ns mainGlobals mg → mg d.name = some (.ref fa) →
      ∃ (fd : FuncData) (c0 T : Addr), tabIn (K w.params) tn = some (c0, T) ∧ (K w.params).lookup T = none ∧ (∀ (s : Shared) (u : Value), BindsTo s fd ⟨[u], []⟩ [(x, u)]) ∧
        ∀ base : Heap, (K w.params).In base → base.Ns mainGlobals mg → base.BuiltinsAt mg T → FnOk l.prog w (K w.params) mg base CX0 k fa fd [x] (sp T w))
    (hsp : ∀ (w : World) (T : Addr) (H : Hp) (a : Addr) (ns : List Int), ns.length ≤ n → OnlyT T H → SqL (K w.params) H a (ns.map V.int) → sp T w [.ref a] H (fun v _ => v = .bl true) E0) :
    PySem.W.WalkO q loose XP YP l.row.toRowW d [] (fun f vs => PySem.call f vs) := by
  refine Att.attach_call hn hdf fun w s₀ s₁ mg mb fa o pm cd doc a vs ns G Y ho hd hcd hmg hobj hints hlen hg => ?_
  have KX := hY w _ Y
  obtain ⟨fd, c0, T, ht, htk, hb, hF⟩ := F w mg fa _ KX G.T.g hmg
  obtain ⟨e, he⟩ := hrec
  obtain ⟨hC, hT⟩ := tab_of G.T KX he ht
  exact law_callT KX G.T.g G.T.b G.T.builtins G.T.nolimit hg hobj hints (Nat.le_trans hlen hn2) hr hC hT htk G.T.bmain hF hb (fun H hO hS => hsp w T H a ns hlen hO hS)
end L2
set_option Elab.async false
set_option linter.all false
set_option maxRecDepth 100000
set_option maxHeartbeats 4000000
namespace L2
open PySem PySem.Spec PyProof.Rows
section
variable {X : Cx} {pins : List (Addr × Obj)} {σ : St} {H : Hp} {s : Shared} {scope : Scope} {N' own : List Str}
theorem ps_setC {elt target iter : Expr} {ifs : List Expr} {pos spos pos' : Pos} {i0 : Nat} {x : Str} {wi : TI} {g : TG} {tt : TT} {te : TE} (hN : X.N.Nodup) (hi0 : X.N[i0]? = some x) (hx : Loc X.env.scope x) (S : CompScope X scope N' own) (hc : X.calm = true) (hi : PI X target iter wi)
    (hg : ∀ C s H fp pins, PG (cxC X scope (N' ++ own) C s H fp pins) target g) (ht : ∀ C s H fp pins, PF (cxC X scope (N' ++ own) C s H fp pins) ifs tt) (he : ∀ C s H fp pins, PE (cxC X scope (N' ++ own) C s H fp pins) elt te)
    (hs : ∀ x, foldedSetIterable iter X.env x = pure x := by intro _; rfl) (hsw : swapsWith (.ListComp elt [⟨target, iter, ifs, 0⟩] scope pos) (some (.Name x pos')) spos.line X.env = pure true := by rfl)
    (hf : X.fn x = true ∨ X.env.scope.names.lookup x = some .local := by first | exact .inl rfl | exact .inr rfl | assumption) :
    PS X (.Assign [.Name x pos'] (.ListComp elt [⟨target, iter, ifs, 0⟩] scope pos) spos) (tAsg (tComp own.length wi g tt te) (gName i0)) := by
  refine ⟨?_⟩
  intro pins s σ H D0 I h
  rw [exec_Assign_Name_used _ _ _ _ hsw]
  refine wpAny_bind (wpAny_standAt (wpAny_bind ?_))
  show wpAny _ X.A (do let _ ← comprehension (.ListComp elt [⟨target, iter, ifs, 0⟩] scope pos) scope X.env _ (newList []) false (eval iter X.env) (some (assign (.Name x pos') X.env))) _ _ s
  refine wpAny_bind (wpAny_mono (wpAny_comprehension_free (use := some (assign (.Name x pos') X.env)) (Q := fun _ s' => SP X pins D0 .next s') rfl hs (closure_of (S.cells I)) S.kind S.names ?_) (fun _ s' hq => wpAny_pure (wpAny_pure hq)) fun _ _ e => e)
  refine thn (hi pins s σ H _ I h) fun v s1 h1 => thn h1 fun itv s2 h2 => ?_
  obtain ⟨it, fp, tn, J, H2, e, I2, T, st2, f2, W, ⟨m0, w0⟩, turn⟩ := h2
  subst e
  have fl : ∀ b ∈ fp, b < s2.heap.objs.size := fun b hb => by obtain ⟨o, e, _⟩ := T.obj _ _ st2 b hb; exact Heap.lt_size e
  refine wpAny_newObj_type (wpAny_newFunctionEnv S.nocell (by intro y hy; simp at hy) (fun h4 ns4 sb4 => ?_) S.kind)
  dsimp only at ns4 sb4 ⊢
  generalize hH3 : s2.heap.push { cls := .type "list", dict := none, data := .seq ([] : List Value).toArray } = h3 at ns4 sb4 ⊢
  have hC : h3.objs.size = s2.heap.objs.size + 1 := by rw [← hH3, Heap.size_push]
  have hDC : s2.heap.objs.size ≠ h3.objs.size := by rw [hC]; exact Nat.ne_of_lt (Nat.lt_succ_self _)
  have hCle : s2.heap.objs.size ≤ h3.objs.size := by rw [hC]; exact Nat.le_succ _
  have eD3 : h3.get? s2.heap.objs.size = some { cls := .type "list", data := .seq ([] : List Value).toArray } := hH3 ▸ Heap.get?_push_size _ rfl
  have k4 : ∀ b u, s2.heap.get? b = some u → h4.get? b = some u := fun b u e =>
    (sb4.2 b (Nat.ne_of_lt (Nat.lt_of_lt_of_le (Heap.lt_size e) hCle))).trans (Heap.get?_push_of_some _ (hH3 ▸ Heap.get?_push_of_some _ e))
  have eD4 : h4.get? s2.heap.objs.size = some { cls := .type "list", data := .seq ([] : List Value).toArray } := (sb4.2 _ hDC).trans (Heap.get?_push_of_some _ eD3)
  generalize hDd : s2.heap.objs.size = D at *
  generalize hCd : h3.objs.size = C at *
  have I4 := inv_comp S I2 (C := C) (D := D) (fp := fp) (h4 := h4) (tk := s2.toks + ([] : List (Str × Value)).length) k4 (by rw [hDd]; exact hCle) (by rw [hDd]; exact Nat.le_refl _) hDC eD4 (by intro v z; cases z) ns4 f2 (by rw [hDd]; exact fl)
  have lowC : ∀ (b : Addr) (u : Obj), s2.heap.get? b = some u → b ≠ C := fun b u e => Nat.ne_of_lt (Nat.lt_of_lt_of_le (Heap.lt_size e) (by rw [hDd]; exact hCle))
  have nofp : ∀ b ∈ fp, b ∉ frs X.stack := fun b hb hm => by
    rcases List.mem_cons.mp (I2.stkSub b hm) with z | z
    · exact (f2 b hb).2.1 z
    · exact (f2 b hb).2.2.1 z
  have fpD : ∀ b ∈ fp, b ≠ D := fun b hb => Nat.ne_of_lt (fl b hb)
  have stat : ∀ {H' : Hp} {o : Obj}, (∀ b ∈ fp, H' b = none) → ∀ b ∈ fp, FpOk (cxC X scope (N' ++ own) C s2 H2 fp pins) [(D, o)] H' b := fun {H' o} hn b hb =>
    ⟨hn b hb, Nat.ne_of_lt (Nat.lt_of_lt_of_le (fl b hb) hCle), nofp b hb, .inl hb, fun x c e => (f2 b hb).2.2.2.2.1 x c (cl_cell S I2 e), fun p hp => by
      have hp' : p ∈ (X.pn ++ pins) ++ [(D, o)] := hp
      rcases List.mem_append.mp hp' with z | z
      · exact (f2 b hb).2.2.2.2.2 p z
      · have e : p = (D, o) := by simpa using z
        rw [e]; exact Ne.symm (fpD b hb)⟩
  have loop : ∀ s3 : Shared, Inv (cxC X scope (N' ++ own) C s2 H2 fp pins) [(D, { cls := .type "list", data := .seq ([] : List Value).toArray })] (σ ++ List.replicate own.length none) H2 s3 → tn 0 s3.heap →
      codeAny (model X.prog X.w) X.A (.compLoop (.ListComp elt [⟨target, iter, ifs, 0⟩] scope pos) 0 (.ref it) (.ref D) (compEnvC scope (clOf scope.names X.env.cells) C X.env))
        (compPost (model X.prog X.w) X.A X.xe (some (assign (.Name x pos') X.env)) (fun _ s' => SP X pins D0 .next s') (.ref D) C) s3 := by
    intro s3 I3 st3
    refine codeAny_compLoop_go (fun n s' => ∃ (i : Nat) (ys : List V) (σ' : St) (H' : Hp) (vals : List Value) (cnt : Nat), Inv (cxC X scope (N' ++ own) C s2 H2 fp pins) [(D, { cls := .type "list", data := .seq vals.toArray cnt })] σ' H' s' ∧
      tn i s'.heap ∧ (∀ b ∈ fp, H' b = none) ∧ Vals ys vals ∧ W i n ys σ' H') ?_ m0 ⟨0, [], _, H2, [], 0, I3, st3, fun b hb => (f2 b hb).1, .nil, w0⟩
    rintro n s3 ⟨i, ys, σ3, H3, vals, cnt, I3, st3, fr3, rv, w3⟩
    rcases turn i n ys σ3 H3 w3 with ⟨stop, hz, q⟩ | ⟨go, hz, N, hN, step⟩
    · refine thn (T.done (cxC X scope (N' ++ own) C s2 H2 fp pins) rfl rfl rfl hc i _ s3 σ3 H3 _ I3 (stat fr3) st3 stop) fun r s4 ⟨hr, I4⟩ => ?_
      subst hr
      obtain ⟨m, ns, _⟩ := id I4.loc
      have u4 : Un (frs X.stack) fp H2 H3 s2.heap s4.heap := I4.base
      have nC : H3 C = none := I4.free
      have I5 : Inv X pins σ H3 s4 := I2.call' (ch := fp) I4.os u4 I4.hok I4.bare fun b hb => ⟨(f2 b hb).2.2.2.1, (f2 b hb).2.1, (f2 b hb).2.2.2.2.1, (f2 b hb).2.2.2.2.2⟩
      obtain ⟨eD, nD, _⟩ := I4.pin (D, _) (List.mem_append_right _ List.mem_cons_self)
      have lL : X.env.locals < D := by have := I2.lt; rw [hDd] at this; exact this
      have lcl : ∀ x c, X.env.cells.lookup x = some c → c < D := fun x c e => by
        obtain ⟨v, o, ho, _⟩ := I2.cell x c e
        have := Heap.lt_size ho; rw [hDd] at this; exact this
      have lp : ∀ p ∈ X.pn ++ pins, p.1 < D := fun p hp => by have := Heap.lt_size (I2.pin p hp).1; rw [hDd] at this; exact this
      have lDC : D < C := Nat.lt_of_le_of_ne hCle hDC
      have I6 : Inv X pins σ (upd H3 D (.lst ys)) s4 := inv_track I5 nD (by rw [← hDd]; exact I2.sz) (Nat.ne_of_gt lL) (fun x c e => Nat.ne_of_lt (lcl x c e)) (fun p hp => Nat.ne_of_lt (lp p hp)) ⟨hz, vals, cnt, rv, eD⟩
      refine wpAny_assign_Name (store_ok2 I6 hN hi0 hx (v := .ref D) rfl (fun s5 I7 ⟨a, sba, ha⟩ => ?_) hf)
      have nCa : C ≠ a := by
        rcases ha with z | z
        · rw [z]; exact Nat.ne_of_gt (Nat.lt_trans lL lDC)
        · exact Nat.ne_of_gt (Nat.lt_trans (lcl _ _ z) lDC)
      obtain ⟨oC, esC, epC, eC, rC⟩ := ns
      refine ⟨m, ⟨oC, esC, epC, (sba.2 C nCa).trans eC, rC⟩, fun h' sb => ?_⟩
      refine ⟨_, _, I7.turned (t' := s5.toks) (it := C) (fun b o hb e => (sb.2 b hb).trans e) (by rw [upd_ne (Nat.ne_of_gt lDC)]; exact nC) (Nat.ne_of_gt (Nat.lt_trans lL lDC)) (.inr (Nat.le_trans (by rw [← hDd]; exact I2.sz) (Nat.le_of_lt lDC))) (fun x c e => Nat.ne_of_lt (Nat.lt_trans (lcl x c e) lDC)) (fun p hp => Nat.ne_of_lt (Nat.lt_trans (lp p hp) lDC)), q D nD⟩
    · refine thn (T.item (cxC X scope (N' ++ own) C s2 H2 fp pins) rfl rfl rfl hc i _ s3 σ3 H3 _ I3 (stat fr3) st3 go) fun r s4 ⟨u, hr, h4⟩ => ?_
      subst hr
      refine thn h4 fun _ s5 ⟨x, H5, I5, r5, y5, st5, fr5⟩ => ?_
      have I5' := I5.pinned (stat fr5) (T.obj _ _ st5)
      have keepT : ∀ {σ7 : St} {H7 : Hp} {s7 : Shared} {pl : List (Addr × Obj)}, Inv (cxC X scope (N' ++ own) C s2 H2 fp pins) (pl ++ pinsAt fp s5.heap) σ7 H7 s7 → tn (i + 1) s7.heap ∧ ∀ b ∈ fp, H7 b = none := fun {σ7 H7 s7 pl} I7 =>
        ⟨T.keep _ _ _ st5 fun b hb o e => (I7.pin (b, o) (List.mem_append_right _ (List.mem_append_right _ (mem_pinsAt hb e)))).1, fun b hb => by
          obtain ⟨o, e, d⟩ := T.obj _ _ st5 b hb
          exact (I7.pin (b, o) (List.mem_append_right _ (List.mem_append_right _ (mem_pinsAt hb e)))).2.1⟩
      refine noRaise (hg C s2 H2 fp pins _ s5 σ3 H5 x u _ I5' r5 (step x H5 y5)) fun _ s6 ⟨σ6, H6, I6, q6⟩ => ?_
      refine noRaise (ht C s2 H2 fp pins _ s6 σ6 H6 _ I6 q6) fun b s7 ⟨H7, I7, q7⟩ => ?_
      cases b with
      | false =>
        obtain ⟨m', hm, w7⟩ := hN _ _ _ q7
        obtain ⟨t7, fr7⟩ := keepT I7
        exact ⟨m', hm, i + 1, ys, σ6, H7, vals, cnt, I7.unpinned, t7, fr7, rv, w7⟩
      | true =>
        refine noRaise (he C s2 H2 fp pins _ s7 σ6 H7 _ I7 q7) fun y s8 ⟨yv, H8, I8, r8, q8⟩ => ?_
        obtain ⟨m', hm, w8⟩ := hN _ _ _ q8
        obtain ⟨eD, nD, neD, nfD, cD⟩ := I8.pin (D, _) (List.mem_append_right _ (List.mem_append_left _ List.mem_cons_self))
        have hvl := rv.length
        refine call_meets F.slot_list_append ⟨_, eD, rfl⟩ F.entry_list_append (F.args_list_append_2 _ _) (PySem.list_append D vals.toArray cnt y (by rw [List.size_toArray]; omega)) ⟨eD, ?_⟩
        have I8' : Inv (cxC X scope (N' ++ own) C s2 H2 fp pins) (pinsAt fp s5.heap) σ6 H8 s8 := I8.pins_of fun p hp => I8.pin p (List.mem_append_right _ (List.mem_append_right _ hp))
        have hno : ∀ p ∈ (X.pn ++ pins) ++ pinsAt fp s5.heap, p.1 ≠ D := fun p hp => by
          rcases List.mem_append.mp hp with z | z
          · intro q
            have := Heap.lt_size (I2.pin p z).1; rw [hDd, q] at this; exact Nat.lt_irrefl _ this
          · exact fpD _ (of_pinsAt z).1
        have I9 := I8'.turned (t' := s8.toks) (it := D) (h' := s8.heap.update D (Obj.mapSeq fun x => x.push y)) (fun b o hb e => (Heap.get?_update_other s8.heap _ (Ne.symm hb)).trans e) nD neD (.inr (by show s2.heap.objs.size ≤ D; rw [hDd]; exact Nat.le_refl _))
          (fun x c e z => by
            obtain ⟨v, o, ho, _⟩ := I2.cell x c (cl_cell S I2 e)
            have := Heap.lt_size ho; rw [hDd, z] at this; exact Nat.lt_irrefl _ this) hno
        obtain ⟨t9, fr9⟩ := keepT (pl := []) I9
        have qD : ∃ n', (s8.heap.update D (Obj.mapSeq fun x => x.push y)).get? D = some { cls := .type "list", data := .seq (vals ++ [y]).toArray n' } := by
          have q := PySem.IsL.update (l := D) (items := vals.toArray) (n := cnt) (h := s8.heap) eD fun x => x.push y
          have e : vals.toArray.push y = (vals ++ [y]).toArray := by simp
          rw [← e]
          exact ⟨_, q⟩
        obtain ⟨n', qD⟩ := qD
        refine ⟨m', hm, i + 1, ys ++ [yv], σ6, H8, vals ++ [y], n', I9.pins_of fun p hp => ?_, t9, fr9, rv.append (.cons r8 .nil), w8⟩
        have e := List.mem_singleton.mp hp
        rw [e]
        exact ⟨qD, nD, neD, nfD, by intro v z; cases z⟩
  have t4 : tn 0 h4 := T.keep _ _ _ st2 fun b _ o e => k4 b o e
  exact codeAny_compStart_list (loop _ I4 t4) (T.self _ 0 _ _ _ t4 (loop _ I4 t4))
end
end L2
set_option Elab.async false
set_option linter.all false
set_option maxRecDepth 100000
set_option maxHeartbeats 4000000
namespace L2
open PySem PySem.Spec PyProof.Rows PySem.W
section
variable {n : Nat} {rk : Nat → Nat} {cmp : Nat → Nat → (Bool → Shared → Prop) → Shared → Prop} {s : Shared} {p : Array Nat}
end
end L2
set_option Elab.async false
set_option linter.all false
set_option maxRecDepth 100000
set_option maxHeartbeats 4000000
namespace L2
open PySem PySem.Spec PyProof.Rows PySem.W
end L2
set_option Elab.async false
set_option linter.all false
set_option maxRecDepth 100000
set_option maxHeartbeats 4000000
namespace L2
open PySem PySem.Spec PyProof.Rows PySem.W
section
variable {prog : Program} {w : World} {A : Around} {E : Value → Shared → Prop} {s : Shared}
end
end L2
set_option Elab.async false
set_option linter.all false
set_option maxRecDepth 100000
set_option maxHeartbeats 4000000
namespace L2
open PySem PySem.Spec PyProof.Rows PySem.W
section
variable {X : Cx} {pins : List (Addr × Obj)} {σ : St} {H H' : Hp} {s : Shared} {h' : Heap}
end
end L2
set_option Elab.async false
set_option linter.all false
set_option maxRecDepth 100000
set_option maxHeartbeats 4000000
namespace L2
open PySem PySem.Spec PyProof.Rows PySem.W
section
variable {X : Cx}
end
end L2
set_option Elab.async false
set_option linter.all false
set_option maxRecDepth 100000
set_option maxHeartbeats 4000000
namespace L2
open PySem PySem.Spec PyProof.Rows PySem.W
section
variable {prog : Program} {w : World} {A : Around} {E : Value → Shared → Prop} {s : Shared}
end
end L2
set_option Elab.async false
set_option linter.all false
set_option maxRecDepth 100000
set_option maxHeartbeats 4000000
namespace L2
open PySem PySem.Spec PyProof.Rows PySem.W
section
variable {prog : Program} {w : World} {A : Around} {E : Value → Shared → Prop} {s : Shared}
end
end L2
set_option Elab.async false
set_option linter.all false
set_option maxRecDepth 100000
set_option maxHeartbeats 4000000
namespace L2
open PySem PySem.Spec PyProof.Rows PySem.W
section
variable {X : Cx} {pins : List (Addr × Obj)} {σ : St} {H : Hp} {s : Shared}
end
end L2
set_option Elab.async false
set_option linter.all false
set_option maxRecDepth 100000
set_option maxHeartbeats 4000000
namespace L2
open PySem PySem.Spec PyProof.Rows PySem.W
section
variable {X : Cx} {es : List Expr} {t : TA} {pos : Pos}
end
end L2
set_option Elab.async false
set_option linter.all false
set_option maxRecDepth 100000
set_option maxHeartbeats 4000000
namespace L2
open PySem PySem.Spec PyProof.Rows PySem.W
end L2
set_option Elab.async false
set_option linter.all false
set_option maxRecDepth 100000
set_option maxHeartbeats 4000000
namespace L2
open PySem PySem.Spec PyProof.Rows PySem.W
end L2
set_option Elab.async false
set_option linter.all false
set_option maxRecDepth 100000
set_option maxHeartbeats 4000000
namespace L2
open PySem PySem.Spec PyProof.Rows PySem.W
end L2
set_option Elab.async false
set_option linter.all false
set_option maxRecDepth 100000
set_option maxHeartbeats 4000000
namespace L2
open PySem PySem.Spec PyProof.Rows
section
variable {prog : Program} {w : World} {A : Around} {h : Heap} {g : Array GenState} {d : Drawn} {t : Nat} {os : OsState}
variable {nm q : Str} {C N f : Addr} {bs bm : List Value} {hdct : Bool} {sn : List Str} {sub : List Value} {ab : Bool} {col : Option Bool} {dd : Option Addr} {k0 k1 k2 k3 k5 : Option Value}
end
end L2
set_option Elab.async false
set_option linter.all false
set_option maxRecDepth 100000
set_option maxHeartbeats 4000000
namespace L2
open PySem PySem.Spec PyProof.Rows
section
variable {prog : Program} {w : World} {A : Around} {E : Value → Shared → Prop} {h : Heap} {g : Array GenState} {d : Drawn} {t : Nat} {os : OsState}
variable {nm q : Str} {C N f e : Addr} {bs bm : List Value} {hdct : Bool} {sn : List Str} {sub : List Value} {ab : Bool} {col : Option Bool} {dd od : Option Addr} {k0 k1 k2 k3 k5 : Option Value} {t0 : Addr}
end
end L2
set_option Elab.async false
set_option linter.all false
set_option maxRecDepth 100000
set_option maxHeartbeats 4000000
namespace L2
open PySem PySem.Spec PyProof.Rows Builtin Builtin.ObjectAttr
section
variable {prog : Program} {w : World} {A : Around} {E : Value → Shared → Prop} {s : Shared} {K : PySem.W.Frag} {C HE e t0 : Addr} {cd : ClassData} {name : Str} {v : Value}
end
end L2
set_option Elab.async false
set_option linter.all false
set_option maxRecDepth 100000
set_option maxHeartbeats 4000000
namespace L2
open PySem PySem.Spec PyProof.Rows Builtin Builtin.ObjectAttr
section
variable {prog : Program} {w : World} {A : Around} {E : Value → Shared → Prop} {s : Shared} {K : PySem.W.Frag} {C HE e t0 dx : Addr} {cd : ClassData} {name : Str} {v : Value} {od : Obj}
end
end L2
set_option Elab.async false
set_option linter.all false
set_option maxRecDepth 100000
set_option maxHeartbeats 4000000
namespace L2
open PySem PySem.Spec PyProof.Rows Builtin Builtin.ObjectAttr
section
variable {prog : Program} {w : World} {A : Around} {E : Value → Shared → Prop} {s : Shared} {K : PySem.W.Frag} {C HE e : Addr} {cd : ClassData} {ox : Obj} {odo : Option Obj}
end
end L2
set_option Elab.async false
set_option linter.all false
set_option maxRecDepth 100000
set_option maxHeartbeats 4000000
namespace L2
open PySem PySem.Spec PyProof.Rows
abbrev TJ := St → Hp → Str → VK → Prop
section
variable {X : Cx} {e e2 : Expr} {es : List Expr} {te : TE} {t : TJ} {pos : Pos}
end
section
variable {X : Cx} {CX : CXT} {k : Nat} {f C HE : Addr} {fd : FuncData} {ps : List Str} {sp : Sp} {ds : List Value} {dvs : List V} {E : XK}
variable {x : Str} {p pos apos pos' : Pos} {e o value : Expr} {es : List Expr} {te ta tv : TE} {t : TA}
end
end L2
set_option Elab.async false
set_option linter.all false
set_option maxRecDepth 100000
set_option maxHeartbeats 4000000
namespace L2
open PySem PySem.Spec PyProof.Rows
section
variable {X : Cx} {elts : List Expr} {k : Nat} {pos' : Pos}
end
end L2
set_option Elab.async false
set_option linter.all false
set_option maxRecDepth 100000
set_option maxHeartbeats 4000000
namespace L3
open PySem PySem.Spec PyProof.Rows L2
abbrev St := L2.St
structure Clo where
  f : Addr
  o : Obj
  q : Str
  c : Addr
  c' : Addr
  oz : Obj
  dd : Addr
  kvs : List (List Int × Int)
inductive PV where
  | non | bl (b : Bool) | int (i : Int) | str (x : Str) | ty (n : String)
  | tup (xs : List PV) | lst (xs : List PV) | dct (kvs : List (Key × PV)) | itb (kvs : List (List Int × Int)) | clo (D : Clo) | obj (n : Nat)
def tabK (kvs : List (List Int × Int)) : List (List Key × V) := kvs.map fun p => (p.1.map Sum.inl, V.int p.2)
inductive PO where
  | lst (xs : List PV) | dct (kvs : List (Key × PV)) | tbl (T : Addr) (pos : Pos) (q : Str) | itb (kvs : List (List Int × Int))
abbrev Sto := List PO
abbrev Env3 := List (Option PV)
abbrev K3 := PV → Sto → Prop
def KTup (K : PySem.W.Frag) (a : Addr) (vs : List V) : Prop := ∃ (o : Obj) (its : Array Value) (n : Nat), K.lookup a = some o ∧ o.cls = .type "tuple" ∧ o.dict = none ∧ o.data = .seq its n ∧ its.size ≤ sizeLine ∧ Vals vs its.toList
def KLst (K : PySem.W.Frag) (a : Addr) (vs : List V) : Prop := ∃ (o : Obj) (its : Array Value) (n : Nat), K.lookup a = some o ∧ o.cls = .type "list" ∧ o.dict = none ∧ o.data = .seq its n ∧ its.size ≤ sizeLine ∧ Vals vs its.toList ∧ o.slots = #[]
def TupAt (K : PySem.W.Frag) (A : List Addr) (H : Hp) (a : Addr) (vs : List V) : Prop := (Rd H a (.tup vs) ∧ a ∉ A) ∨ KTup K a vs
def LstAt (K : PySem.W.Frag) (A : List Addr) (H : Hp) (a : Addr) (vs : List V) : Prop := (Rd H a (.lst vs) ∧ a ∉ A) ∨ KLst K a vs
def DctAt (A : List Addr) (H : Hp) (a : Addr) (us : List (Key × V)) : Prop := H a = some (.dK us) ∧ a ∉ A
structure CloAt (A : List Addr) (H : Hp) (D : Clo) : Prop where
  fn : H D.f = some (.ext (FnAt D.f D.o)) ∧ D.f ∉ A
  cd : H D.c' = some (.ext (CdAt D.c' D.q)) ∧ D.c' ∉ A
  cl : H D.c = some (.ext (FnAt D.c D.oz)) ∧ D.c ∉ A
  dt : H D.dd = some (.dT (tabK D.kvs)) ∧ D.dd ∉ A
mutual
inductive RV (K : PySem.W.Frag) (A : List Addr) (H : Hp) : PV → V → Prop
  | non : RV K A H .non .non
  | bl (b : Bool) : RV K A H (.bl b) (.bl b)
  | int (i : Int) : RV K A H (.int i) (.int i)
  | str (x : Str) : RV K A H (.str x) (.str x)
  | ty (n : String) : RV K A H (.ty n) (.ty n)
  | tup {xs : List PV} {a : Addr} {vs : List V} : TupAt K A H a vs → vs.length ≤ sizeLine → RVs K A H xs vs → RV K A H (.tup xs) (.ref a)
  | lst {xs : List PV} {a : Addr} {vs : List V} : LstAt K A H a vs → vs.length ≤ sizeLine → RVs K A H xs vs → RV K A H (.lst xs) (.ref a)
  | dct {kvs : List (Key × PV)} {a : Addr} {us : List (Key × V)} : DctAt A H a us → us.length ≤ sizeLine → RKs K A H kvs us → RV K A H (.dct kvs) (.ref a)
  | itb {kvs : List (List Int × Int)} {a : Addr} : H a = some (.dT (tabK kvs)) → a ∉ A → RV K A H (.itb kvs) (.ref a)
  | clo {D : Clo} : CloAt A H D → RV K A H (.clo D) (.ref D.f)
inductive RVs (K : PySem.W.Frag) (A : List Addr) (H : Hp) : List PV → List V → Prop
  | nil : RVs K A H [] []
  | cons {x : PV} {v : V} {xs : List PV} {vs : List V} : RV K A H x v → RVs K A H xs vs → RVs K A H (x :: xs) (v :: vs)
inductive RKs (K : PySem.W.Frag) (A : List Addr) (H : Hp) : List (Key × PV) → List (Key × V) → Prop
  | nil : RKs K A H [] []
  | cons {k : Key} {x : PV} {v : V} {xs : List (Key × PV)} {vs : List (Key × V)} : RV K A H x v → RKs K A H xs vs → RKs K A H ((k, x) :: xs) ((k, v) :: vs)
end
structure Grow (A : List Addr) (H : Hp) (A' : List Addr) (H' : Hp) : Prop where
  ext : ∃ B, A' = A ++ B ∧ ∀ b ∈ B, H b = none
  keep : ∀ b o, H b = some o → b ∉ A → H' b = some o
  live : ∀ b, H b ≠ none → H' b ≠ none
theorem Grow.refl (A : List Addr) (H : Hp) : Grow A H A H := ⟨⟨[], by simp, by simp⟩, fun _ _ h _ => h, fun _ h => h⟩
theorem Grow.out {A A' : List Addr} {H H' : Hp} (g : Grow A H A' H') {b : Addr} {o : HO} (h : H b = some o) (n : b ∉ A) : b ∉ A' := by
  obtain ⟨B, rfl, hB⟩ := g.ext
  intro m
  rcases List.mem_append.mp m with m | m
  · exact n m
  · rw [hB b m] at h; cases h
theorem Grow.trans {A A1 A2 : List Addr} {H H1 H2 : Hp} (g : Grow A H A1 H1) (g' : Grow A1 H1 A2 H2) : Grow A H A2 H2 := by
  refine ⟨?_, fun b o h n => g'.keep b o (g.keep b o h n) (g.out h n), fun b h => g'.live b (g.live b h)⟩
  obtain ⟨B, rfl, hB⟩ := g.ext
  obtain ⟨C, rfl, hC⟩ := g'.ext
  refine ⟨B ++ C, by simp, fun b m => ?_⟩
  rcases List.mem_append.mp m with m | m
  · exact hB b m
  · by_cases h : H b = none
    · exact h
    · exact absurd (hC b m) (g.live b h)
theorem Grow.sub {A A' : List Addr} {H H' : Hp} (g : Grow A H A' H') {i : Nat} {a : Addr} (h : A[i]? = some a) : A'[i]? = some a := by
  obtain ⟨B, rfl, _⟩ := g.ext
  rw [List.getElem?_append_left (List.getElem?_eq_some_iff.mp h).1]; exact h
theorem Grow.new {A : List Addr} {H : Hp} {p : Addr} {o : HO} (h : H p = none) : Grow A H A (upd H p o) := by
  refine ⟨⟨[], by simp, by simp⟩, fun b u e _ => by rw [upd_ne (ne_of_none e h)]; exact e, fun b hb => ?_⟩
  by_cases e : b = p
  · subst e; rw [upd_same]; exact Option.some_ne_none _
  · rw [upd_ne e]; exact hb
theorem Grow.newObj {A : List Addr} {H : Hp} {p : Addr} {o : HO} (h : H p = none) : Grow A H (A ++ [p]) (upd H p o) := by
  refine ⟨⟨[p], rfl, fun b m => by rw [List.mem_singleton.mp m]; exact h⟩, (Grow.new (A := A) h).keep, (Grow.new (A := A) h).live⟩
theorem Grow.put {A : List Addr} {H : Hp} {p : Addr} {o : HO} (h : p ∈ A) : Grow A H A (upd H p o) := by
  refine ⟨⟨[], by simp, by simp⟩, fun b u e n => by rw [upd_ne (fun z => n (by rw [z]; exact h))]; exact e, fun b hb => ?_⟩
  by_cases e : b = p
  · subst e; rw [upd_same]; exact Option.some_ne_none _
  · rw [upd_ne e]; exact hb
section
variable {K : PySem.W.Frag} {A A' : List Addr} {H H' : Hp}
theorem TupAt.sq {a : Addr} {vs : List V} (h : TupAt K A H a vs) : SqT K H a vs := h.imp And.left id
theorem LstAt.sq {a : Addr} {vs : List V} (h : LstAt K A H a vs) : SqL K H a vs := h.imp And.left id
theorem Rd.grow {a : Addr} {u : HO} (g : Grow A H A' H') (h : Rd H a u ∧ a ∉ A) : Rd H' a u ∧ a ∉ A' := by
  obtain ⟨h | ⟨o, h⟩, n⟩ := h
  · exact ⟨.inl (g.keep _ _ h n), g.out h n⟩
  · exact ⟨.inr ⟨o, g.keep _ _ h n⟩, g.out h n⟩
theorem TupAt.grow {a : Addr} {vs : List V} (g : Grow A H A' H') (h : TupAt K A H a vs) : TupAt K A' H' a vs := h.imp (Rd.grow g) id
theorem LstAt.grow {a : Addr} {vs : List V} (g : Grow A H A' H') (h : LstAt K A H a vs) : LstAt K A' H' a vs := h.imp (Rd.grow g) id
mutual
theorem RV.grow (g : Grow A H A' H') {x : PV} {v : V} : RV K A H x v → RV K A' H' x v
  | .non => .non
  | .bl b => .bl b
  | .int i => .int i
  | .str x => .str x
  | .ty n => .ty n
  | .tup t z r => .tup (t.grow g) z (RVs.grow g r)
  | .lst t z r => .lst (t.grow g) z (RVs.grow g r)
  | .dct t z r => .dct ⟨g.keep _ _ t.1 t.2, g.out t.1 t.2⟩ z (RKs.grow g r)
  | .itb e n => .itb (g.keep _ _ e n) (g.out e n)
  | .clo h => .clo ⟨⟨g.keep _ _ h.fn.1 h.fn.2, g.out h.fn.1 h.fn.2⟩, ⟨g.keep _ _ h.cd.1 h.cd.2, g.out h.cd.1 h.cd.2⟩, ⟨g.keep _ _ h.cl.1 h.cl.2, g.out h.cl.1 h.cl.2⟩, ⟨g.keep _ _ h.dt.1 h.dt.2, g.out h.dt.1 h.dt.2⟩⟩
theorem RVs.grow (g : Grow A H A' H') {xs : List PV} {vs : List V} : RVs K A H xs vs → RVs K A' H' xs vs
  | .nil => .nil
  | .cons r t => .cons (RV.grow g r) (RVs.grow g t)
theorem RKs.grow (g : Grow A H A' H') {xs : List (Key × PV)} {vs : List (Key × V)} : RKs K A H xs vs → RKs K A' H' xs vs
  | .nil => .nil
  | .cons r t => .cons (RV.grow g r) (RKs.grow g t)
end
theorem RVs.len {xs : List PV} {vs : List V} : RVs K A H xs vs → xs.length = vs.length
  | .nil => rfl
  | .cons _ t => by rw [List.length_cons, List.length_cons, RVs.len t]
theorem RKs.len {xs : List (Key × PV)} {vs : List (Key × V)} : RKs K A H xs vs → xs.length = vs.length
  | .nil => rfl
  | .cons _ t => by rw [List.length_cons, List.length_cons, RKs.len t]
theorem RVs.append {xs ys : List PV} {vs ws : List V} : RVs K A H xs vs → RVs K A H ys ws → RVs K A H (xs ++ ys) (vs ++ ws)
  | .nil, h => h
  | .cons r t, h => .cons r (RVs.append t h)
theorem RVs.get {xs : List PV} {vs : List V} {i : Nat} {x : PV} (h : RVs K A H xs vs) (e : xs[i]? = some x) : ∃ v, vs[i]? = some v ∧ RV K A H x v := by
  induction i generalizing xs vs with
  | zero => cases h with
    | nil => cases e
    | cons r t => simp at e; subst e; exact ⟨_, rfl, r⟩
  | succ i ih => cases h with
    | nil => cases e
    | cons r t => simpa using ih t (by simpa using e)
theorem RVs.get' {xs : List PV} {vs : List V} {i : Nat} {v : V} (h : RVs K A H xs vs) (e : vs[i]? = some v) : ∃ x, xs[i]? = some x ∧ RV K A H x v := by
  induction i generalizing xs vs with
  | zero => cases h with
    | nil => cases e
    | cons r t => simp at e; subst e; exact ⟨_, rfl, r⟩
  | succ i ih => cases h with
    | nil => cases e
    | cons r t => simpa using ih t (by simpa using e)
theorem RVs.drop {xs : List PV} {vs : List V} (h : RVs K A H xs vs) (n : Nat) : RVs K A H (xs.drop n) (vs.drop n) := by
  induction n generalizing xs vs with
  | zero => exact h
  | succ n ih => cases h with
    | nil => exact .nil
    | cons r t => exact ih t
theorem RVs.take {xs : List PV} {vs : List V} (h : RVs K A H xs vs) (n : Nat) : RVs K A H (xs.take n) (vs.take n) := by
  induction n generalizing xs vs with
  | zero => exact .nil
  | succ n ih => cases h with
    | nil => exact .nil
    | cons r t => exact .cons r (ih t)
theorem RVs.reverse {xs : List PV} {vs : List V} (h : RVs K A H xs vs) : RVs K A H xs.reverse vs.reverse := by
  induction xs generalizing vs with
  | nil => cases h; exact .nil
  | cons x xs ih => cases h with
    | cons r t => rw [List.reverse_cons, List.reverse_cons]; exact (ih t).append (.cons r .nil)
inductive RE (K : PySem.W.Frag) (A : List Addr) (H : Hp) : PV → V → Prop
  | val {x : PV} {v : V} : RV K A H x v → RE K A H x v
  | obj {i : Nat} {a : Addr} : A[i]? = some a → RE K A H (.obj i) (.ref a)
theorem RE.grow (g : Grow A H A' H') {x : PV} {v : V} : RE K A H x v → RE K A' H' x v
  | .val r => .val (r.grow g)
  | .obj e => .obj (g.sub e)
abbrev REs (K : PySem.W.Frag) (A : List Addr) (H : Hp) : List PV → List V → Prop := Paired (RE K A H)
theorem REs.grow (g : Grow A H A' H') {xs : List PV} {vs : List V} : REs K A H xs vs → REs K A' H' xs vs
  | .nil => .nil
  | .cons r t => .cons (r.grow g) (REs.grow g t)
def OA (K : PySem.W.Frag) (A : List Addr) (H : Hp) (a : Addr) : PO → Prop
  | .lst xs => ∃ vs, H a = some (.lst vs) ∧ RVs K A H xs vs ∧ vs.length ≤ sizeLine
  | .dct kvs => ∃ us, H a = some (.dK us) ∧ RKs K A H kvs us ∧ us.length ≤ sizeLine
  | .tbl T pos q => a = T ∧ ∃ ps, H a = some (.tbl ps) ∧ (ps = #[] ∨ ∃ c', ps = #[rawInt pos.line, rawInt pos.col, .ref c'] ∧ H c' = some (.ext (CdAt c' q)) ∧ c' ∉ A)
  | .itb kvs => H a = some (.dT (tabK kvs))
structure RS (K : PySem.W.Frag) (A : List Addr) (H : Hp) (st : Sto) : Prop where
  nd : A.Nodup
  len : A.length = st.length
  at_ : ∀ (i : Nat) (a : Addr) (o : PO), A[i]? = some a → st[i]? = some o → OA K A H a o
structure Rel (K : PySem.W.Frag) (A : List Addr) (H : Hp) (σ : St) (env : Env3) (st : Sto) : Prop where
  rs : RS K A H st
  len : env.length = σ.length
  at_ : ∀ (i : Nat) (x : PV), env[i]? = some (some x) → ∃ v, σ[i]? = some (some v) ∧ RE K A H x v
theorem Rel.grow {σ : St} {env : Env3} {st st' : Sto} (r : Rel K A H σ env st) (g : Grow A H A' H') (s : RS K A' H' st') : Rel K A' H' σ env st' :=
  ⟨s, r.len, fun i x e => let ⟨v, e1, r1⟩ := r.at_ i x e; ⟨v, e1, r1.grow g⟩⟩
theorem OA.move {a : Addr} {o : PO} (h : OA K A H a o) (g : Grow A H A' H') (e : H' a = H a) : OA K A' H' a o := by
  cases o with
  | lst xs => obtain ⟨vs, h, r, z⟩ := h; exact ⟨vs, by rw [e]; exact h, r.grow g, z⟩
  | dct xs => obtain ⟨vs, h, r, z⟩ := h; exact ⟨vs, by rw [e]; exact h, r.grow g, z⟩
  | tbl T pos q =>
    obtain ⟨ea, ps, h, r⟩ := h
    refine ⟨ea, ps, by rw [e]; exact h, r.imp id ?_⟩
    rintro ⟨c', e1, e2, e3⟩
    exact ⟨c', e1, g.keep _ _ e2 e3, g.out e2 e3⟩
  | itb kvs => exact e.trans h
theorem OA.some {a : Addr} {o : PO} (h : OA K A H a o) : H a ≠ none := by
  cases o with
  | lst xs => obtain ⟨vs, h, r⟩ := h; rw [h]; exact Option.some_ne_none _
  | dct xs => obtain ⟨vs, h, r⟩ := h; rw [h]; exact Option.some_ne_none _
  | tbl T pos q => obtain ⟨_, ps, h, r⟩ := h; rw [h]; exact Option.some_ne_none _
  | itb kvs => rw [show H a = _ from h]; exact Option.some_ne_none _
theorem RS.has {st : Sto} (r : RS K A H st) {a : Addr} (h : a ∈ A) : ∃ (i : Nat) (o : PO), A[i]? = some a ∧ st[i]? = some o ∧ OA K A H a o := by
  obtain ⟨i, hi, e⟩ := List.getElem_of_mem h
  have hs : i < st.length := by rw [← r.len]; exact hi
  have e1 : A[i]? = some a := by rw [List.getElem?_eq_getElem hi, e]
  have e2 : st[i]? = some st[i] := List.getElem?_eq_getElem hs
  exact ⟨i, st[i], e1, e2, r.at_ i a _ e1 e2⟩
theorem RS.live {st : Sto} (r : RS K A H st) {a : Addr} (h : a ∈ A) : H a ≠ none := let ⟨_, _, _, _, o⟩ := r.has h; o.some
theorem RS.move {st : Sto} (r : RS K A H st) (g : Grow A H A H') (e : ∀ a ∈ A, H' a = H a) : RS K A H' st :=
  ⟨r.nd, r.len, fun i a o h1 h2 => (r.at_ i a o h1 h2).move g (e a (List.mem_of_getElem? h1))⟩
theorem RS.fresh {st : Sto} (r : RS K A H st) {p : Addr} (h : H p = none) : p ∉ A := fun m => r.live m h
theorem RS.new {st : Sto} (r : RS K A H st) {p : Addr} {o : HO} (h : H p = none) : RS K A (upd H p o) st :=
  r.move (.new h) fun a m => upd_ne fun z => r.fresh h (z ▸ m)
theorem RS.newObj {st : Sto} (r : RS K A H st) {p : Addr} {o : HO} {q : PO} (h : H p = none) (hq : OA K (A ++ [p]) (upd H p o) p q) : RS K (A ++ [p]) (upd H p o) (st ++ [q]) := by
  refine ⟨?_, by rw [List.length_append, List.length_append, r.len]; rfl, fun i a u h1 h2 => ?_⟩
  · refine List.nodup_append.mpr ⟨r.nd, by simp, fun a ha b hb => ?_⟩
    rw [List.mem_singleton.mp hb]
    exact fun z => r.fresh h (z ▸ ha)
  · by_cases hi : i < A.length
    · rw [List.getElem?_append_left hi] at h1
      rw [List.getElem?_append_left (by rw [← r.len]; exact hi)] at h2
      exact (r.at_ i a u h1 h2).move (.newObj h) (upd_ne fun z => r.fresh h (z ▸ List.mem_of_getElem? h1))
    · have hi' : i = A.length := by
        have := (List.getElem?_eq_some_iff.mp h1).1
        rw [List.length_append, List.length_singleton] at this
        omega
      subst hi'
      rw [List.getElem?_append_right (Nat.le_refl _), Nat.sub_self] at h1
      rw [r.len, List.getElem?_append_right (Nat.le_refl _), Nat.sub_self] at h2
      cases h1; cases h2
      exact hq
theorem RS.put {st : Sto} (r : RS K A H st) {i : Nat} {p : Addr} {o : HO} {q : PO} (h : A[i]? = some p) (hq : OA K A (upd H p o) p q) : RS K A (upd H p o) (st.set i q) := by
  have hp := List.mem_of_getElem? h
  refine ⟨r.nd, by rw [List.length_set]; exact r.len, fun j a u h1 h2 => ?_⟩
  by_cases hij : i = j
  · subst hij
    rw [h] at h1; cases h1
    rw [List.getElem?_set_self (by rw [← r.len]; exact (List.getElem?_eq_some_iff.mp h).1)] at h2
    cases h2
    exact hq
  · rw [List.getElem?_set_ne hij] at h2
    refine (r.at_ j a u h1 h2).move (.put hp) (upd_ne fun z => hij ?_)
    subst z
    exact (List.getElem?_inj (List.getElem?_eq_some_iff.mp h).1 r.nd).mp (h.trans h1.symm)
end
end L3
set_option Elab.async false
set_option linter.all false
set_option maxRecDepth 100000
set_option maxHeartbeats 4000000
namespace L3
open PySem PySem.Spec PyProof.Rows L2
abbrev TE3 := Env3 → Sto → K3 → Prop
abbrev TT3 := Env3 → Sto → (Bool → Sto → Prop) → Prop
abbrev TA3 := Env3 → Sto → (List PV → Sto → Prop) → Prop
structure Ends3 where
  nx : Env3 → Sto → Prop
  rt : K3
  bk : Env3 → Sto → Prop := fun _ _ => False
  ct : Env3 → Sto → Prop := fun _ _ => False
abbrev TS3 := Ends3 → Env3 → Sto → Prop
abbrev TG3 := PV → Env3 → Sto → (Env3 → Sto → Prop) → Prop
abbrev TGs3 := List PV → Env3 → Sto → (Env3 → Sto → Prop) → Prop
abbrev Src := Option (Nat × PO)
abbrev TI3 := Env3 → Sto → (Src → List PV → Sto → Prop) → Prop
abbrev R3 := PV → PV → Sto → K3 → Prop
abbrev Sp3 := List PV → Sto → K3 → Prop
def Fin (K : PySem.W.Frag) (A : List Addr) (H : Hp) (Q3 : K3) (Q : VK) : Prop := ∀ A' H' st' r v, Grow A H A' H' → RS K A' H' st' → RE K A' H' r v → Q3 r st' → Q v H'
def FinT (K : PySem.W.Frag) (A : List Addr) (H : Hp) (Q3 : Bool → Sto → Prop) (Q : Bool → Hp → Prop) : Prop := ∀ A' H' st' b, Grow A H A' H' → RS K A' H' st' → Q3 b st' → Q b H'
def FinA (K : PySem.W.Frag) (A : List Addr) (H : Hp) (Q3 : List PV → Sto → Prop) (Q : List V → Hp → Prop) : Prop := ∀ A' H' st' rs vs, Grow A H A' H' → RS K A' H' st' → REs K A' H' rs vs → Q3 rs st' → Q vs H'
def FinS (K : PySem.W.Frag) (A : List Addr) (H : Hp) (P3 : Env3 → Sto → Prop) (P : St → Hp → Prop) : Prop := ∀ A' H' σ' env' st', Grow A H A' H' → Rel K A' H' σ' env' st' → P3 env' st' → P σ' H'
structure FinD (K : PySem.W.Frag) (A : List Addr) (H : Hp) (D3 : Ends3) (D : Ends) : Prop where
  nx : FinS K A H D3.nx D.nx
  rt : Fin K A H D3.rt D.rt
  bk : FinS K A H D3.bk D.bk
  ct : FinS K A H D3.ct D.ct
section
variable {K : PySem.W.Frag} {A A1 : List Addr} {H H1 : Hp}
theorem Fin.after {Q3 : K3} {Q : VK} (f : Fin K A H Q3 Q) (g : Grow A H A1 H1) : Fin K A1 H1 Q3 Q := fun A' H' st' r v g' => f A' H' st' r v (g.trans g')
theorem FinT.after {Q3 : Bool → Sto → Prop} {Q : Bool → Hp → Prop} (f : FinT K A H Q3 Q) (g : Grow A H A1 H1) : FinT K A1 H1 Q3 Q := fun A' H' st' r g' => f A' H' st' r (g.trans g')
theorem FinS.after {Q3 : Env3 → Sto → Prop} {Q : St → Hp → Prop} (f : FinS K A H Q3 Q) (g : Grow A H A1 H1) : FinS K A1 H1 Q3 Q := fun A' H' σ' e' st' g' => f A' H' σ' e' st' (g.trans g')
theorem FinD.after {D3 : Ends3} {D : Ends} (f : FinD K A H D3 D) (g : Grow A H A1 H1) : FinD K A1 H1 D3 D := ⟨f.nx.after g, f.rt.after g, f.bk.after g, f.ct.after g⟩
theorem Fin.now {Q3 : K3} {Q : VK} (f : Fin K A H Q3 Q) {st : Sto} {r : PV} {v : V} (s : RS K A H st) (e : RE K A H r v) (q : Q3 r st) : Q v H := f A H st r v (.refl _ _) s e q
end
def can (K : PySem.W.Frag) (T : TE3) : TE := fun σ H Q => ∃ A env st Q3, Rel K A H σ env st ∧ T env st Q3 ∧ Fin K A H Q3 Q
def canT (K : PySem.W.Frag) (T : TT3) : TT := fun σ H Q => ∃ A env st Q3, Rel K A H σ env st ∧ T env st Q3 ∧ FinT K A H Q3 Q
def canA (K : PySem.W.Frag) (T : TA3) : TA := fun σ H Q => ∃ A env st Q3, Rel K A H σ env st ∧ T env st Q3 ∧ FinA K A H Q3 Q
def canS (K : PySem.W.Frag) (T : TS3) : TS := fun D σ H => ∃ A env st D3, Rel K A H σ env st ∧ T D3 env st ∧ FinD K A H D3 D
def canG (K : PySem.W.Frag) (G : TG3) : TG := fun v σ H Q => ∃ A env st x Q3, Rel K A H σ env st ∧ RE K A H x v ∧ G x env st Q3 ∧ FinS K A H Q3 Q
def canGs (K : PySem.W.Frag) (G : TGs3) : TGs := fun vs σ H Q => ∃ A env st xs Q3, Rel K A H σ env st ∧ REs K A H xs vs ∧ G xs env st Q3 ∧ FinS K A H Q3 Q
def canR (K : PySem.W.Frag) (R : R3) : R2 := fun v w H Q => ∃ A st x y Q3, RS K A H st ∧ RE K A H x v ∧ RE K A H y w ∧ R x y st Q3 ∧ Fin K A H Q3 Q
def canL (K : PySem.W.Frag) (R : Sp3) : List V → Hp → VK → Prop := fun vs H Q => ∃ A st xs Q3, RS K A H st ∧ REs K A H xs vs ∧ R xs st Q3 ∧ Fin K A H Q3 Q
def sp2 (K : PySem.W.Frag) (S : Sp3) : Sp := fun vs H Q _ => canL K S vs H Q
section
variable {X : Cx} {a b c e : Expr} {es : List Expr} {pos p p2 : Pos} {Ta Tb Tc : TE3} {TA : TA3} {tc td : TT3}
theorem pe_weak {t t' : TE} (h : PE X e t) (w : ∀ σ H Q, t' σ H Q → t σ H Q) : PE X e t' := ⟨fun pins s σ H Q I q => h pins s σ H Q I (w σ H Q q)⟩
theorem pt_weak {t t' : TT} (h : PT X e t) (w : ∀ σ H Q, t' σ H Q → t σ H Q) : PT X e t' := ⟨fun pins s σ H Q I q => h pins s σ H Q I (w σ H Q q)⟩
theorem pw_weak {t t' : TT} (h : PW X e t) (w : ∀ σ H Q, t' σ H Q → t σ H Q) : PW X e t' := ⟨fun wh pins s σ H Q I q => h wh pins s σ H Q I (w σ H Q q)⟩
theorem pa_weak {t t' : L2.TA} (h : PA X es t) (w : ∀ σ H Q, t' σ H Q → t σ H Q) : PA X es t' := ⟨fun pos pins s σ H Q I q => h pos pins s σ H Q I (w σ H Q q)⟩
theorem pf_weak {t t' : TT} (h : PF X es t) (w : ∀ σ H Q, t' σ H Q → t σ H Q) : PF X es t' := ⟨fun pins s σ H Q I q => h pins s σ H Q I (w σ H Q q)⟩
theorem ps_weak {st : Stmt} {t t' : TS} (h : PS X st t) (w : ∀ D σ H, t' D σ H → t D σ H) : PS X st t' := ⟨fun pins s σ H D I q => h pins s σ H D I (w D σ H q)⟩
theorem pss_weak {st : List Stmt} {t t' : TS} (h : PSs X st t) (w : ∀ D σ H, t' D σ H → t D σ H) : PSs X st t' := ⟨fun pins s σ H D I q => h pins s σ H D I (w D σ H q)⟩
theorem pg_weak {tg : Expr} {t t' : TG} (h : PG X tg t) (w : ∀ v σ H Q, t' v σ H Q → t v σ H Q) : PG X tg t' := ⟨fun pins s σ H v u Q I r q => h pins s σ H v u Q I r (w v σ H Q q)⟩
theorem pgs_weak {tg : List Expr} {t t' : TGs} (h : PGs X tg t) (w : ∀ v σ H Q, t' v σ H Q → t v σ H Q) : PGs X tg t' := ⟨fun pins s σ H v u Q I r q => h pins s σ H v u Q I r (w v σ H Q q)⟩
def vVar (i : Nat) : TE3 := fun env st Q => match env[i]? with | some (some x) => Q x st | _ => False
theorem can_var {K : PySem.W.Frag} {i : Nat} {σ : St} {H : Hp} {Q : VK} : can K (vVar i) σ H Q → tVar i σ H Q := by
  rintro ⟨A, env, st, Q3, rel, h, k⟩
  unfold vVar at h
  split at h
  · rename_i x e
    obtain ⟨v, e1, r⟩ := rel.at_ i x e
    exact ⟨v, e1, k.now rel.rs r h⟩
  · exact h.elim
theorem qv (i : Nat) {x : Str} {pos : Pos} (hN : X.N[i]? = some x := by rfl) (hv : Vis X.env.scope x := by first | exact Or.inl rfl | exact Or.inr (Or.inl rfl) | exact Or.inr (Or.inr rfl)) (hd : (x == ("__debug__" : Str)) = false := by decide)
    (hcd : (x == ("__classdict__" : Str)) = false := by decide) : PE X (.Name x pos) (can X.K (vVar i)) := pe_weak (pe_var hN hv hd hcd) fun _ _ _ => can_var
def vC (x : PV) : TE3 := fun _ st Q => Q x st
theorem can_c {K : PySem.W.Frag} {x : PV} {v : V} (hr : ∀ A H, RE K A H x v) {σ : St} {H : Hp} {Q : VK} : can K (vC x) σ H Q → tC v σ H Q := by
  rintro ⟨A, env, st, Q3, rel, h, k⟩
  exact k.now rel.rs (hr A H) h
theorem q_int {i j pos} : PE X (.Constant (.int i) j pos) (can X.K (vC (.int i))) := pe_weak pe_int fun _ _ _ => can_c fun _ _ => .val (.int i)
theorem q_str {x j pos} : PE X (.Constant (.str x) j pos) (can X.K (vC (.str x))) := pe_weak pe_str fun _ _ _ => can_c fun _ _ => .val (.str x)
theorem q_bl {b j pos} : PE X (.Constant (.bool b) j pos) (can X.K (vC (.bl b))) := pe_weak pe_bl fun _ _ _ => can_c fun _ _ => .val (.bl b)
theorem q_non {j pos} : PE X (.Constant .none j pos) (can X.K (vC .non)) := pe_weak pe_non fun _ _ _ => can_c fun _ _ => .val .non
theorem q_ty {x : Str} {n : String} {pos : Pos} (hg : Gl X x) (hm : X.mg x = none) (hv : bootBuiltins x = some (.type n)) (hn : x ≠ "__name__" := by decide) (hd : (x == ("__debug__" : Str)) = false := by decide) : PE X (.Name x pos) (can X.K (vC (.ty n))) :=
  pe_weak (pe_bltn (v := .ty n) hg hm hv rfl hn hd) fun _ _ _ => can_c fun _ _ => .val (.ty n)
def vOp (R : R3) (Ta Tb : TE3) : TE3 := fun env st Q => Ta env st fun x st1 => Tb env st1 fun y st2 => R x y st2 Q
theorem can_op {K : PySem.W.Frag} {R : R3} {σ : St} {H : Hp} {Q : VK} : can K (vOp R Ta Tb) σ H Q → tOp (canR K R) (can K Ta) (can K Tb) σ H Q := by
  rintro ⟨A, env, st, Q3, rel, h, k⟩
  exact ⟨A, env, st, _, rel, h, fun A1 H1 st1 x v g1 s1 e1 h1 => ⟨A1, env, st1, _, rel.grow g1 s1, h1, fun A2 H2 st2 y w g2 s2 e2 h2 => ⟨A2, st2, x, y, Q3, s2, e1.grow g2, e2, h2, k.after (g1.trans g2)⟩⟩⟩
theorem q_op {op : Operator} {R : R3} (ho : OpR X (binaryOp op) (canR X.K R)) (ha : PE X a (can X.K Ta)) (hb : PE X b (can X.K Tb)) : PE X (.BinOp a op b pos) (can X.K (vOp R Ta Tb)) := pe_weak (pe_op ho ha hb) fun _ _ _ => can_op
theorem q_cmp {op : CmpOp} {R : R3} (ho : OpR X (compareOp op) (canR X.K R)) (ha : PE X a (can X.K Ta)) (hb : PE X b (can X.K Tb)) (hm : behindInMarks op b = false) : PE X (.Compare a [op] [b] pos) (can X.K (vOp R Ta Tb)) := pe_weak (pe_cmpR ho ha hb hm) fun _ _ _ => can_op
theorem q_ix {R : R3} (hr : IxR X (canR X.K R)) (ha : PE X a (can X.K Ta)) (hb : PE X b (can X.K Tb)) (hs : PlainIx b) : PE X (.Subscript a b pos) (can X.K (vOp R Ta Tb)) := pe_weak (pe_ix hr ha hb hs) fun _ _ _ => can_op
def vUn (R : PV → Sto → K3 → Prop) (Ta : TE3) : TE3 := fun env st Q => Ta env st fun x st1 => R x st1 Q
def vTest (T : TE3) : TT3 := fun env st Q => T env st fun x st1 => match x with | .bl k => Q k st1 | _ => False
theorem can_test {K : PySem.W.Frag} {T : TE3} {σ : St} {H : Hp} {Q : Bool → Hp → Prop} : canT K (vTest T) σ H Q → tTest (can K T) σ H Q := by
  rintro ⟨A, env, st, Q3, rel, h, k⟩
  refine ⟨A, env, st, _, rel, h, fun A1 H1 st1 x v g1 s1 e1 h1 => ?_⟩
  cases x with
  | bl b =>
    cases e1 with
    | val e1 => cases e1; exact ⟨b, rfl, k A1 H1 st1 b g1 s1 h1⟩
  | _ => exact False.elim h1
theorem qt_cmp {op : CmpOp} {R : R3} (ho : OpR X (compareOp op) (canR X.K R)) (ha : PE X a (can X.K Ta)) (hb : PE X b (can X.K Tb)) (hm : behindInMarks op b = false) : PT X (.Compare a [op] [b] pos) (canT X.K (vTest (vOp R Ta Tb))) := by
  refine pt_weak (pt_cmpR ho ha hb hm) fun σ H Q h => ?_
  have := can_test h
  exact can_op this
def rTru : PV → Sto → (Bool → Prop) → Prop
  | .non, _, k => k false
  | .bl b, _, k => k b
  | .int i, _, k => k (i != 0)
  | .str x, _, k => x.length ≤ sizeLine ∧ k ((x.length : Int) != 0)
  | .tup xs, _, k => k (!xs.isEmpty)
  | .lst xs, _, k => k (!xs.isEmpty)
  | .dct xs, _, k => k (!xs.isEmpty)
  | .obj i, st, k => match st[i]? with | some (.lst xs) => k (!xs.isEmpty) | some (.dct xs) => k (!xs.isEmpty) | _ => False
  | _, _, _ => False
def vTru (T : TE3) : TT3 := fun env st Q => T env st fun x st1 => rTru x st1 fun k => Q k st1
theorem RVs.empty {K : PySem.W.Frag} {A : List Addr} {H : Hp} {xs : List PV} {vs : List V} (h : RVs K A H xs vs) : vs.isEmpty = xs.isEmpty := by
  cases h <;> rfl
theorem RKs.empty {K : PySem.W.Frag} {A : List Addr} {H : Hp} {xs : List (Key × PV)} {vs : List (Key × V)} (h : RKs K A H xs vs) : vs.isEmpty = xs.isEmpty := by
  cases h <;> rfl
theorem tru_of {K : PySem.W.Frag} {A : List Addr} {H : Hp} {st : Sto} {x : PV} {v : V} {P : Bool → Prop} (s : RS K A H st) (e : RE K A H x v) (h : rTru x st P) : ∃ k, TruV K v H k ∧ P k := by
  cases e with
  | obj e =>
    dsimp only [rTru] at h
    split at h
    · rename_i xs q
      obtain ⟨vs, h1, h2, _⟩ := s.at_ _ _ _ e q
      exact ⟨_, .inl ⟨vs, .of h1, by rw [h2.empty]⟩, h⟩
    · rename_i xs q
      obtain ⟨vs, h1, h2, _⟩ := s.at_ _ _ _ e q
      exact ⟨_, .inr (.inr ⟨vs, h1, by rw [h2.empty]⟩), h⟩
    · exact h.elim
  | val e =>
    cases e with
    | non => exact ⟨_, rfl, h⟩
    | bl b => exact ⟨_, rfl, h⟩
    | int i => exact ⟨_, rfl, h⟩
    | str y => exact ⟨_, ⟨h.1, rfl⟩, h.2⟩
    | ty n => exact False.elim h
    | tup t z r => exact ⟨_, .inr (.inl ⟨_, t.sq, by rw [r.empty]⟩), h⟩
    | lst t z r => exact ⟨_, .inl ⟨_, t.sq, by rw [r.empty]⟩, h⟩
    | dct t z r => exact ⟨_, .inr (.inr ⟨_, t.1, by rw [r.empty]⟩), h⟩
    | itb e n => exact False.elim h
    | clo e => exact False.elim h
theorem qt_tru (ha : PE X a (can X.K Ta)) (he : ∀ whole, isTrue a X.env whole = (do let v ← whole; standAt a.pos; holding [v] (truthy v)) := by intro _; rfl) : PT X a (canT X.K (vTru Ta)) := by
  refine pt_weak (pt_truth ha he) fun σ H Q ⟨A, env, st, Q3, rel, h, k⟩ => ?_
  refine ⟨A, env, st, _, rel, h, fun A1 H1 st1 x v g1 s1 e1 h1 => ?_⟩
  obtain ⟨b, hb, q⟩ := tru_of s1 e1 h1
  exact ⟨b, hb, k A1 H1 st1 b g1 s1 q⟩
def vAnd (t u : TT3) : TT3 := fun env st Q => t env st fun c st1 => if c = true then u env st1 Q else Q false st1
def vOr (t u : TT3) : TT3 := fun env st Q => t env st fun c st1 => if c = true then Q true st1 else u env st1 Q
def vNot (t : TT3) : TT3 := fun env st Q => t env st fun c st1 => Q (!c) st1
theorem can_ifT {K : PySem.W.Frag} {t u : TT3} {σ : St} {H : Hp} {Q : Bool → Hp → Prop} : canT K (vAnd t u) σ H Q → tAnd (canT K t) (canT K u) σ H Q := by
  rintro ⟨A, env, st, Q3, rel, h, k⟩
  refine ⟨A, env, st, _, rel, h, fun A1 H1 st1 c g1 s1 h1 => ?_⟩
  cases c with
  | true => exact ⟨A1, env, st1, Q3, rel.grow g1 s1, h1, k.after g1⟩
  | false => exact k A1 H1 st1 false g1 s1 h1
theorem can_orT {K : PySem.W.Frag} {t u : TT3} {σ : St} {H : Hp} {Q : Bool → Hp → Prop} : canT K (vOr t u) σ H Q → tOr (canT K t) (canT K u) σ H Q := by
  rintro ⟨A, env, st, Q3, rel, h, k⟩
  refine ⟨A, env, st, _, rel, h, fun A1 H1 st1 c g1 s1 h1 => ?_⟩
  cases c with
  | false => exact ⟨A1, env, st1, Q3, rel.grow g1 s1, h1, k.after g1⟩
  | true => exact k A1 H1 st1 true g1 s1 h1
variable {rest : List Expr}
theorem qw_and1 (ha : PT X a (canT X.K tc)) : PW X (.BoolOp .And [a] pos) (canT X.K tc) := pw_and1 ha
theorem qw_or1 (ha : PT X a (canT X.K tc)) : PW X (.BoolOp .Or [a] pos) (canT X.K tc) := pw_or1 ha
theorem qw_and (ha : PT X a (canT X.K tc)) (hb : PW X (.BoolOp .And (b :: rest) pos) (canT X.K td)) : PW X (.BoolOp .And (a :: b :: rest) pos) (canT X.K (vAnd tc td)) := pw_weak (pw_and ha hb) fun _ _ _ => can_ifT
theorem qw_or (ha : PT X a (canT X.K tc)) (hb : PW X (.BoolOp .Or (b :: rest) pos) (canT X.K td)) : PW X (.BoolOp .Or (a :: b :: rest) pos) (canT X.K (vOr tc td)) := pw_weak (pw_or ha hb) fun _ _ _ => can_orT
theorem qt_not (ha : PT X a (canT X.K tc)) : PT X (.UnaryOp .Not a pos) (canT X.K (vNot tc)) := pt_weak (pt_not ha) fun σ H Q ⟨A, env, st, Q3, rel, h, k⟩ => ⟨A, env, st, _, rel, h, fun A1 H1 st1 c g1 s1 h1 => k A1 H1 st1 (!c) g1 s1 h1⟩
def vAndV (Ta Tb : TE3) : TE3 := fun env st Q => Ta env st fun x st1 => match x with | .bl c => if c = true then Tb env st1 Q else Q (.bl false) st1 | _ => False
def vOrV (Ta Tb : TE3) : TE3 := fun env st Q => Ta env st fun x st1 => match x with | .bl c => if c = true then Q (.bl true) st1 else Tb env st1 Q | _ => False
def vNotV (Ta : TE3) : TE3 := fun env st Q => Ta env st fun x st1 => match x with | .bl c => Q (.bl (!c)) st1 | _ => False
theorem q_one {op} (h : PE X a (can X.K Ta)) : PE X (.BoolOp op [a] pos) (can X.K Ta) := pe_one h
theorem q_and (ha : PE X a (can X.K Ta)) (hb : PE X (.BoolOp .And (b :: rest) pos) (can X.K Tb)) : PE X (.BoolOp .And (a :: b :: rest) pos) (can X.K (vAndV Ta Tb)) := by
  refine pe_weak (pe_and ha hb) fun σ H Q ⟨A, env, st, Q3, rel, h, k⟩ => ⟨A, env, st, _, rel, h, fun A1 H1 st1 x v g1 s1 e1 h1 => ?_⟩
  cases x with
  | bl c =>
    cases e1 with
    | val e1 =>
      cases e1
      refine ⟨c, rfl, ?_⟩
      cases c with
      | true => exact ⟨A1, env, st1, Q3, rel.grow g1 s1, h1, k.after g1⟩
      | false => exact k A1 H1 st1 _ _ g1 s1 (.val (.bl _)) h1
  | _ => exact False.elim h1
def vIf (t : TT3) (Ta Tb : TE3) : TE3 := fun env st Q => t env st fun c st1 => if c = true then Ta env st1 Q else Tb env st1 Q
def vNil : TA3 := fun _ st Q => Q [] st
def vCons (Ta : TE3) (Tr : TA3) : TA3 := fun env st Q => Ta env st fun x st1 => Tr env st1 fun xs st2 => Q (x :: xs) st2
theorem qa_nil : PA X [] (canA X.K vNil) := pa_weak pa_nil fun σ H Q ⟨A, env, st, Q3, rel, h, k⟩ => k A H st [] [] (.refl _ _) rel.rs .nil h
theorem qa_cons (ha : PE X e (can X.K Ta)) (hr : PA X es (canA X.K TA)) (hs : starEach (e :: es) X.env = (false, eval e X.env) :: starEach es X.env := by rfl) : PA X (e :: es) (canA X.K (vCons Ta TA)) :=
  pa_weak (pa_cons ha hr hs) fun σ H Q ⟨A, env, st, Q3, rel, h, k⟩ => ⟨A, env, st, _, rel, h, fun A1 H1 st1 x v g1 s1 e1 h1 => ⟨A1, env, st1, _, rel.grow g1 s1, h1, fun A2 H2 st2 xs vs g2 s2 e2 h2 => k A2 H2 st2 _ _ (g1.trans g2) s2 (.cons (e1.grow g2) e2) h2⟩⟩
def noObj : PV → Bool
  | .obj _ => false
  | _ => true
def okI (xs : List PV) : Bool := xs.all noObj && Nat.ble xs.length 1000
theorem RE.rv {K : PySem.W.Frag} {A : List Addr} {H : Hp} {x : PV} {v : V} (e : RE K A H x v) (h : noObj x = true) : RV K A H x v := by
  cases e with
  | val e => exact e
  | obj e => cases h
theorem REs.rvs {K : PySem.W.Frag} {A : List Addr} {H : Hp} : ∀ {xs : List PV} {vs : List V}, REs K A H xs vs → xs.all noObj = true → RVs K A H xs vs
  | _, _, .nil, _ => .nil
  | _, _, .cons r t, h => by
    rw [List.all_cons, Bool.and_eq_true] at h
    exact .cons (r.rv h.1) (REs.rvs t h.2)
theorem okI.both {xs : List PV} (h : okI xs = true) : xs.all noObj = true ∧ xs.length ≤ sizeLine := by
  unfold okI at h
  rw [Bool.and_eq_true] at h
  exact ⟨h.1, Nat.le_trans (Nat.le_of_ble_eq_true h.2) (by decide)⟩
def vTup (T : TA3) : TE3 := fun env st Q => T env st fun xs st1 => okI xs = true ∧ Q (.tup xs) st1
def vLst (T : TA3) : TE3 := fun env st Q => T env st fun xs st1 => okI xs = true ∧ Q (.lst xs) st1
def vLstO (T : TA3) : TE3 := fun env st Q => T env st fun xs st1 => okI xs = true ∧ Q (.obj st1.length) (st1 ++ [.lst xs])
theorem q_tup {x1} (h : PA X es (canA X.K TA)) : PE X (.Tuple es x1 pos) (can X.K (vTup TA)) := by
  refine pe_weak (pe_tup h) fun σ H Q ⟨A, env, st, Q3, rel, h, k⟩ => ⟨A, env, st, _, rel, h, fun A1 H1 st1 xs vs g1 s1 e1 h1 => ?_⟩
  obtain ⟨o1, o2⟩ := okI.both h1.1
  have hr := e1.rvs o1
  have hl := hr.len
  refine ⟨by rw [← hl]; exact o2, fun p hp => k A1 _ st1 _ _ (g1.trans (.new hp)) (s1.new hp) (.val (.tup (.inl ⟨.inl upd_same, s1.fresh hp⟩) (by rw [← hl]; exact o2) (hr.grow (.new hp)))) h1.2⟩
theorem q_lst (h : PA X es (canA X.K TA)) : PE X (.List es pos) (can X.K (vLst TA)) := by
  refine pe_weak (pe_lst h) fun σ H Q ⟨A, env, st, Q3, rel, h, k⟩ => ⟨A, env, st, _, rel, h, fun A1 H1 st1 xs vs g1 s1 e1 h1 => ?_⟩
  obtain ⟨o1, o2⟩ := okI.both h1.1
  have hr := e1.rvs o1
  have hl := hr.len
  refine ⟨by rw [← hl]; exact o2, fun p hp => k A1 _ st1 _ _ (g1.trans (.new hp)) (s1.new hp) (.val (.lst (.inl ⟨.inl upd_same, s1.fresh hp⟩) (by rw [← hl]; exact o2) (hr.grow (.new hp)))) h1.2⟩
theorem objAt {A : List Addr} {n : Nat} {p : Addr} (h : A.length = n) : (A ++ [p])[n]? = some p := by
  subst h; rw [List.getElem?_append_right (Nat.le_refl _), Nat.sub_self]; rfl
theorem q_lstO (h : PA X es (canA X.K TA)) : PE X (.List es pos) (can X.K (vLstO TA)) := by
  refine pe_weak (pe_lst h) fun σ H Q ⟨A, env, st, Q3, rel, h, k⟩ => ⟨A, env, st, _, rel, h, fun A1 H1 st1 xs vs g1 s1 e1 h1 => ?_⟩
  obtain ⟨o1, o2⟩ := okI.both h1.1
  have hr := e1.rvs o1
  have hl := hr.len
  refine ⟨by rw [← hl]; exact o2, fun p hp => k (A1 ++ [p]) _ _ _ _ (g1.trans (.newObj hp)) (s1.newObj (q := .lst xs) hp ⟨vs, upd_same, hr.grow (.newObj hp), by rw [← hl]; exact o2⟩) (.obj (objAt s1.len)) h1.2⟩
def vCB (R : Sp3) (T : TA3) : TE3 := fun env st Q => T env st fun xs st1 => R xs st1 Q
theorem can_cb {K : PySem.W.Frag} {R : Sp3} {σ : St} {H : Hp} {Q : VK} : can K (vCB R TA) σ H Q → tCB (canL K R) (canA K TA) σ H Q := by
  rintro ⟨A, env, st, Q3, rel, h, k⟩
  exact ⟨A, env, st, _, rel, h, fun A1 H1 st1 xs vs g1 s1 e1 h1 => ⟨A1, st1, xs, Q3, s1, e1, h1, k.after g1⟩⟩
theorem q_callB {x : Str} {id : String} {R : Sp3} (hc : CallR X (.builtin id) (canL X.K R)) (hg : Gl X x) (hm : X.mg x = none) (hv : bootBuiltins x = some (.builtin id)) (ha : PA X (e :: es) (canA X.K TA)) (hn : x ≠ "__name__" := by decide) (hdb : (x == ("__debug__" : Str)) = false := by decide)
    (he : starEach (e :: es) X.env = (false, eval e X.env) :: starEach es X.env := by rfl) (hpl : (backTo pos (starEach es X.env)).any (·.1) = false := by rfl) : PE X (.Call (.Name x p) (e :: es) [] pos) (can X.K (vCB R TA)) :=
  pe_weak (pe_callB hc hg hm hv ha hn hdb he hpl) fun _ _ _ => can_cb
theorem q_callTy {x : Str} {T : String} {R : Sp3} (hc : CallR X (.type T) (canL X.K R)) (hg : Gl X x) (hm : X.mg x = none) (hv : bootBuiltins x = some (.type T)) (ha : PA X (e :: es) (canA X.K TA)) (hn : x ≠ "__name__" := by decide) (hdb : (x == ("__debug__" : Str)) = false := by decide)
    (he : starEach (e :: es) X.env = (false, eval e X.env) :: starEach es X.env := by rfl) (hpl : (backTo pos (starEach es X.env)).any (·.1) = false := by rfl) : PE X (.Call (.Name x p) (e :: es) [] pos) (can X.K (vCB R TA)) :=
  pe_weak (pe_callTy hc hg hm hv ha hn hdb he hpl) fun _ _ _ => can_cb
theorem q_call {x : Str} {S : Sp3} {k : Nat} {f : Addr} {fd : FuncData} {ps : List Str} (F : FnOk X.prog X.w X.K X.mg X.base CX0 k f fd ps (sp2 X.K S)) (hr : Room k X.A) (hg : Gl X x) (hm : X.mg x = some (.ref f)) (hk : PySem.W.keepIn X.K (.ref f) = true) (hb : Binds X.K fd ps [])
    (ha : PA X (e :: es) (canA X.K TA)) (hdb : (x == ("__debug__" : Str)) = false := by decide) (he : starEach (e :: es) X.env = (false, eval e X.env) :: starEach es X.env := by rfl) (hpl : (backTo pos (starEach es X.env)).any (·.1) = false := by rfl) :
    PE X (.Call (.Name x p) (e :: es) [] pos) (can X.K (vCB S TA)) := by
  refine pe_weak (pe_call F hr hg hm hk hb .nil pass0 ha hdb he hpl) fun σ H Q h => ?_
  obtain ⟨A, env, st, Q3, rel, h, k⟩ := can_cb h
  refine ⟨A, env, st, Q3, rel, h, fun A1 H1 st1 rs vs g1 s1 e1 h1 => ?_⟩
  show sp2 X.K S (vs ++ []) H1 Q E0
  rw [List.append_nil]
  exact k A1 H1 st1 rs vs g1 s1 e1 h1
variable {sts rst : List Stmt} {stm : Stmt} {Ts Tu : TS3}
def vNext : TS3 := fun D env st => D.nx env st
def vSeq (t u : TS3) : TS3 := fun D env st => t { D with nx := u D } env st
theorem qss_nil : PSs X [] (canS X.K vNext) := pss_weak pss_nil fun D σ H ⟨A, env, st, D3, rel, h, k⟩ => k.nx A H σ env st (.refl _ _) rel h
theorem qss_one (h : PS X stm (canS X.K Ts)) : PSs X [stm] (canS X.K Ts) := pss_one h
theorem qss_cons (h1 : PS X stm (canS X.K Ts)) (h2 : PSs X rst (canS X.K Tu)) : PSs X (stm :: rst) (canS X.K (vSeq Ts Tu)) :=
  pss_weak (pss_cons h1 h2) fun D σ H ⟨A, env, st, D3, rel, h, k⟩ => ⟨A, env, st, _, rel, h, fun A1 H1 σ1 env1 st1 g1 r1 h1 => ⟨A1, env1, st1, D3, r1, h1, k.after g1⟩, k.rt, k.bk, k.ct⟩
def vBreak : TS3 := fun D env st => D.bk env st
def vCont : TS3 := fun D env st => D.ct env st
def vDrop (T : TE3) : TS3 := fun D env st => T env st fun _ st1 => D.nx env st1
theorem qs_expr (he : PE X e (can X.K Ta)) (hs : swapsWith e none pos.line X.env = pure false := by rfl) : PS X (.Expr e pos) (canS X.K (vDrop Ta)) :=
  ps_weak (ps_expr he hs) fun D σ H ⟨A, env, st, D3, rel, h, k⟩ => ⟨A, env, st, _, rel, h, fun A1 H1 st1 x v g1 s1 e1 h1 => k.nx A1 H1 σ env st1 g1 (rel.grow g1 s1) h1⟩
def vRet (T : TE3) : TS3 := fun D env st => T env st D.rt
theorem qs_ret (he : PE X e (can X.K Ta)) : PS X (.Return (some e) pos) (canS X.K (vRet Ta)) := ps_weak (ps_ret he) fun D σ H ⟨A, env, st, D3, rel, h, k⟩ => ⟨A, env, st, _, rel, h, k.rt⟩
def vRetN : TS3 := fun D _ st => D.rt .non st
def vIfS (c : TT3) (t u : TS3) : TS3 := fun D env st => c env st fun b st1 => if b = true then t D env st1 else u D env st1
theorem qs_if (hc : PT X c (canT X.K tc)) (ha : PSs X sts (canS X.K Ts)) (hb : PSs X rst (canS X.K Tu)) : PS X (.If c sts rst pos) (canS X.K (vIfS tc Ts Tu)) := by
  refine ps_weak (ps_if hc ha hb) fun D σ H ⟨A, env, st, D3, rel, h, k⟩ => ⟨A, env, st, _, rel, h, fun A1 H1 st1 b g1 s1 h1 => ?_⟩
  cases b with
  | true => exact ⟨A1, env, st1, D3, rel.grow g1 s1, h1, k.after g1⟩
  | false => exact ⟨A1, env, st1, D3, rel.grow g1 s1, h1, k.after g1⟩
variable {Tg : TG3} {Tgs : TGs3}
def gN (i : Nat) : TG3 := fun x env st Q => Q (env.set i (some x)) st
theorem Rel.set {K : PySem.W.Frag} {A : List Addr} {H : Hp} {σ : St} {env : Env3} {st : Sto} (r : Rel K A H σ env st) (i : Nat) {x : PV} {v : V} (e : RE K A H x v) : Rel K A H (σ.set i (some v)) (env.set i (some x)) st := by
  refine ⟨r.rs, by rw [List.length_set, List.length_set]; exact r.len, fun j y h => ?_⟩
  by_cases hij : i = j
  · subst hij
    have hl : i < env.length := by have := (List.getElem?_eq_some_iff.mp h).1; simpa using this
    rw [List.getElem?_set_self hl] at h
    cases h
    exact ⟨v, List.getElem?_set_self (by rw [← r.len]; exact hl), e⟩
  · rw [List.getElem?_set_ne hij] at h
    rw [List.getElem?_set_ne hij]
    exact r.at_ j y h
theorem can_gname {K : PySem.W.Frag} {i : Nat} {v : V} {σ : St} {H : Hp} {Q : St → Hp → Prop} : canG K (gN i) v σ H Q → gName i v σ H Q := by
  rintro ⟨A, env, st, x, Q3, rel, e, h, k⟩
  exact k A H _ _ st (.refl _ _) (rel.set i e) h
theorem qg_name {i : Nat} {x : Str} (hN : X.N.Nodup) (hi : X.N[i]? = some x) (hx : Loc X.env.scope x) (hf : X.fn x = true ∨ X.env.scope.names.lookup x = some .local := by first | exact .inl rfl | exact .inr rfl | assumption) : PG X (.Name x pos) (canG X.K (gN i)) :=
  pg_weak (pg_name hN hi hx hf) fun _ _ _ _ => can_gname
def gsN : TGs3 := fun xs env st Q => match xs with | [] => Q env st | _ => False
def gsC (g : TG3) (gs : TGs3) : TGs3 := fun xs env st Q => match xs with | x :: r => g x env st fun env1 st1 => gs r env1 st1 Q | [] => False
theorem qgs_nil : PGs X [] (canGs X.K gsN) := by
  refine pgs_weak pgs_nil fun vs σ H Q ⟨A, env, st, xs, Q3, rel, e, h, k⟩ => ?_
  cases e with
  | nil => exact ⟨rfl, k A H σ env st (.refl _ _) rel h⟩
  | cons r t => exact False.elim h
theorem qgs_cons (h1 : PG X e (canG X.K Tg)) (h2 : PGs X es (canGs X.K Tgs)) (hs : (assignEach (e :: es) X.env).map (·.2) = assign e X.env :: (assignEach es X.env).map (·.2) := by rfl) : PGs X (e :: es) (canGs X.K (gsC Tg Tgs)) := by
  refine pgs_weak (pgs_cons h1 h2 hs) fun vs σ H Q ⟨A, env, st, xs, Q3, rel, e, h, k⟩ => ?_
  cases e with
  | nil => exact False.elim h
  | cons r t => exact ⟨_, _, rfl, A, env, st, _, _, rel, r, h, fun A1 H1 σ1 env1 st1 g1 r1 h1 => ⟨A1, env1, st1, _, Q3, r1, REs.grow g1 t, h1, k.after g1⟩⟩
def gT (n : Nat) (gs : TGs3) : TG3 := fun x env st Q => match x with | .tup xs => xs.length = n ∧ gs xs env st Q | .lst xs => xs.length = n ∧ gs xs env st Q | _ => False
theorem RVs.res {K : PySem.W.Frag} {A : List Addr} {H : Hp} {xs : List PV} {vs : List V} : RVs K A H xs vs → REs K A H xs vs
  | .nil => .nil
  | .cons r t => .cons (.val r) (RVs.res t)
theorem qg_tup {k : Nat} {n : Nat} (hc : X.calm = true) (h : PGs X es (canGs X.K Tgs)) (hn : (assignEach es X.env).length = n := by rfl) (hst : (assignEach es X.env).findIdx? (·.1) = none := by rfl)
    (hn2 : (assignEach es X.env).length = n := by rfl) (hst2 : (assignEach es X.env).findIdx? (·.1) = none := by rfl) : PG X (.Tuple es k pos) (canG X.K (gT n Tgs)) := by
  refine ⟨fun pins s σ H v u Q I r ⟨A, env, st, x, Q3, rel, e, q, k⟩ => ?_⟩
  cases e with
  | obj e => exact False.elim q
  | val e =>
    cases e with
    | tup t z rs => exact (pg_tup hc h hn hst) pins s σ H _ u Q I r ⟨_, _, rfl, t.sq, by rw [← rs.len]; exact q.1, A, env, st, _, Q3, rel, rs.res, q.2, k⟩
    | lst t z rs => exact (pg_lst hc h hn hst) pins s σ H _ u Q I r ⟨_, _, rfl, t.sq, by rw [← rs.len]; exact q.1, A, env, st, _, Q3, rel, rs.res, q.2, k⟩
    | _ => exact False.elim q
def vAsg (T : TE3) (g : TG3) : TS3 := fun D env st => T env st fun x st1 => g x env st1 D.nx
theorem can_asg {K : PySem.W.Frag} {D : Ends} {σ : St} {H : Hp} : canS K (vAsg Ta Tg) D σ H → tAsg (can K Ta) (canG K Tg) D σ H := by
  rintro ⟨A, env, st, D3, rel, h, k⟩
  exact ⟨A, env, st, _, rel, h, fun A1 H1 st1 x v g1 s1 e1 h1 => ⟨A1, env, st1, x, D3.nx, rel.grow g1 s1, e1, h1, k.nx.after g1⟩⟩
theorem qs_asg {tg : Expr} (he : PE X e (can X.K Ta)) (hg : PG X tg (canG X.K Tg)) (hs : swapsWithSole [tg] e pos.line X.env = pure false := by rfl) (hw : swappedStores [tg] e X.env = pure none := by rfl)
    (h1 : (assignEach [tg] X.env).map (·.2) = [assign tg X.env] := by rfl) : PS X (.Assign [tg] e pos) (canS X.K (vAsg Ta Tg)) := ps_weak (ps_asg he hg hs hw h1) fun _ _ _ => can_asg
theorem qs_set {i : Nat} {x : Str} {pos' : Pos} (hN : X.N.Nodup) (hi : X.N[i]? = some x) (hx : Loc X.env.scope x) (he : PE X e (can X.K Ta)) (hs : swapsWith e (some (.Name x pos')) pos.line X.env = pure false := by rfl) (hf : X.fn x = true ∨ X.env.scope.names.lookup x = some .local := by first | exact .inl rfl | exact .inr rfl | assumption) :
    PS X (.Assign [.Name x pos'] e pos) (canS X.K (vAsg Ta (gN i))) := by
  refine ps_weak (ps_set hN hi hx he hs hf) fun D σ H h => ?_
  obtain ⟨A, env, st, Q3, rel, h, k⟩ := can_asg h
  exact ⟨A, env, st, Q3, rel, h, fun A1 H1 st1 r v g s e q => can_gname (k A1 H1 st1 r v g s e q)⟩
def vPar (i j : Nat) (T : TA3) : TS3 := fun D env st => T env st fun xs st1 => match xs with | [x, y] => D.nx ((env.set i (some x)).set j (some y)) st1 | _ => False
end
end L3
set_option Elab.async false
set_option linter.all false
set_option maxRecDepth 100000
set_option maxHeartbeats 4000000
namespace L3
open PySem PySem.Spec PyProof.Rows L2
def withS : Src → Sto → Prop → Prop
  | none, _, P => P
  | some (i, o), st, P => st[i]? = some o ∧ P
theorem withS.of {src : Src} {st : Sto} {P : Prop} (h : withS src st P) : P := by
  cases src with
  | none => exact h
  | some q => exact h.2
def okS : Src → Sto → Prop
  | none, _ => True
  | some (i, o), st => st[i]? = some o
theorem withS.ok {src : Src} {st : Sto} {P : Prop} (h : withS src st P) : okS src st := by
  cases src with
  | none => exact trivial
  | some q => exact h.1
structure ItOk (K : PySem.W.Frag) (A : List Addr) (H : Hp) (src : Src) (J : It) (xs : List PV) : Prop where
  go : ∀ (i : Nat) A' H' st, Grow A H A' H' → RS K A' H' st → okS src st → i < xs.length → J.go i H'
  yld : ∀ (i : Nat) (x : PV) A' H' st v H2, xs[i]? = some x → Grow A H A' H' → RS K A' H' st → okS src st → J.yld i H' v H2 → Grow A' H' A' H2 ∧ RS K A' H2 st ∧ RE K A' H2 x v
  stop : ∀ A' H' st, Grow A H A' H' → RS K A' H' st → okS src st → J.stop xs.length H'
  small : xs.length ≤ sizeLine
def canI (K : PySem.W.Frag) (I : TI3) : TI := fun σ H R => ∃ A env st Q3, Rel K A H σ env st ∧ I env st Q3 ∧ ∀ A' H' st' src xs J, Grow A H A' H' → RS K A' H' st' → ItOk K A' H' src J xs → Q3 src xs st' → R J H'
def ForW (g : TG3) (b : TS3) (src : Src) (xs : List PV) (D : Ends3) (env : Env3) (st : Sto) : Prop := ∃ P : Nat → Env3 → Sto → Prop, P 0 env st ∧
  (∀ i x env st, xs[i]? = some x → P i env st → withS src st (g x env st fun e s => b { D with nx := P (i + 1), ct := P (i + 1), bk := D.nx } e s)) ∧ (∀ env st, P xs.length env st → withS src st (D.nx env st))
def vFor (I : TI3) (g : TG3) (b : TS3) : TS3 := fun D env st => I env st fun src xs st1 => ForW g b src xs D env st1
def vWhile (c : TT3) (b : TS3) : TS3 := fun D env st => ∃ W : Nat → Env3 → Sto → Prop, (∃ m, W m env st) ∧ ∀ m env st, W m env st →
  c env st fun t st1 => if t = true then ∃ N : Env3 → Sto → Prop, (∀ e s, N e s → ∃ m', m' < m ∧ W m' e s) ∧ b { D with nx := N, ct := N, bk := D.nx } env st1 else D.nx env st1
section
variable {X : Cx} {a b c e tg iter : Expr} {es : List Expr} {pos p : Pos} {Ta Tb : TE3} {TA : TA3} {tc : TT3} {Ti : TI3} {Tg : TG3} {Ts : TS3} {body : List Stmt}
theorem pi_weak {wi wi' : TI} (h : PI X tg iter wi) (w : ∀ σ H R, wi' σ H R → wi σ H R) : PI X tg iter wi' := ⟨fun pins s σ H R I q => h pins s σ H R I (w σ H R q)⟩
theorem qs_for (hp : PassesOwn (model X.prog X.w) X.A X.env X.xe) (hc : X.calm = true) (hi : PI X tg iter (canI X.K Ti)) (hg : PG X tg (canG X.K Tg)) (hb : PSs X body (canS X.K Ts))
    (hs : ∀ x, foldedSetIterable iter X.env x = pure x := by intro _; rfl) : PS X (.For tg iter body [] pos) (canS X.K (vFor Ti Tg Ts)) := by
  refine ps_weak (ps_for hp hc hi hg hb hs) fun D σ H ⟨A, env, st, D3, rel, h, k⟩ => ⟨A, env, st, _, rel, h, fun A1 H1 st1 src xs J g1 s1 it h1 => ?_⟩
  obtain ⟨P, p0, hP, hE⟩ := h1
  refine ⟨fun i m σ' H' => m = xs.length - i ∧ i ≤ xs.length ∧ ∃ A' env' st', Grow A1 H1 A' H' ∧ Rel X.K A' H' σ' env' st' ∧ P i env' st', ⟨_, rfl, Nat.zero_le _, A1, env, st1, .refl _ _, rel.grow g1 s1, p0⟩, ?_⟩
  rintro i m σ' H' ⟨rfl, hi, A', env', st', g', rel', p'⟩
  by_cases hlt : i < xs.length
  · have hx : xs[i]? = some xs[i] := List.getElem?_eq_getElem hlt
    have hw := hP i _ env' st' hx p'
    refine .inr ⟨it.go i A' H' st' g' rel'.rs hw.ok hlt, fun σ2 H2 => i + 1 ≤ xs.length ∧ ∃ A' env' st', Grow A1 H1 A' H2 ∧ Rel X.K A' H2 σ2 env' st' ∧ P (i + 1) env' st', fun σ2 H2 q => ⟨_, by omega, rfl, q⟩, fun v H2 y => ?_⟩
    obtain ⟨g2, s2, e2⟩ := it.yld i _ A' H' st' v H2 hx g' rel'.rs hw.ok y
    refine ⟨A', env', st', _, _, rel'.grow g2 s2, e2, hw.of, fun A3 H3 σ3 env3 st3 g3 r3 h3 => ?_⟩
    have gg := g'.trans (g2.trans g3)
    have k3 := k.after (g1.trans gg)
    exact ⟨A3, env3, st3, _, r3, h3, fun A4 H4 σ4 env4 st4 g4 r4 h4 => ⟨hlt, A4, env4, st4, gg.trans g4, r4, h4⟩, k3.rt, k3.nx, fun A4 H4 σ4 env4 st4 g4 r4 h4 => ⟨hlt, A4, env4, st4, gg.trans g4, r4, h4⟩⟩
  · have e : i = xs.length := by omega
    subst e
    have hw := hE env' st' p'
    exact .inl ⟨it.stop A' H' st' g' rel'.rs hw.ok, k.nx A' H' σ' env' st' (g1.trans g') rel' hw.of⟩
theorem qs_while (hp : PassesOwn (model X.prog X.w) X.A X.env X.xe) (hc : PT X c (canT X.K tc)) (hb : PSs X body (canS X.K Ts)) : PS X (.While c body [] pos) (canS X.K (vWhile tc Ts)) := by
  refine ps_weak (ps_while hp hc hb) fun D σ H ⟨A, env, st, D3, rel, h, k⟩ => ?_
  obtain ⟨W, ⟨m0, w0⟩, hW⟩ := h
  refine ⟨fun m σ' H' => ∃ A' env' st', Grow A H A' H' ∧ Rel X.K A' H' σ' env' st' ∧ W m env' st', ⟨m0, A, env, st, .refl _ _, rel, w0⟩, ?_⟩
  rintro m σ' H' ⟨A', env', st', g', rel', w'⟩
  refine ⟨A', env', st', _, rel', hW m env' st' w', fun A1 H1 st1 t g1 s1 h1 => ?_⟩
  have gg := g'.trans g1
  have kk := k.after gg
  cases t with
  | false => exact k.nx A1 H1 σ' env' st1 gg (rel'.grow g1 s1) h1
  | true =>
    obtain ⟨N, hN, hb1⟩ := h1
    refine ⟨fun σ2 H2 => ∃ A2 env2 st2, Grow A H A2 H2 ∧ Rel X.K A2 H2 σ2 env2 st2 ∧ N env2 st2, ?_, ?_⟩
    · rintro σ2 H2 ⟨A2, env2, st2, g2, r2, n2⟩
      obtain ⟨m', hm, w2⟩ := hN env2 st2 n2
      exact ⟨m', hm, A2, env2, st2, g2, r2, w2⟩
    · exact ⟨A1, env', st1, _, rel'.grow g1 s1, hb1, fun A4 H4 σ4 env4 st4 g4 r4 h4 => ⟨A4, env4, st4, gg.trans g4, r4, h4⟩, kk.rt, kk.nx, fun A4 H4 σ4 env4 st4 g4 r4 h4 => ⟨A4, env4, st4, gg.trans g4, r4, h4⟩⟩
def CompW3 (own : Nat) (g : TG3) (tt : TT3) (el : TE3) (src : Src) (xs : List PV) (Q : List PV → Sto → Prop) (env : Env3) (st : Sto) : Prop := ∃ P : Nat → List PV → Env3 → Sto → Prop, P 0 [] (env ++ List.replicate own none) st ∧
  (∀ i x ys env st, xs[i]? = some x → P i ys env st → withS src st (g x env st fun e s => tt e s fun b s2 => if b = true then el e s2 fun y s3 => noObj y = true ∧ P (i + 1) (ys ++ [y]) e s3 else P (i + 1) ys e s2)) ∧
  (∀ ys env st, P xs.length ys env st → withS src st (Q ys st))
def vComp (own : Nat) (I : TI3) (g : TG3) (tt : TT3) (el : TE3) : TE3 := fun env st Q => I env st fun src xs st1 => CompW3 own g tt el src xs (fun ys st2 => Q (.lst ys) st2) env st1
def vCompO (own : Nat) (I : TI3) (g : TG3) (tt : TT3) (el : TE3) : TE3 := fun env st Q => I env st fun src xs st1 => CompW3 own g tt el src xs (fun ys st2 => Q (.obj st2.length) (st2 ++ [.lst ys])) env st1
def vYes : TT3 := fun _ st Q => Q true st
theorem qf_nil : PF X [] (canT X.K vYes) := pf_weak pf_nil fun σ H Q ⟨A, env, st, Q3, rel, h, k⟩ => k A H st true (.refl _ _) rel.rs h
theorem Rel.more {K : PySem.W.Frag} {A : List Addr} {H : Hp} {σ : St} {env : Env3} {st : Sto} (r : Rel K A H σ env st) (n : Nat) : Rel K A H (σ ++ List.replicate n none) (env ++ List.replicate n none) st := by
  refine ⟨r.rs, by rw [List.length_append, List.length_append, r.len, List.length_replicate, List.length_replicate], fun i x h => ?_⟩
  by_cases hi : i < env.length
  · rw [List.getElem?_append_left hi] at h
    rw [List.getElem?_append_left (by rw [← r.len]; exact hi)]
    exact r.at_ i x h
  · rw [List.getElem?_append_right (by omega), List.getElem?_replicate] at h
    split at h <;> cases h
theorem can_compW {K : PySem.W.Frag} {own : Nat} {g : TG3} {tt : TT3} {el : TE3} {src : Src} {xs : List PV} {Q3 : List PV → Sto → Prop} {Q : VK} {A : List Addr} {H : Hp} {σ : St} {env : Env3} {st : Sto} {J : It} (rel : Rel K A H σ env st) (it : ItOk K A H src J xs)
    (h : CompW3 own g tt el src xs Q3 env st) (k : ∀ A' H' st' ys vs, Grow A H A' H' → RS K A' H' st' → RVs K A' H' ys vs → vs.length ≤ sizeLine → Q3 ys st' → ∀ D, H' D = none → Q (.ref D) (upd H' D (.lst vs))) : CompW own J (canG K g) (canT K tt) (can K el) Q σ H := by
  obtain ⟨P, p0, hP, hE⟩ := h
  refine ⟨fun i m vs σ' H' => m = xs.length - i ∧ i ≤ xs.length ∧ vs.length ≤ i ∧ ∃ A' env' st' ys, Grow A H A' H' ∧ Rel K A' H' σ' env' st' ∧ RVs K A' H' ys vs ∧ P i ys env' st', ⟨_, rfl, Nat.zero_le _, Nat.le_refl _, A, _, st, [], .refl _ _, rel.more own, .nil, p0⟩, ?_⟩
  rintro i m vs σ' H' ⟨rfl, hi, hv, A', env', st', ys, g', rel', rv, p'⟩
  by_cases hlt : i < xs.length
  · have hx : xs[i]? = some xs[i] := List.getElem?_eq_getElem hlt
    have hw := hP i _ ys env' st' hx p'
    refine .inr ⟨it.go i A' H' st' g' rel'.rs hw.ok hlt, Nat.lt_of_lt_of_le (Nat.lt_of_le_of_lt hv hlt) it.small, fun vs σ2 H2 => i + 1 ≤ xs.length ∧ vs.length ≤ i + 1 ∧ ∃ A' env' st' ys, Grow A H A' H2 ∧ Rel K A' H2 σ2 env' st' ∧ RVs K A' H2 ys vs ∧ P (i + 1) ys env' st', fun vs σ2 H2 q => ⟨_, by omega, rfl, q⟩, fun v H2 y => ?_⟩
    obtain ⟨g2, s2, e2⟩ := it.yld i _ A' H' st' v H2 hx g' rel'.rs hw.ok y
    refine ⟨A', env', st', _, _, rel'.grow g2 s2, e2, hw.of, fun A3 H3 σ3 env3 st3 g3 r3 h3 => ⟨A3, env3, st3, _, r3, h3, fun A4 H4 st4 b g4 s4 h4 => ?_⟩⟩
    have gg := g2.trans (g3.trans g4)
    cases b with
    | false => exact ⟨hlt, by omega, A4, env3, st4, ys, g'.trans gg, r3.grow g4 s4, rv.grow gg, h4⟩
    | true =>
      refine ⟨A4, env3, st4, _, r3.grow g4 s4, h4, fun A5 H5 st5 y v5 g5 s5 e5 h5 => ⟨hlt, by rw [List.length_append, List.length_singleton]; omega, A5, env3, st5, ys ++ [y], g'.trans (gg.trans g5), (r3.grow g4 s4).grow g5 s5, ?_, h5.2⟩⟩
      exact (rv.grow (gg.trans g5)).append (.cons (e5.rv h5.1) .nil)
  · have e : i = xs.length := by omega
    subst e
    have hw := hE ys env' st' p'
    have hz := Nat.le_trans hv it.small
    exact .inl ⟨it.stop A' H' st' g' rel'.rs hw.ok, hz, k A' H' st' ys vs g' rel'.rs rv hz hw.of⟩
variable {N' own : List Str} {scope : Scope} {ifs : List Expr} {target : Expr} {te : TE3} {tt : TT3}
theorem can_comp {K : PySem.W.Frag} {own : Nat} {σ : St} {H : Hp} {Q : VK} : can K (vComp own Ti Tg tt te) σ H Q → tComp own (canI K Ti) (canG K Tg) (canT K tt) (can K te) σ H Q := by
  rintro ⟨A, env, st, Q3, rel, h, k⟩
  refine ⟨A, env, st, _, rel, h, fun A1 H1 st1 src xs J g1 s1 it h1 => can_compW (rel.grow g1 s1) it h1 fun A2 H2 st2 ys vs g2 s2 r2 hz q D hD => ?_⟩
  exact k A2 _ st2 _ _ (g1.trans (g2.trans (.new hD))) (s2.new hD) (.val (.lst (.inl ⟨.inl upd_same, s2.fresh hD⟩) hz (r2.grow (.new hD)))) q
theorem q_comp {pos : Pos} (S : CompScope X scope N' own) (hc : X.calm = true) (hi : PI X target iter (canI X.K Ti))
    (hg : ∀ C s H fp pins, PG (cxC X scope (N' ++ own) C s H fp pins) target (canG X.K Tg)) (ht : ∀ C s H fp pins, PF (cxC X scope (N' ++ own) C s H fp pins) ifs (canT X.K tt)) (he : ∀ C s H fp pins, PE (cxC X scope (N' ++ own) C s H fp pins) a (can X.K te))
    (hs : ∀ x, foldedSetIterable iter X.env x = pure x := by intro _; rfl) : PE X (.ListComp a [⟨target, iter, ifs, 0⟩] scope pos) (can X.K (vComp own.length Ti Tg tt te)) := pe_weak (pe_comp S hc hi hg ht he hs) fun _ _ _ => can_comp
theorem it_lst {K : PySem.W.Frag} {A : List Addr} {H : Hp} {a : Addr} {xs : List PV} {vs : List V} (t : LstAt K A H a vs) (hz : vs.length ≤ sizeLine) (r : RVs K A H xs vs) : ItOk K A H none (Itl K a) xs where
  go := fun i A' H' st g s _ hi => by
    rw [r.len] at hi
    exact ⟨vs, vs[i], (t.grow g).sq, by simp [hi]⟩
  yld := fun i x A' H' st v H2 hx g s _ y => by
    obtain ⟨rfl, y⟩ := y
    obtain ⟨w, ew, rw'⟩ := r.get hx
    have := y vs (t.grow g).sq
    rw [ew] at this; cases this
    exact ⟨.refl _ _, s, .val (rw'.grow g)⟩
  stop := fun A' H' st g s _ => ⟨vs, (t.grow g).sq, by rw [r.len]; exact Nat.le_refl _⟩
  small := by rw [r.len]; exact hz
theorem it_tup {K : PySem.W.Frag} {A : List Addr} {H : Hp} {a : Addr} {xs : List PV} {vs : List V} (t : TupAt K A H a vs) (hz : vs.length ≤ sizeLine) (r : RVs K A H xs vs) : ItOk K A H none (Itt K a) xs where
  go := fun i A' H' st g s _ hi => by
    rw [r.len] at hi
    exact ⟨vs, vs[i], (t.grow g).sq, by simp [hi]⟩
  yld := fun i x A' H' st v H2 hx g s _ y => by
    obtain ⟨rfl, y⟩ := y
    obtain ⟨w, ew, rw'⟩ := r.get hx
    have := y vs (t.grow g).sq
    rw [ew] at this; cases this
    exact ⟨.refl _ _, s, .val (rw'.grow g)⟩
  stop := fun A' H' st g s _ => ⟨vs, (t.grow g).sq, by rw [r.len]; exact Nat.le_refl _⟩
  small := by rw [r.len]; exact hz
theorem it_obj {K : PySem.W.Frag} {A : List Addr} {H : Hp} {i : Nat} {a : Addr} {xs : List PV} (e : A[i]? = some a) (hz : xs.length ≤ sizeLine) : ItOk K A H (some (i, .lst xs)) (Itl K a) xs where
  go := fun j A' H' st g s ok hi => by
    obtain ⟨vs, h, r, _⟩ := s.at_ i a _ (g.sub e) ok
    rw [r.len] at hi
    exact ⟨vs, vs[j], .of h, by simp [hi]⟩
  yld := fun j x A' H' st v H2 hx g s ok y => by
    obtain ⟨rfl, y⟩ := y
    obtain ⟨vs, h, r, _⟩ := s.at_ i a _ (g.sub e) ok
    obtain ⟨w, ew, rw'⟩ := r.get hx
    have := y vs (.of h)
    rw [ew] at this; cases this
    exact ⟨.refl _ _, s, .val rw'⟩
  stop := fun A' H' st g s ok => by
    obtain ⟨vs, h, r, _⟩ := s.at_ i a _ (g.sub e) ok
    exact ⟨vs, .of h, by rw [r.len]; exact Nat.le_refl _⟩
  small := hz
def rngL (lo : Int) (n : Nat) : List PV := (List.range n).map fun i : Nat => .int (lo + (i : Int))
theorem rngL_len (lo : Int) (n : Nat) : (rngL lo n).length = n := by unfold rngL; rw [List.length_map, List.length_range]
theorem rngL_at {lo : Int} {n i : Nat} {x : PV} (h : (rngL lo n)[i]? = some x) : i < n ∧ x = .int (lo + i) := by
  have hi := (List.getElem?_eq_some_iff.mp h).1
  rw [rngL_len] at hi
  unfold rngL at h
  rw [List.getElem?_map, List.getElem?_range hi] at h
  exact ⟨hi, (Option.some.inj h).symm⟩
theorem it_rng {K : PySem.W.Frag} {A : List Addr} {H : Hp} {lo : Int} {n : Nat} (hz : n ≤ sizeLine) : ItOk K A H none (Itr lo n) (rngL lo n) where
  go := fun i A' H' st g s _ hi => by rw [rngL_len] at hi; exact hi
  yld := fun i x A' H' st v H2 hx g s _ y => by
    obtain ⟨rfl, rfl⟩ := y
    obtain ⟨_, rfl⟩ := rngL_at hx
    exact ⟨.refl _ _, s, .val (.int _)⟩
  stop := fun A' H' st g s _ => by rw [rngL_len]; exact Nat.le_refl n
  small := by rw [rngL_len]; exact hz
def iRng (T : TA3) : TI3 := fun env st Q => T env st fun xs st1 => match xs with
  | [.int j] => (-1000000 ≤ j ∧ j ≤ 1000000) ∧ Q none (rngL 0 j.toNat) st1
  | _ => False
def iRngB (T : TA3) : TI3 := fun env st Q => T env st fun xs st1 => match xs with
  | [.int i, .int j] => (-1000000 ≤ i ∧ i ≤ 1000000 ∧ -1000000 ≤ j ∧ j ≤ 1000000) ∧ Q none (rngL i (j - i).toNat) st1
  | _ => False
end
end L3
set_option Elab.async false
set_option linter.all false
set_option maxRecDepth 100000
set_option maxHeartbeats 4000000
namespace L3
open PySem PySem.Spec PyProof.Rows L2
section
variable {X : Cx}
theorem op_vals {f : Value → Value → Sem Value} {R : R3}
    (h : ∀ pins s σ H A st x y v w vv ww Q3 Q, Inv X pins σ H s → RS X.K A H st → RE X.K A H x v → RE X.K A H y w → RelV v vv → RelV w ww → R x y st Q3 → Fin X.K A H Q3 Q → wpAny (model X.prog X.w) X.A (f vv ww) (EP X pins σ Q) X.xe s) : OpR X f (canR X.K R) := by
  rintro pins s σ H v w vv ww Q I rv rw ⟨A, st, x, y, Q3, rs, ex, ey, hR, k⟩
  exact h pins s σ H A st x y v w vv ww Q3 Q I rs ex ey rv rw hR k
def rSub3 : R3 := fun x y st Q => match x, y with | .int i, .int j => Q (.int (i - j)) st | _, _ => False
def rMul3 : R3 := fun x y st Q => match x, y with
  | .int i, .int j => ((-(2 ^ 64) < i ∧ i < 2 ^ 64) ∨ (-(2 ^ 64) < j ∧ j < 2 ^ 64)) ∧ Q (.int (i * j)) st
  | .str z, .int n => if n = 0 then Q (.str Str.empty) st else n = 1 ∧ Q (.str z) st
  | _, _ => False
def rMod3 : R3 := fun x y st Q => match x, y with | .int i, .int j => 0 < j ∧ Q (.int (i % j)) st | _, _ => False
def rDiv3 : R3 := fun x y st Q => match x, y with | .int i, .int j => (0 < j ∧ j < 1099511627776) ∧ Q (.int (i / j)) st | _, _ => False
def rPow3 : R3 := fun x y st Q => match x, y with | .int i, .int j => CPow i j ∧ Q (.int (i ^ j.toNat)) st | _, _ => False
theorem op_fdivW {X : Cx} : OpR X (binaryOp .FloorDiv) (rI (fun _ j => 0 < j ∧ j < 1099511627776) fun i j => .int (i / j)) := opI fun i j _ _ _ _ _ hc q => by
  have e : i.fdiv j = i / j := Int.fdiv_eq_ediv_of_nonneg _ (by omega)
  rw [← e] at q
  refine PyProof.Rows.floordiv_int (by omega) q (.inl (PyProof.noPylong_of_log2 ?_))
  by_cases z : j.natAbs = 0
  · rw [z]; decide
  · have := (Nat.log2_lt z).mpr (show j.natAbs < 2 ^ 40 by omega)
    omega
theorem ints_of {K : PySem.W.Frag} {A : List Addr} {H : Hp} {i : Int} {v : V} (e : RE K A H (.int i) v) : v = .int i := by
  cases e with | val e => cases e; rfl
theorem strs_of {K : PySem.W.Frag} {A : List Addr} {H : Hp} {i : Str} {v : V} (e : RE K A H (.str i) v) : v = .str i := by
  cases e with | val e => cases e; rfl
theorem bls_of {K : PySem.W.Frag} {A : List Addr} {H : Hp} {i : Bool} {v : V} (e : RE K A H (.bl i) v) : v = .bl i := by
  cases e with | val e => cases e; rfl
theorem o_sub : OpR X (binaryOp .Sub) (canR X.K rSub3) := op_vals fun pins s σ H A st x y v w vv ww Q3 Q I rs ex ey rv rw h k => by
  unfold rSub3 at h
  split at h
  · cases ints_of ex; cases ints_of ey
    exact op_sub pins s σ H _ _ vv ww Q I rv rw ⟨_, _, rfl, rfl, k.now rs (.val (.int _)) h⟩
  · exact h.elim
theorem o_mul : OpR X (binaryOp .Mult) (canR X.K rMul3) := op_vals fun pins s σ H A st x y v w vv ww Q3 Q I rs ex ey rv rw h k => by
  unfold rMul3 at h
  split at h
  · cases ints_of ex; cases ints_of ey
    exact op_mul pins s σ H _ _ vv ww Q I rv rw ⟨_, _, rfl, rfl, h.1, k.now rs (.val (.int _)) h.2⟩
  · cases strs_of ex; cases ints_of ey
    rename_i z n
    by_cases hn : n = 0
    · rw [if_pos hn] at h
      exact op_mulS pins s σ H _ _ vv ww Q I rv rw ⟨_, _, rfl, rfl, .inl ⟨hn, k.now rs (.val (.str _)) h⟩⟩
    · rw [if_neg hn] at h
      exact op_mulS pins s σ H _ _ vv ww Q I rv rw ⟨_, _, rfl, rfl, .inr ⟨h.1, k.now rs (.val (.str _)) h.2⟩⟩
  · exact h.elim
theorem o_mod : OpR X (binaryOp .Mod) (canR X.K rMod3) := op_vals fun pins s σ H A st x y v w vv ww Q3 Q I rs ex ey rv rw h k => by
  unfold rMod3 at h
  split at h
  · cases ints_of ex; cases ints_of ey
    exact op_mod pins s σ H _ _ vv ww Q I rv rw ⟨_, _, rfl, rfl, h.1, k.now rs (.val (.int _)) h.2⟩
  · exact h.elim
theorem o_div : OpR X (binaryOp .FloorDiv) (canR X.K rDiv3) := op_vals fun pins s σ H A st x y v w vv ww Q3 Q I rs ex ey rv rw h k => by
  unfold rDiv3 at h
  split at h
  · cases ints_of ex; cases ints_of ey
    exact op_fdivW pins s σ H _ _ vv ww Q I rv rw ⟨_, _, rfl, rfl, h.1, k.now rs (.val (.int _)) h.2⟩
  · exact h.elim
theorem o_pow : OpR X (binaryOp .Pow) (canR X.K rPow3) := op_vals fun pins s σ H A st x y v w vv ww Q3 Q I rs ex ey rv rw h k => by
  unfold rPow3 at h
  split at h
  · cases ints_of ex; cases ints_of ey
    exact op_pow pins s σ H _ _ vv ww Q I rv rw ⟨_, _, rfl, rfl, h.1, k.now rs (.val (.int _)) h.2⟩
  · exact h.elim
def rNeg3 : PV → Sto → K3 → Prop := fun x st Q => match x with | .int i => Q (.int (-i)) st | _ => False
def rCmp3 (f : Int → Int → Bool) : R3 := fun x y st Q => match x, y with | .int i, .int j => Q (.bl (f i j)) st | _, _ => False
theorem o_cmp {op : CmpOp} {f : Int → Int → Bool} (ho : OpR X (compareOp op) (rI0 fun i j => .bl (f i j))) : OpR X (compareOp op) (canR X.K (rCmp3 f)) := op_vals fun pins s σ H A st x y v w vv ww Q3 Q I rs ex ey rv rw h k => by
  unfold rCmp3 at h
  split at h
  · cases ints_of ex; cases ints_of ey
    exact ho pins s σ H _ _ vv ww Q I rv rw ⟨_, _, rfl, rfl, k.now rs (.val (.bl _)) h⟩
  · exact h.elim
theorem o_lt : OpR X (compareOp .Lt) (canR X.K (rCmp3 fun i j => decide (i < j))) := o_cmp op_lt
theorem o_le : OpR X (compareOp .LtE) (canR X.K (rCmp3 fun i j => decide (i ≤ j))) := o_cmp op_le
theorem o_gt : OpR X (compareOp .Gt) (canR X.K (rCmp3 fun i j => decide (j < i))) := o_cmp op_gt
theorem o_ge : OpR X (compareOp .GtE) (canR X.K (rCmp3 fun i j => decide (j ≤ i))) := o_cmp op_ge
def isNon : PV → Bool
  | .non => true
  | _ => false
def rIsN3 : R3 := fun x y st Q => match y with | .non => Q (.bl (isNon x)) st | _ => False
def rNotN3 : R3 := fun x y st Q => match y with | .non => Q (.bl (!isNon x)) st | _ => False
theorem isNon_eq {K : PySem.W.Frag} {A : List Addr} {H : Hp} {x : PV} {v : V} (e : RE K A H x v) : decide (v = .non) = isNon x := by
  cases e with
  | obj e => rfl
  | val e => cases e <;> rfl
theorem o_isN : OpR X (compareOp .Is) (canR X.K rIsN3) := op_vals fun pins s σ H A st x y v w vv ww Q3 Q I rs ex ey rv rw h k => by
  unfold rIsN3 at h
  split at h
  · have hw : w = .non := by cases ey with | val e => cases e; rfl
    exact op_isN pins s σ H _ _ vv ww Q I rv rw ⟨hw, by rw [isNon_eq ex]; exact k.now rs (.val (.bl _)) h⟩
  · exact h.elim
theorem o_notN : OpR X (compareOp .IsNot) (canR X.K rNotN3) := op_vals fun pins s σ H A st x y v w vv ww Q3 Q I rs ex ey rv rw h k => by
  unfold rNotN3 at h
  split at h
  · have hw : w = .non := by cases ey with | val e => cases e; rfl
    exact op_notN pins s σ H _ _ vv ww Q I rv rw ⟨hw, by rw [isNon_eq ex]; exact k.now rs (.val (.bl _)) h⟩
  · exact h.elim
theorem op_catG : OpR X (binaryOp .Add) (fun x y H Q => ∃ a b xs ys, x = .ref a ∧ y = .ref b ∧ SqT X.K H a xs ∧ SqT X.K H b ys ∧ xs.length + ys.length ≤ sizeLine ∧
    (xs = [] → Q (.ref b) H) ∧ (ys = [] → Q (.ref a) H) ∧ ∀ p, H p = none → Q (.ref p) (upd H p (.tup (xs ++ ys)))) := by
  intro pins s σ H x y v u Q I rx ry h
  obtain ⟨a, b, xs, ys, rfl, rfl, ha, hb, hz, q1, q2, q3⟩ := h
  by_cases hx : xs = []
  · cases rx; cases ry
    subst hx
    obtain ⟨its, r1, p1, _⟩ := I.tuple ha
    obtain ⟨its2, r2, p2, _⟩ := I.tuple hb
    have hv : its = [] := r1.nil_iff.mpr rfl
    subst hv
    obtain ⟨⟨cls, dd, data, sl⟩, ho, hc, n, hd⟩ := id p1
    obtain ⟨⟨cls2, dd2, data2, sl2⟩, ho2, hc2, n2, hd2⟩ := id p2
    simp only at hc hd hc2 hd2
    subst hc hd hc2 hd2
    exact concat_meets ⟨_, ho, rfl⟩ ⟨_, ho2, rfl⟩ noFill_tuple_add seq_tuple_add PySem.F.slot_tuple_add PySem.F.entry_tuple_add (PySem.F.args_tuple_add_2 _ _)
      (tuple_addW0 a b _ its2.toArray n n2 dd dd2 sl sl2 (by simp)) ⟨ho, ho2, ⟨.ref b, H, I, rfl, q1 rfl⟩⟩
  · exact op_catT pins s σ H _ _ v u Q I rx ry ⟨a, b, _, _, rfl, rfl, ha, hb, hx, hz, q2, fun _ => q3⟩
def rAdd3 : R3 := fun x y st Q => match x, y with
  | .int i, .int j => Q (.int (i + j)) st
  | .str i, .str j => i.length + j.length ≤ sizeLine ∧ Q (.str (i ++ j)) st
  | .tup xs, .tup ys => xs.length + ys.length ≤ sizeLine ∧ Q (.tup (xs ++ ys)) st
  | .lst xs, .lst ys => xs.length + ys.length ≤ sizeLine ∧ Q (.lst (xs ++ ys)) st
  | _, _ => False
theorem RVs.nil_iff {K : PySem.W.Frag} {A : List Addr} {H : Hp} {xs : List PV} {vs : List V} (h : RVs K A H xs vs) : vs = [] → xs = [] := by
  cases h with
  | nil => exact fun _ => rfl
  | cons r t => exact fun z => nomatch z
theorem Fin.tup {K : PySem.W.Frag} {A : List Addr} {H : Hp} {Q3 : K3} {Q : VK} {st : Sto} {xs : List PV} {vs : List V} (k : Fin K A H Q3 Q) (rs : RS K A H st) (r : RVs K A H xs vs) (hz : vs.length ≤ sizeLine) (q : Q3 (.tup xs) st) : ∀ p, H p = none → Q (.ref p) (upd H p (.tup vs)) :=
  fun p hp => k A _ st _ _ (.new hp) (rs.new hp) (.val (.tup (.inl ⟨.inl upd_same, rs.fresh hp⟩) hz (r.grow (.new hp)))) q
theorem Fin.lst {K : PySem.W.Frag} {A : List Addr} {H : Hp} {Q3 : K3} {Q : VK} {st : Sto} {xs : List PV} {vs : List V} (k : Fin K A H Q3 Q) (rs : RS K A H st) (r : RVs K A H xs vs) (hz : vs.length ≤ sizeLine) (q : Q3 (.lst xs) st) : ∀ p, H p = none → Q (.ref p) (upd H p (.lst vs)) :=
  fun p hp => k A _ st _ _ (.new hp) (rs.new hp) (.val (.lst (.inl ⟨.inl upd_same, rs.fresh hp⟩) hz (r.grow (.new hp)))) q
theorem op_catL : OpR X (binaryOp .Add) (fun x y H Q => ∃ a b xs ys, x = .ref a ∧ y = .ref b ∧ SqL X.K H a xs ∧ SqL X.K H b ys ∧ xs.length + ys.length ≤ sizeLine ∧ ∀ p, H p = none → Q (.ref p) (upd H p (.lst (xs ++ ys)))) := by
  intro pins s σ H x y v u Q I rx ry h
  obtain ⟨a, b, xs, ys, rfl, rfl, ha, hb, hz, q⟩ := h
  cases rx; cases ry
  obtain ⟨its, n, r1, e, _⟩ := I.listX ha
  obtain ⟨its2, n2, r2, e2, _⟩ := I.listX hb
  have l1 := r1.length; have l2 := r2.length
  refine PySem.P.add_list e e2 ?_ (by rw [List.size_toArray, List.size_toArray]; omega)
  have ea : its.toArray ++ its2.toArray = (its ++ its2).toArray := by simp
  rw [ea]
  exact ⟨.ref _, _, I.lnew (t' := s.toks) (r1.append r2) (by rw [List.length_append]; omega), rfl, q _ I.fresh⟩
theorem o_add : OpR X (binaryOp .Add) (canR X.K rAdd3) := op_vals fun pins s σ H A st x y v w vv ww Q3 Q I rs ex ey rv rw h k => by
  unfold rAdd3 at h
  split at h
  · cases ints_of ex; cases ints_of ey
    exact op_add pins s σ H _ _ vv ww Q I rv rw ⟨_, _, rfl, rfl, k.now rs (.val (.int _)) h⟩
  · cases strs_of ex; cases strs_of ey
    exact op_add_str pins s σ H _ _ vv ww Q I rv rw ⟨_, _, rfl, rfl, h.1, k.now rs (.val (.str _)) h.2⟩
  · cases ex with | val ex => cases ey with | val ey => cases ex with | tup t z r => cases ey with | tup t2 z2 r2 =>
      have hl : _ := h.1
      rw [r.len, r2.len] at hl
      refine op_catG pins s σ H _ _ vv ww Q I rv rw ⟨_, _, _, _, rfl, rfl, t.sq, t2.sq, hl, fun e => ?_, fun e => ?_, k.tup rs (r.append r2) (by rw [List.length_append]; exact hl) h.2⟩
      · have e2 := r.nil_iff e
        subst e2
        exact k.now rs (.val (.tup t2 z2 r2)) h.2
      · have e2 := r2.nil_iff e
        subst e2
        refine k.now rs (.val (.tup t z r)) ?_
        have := h.2
        rw [List.append_nil] at this
        exact this
  · cases ex with | val ex => cases ey with | val ey => cases ex with | lst t z r => cases ey with | lst t2 z2 r2 =>
      have hl : _ := h.1
      rw [r.len, r2.len] at hl
      exact op_catL pins s σ H _ _ vv ww Q I rv rw ⟨_, _, _, _, rfl, rfl, t.sq, t2.sq, hl, k.lst rs (r.append r2) (by rw [List.length_append]; exact hl) h.2⟩
  · exact h.elim
end
end L3
set_option Elab.async false
set_option linter.all false
set_option maxRecDepth 100000
set_option maxHeartbeats 4000000
namespace L3
open PySem PySem.Spec PyProof.Rows L2
mutual
def eqP : PV → PV → Bool
  | .non, .non => true
  | .bl a, .bl b => a == b
  | .bl a, .int b => (if a then 1 else 0) == b
  | .int a, .bl b => a == (if b then 1 else 0)
  | .int a, .int b => a == b
  | .str a, .str b => a == b
  | .tup xs, .tup ys => eqPs xs ys
  | .lst xs, .lst ys => eqPs xs ys
  | _, _ => false
def eqPs : List PV → List PV → Bool
  | [], [] => true
  | x :: xs, y :: ys => eqP x y && eqPs xs ys
  | _, _ => false
end
mutual
def dpt : PV → Nat
  | .tup xs => dpts xs + 1
  | .lst xs => dpts xs + 1
  | .dct _ => 1000
  | .itb _ => 1000
  | .clo _ => 1000
  | .ty _ => 1000
  | .obj _ => 1000
  | _ => 0
def dpts : List PV → Nat
  | [] => 0
  | x :: xs => max (dpt x) (dpts xs)
end
theorem dpts_at : ∀ {xs : List PV} {i : Nat} {x : PV}, xs[i]? = some x → dpt x ≤ dpts xs
  | y :: ys, 0, x, h => by simp at h; subst h; unfold dpts; exact Nat.le_max_left _ _
  | y :: ys, i + 1, x, h => by
    have := dpts_at (xs := ys) (i := i) (x := x) (by simpa using h)
    unfold dpts; exact Nat.le_trans this (Nat.le_max_right _ _)
mutual
theorem eqP_refl : ∀ (x : PV), dpt x < 1000 → eqP x x = true
  | .non, _ => by unfold eqP; rfl
  | .bl b, _ => by unfold eqP; simp
  | .int i, _ => by unfold eqP; simp
  | .str s, _ => by unfold eqP; simp
  | .tup xs, h => by unfold eqP; exact eqPs_refl xs (by unfold dpt at h; omega)
  | .lst xs, h => by unfold eqP; exact eqPs_refl xs (by unfold dpt at h; omega)
  | .dct _, h => by unfold dpt at h; omega
  | .itb _, h => by unfold dpt at h; omega
  | .clo _, h => by unfold dpt at h; omega
  | .ty _, h => by unfold dpt at h; omega
  | .obj _, h => by unfold dpt at h; omega
theorem eqPs_refl : ∀ (xs : List PV), dpts xs < 1000 → eqPs xs xs = true
  | [], _ => by unfold eqPs; rfl
  | x :: xs, h => by
    unfold dpts at h
    unfold eqPs
    rw [eqP_refl x (by omega), eqPs_refl xs (by omega)]; rfl
end
theorem eqPs_all : ∀ (xs ys : List PV), eqPs xs ys = ((List.range (min xs.length ys.length)).all (fun j => match xs[j]?, ys[j]? with | some x, some y => eqP x y | _, _ => true) && xs.length == ys.length)
  | [], [] => by unfold eqPs; rfl
  | [], y :: ys => by unfold eqPs; simp
  | x :: xs, [] => by unfold eqPs; simp
  | x :: xs, y :: ys => by
    unfold eqPs
    rw [eqPs_all xs ys]
    rw [List.length_cons, List.length_cons, Nat.succ_min_succ, List.range_succ_eq_map, List.all_cons, List.all_map]
    simp only [List.getElem?_cons_zero, Bool.and_assoc]
    congr 1
    have e : ((fun j => match (x :: xs)[j]?, (y :: ys)[j]? with | some x, some y => eqP x y | _, _ => true) ∘ Nat.succ) = fun j => match xs[j]?, ys[j]? with | some x, some y => eqP x y | _, _ => true := by
      funext j; simp
    rw [e]
    congr 1
    rw [Bool.eq_iff_iff]; simp
section
variable {X : Cx} {pins : List (Addr × Obj)} {σ : St} {H : Hp} {s : Shared} {A : List Addr}
theorem Inv.lst_tup (I : Inv X pins σ H s) {a : Addr} {xs ys : List V} (h1 : SqL X.K H a xs) (h2 : SqT X.K H a ys) : False := by
  obtain ⟨its, _, p, _⟩ := I.list h1
  obtain ⟨its2, _, p2, _⟩ := I.tuple h2
  exact SeqAt.ne_of_list_tuple p.isList p2 rfl
mutual
theorem RV.inj (I : Inv X pins σ H s) {x y : PV} {v : V} (a : RV X.K A H x v) (b : RV X.K A H y v) (h1 : dpt x < 1000) (h2 : dpt y < 1000) : x = y := by
  cases a with
  | non => cases b; rfl
  | bl _ => cases b; rfl
  | int _ => cases b; rfl
  | str _ => cases b; rfl
  | ty _ => cases b; rfl
  | tup t z r =>
    cases b with
    | tup t2 z2 r2 =>
      have e := I.tuple_inj t.sq t2.sq
      subst e
      rw [RVs.inj2 I r r2 (by unfold dpt at h1; omega) (by unfold dpt at h2; omega)]
    | lst t2 z2 r2 => exact (Inv.lst_tup I t2.sq t.sq).elim
    | dct _ _ _ => unfold dpt at h2; omega
    | itb _ _ => unfold dpt at h2; omega
    | clo _ => unfold dpt at h2; omega
  | lst t z r =>
    cases b with
    | lst t2 z2 r2 =>
      have e := I.list_inj t.sq t2.sq
      subst e
      rw [RVs.inj2 I r r2 (by unfold dpt at h1; omega) (by unfold dpt at h2; omega)]
    | tup t2 z2 r2 => exact (Inv.lst_tup I t.sq t2.sq).elim
    | dct _ _ _ => unfold dpt at h2; omega
    | itb _ _ => unfold dpt at h2; omega
    | clo _ => unfold dpt at h2; omega
  | dct _ _ _ => unfold dpt at h1; omega
  | itb _ _ => unfold dpt at h1; omega
  | clo _ => unfold dpt at h1; omega
theorem RVs.inj2 (I : Inv X pins σ H s) {xs ys : List PV} {vs : List V} (a : RVs X.K A H xs vs) (b : RVs X.K A H ys vs) (h1 : dpts xs < 1000) (h2 : dpts ys < 1000) : xs = ys := by
  cases a with
  | nil => cases b; rfl
  | cons r t =>
    cases b with
    | cons r2 t2 =>
      unfold dpts at h1 h2
      rw [RV.inj I r r2 (by omega) (by omega), RVs.inj2 I t t2 (by omega) (by omega)]
end
theorem items_at {n : Nat} {B : Around} {xs ys : List PV} {vs ws : List V} {its its2 : List Value} (rx : RVs X.K A H xs vs) (ry : RVs X.K A H ys ws) (r1 : Vals vs its) (r2 : Vals ws its2)
    (ih : ∀ x y v w vv ww, dpt x ≤ n → dpt y < 1000 → RV X.K A H x v → RV X.K A H y w → RelV v vv → RelV w ww → SeqAt.EqAt B s vv ww (eqP x y)) (hx : dpts xs ≤ n) (hy : dpts ys < 1000) :
    ∀ j (h1 : j < its.toArray.size) (h2 : j < its2.toArray.size), SeqAt.EqAt B s its.toArray[j] its2.toArray[j] ((fun j => match xs[j]?, ys[j]? with | some x, some y => eqP x y | _, _ => true) j) := fun j h1 h2 => by
  obtain ⟨v, ev, rv⟩ := vals_at r1 h1
  obtain ⟨w, ew, rw'⟩ := vals_at r2 h2
  obtain ⟨x, ex, rx'⟩ := rx.get' ev
  obtain ⟨y, ey, ry'⟩ := ry.get' ew
  show SeqAt.EqAt B s _ _ (match xs[j]?, ys[j]? with | some x, some y => eqP x y | _, _ => true)
  rw [ex, ey]
  exact ih x y v w _ _ (Nat.le_trans (dpts_at ex) hx) (Nat.lt_of_le_of_lt (dpts_at ey) hy) rx' ry' rv rw'
def sameSeq : PV → PV → Bool
  | .tup _, .tup _ => true
  | .lst _, .lst _ => true
  | _, _ => false
inductive Kd (s : Shared) : PV → Value → Prop
  | non : Kd s .non .none
  | bl (b : Bool) : Kd s (.bl b) (.bool b)
  | int (i : Int) (t : Tok) : Kd s (.int i) (.int i t)
  | str (z : Str) (t : Tok) : Kd s (.str z) (.str z t)
  | tup {xs : List PV} {a : Addr} {its : Array Value} : IsTup s.heap a its → Kd s (.tup xs) (.ref a)
  | lst {xs : List PV} {a : Addr} {its : Array Value} : s.heap.IsList a its → Kd s (.lst xs) (.ref a)
theorem kd_of (I : Inv X pins σ H s) {x : PV} {v : V} {vv : Value} (rx : RV X.K A H x v) (rv : RelV v vv) (h : dpt x < 1000) : Kd s x vv := by
  cases rx with
  | non => cases rv; exact .non
  | bl b => cases rv; exact .bl b
  | int i => obtain ⟨t, rfl⟩ := rv; exact .int i t
  | str z => obtain ⟨t, rfl⟩ := rv; exact .str z t
  | ty n => unfold dpt at h; omega
  | tup t z r => cases rv; obtain ⟨its, _, p, _⟩ := I.tuple t.sq; exact .tup p
  | lst t z r => cases rv; obtain ⟨its, _, p, _⟩ := I.list t.sq; exact .lst p.isList
  | dct t z r => unfold dpt at h; omega
  | itb _ _ => unfold dpt at h; omega
  | clo _ => unfold dpt at h; omega
open SeqAt in
theorem eq_kd {B : Around} (hu : B.units < cLine) : ∀ {x y : PV} {vv ww : Value}, Kd s x vv → Kd s y ww → sameSeq x y = false → EqAt B s vv ww (eqP x y)
  | _, _, _, _, .non, .non, _ => by simp only [eqP, Bool.not_false, Bool.not_true]; exact EqAt.same _
  | _, _, _, _, .non, .bl b, _ => by simp only [eqP, Bool.not_false, Bool.not_true]; exact EqAt.none_bool _
  | _, _, _, _, .non, .int b b2, _ => by simp only [eqP, Bool.not_false, Bool.not_true]; exact EqAt.none_int _ _
  | _, _, _, _, .non, .str b b2, _ => by simp only [eqP, Bool.not_false, Bool.not_true]; exact EqAt.none_str _ _
  | _, _, _, _, .non, .tup b, _ => by simp only [eqP, Bool.not_false, Bool.not_true]; exact EqAt.none_tuple b hu
  | _, _, _, _, .non, .lst b, _ => by simp only [eqP, Bool.not_false, Bool.not_true]; exact EqAt.none_list b hu
  | _, _, _, _, .bl a, .non, _ => by simp only [eqP, Bool.not_false, Bool.not_true]; exact EqAt.bool_none _
  | _, _, _, _, .bl a, .bl b, _ => by simp only [eqP, Bool.not_false, Bool.not_true]; exact EqAt.bool_bool _ _
  | _, _, _, _, .bl a, .int b b2, _ => by simp only [eqP, Bool.not_false, Bool.not_true]; exact EqAt.bool_int _ _ _
  | _, _, _, _, .bl a, .str b b2, _ => by simp only [eqP, Bool.not_false, Bool.not_true]; exact EqAt.bool_str _ _ _
  | _, _, _, _, .bl a, .tup b, _ => by simp only [eqP, Bool.not_false, Bool.not_true]; exact EqAt.bool_tuple _ b hu
  | _, _, _, _, .bl a, .lst b, _ => by simp only [eqP, Bool.not_false, Bool.not_true]; exact EqAt.bool_list _ b hu
  | _, _, _, _, .int a a2, .non, _ => by simp only [eqP, Bool.not_false, Bool.not_true]; exact EqAt.int_none _ _
  | _, _, _, _, .int a a2, .bl b, _ => by simp only [eqP, Bool.not_false, Bool.not_true]; exact EqAt.int_bool _ _ _
  | _, _, _, _, .int a a2, .int b b2, _ => by simp only [eqP, Bool.not_false, Bool.not_true]; exact EqAt.int_int _ _ _ _
  | _, _, _, _, .int a a2, .str b b2, _ => by simp only [eqP, Bool.not_false, Bool.not_true]; exact EqAt.int_str _ _ _ _
  | _, _, _, _, .int a a2, .tup b, _ => by simp only [eqP, Bool.not_false, Bool.not_true]; exact EqAt.int_tuple _ _ b hu
  | _, _, _, _, .int a a2, .lst b, _ => by simp only [eqP, Bool.not_false, Bool.not_true]; exact EqAt.int_list _ _ b hu
  | _, _, _, _, .str a a2, .non, _ => by simp only [eqP, Bool.not_false, Bool.not_true]; exact EqAt.str_none _ _
  | _, _, _, _, .str a a2, .bl b, _ => by simp only [eqP, Bool.not_false, Bool.not_true]; exact EqAt.str_bool _ _ _
  | _, _, _, _, .str a a2, .int b b2, _ => by simp only [eqP, Bool.not_false, Bool.not_true]; exact EqAt.str_int _ _ _ _
  | _, _, _, _, .str a a2, .str b b2, _ => by simp only [eqP, Bool.not_false, Bool.not_true]; exact EqAt.str_str _ _ _ _
  | _, _, _, _, .str a a2, .tup b, _ => by simp only [eqP, Bool.not_false, Bool.not_true]; exact EqAt.str_tuple _ _ b hu
  | _, _, _, _, .str a a2, .lst b, _ => by simp only [eqP, Bool.not_false, Bool.not_true]; exact EqAt.str_list _ _ b hu
  | _, _, _, _, .tup a, .non, _ => by simp only [eqP, Bool.not_false, Bool.not_true]; exact EqAt.tuple_none a hu
  | _, _, _, _, .tup a, .bl b, _ => by simp only [eqP, Bool.not_false, Bool.not_true]; exact EqAt.tuple_bool _ a hu
  | _, _, _, _, .tup a, .int b b2, _ => by simp only [eqP, Bool.not_false, Bool.not_true]; exact EqAt.tuple_int _ _ a hu
  | _, _, _, _, .tup a, .str b b2, _ => by simp only [eqP, Bool.not_false, Bool.not_true]; exact EqAt.tuple_str _ _ a hu
  | _, _, _, _, .tup _, .tup _, h => Bool.noConfusion h
  | _, _, _, _, .tup a, .lst b, _ => by simp only [eqP, Bool.not_false, Bool.not_true]; exact EqAt.tuple_list a b hu
  | _, _, _, _, .lst a, .non, _ => by simp only [eqP, Bool.not_false, Bool.not_true]; exact EqAt.list_none a hu
  | _, _, _, _, .lst a, .bl b, _ => by simp only [eqP, Bool.not_false, Bool.not_true]; exact EqAt.list_bool _ a hu
  | _, _, _, _, .lst a, .int b b2, _ => by simp only [eqP, Bool.not_false, Bool.not_true]; exact EqAt.list_int _ _ a hu
  | _, _, _, _, .lst a, .str b b2, _ => by simp only [eqP, Bool.not_false, Bool.not_true]; exact EqAt.list_str _ _ a hu
  | _, _, _, _, .lst a, .tup b, _ => by simp only [eqP, Bool.not_false, Bool.not_true]; exact EqAt.list_tuple a b hu
  | _, _, _, _, .lst _, .lst _, h => Bool.noConfusion h
open SeqAt in
theorem rc_kd {B : Around} (hu : B.units < cLine) : ∀ {x y : PV} {vv ww : Value}, Kd s x vv → Kd s y ww → sameSeq x y = false → RcAt B s vv ww (eqP x y)
  | _, _, _, _, .non, .non, _ => by simp only [eqP, Bool.not_false, Bool.not_true]; exact RcAt.none_none 
  | _, _, _, _, .non, .bl b, _ => by simp only [eqP, Bool.not_false, Bool.not_true]; exact RcAt.none_bool _
  | _, _, _, _, .non, .int b b2, _ => by simp only [eqP, Bool.not_false, Bool.not_true]; exact RcAt.none_int _ _
  | _, _, _, _, .non, .str b b2, _ => by simp only [eqP, Bool.not_false, Bool.not_true]; exact RcAt.none_str _ _
  | _, _, _, _, .non, .tup b, _ => by simp only [eqP, Bool.not_false, Bool.not_true]; exact RcAt.none_tuple b hu
  | _, _, _, _, .non, .lst b, _ => by simp only [eqP, Bool.not_false, Bool.not_true]; exact RcAt.none_list b hu
  | _, _, _, _, .bl a, .non, _ => by simp only [eqP, Bool.not_false, Bool.not_true]; exact RcAt.bool_none _
  | _, _, _, _, .bl a, .bl b, _ => by simp only [eqP, Bool.not_false, Bool.not_true]; exact RcAt.bool_bool _ _
  | _, _, _, _, .bl a, .int b b2, _ => by simp only [eqP, Bool.not_false, Bool.not_true]; exact RcAt.bool_int _ _ _
  | _, _, _, _, .bl a, .str b b2, _ => by simp only [eqP, Bool.not_false, Bool.not_true]; exact RcAt.bool_str _ _ _
  | _, _, _, _, .bl a, .tup b, _ => by simp only [eqP, Bool.not_false, Bool.not_true]; exact RcAt.bool_tuple _ b hu
  | _, _, _, _, .bl a, .lst b, _ => by simp only [eqP, Bool.not_false, Bool.not_true]; exact RcAt.bool_list _ b hu
  | _, _, _, _, .int a a2, .non, _ => by simp only [eqP, Bool.not_false, Bool.not_true]; exact RcAt.int_none _ _
  | _, _, _, _, .int a a2, .bl b, _ => by simp only [eqP, Bool.not_false, Bool.not_true]; exact RcAt.int_bool _ _ _
  | _, _, _, _, .int a a2, .int b b2, _ => by simp only [eqP, Bool.not_false, Bool.not_true]; exact RcAt.int_int _ _ _ _
  | _, _, _, _, .int a a2, .str b b2, _ => by simp only [eqP, Bool.not_false, Bool.not_true]; exact RcAt.int_str _ _ _ _
  | _, _, _, _, .int a a2, .tup b, _ => by simp only [eqP, Bool.not_false, Bool.not_true]; exact RcAt.int_tuple _ _ b hu
  | _, _, _, _, .int a a2, .lst b, _ => by simp only [eqP, Bool.not_false, Bool.not_true]; exact RcAt.int_list _ _ b hu
  | _, _, _, _, .str a a2, .non, _ => by simp only [eqP, Bool.not_false, Bool.not_true]; exact RcAt.str_none _ _
  | _, _, _, _, .str a a2, .bl b, _ => by simp only [eqP, Bool.not_false, Bool.not_true]; exact RcAt.str_bool _ _ _
  | _, _, _, _, .str a a2, .int b b2, _ => by simp only [eqP, Bool.not_false, Bool.not_true]; exact RcAt.str_int _ _ _ _
  | _, _, _, _, .str a a2, .str b b2, _ => by simp only [eqP, Bool.not_false, Bool.not_true]; exact RcAt.str_str _ _ _ _
  | _, _, _, _, .str a a2, .tup b, _ => by simp only [eqP, Bool.not_false, Bool.not_true]; exact RcAt.str_tuple _ _ b hu
  | _, _, _, _, .str a a2, .lst b, _ => by simp only [eqP, Bool.not_false, Bool.not_true]; exact RcAt.str_list _ _ b hu
  | _, _, _, _, .tup a, .non, _ => by simp only [eqP, Bool.not_false, Bool.not_true]; exact RcAt.tuple_none a hu
  | _, _, _, _, .tup a, .bl b, _ => by simp only [eqP, Bool.not_false, Bool.not_true]; exact RcAt.tuple_bool _ a hu
  | _, _, _, _, .tup a, .int b b2, _ => by simp only [eqP, Bool.not_false, Bool.not_true]; exact RcAt.tuple_int _ _ a hu
  | _, _, _, _, .tup a, .str b b2, _ => by simp only [eqP, Bool.not_false, Bool.not_true]; exact RcAt.tuple_str _ _ a hu
  | _, _, _, _, .tup _, .tup _, h => Bool.noConfusion h
  | _, _, _, _, .tup a, .lst b, _ => by simp only [eqP, Bool.not_false, Bool.not_true]; exact RcAt.tuple_list a b hu
  | _, _, _, _, .lst a, .non, _ => by simp only [eqP, Bool.not_false, Bool.not_true]; exact RcAt.list_none a hu
  | _, _, _, _, .lst a, .bl b, _ => by simp only [eqP, Bool.not_false, Bool.not_true]; exact RcAt.list_bool _ a hu
  | _, _, _, _, .lst a, .int b b2, _ => by simp only [eqP, Bool.not_false, Bool.not_true]; exact RcAt.list_int _ _ a hu
  | _, _, _, _, .lst a, .str b b2, _ => by simp only [eqP, Bool.not_false, Bool.not_true]; exact RcAt.list_str _ _ a hu
  | _, _, _, _, .lst a, .tup b, _ => by simp only [eqP, Bool.not_false, Bool.not_true]; exact RcAt.list_tuple a b hu
  | _, _, _, _, .lst _, .lst _, h => Bool.noConfusion h
theorem seq_cases (x y : PV) : sameSeq x y = false ∨ (∃ xs ys, x = .tup xs ∧ y = .tup ys) ∨ ∃ xs ys, x = .lst xs ∧ y = .lst ys := by
  cases x <;> cases y <;> first | exact .inl rfl | exact .inr (.inl ⟨_, _, rfl, rfl⟩) | exact .inr (.inr ⟨_, _, rfl, rfl⟩)
theorem range_min {xs ys : List PV} {n m : Nat} (h1 : xs.length = n) (h2 : ys.length = m) : ((List.range (min n m)).all (fun j => match xs[j]?, ys[j]? with | some x, some y => eqP x y | _, _ => true) && n == m) = eqPs xs ys := by
  subst h1 h2; exact (eqPs_all xs ys).symm
theorem range_same {xs ys : List PV} {n m : Nat} (h1 : xs.length = n) (h2 : ys.length = m) (h : n = m) : (List.range n).all (fun j => match xs[j]?, ys[j]? with | some x, some y => eqP x y | _, _ => true) = eqPs xs ys := by
  rw [eqPs_all, h1, h2, ← h, Nat.min_self]; simp
theorem eqPs_len {xs ys : List PV} (h : xs.length ≠ ys.length) : eqPs xs ys = false := by
  rw [eqPs_all]; simp [h]
theorem eq_at (I : Inv X pins σ H s) : ∀ (n : Nat) (B : Around) (x y : PV) (v w : V) (vv ww : Value), B.units + n < cLine → dpt x ≤ n → n < 1000 → dpt y < 1000 → RV X.K A H x v → RV X.K A H y w → RelV v vv → RelV w ww → SeqAt.EqAt B s vv ww (eqP x y) := by
  intro n
  induction n with
  | zero =>
    intro B x y v w vv ww hu hx hn hy rx ry rv rw
    refine eq_kd (by omega) (kd_of I rx rv (by omega)) (kd_of I ry rw hy) ?_
    cases x <;> first | (unfold dpt at hx; omega) | rfl
  | succ n ih =>
    intro B x y v w vv ww hu hx hn hy rx ry rv rw
    rcases seq_cases x y with h | ⟨xs, ys, rfl, rfl⟩ | ⟨xs, ys, rfl, rfl⟩
    · exact eq_kd (by omega) (kd_of I rx rv (by omega)) (kd_of I ry rw hy) h
    · cases rx with | tup t z r => cases ry with | tup t2 z2 r2 =>
        rename_i a vs b ws
        cases rv; cases rw
        by_cases hab : a = b
        · subst hab
          have e := RV.inj I (.tup t z r) (.tup t2 z2 r2) (by omega) hy
          rw [e, eqP_refl _ hy]
          exact SeqAt.EqAt.same _
        · obtain ⟨its, r3, p, _⟩ := I.tuple t.sq
          obtain ⟨its2, r4, p2, _⟩ := I.tuple t2.sq
          have hh := SeqAt.RcAt.tuples (A := B) (show s.heap.IsTuple a its.toArray from p) (show s.heap.IsTuple b its2.toArray from p2) (by omega) (items_at r r2 r3 r4 (fun x y v w vv ww h1 h2 => ih B.in1 x y v w vv ww (by show B.units + 1 + n < cLine; omega) h1 (by omega) h2) (by unfold dpt at hx; omega) (by unfold dpt at hy; omega))
          rw [range_min (by rw [r.len, r3.length]; simp) (by rw [r2.len, r4.length]; simp)] at hh
          unfold eqP
          exact SeqAt.EqAt.of_refs hab hh
    · cases rx with | lst t z r => cases ry with | lst t2 z2 r2 =>
        rename_i a vs b ws
        cases rv; cases rw
        by_cases hab : a = b
        · subst hab
          have e := RV.inj I (.lst t z r) (.lst t2 z2 r2) (by omega) hy
          rw [e, eqP_refl _ hy]
          exact SeqAt.EqAt.same _
        · obtain ⟨its, r3, p, _⟩ := I.list t.sq
          obtain ⟨its2, r4, p2, _⟩ := I.list t2.sq
          have l1 : xs.length = its.toArray.size := by rw [r.len, r3.length]; simp
          have l2 : ys.length = its2.toArray.size := by rw [r2.len, r4.length]; simp
          unfold eqP
          refine SeqAt.EqAt.of_refs hab ?_
          by_cases hl : its.toArray.size = its2.toArray.size
          · have hh := SeqAt.RcAt.lists (A := B) p.isList p2.isList hl (by omega) (items_at r r2 r3 r4 (fun x y v w vv ww h1 h2 => ih B.in1 x y v w vv ww (by show B.units + 1 + n < cLine; omega) h1 (by omega) h2) (by unfold dpt at hx; omega) (by unfold dpt at hy; omega))
            rw [range_same l1 l2 hl] at hh
            exact hh
          · rw [eqPs_len (by omega)]
            exact SeqAt.RcAt.lists_lengths p.isList p2.isList (by simpa using hl) (by omega)
def rEq3 : R3 := fun x y st Q => (dpt x ≤ 50 ∧ dpt y < 1000) ∧ Q (.bl (eqP x y)) st
def rNe3 : R3 := fun x y st Q => (dpt x ≤ 50 ∧ dpt y < 1000) ∧ Q (.bl (!eqP x y)) st
theorem noObj_of {x : PV} (h : dpt x < 1000) : noObj x = true := by
  cases x <;> first | rfl | (unfold dpt at h; omega)
theorem o_eq {k : Nat} (hr : Room k X.A) : OpR X (compareOp .Eq) (canR X.K rEq3) := op_vals fun pins s σ H A st x y v w vv ww Q3 Q I rs ex ey rv rw h k => by
  obtain ⟨⟨h1, h2⟩, h⟩ := h
  have hu := hr.units
  have rx := ex.rv (noObj_of (by omega)); have ry := ey.rv (noObj_of h2)
  have fin : ∀ b, b = eqP x y → EP X pins σ Q (.bool b) s := fun b e => ⟨.bl b, H, I, rfl, by rw [e]; exact k.now rs (.val (.bl _)) h⟩
  rcases seq_cases x y with hn | ⟨xs, ys, rfl, rfl⟩ | ⟨xs, ys, rfl, rfl⟩
  · exact rc_kd (by omega) (kd_of I rx rv (by omega)) (kd_of I ry rw h2) hn _ _ _ _ (fin _ rfl)
  · cases rx with | tup t z r => cases ry with | tup t2 z2 r2 =>
      cases rv; cases rw
      obtain ⟨its, r3, p, _⟩ := I.tuple t.sq
      obtain ⟨its2, r4, p2, _⟩ := I.tuple t2.sq
      refine SeqAt.RcAt.tuples (show s.heap.IsTuple _ its.toArray from p) (show s.heap.IsTuple _ its2.toArray from p2) (by omega) (items_at (n := 50) r r2 r3 r4 (fun x y v w vv ww h1 h2 => eq_at I 50 X.A.in1 x y v w vv ww (by show X.A.units + 1 + 50 < cLine; omega) h1 (by omega) h2) (by unfold dpt at h1; omega) (by unfold dpt at h2; omega)) _ _ _ _ (fin _ ?_)
      rw [range_min (by rw [r.len, r3.length]; simp) (by rw [r2.len, r4.length]; simp)]
      unfold eqP; rfl
  · cases rx with | lst t z r => cases ry with | lst t2 z2 r2 =>
      cases rv; cases rw
      obtain ⟨its, r3, p, _⟩ := I.list t.sq
      obtain ⟨its2, r4, p2, _⟩ := I.list t2.sq
      have l1 : xs.length = its.toArray.size := by rw [r.len, r3.length]; simp
      have l2 : ys.length = its2.toArray.size := by rw [r2.len, r4.length]; simp
      by_cases hl : its.toArray.size = its2.toArray.size
      · refine SeqAt.RcAt.lists p.isList p2.isList hl (by omega) (items_at (n := 50) r r2 r3 r4 (fun x y v w vv ww h1 h2 => eq_at I 50 X.A.in1 x y v w vv ww (by show X.A.units + 1 + 50 < cLine; omega) h1 (by omega) h2) (by unfold dpt at h1; omega) (by unfold dpt at h2; omega)) _ _ _ _ (fin _ ?_)
        rw [range_same l1 l2 hl]
        unfold eqP; rfl
      · refine SeqAt.RcAt.lists_lengths p.isList p2.isList (by simpa using hl) (by omega) _ _ _ _ (fin _ ?_)
        unfold eqP; rw [eqPs_len (by omega)]
end
end L3
set_option Elab.async false
set_option linter.all false
set_option maxRecDepth 100000
set_option maxHeartbeats 4000000
namespace L3
open PySem PySem.Spec PyProof.Rows L2
def valP (kvs : List (Key × PV)) (k : Key) : Option PV := (kvs.find? fun kv => decide (kv.1 = k)).map (·.2)
def putP (kvs : List (Key × PV)) (k : Key) (v : PV) : List (Key × PV) :=
  if (kvs.any fun kv => decide (kv.1 = k)) = true then kvs.map (fun kv => if kv.1 = k then (kv.1, v) else kv) else kvs ++ [(k, v)]
def kOf : PV → Option Key
  | .int i => some (.inl i)
  | .str x => some (.inr x)
  | _ => none
section
variable {K : PySem.W.Frag} {A : List Addr} {H : Hp}
theorem RKs.val {k : Key} : ∀ {kvs : List (Key × PV)} {us : List (Key × V)}, RKs K A H kvs us → (∃ x v, valP kvs k = some x ∧ valV us k = some v ∧ RV K A H x v) ∨ (valP kvs k = none ∧ valV us k = none)
  | _, _, .nil => .inr ⟨rfl, rfl⟩
  | _, _, .cons (k := k') (x := x) (v := v) (xs := xs) (vs := vs) r t => by
    by_cases e : k' = k
    · refine .inl ⟨x, v, ?_, ?_, r⟩
      · unfold valP; rw [List.find?_cons, decide_eq_true e]; rfl
      · exact valV_pos e
    · have e1 : valP ((k', x) :: xs) k = valP xs k := by unfold valP; rw [List.find?_cons, decide_eq_false e]
      have e2 : valV ((k', v) :: vs) k = valV vs k := valV_neg e
      rw [e1, e2]
      exact RKs.val t
theorem RKs.any {k : Key} : ∀ {kvs : List (Key × PV)} {us : List (Key × V)}, RKs K A H kvs us → (us.any fun kv => decide (kv.1 = k)) = (kvs.any fun kv => decide (kv.1 = k))
  | _, _, .nil => rfl
  | _, _, .cons r t => by rw [List.any_cons, List.any_cons, RKs.any t]
theorem RKs.map {k : Key} {x : PV} {v : V} (r : RV K A H x v) : ∀ {kvs : List (Key × PV)} {us : List (Key × V)}, RKs K A H kvs us → RKs K A H (kvs.map fun kv => if kv.1 = k then (kv.1, x) else kv) (us.map fun kv => if kv.1 = k then (kv.1, v) else kv)
  | _, _, .nil => .nil
  | _, _, .cons (k := k') r' t => by
    rw [List.map_cons, List.map_cons]
    by_cases e : k' = k
    · rw [if_pos e, if_pos e]; exact .cons r (RKs.map r t)
    · rw [if_neg e, if_neg e]; exact .cons r' (RKs.map r t)
theorem RKs.append : ∀ {a b : List (Key × PV)} {c d : List (Key × V)}, RKs K A H a c → RKs K A H b d → RKs K A H (a ++ b) (c ++ d)
  | _, _, _, _, .nil, h => h
  | _, _, _, _, .cons r t, h => .cons r (RKs.append t h)
theorem RKs.put {k : Key} {x : PV} {v : V} (r : RV K A H x v) {kvs : List (Key × PV)} {us : List (Key × V)} (h : RKs K A H kvs us) : RKs K A H (putP kvs k x) (putK us k v) := by
  unfold putP putK
  rw [h.any]
  split
  · exact h.map r
  · exact h.append (.cons r .nil)
theorem key_of3 {y : PV} {w : V} {k : Key} (e : RE K A H y w) (h : kOf y = some k) : w = kV k := by
  cases e with
  | obj e => cases h
  | val e => cases e <;> first | cases h; rfl | cases h
end
section
variable {X : Cx} {a b e : Expr} {es : List Expr} {pos p2 : Pos} {Ta Tb : TE3} {TA : TA3}
def rIx3 : R3 := fun x y st Q => match x with
  | .tup xs => match y with | .int i => (match atI xs i with | some z => Q z st | none => False) | _ => False
  | .lst xs => match y with | .int i => (match atI xs i with | some z => Q z st | none => False) | _ => False
  | .str z => match y with | .int i => z.length ≤ sizeLine ∧ (match atI z.cps.toList i with | some c => Q (.str ⟨#[c]⟩) st | none => False) | _ => False
  | .dct kvs => (match kOf y with | some k => (match valP kvs k with | some z => Q z st | none => False) | none => False)
  | .obj n => (match st[n]? with
    | some (.lst xs) => (match y with | .int i => (match atI xs i with | some z => Q z st | none => False) | _ => False)
    | some (.dct kvs) => (match kOf y with | some k => (match valP kvs k with | some z => Q z st | none => False) | none => False)
    | _ => False)
  | _ => False
theorem RVs.atI {K : PySem.W.Frag} {A : List Addr} {H : Hp} {xs : List PV} {vs : List V} {i : Int} {x : PV} (r : RVs K A H xs vs) (h : L2.atI xs i = some x) : ∃ v, L2.atI vs i = some v ∧ RV K A H x v := by
  unfold L2.atI at h ⊢
  rw [← r.len]
  cases e : ixN xs.length i with
  | none => rw [e] at h; cases h
  | some j => rw [e] at h; exact r.get h
theorem ix_dict {k : Nat} (hr : Room k X.A) : IxR X (fun x y H Q => ∃ a v, x = .ref a ∧ DGet H a y (some v) ∧ Q v H) := by
  intro value slice pins s σ H x y vv ww Q I rx ry h hs
  obtain ⟨a, v, rfl, g, q⟩ := h
  cases rx
  have hT := dict_typeIs I g
  unfold subscriptTail
  refine wpAny_bind ?_
  rw [getitemInPython_of_ne hT.not_modules]
  refine wpAny_bind (wpAny_specialOf hT PySem.F.slot_dict_getitem.lookup ?_)
  have fin : wpAny (model X.prog X.w) X.A (subscripted slice false (.ref a) ww) (fun r s₃ => wpAny (model X.prog X.w) X.A (letTemporaryGo value (.ref a) r >>= fun _ => pure r) (EP X pins σ Q) X.xe s₃) X.xe s := by
    rw [hs]
    exact wpAny_operating (d_getItem (by have := hr.units; omega) I g ry fun w' s3 I3 rw' => wpAny_bind (wpAny_letTemporaryGo (wpAny_pure ⟨v, H, I3, rw', q⟩)))
  first
    | exact wpAny_pure (wpAny_bind fin)
    | exact wpAny_bind (wpAny_pure (wpAny_bind fin))
    | exact wpAny_bind fin
theorem o_ix {k : Nat} (hr : Room k X.A) : IxR X (canR X.K rIx3) := by
  intro value slice pins s σ H v w vv ww Q I rv rw ⟨A, st, x, y, Q3, rs, ex, ey, h, k⟩ hs
  unfold rIx3 at h
  split at h
  · -- tuples
    cases ex with | val ex => cases ex with | tup t z r =>
      split at h
      · cases ints_of ey
        split at h
        · rename_i i q z' e
          obtain ⟨v', e', r'⟩ := r.atI e
          exact ix_tup value slice pins s σ H _ _ vv ww Q I rv rw ⟨_, _, _, _, rfl, rfl, t.sq, e', k.now rs (.val r') h⟩ hs
        · exact h.elim
      · exact h.elim
  · cases ex with | val ex => cases ex with | lst t z r =>
      split at h
      · cases ints_of ey
        split at h
        · rename_i i q z' e
          obtain ⟨v', e', r'⟩ := r.atI e
          exact ix_list value slice pins s σ H _ _ vv ww Q I rv rw ⟨_, _, _, _, rfl, rfl, t.sq, e', k.now rs (.val r') h⟩ hs
        · exact h.elim
      · exact h.elim
  · cases strs_of ex
    split at h
    · cases ints_of ey
      obtain ⟨hz, h⟩ := h
      split at h
      · rename_i i q c e
        exact ix_str value slice pins s σ H _ _ vv ww Q I rv rw ⟨_, _, _, rfl, rfl, hz, e, k.now rs (.val (.str _)) h⟩ hs
      · exact h.elim
    · exact h.elim
  · cases ex with | val ex => cases ex with | dct t z r =>
      split at h
      · rename_i kk ek
        split at h
        · rename_i z' e
          rcases r.val (k := kk) with ⟨x', v', e1, e2, r'⟩ | ⟨e1, e2⟩
          · rw [e] at e1; cases e1
            exact ix_dict hr value slice pins s σ H _ _ vv ww Q I rv rw ⟨_, v', rfl, .inl ⟨_, kk, .inl t.1, key_of3 ey ek, e2.symm⟩, k.now rs (.val r') h⟩ hs
          · rw [e] at e1; cases e1
        · exact h.elim
      · exact h.elim
  · cases ex with
    | val ex => cases ex
    | obj eo =>
      split at h
      · rename_i n xs q
        obtain ⟨vs, h1, r, hzz⟩ := rs.at_ _ _ _ eo q
        split at h
        · cases ints_of ey
          split at h
          · rename_i i q z' e
            obtain ⟨v', e', r'⟩ := r.atI e
            exact ix_list value slice pins s σ H _ _ vv ww Q I rv rw ⟨_, _, _, _, rfl, rfl, .of h1, e', k.now rs (.val r') h⟩ hs
          · exact h.elim
        · exact h.elim
      · rename_i n kvs q
        obtain ⟨us, h1, r, hzz⟩ := rs.at_ _ _ _ eo q
        split at h
        · rename_i kk ek
          split at h
          · rename_i z' e
            rcases r.val (k := kk) with ⟨x', v', e1, e2, r'⟩ | ⟨e1, e2⟩
            · rw [e] at e1; cases e1
              exact ix_dict hr value slice pins s σ H _ _ vv ww Q I rv rw ⟨_, v', rfl, .inl ⟨_, kk, .inl h1, key_of3 ey ek, e2.symm⟩, k.now rs (.val r') h⟩ hs
            · rw [e] at e1; cases e1
          · exact h.elim
        · exact h.elim
      · exact h.elim
  · exact h.elim
def rSet3 : PV → PV → PV → Sto → (Sto → Prop) → Prop := fun o i v st Q => match o with
  | .obj n => (match st[n]? with
    | some (.lst xs) => (match i with | .int k => noObj v = true ∧ (match ixN xs.length k with | some j => Q (st.set n (.lst (xs.set j v))) | none => False) | _ => False)
    | some (.dct kvs) => (match kOf i with | some k => noObj v = true ∧ kvs.length < sizeLine ∧ Q (st.set n (.dct (putP kvs k v))) | none => False)
    | _ => False)
  | _ => False
def canSet (K : PySem.W.Frag) : V → V → V → Hp → (Hp → Prop) → Prop := fun o i v H Q => ∃ A st x y z Q3, RS K A H st ∧ RE K A H x o ∧ RE K A H y i ∧ RE K A H z v ∧ rSet3 x y z st Q3 ∧ ∀ A' H' st', Grow A H A' H' → RS K A' H' st' → Q3 st' → Q H'
theorem RVs.set {K : PySem.W.Frag} {A : List Addr} {H : Hp} {x : PV} {v : V} (rx : RV K A H x v) : ∀ {xs : List PV} {vs : List V} (j : Nat), RVs K A H xs vs → RVs K A H (xs.set j x) (vs.set j v)
  | _, _, _, .nil => .nil
  | _, _, 0, .cons _ t => .cons rx t
  | _, _, j + 1, .cons r t => .cons r (RVs.set rx j t)
theorem s_item {k : Nat} (hr : Room k X.A) : PSet X (canSet X.K) := by
  intro pins s σ H o i v ov iv u Q I ro ri rv ⟨A, st, x, y, z, Q3, rs, ex, ey, ez, h, k⟩
  unfold rSet3 at h
  split at h
  · cases ex with
    | val ex => cases ex
    | obj eo =>
      have hm := List.mem_of_getElem? eo
      split at h
      · rename_i n xs q
        obtain ⟨vs, h1, r, hzz⟩ := rs.at_ _ _ _ eo q
        split at h
        · cases ints_of ey
          obtain ⟨hz, h⟩ := h
          split at h
          · rename_i kk q2 j e
            rw [r.len] at e
            exact set_list pins s σ H _ _ _ ov iv u Q I ro ri rv ⟨_, vs, _, j, rfl, rfl, h1, e, k A _ _ (.put hm) (rs.put (q := .lst (xs.set j z)) eo ⟨_, upd_same, RVs.set ((ez.rv hz).grow (.put hm)) j (r.grow (.put hm)), by rw [List.length_set]; exact hzz⟩) h⟩
          · exact h.elim
        · exact h.elim
      · rename_i n kvs q
        obtain ⟨us, h1, r, hzz⟩ := rs.at_ _ _ _ eo q
        split at h
        · rename_i kk ek
          obtain ⟨hz, hl, h⟩ := h
          cases ro
          refine d_setItem (by have := hr.units; omega) I (.inl ⟨us, kk, h1, key_of3 ey ek, by rw [← r.len]; exact hl, rfl⟩) ri rv fun s' I' => ⟨_, I', k A _ _ (.put hm) (rs.put (q := .dct (putP kvs kk z)) eo ⟨_, upd_same, RKs.put ((ez.rv hz).grow (.put hm)) (r.grow (.put hm)), Nat.le_trans (length_putK us kk v) (by rw [← r.len]; exact hl)⟩) h⟩
        · exact h.elim
      · exact h.elim
  · exact h.elim
def gS (To Ti : TE3) : TG3 := fun v env st Q => To env st fun o st1 => Ti env st1 fun i st2 => rSet3 o i v st2 fun st3 => Q env st3
theorem qg_sub {k : Nat} (hr : Room k X.A) (ho : PE X a (can X.K Ta)) (hi : PE X b (can X.K Tb))
    (ha : ∀ v, assign (.Subscript a b pos) X.env v = (do
      let ov ← holding [v] (eval a X.env)
      let iv ← holding [v, ov] (eval b X.env)
      standAt pos
      holding [v, ov, iv] (setItem ov iv v)
      release [v, ov, iv] []) := by intro _; rfl) : PG X (.Subscript a b pos) (canG X.K (gS Ta Tb)) :=
  pg_weak (pg_sub ho hi (s_item hr) ha) fun v σ H Q ⟨A, env, st, x, Q3, rel, e, h, k⟩ => ⟨A, env, st, _, rel, h, fun A1 H1 st1 o v1 g1 s1 e1 h1 => ⟨A1, env, st1, _, rel.grow g1 s1, h1, fun A2 H2 st2 i v2 g2 s2 e2 h2 =>
    ⟨A2, st2, o, i, x, _, s2, e1.grow g2, e2, e.grow (g1.trans g2), h2, fun A3 H3 st3 g3 s3 h3 => k A3 H3 σ env st3 ((g1.trans g2).trans g3) (rel.grow ((g1.trans g2).trans g3) s3) h3⟩⟩⟩
theorem REs.one {K : PySem.W.Frag} {A : List Addr} {H : Hp} {x : PV} {vs : List V} (h : REs K A H [x] vs) : ∃ v, vs = [v] ∧ RE K A H x v := by
  cases h with
  | cons r t => cases t; exact ⟨_, rfl, r⟩
theorem REs.two {K : PySem.W.Frag} {A : List Addr} {H : Hp} {x y : PV} {vs : List V} (h : REs K A H [x, y] vs) : ∃ v w, vs = [v, w] ∧ RE K A H x v ∧ RE K A H y w := by
  cases h with
  | cons r t => obtain ⟨w, rfl, e⟩ := REs.one t; exact ⟨_, w, rfl, r, e⟩
def lenP : PV → Sto → (Nat → Prop) → Prop
  | .tup xs, _, k => k xs.length
  | .lst xs, _, k => k xs.length
  | .dct xs, _, k => False
  | .str z, _, k => z.length ≤ sizeLine ∧ k z.length
  | .obj i, st, k => match st[i]? with | some (.lst xs) => k xs.length | some (.dct kvs) => k kvs.length | _ => False
  | _, _, _ => False
def rLen3 : Sp3 := fun xs st Q => match xs with | [x] => lenP x st fun n => Q (.int n) st | _ => False
theorem o_len : CallR X (.builtin "len") (canL X.K rLen3) := by
  intro pins s σ H vs us Q I rv ⟨A, st, xs, Q3, rs, ex, h, k⟩
  unfold rLen3 at h
  split at h
  · rename_i x
    obtain ⟨v, rfl, ex1⟩ := REs.one ex
    have fin : ∀ {n : Nat}, Q3 (.int n) st → Q (.int n) H := fun q => k.now rs (.val (.int _)) q
    cases ex1 with
    | obj eo =>
      dsimp only [lenP] at h
      split at h
      · rename_i q
        obtain ⟨vs, h1, r, hzz⟩ := rs.at_ _ _ _ eo q
        exact call_len pins s σ H _ us Q I rv ⟨_, _, rfl, .inl ⟨_, .of h1, rfl⟩, by rw [← r.len]; exact fin h⟩
      · rename_i q
        obtain ⟨vs, h1, r, hzz⟩ := rs.at_ _ _ _ eo q
        exact call_lenD pins s σ H _ us Q I rv ⟨_, _, rfl, h1, by rw [← r.len]; exact fin h⟩
      · exact h.elim
    | val e =>
      cases e with
      | str z => exact call_len pins s σ H _ us Q I rv ⟨_, _, rfl, ⟨h.1, rfl⟩, fin h.2⟩
      | tup t z r => exact call_len pins s σ H _ us Q I rv ⟨_, _, rfl, .inr ⟨_, t.sq, rfl⟩, by rw [← r.len]; exact fin h⟩
      | lst t z r => exact call_len pins s σ H _ us Q I rv ⟨_, _, rfl, .inl ⟨_, t.sq, rfl⟩, by rw [← r.len]; exact fin h⟩
      | _ => exact False.elim h
  · exact h.elim
def rTuple3 : Sp3 := fun xs st Q => match xs with
  | [.lst ys] => Q (.tup ys) st
  | [.tup ys] => Q (.tup ys) st
  | [.obj i] => (match st[i]? with | some (.lst ys) => Q (.tup ys) st | some (.dct kvs) => Q (.tup (kvs.map fun q => match q.1 with | .inl i => .int i | .inr z => .str z)) st | _ => False)
  | _ => False
theorem keys_rv {K : PySem.W.Frag} {A : List Addr} {H : Hp} : ∀ {kvs : List (Key × PV)} {us : List (Key × V)}, RKs K A H kvs us → RVs K A H (kvs.map fun q => match q.1 with | .inl i => .int i | .inr z => .str z) (us.map fun q => kV q.1)
  | _, _, .nil => .nil
  | _, _, .cons (k := k) r t => by
    rw [List.map_cons, List.map_cons]
    refine .cons ?_ (keys_rv t)
    cases k with
    | inl i => exact .int i
    | inr z => exact .str z
theorem o_tuple (hc : X.calm = true) : CallR X (.type "tuple") (canL X.K rTuple3) := by
  intro pins s σ H vs us Q I rv ⟨A, st, xs, Q3, rs, ex, h, k⟩
  unfold rTuple3 at h
  split at h
  · cases ex with | cons ex et => cases et; cases ex with | val e => cases e with | lst t z r =>
      exact call_tuple_of pins s σ H _ us Q I rv ⟨_, _, rfl, .inl ⟨t.sq, k.tup rs r z h⟩⟩
  · cases ex with | cons ex et => cases et; cases ex with | val e => cases e with | tup t z r =>
      exact call_tuple_of pins s σ H _ us Q I rv ⟨_, _, rfl, .inr ⟨t.sq, k.now rs (.val (.tup t z r)) h⟩⟩
  · cases ex with | cons ex et => cases et; cases ex with
    | val e => cases e
    | obj eo =>
      split at h
      · rename_i q
        obtain ⟨vs, h1, r, hzz⟩ := rs.at_ _ _ _ eo q
        have hz := hzz
        exact call_tuple_of pins s σ H _ us Q I rv ⟨_, _, rfl, .inl ⟨.of h1, k.tup rs r hz h⟩⟩
      · rename_i q
        obtain ⟨vs, h1, r, hzz⟩ := rs.at_ _ _ _ eo q
        have hz := hzz
        exact call_tupleD hc pins s σ H _ us Q I rv ⟨_, _, rfl, h1, k.tup rs (keys_rv r) (by rw [List.length_map]; exact hz) h⟩
      · exact h.elim
  · exact h.elim
def cutP (xs : List PV) (lo hi : Option Int) : List PV := (xs.drop (HT.sIx xs.length 0 lo)).take (HT.sIx xs.length xs.length hi - HT.sIx xs.length 0 lo)
def rSl3 : PV → Option Int → Option Int → Sto → K3 → Prop := fun x lo hi st Q => match x with
  | .tup xs => Q (.tup (cutP xs lo hi)) st
  | .lst xs => Q (.lst (cutP xs lo hi)) st
  | .str z => z.length ≤ sizeLine ∧ ((Txt.slice z lo hi).length ≤ z.length → Q (.str (Txt.slice z lo hi)) st)
  | _ => False
def canSl (K : PySem.W.Frag) : V → Option Int → Option Int → Hp → VK → Prop := fun v lo hi H Q => ∃ A st x Q3, RS K A H st ∧ RE K A H x v ∧ rSl3 x lo hi st Q3 ∧ Fin K A H Q3 Q
theorem RVs.cut {K : PySem.W.Frag} {A : List Addr} {H : Hp} {xs : List PV} {vs : List V} (r : RVs K A H xs vs) (lo hi : Option Int) : RVs K A H (cutP xs lo hi) (cutV vs lo hi) := by
  unfold cutP cutV
  rw [r.len]
  exact (r.drop _).take _
theorem o_sl : SlR X (canSl X.K) := by
  intro pins s σ H v vv vl vu lo hi sl Q I rx hs pl pu ⟨A, st, x, Q3, rs, ex, h, k⟩
  unfold rSl3 at h
  split at h
  · cases ex with | val e => cases e with | tup t z r =>
      rename_i xs a vs
      by_cases hw : HT.sIx vs.length 0 lo = 0 ∧ HT.sIx vs.length vs.length hi = vs.length
      · cases rx
        obtain ⟨its, r', ht, hz⟩ := I.tuple t.sq
        refine ⟨"tuple", _, PyProof.Rows.slot_tuple_getitem.lookup, ht.typeIs, ?_⟩
        have hl : its.toArray.size = vs.length := by rw [List.size_toArray, ← r'.length]
        refine getItem_tuple_whole ht hs pl pu (by rw [hl]; exact hw) ⟨.ref a, H, I, rfl, k.now rs (.val (.tup t z r)) ?_⟩
        rw [← r.len] at hw
        have e : cutP xs lo hi = xs := by
          unfold cutP
          rw [hw.1, hw.2, List.drop_zero, Nat.sub_zero, List.take_of_length_le (Nat.le_refl _)]
        rw [e] at h; exact h
      · refine sl_tup pins s σ H _ vv vl vu lo hi sl Q I rx hs pl pu ⟨_, _, rfl, t.sq, ?_, k.tup rs (r.cut lo hi) (Nat.le_trans (cutV_length _ lo hi) z) h⟩
        exact hw
  · cases ex with | val e => cases e with | lst t z r =>
      exact sl_list pins s σ H _ vv vl vu lo hi sl Q I rx hs pl pu ⟨_, _, rfl, t.sq, k.lst rs (r.cut lo hi) (Nat.le_trans (cutV_length _ lo hi) z) h⟩
  · cases strs_of ex
    exact sl_str pins s σ H _ vv vl vu lo hi sl Q I rx hs pl pu ⟨_, rfl, h.1, fun hl => k.now rs (.val (.str _)) (h.2 hl)⟩
  · exact h.elim
abbrev TO3 := Env3 → Sto → (Option Int → Sto → Prop) → Prop
def canO (K : PySem.W.Frag) (T : TO3) : TO := fun σ H Q => ∃ A env st Q3, Rel K A H σ env st ∧ T env st Q3 ∧ ∀ A' H' st' i, Grow A H A' H' → RS K A' H' st' → Q3 i st' → Q i H'
def oNone : TO3 := fun _ st Q => Q none st
def oSome (T : TE3) : TO3 := fun env st Q => T env st fun x st1 => match x with | .int i => Q (some i) st1 | _ => False
theorem po_weak {o : Option Expr} {t t' : TO} (h : L2.PO X o t) (w : ∀ σ H Q, t' σ H Q → t σ H Q) : L2.PO X o t' := ⟨fun pins s σ H Q I q => h pins s σ H Q I (w σ H Q q)⟩
theorem qo_none : L2.PO X none (canO X.K oNone) := po_weak po_none fun σ H Q ⟨A, env, st, Q3, rel, h, k⟩ => k A H st none (.refl _ _) rel.rs h
theorem qo_some (h : PE X e (can X.K Ta)) : L2.PO X (some e) (canO X.K (oSome Ta)) := by
  refine po_weak (po_some h) fun σ H Q ⟨A, env, st, Q3, rel, h, k⟩ => ⟨A, env, st, _, rel, h, fun A1 H1 st1 x v g1 s1 e1 h1 => ?_⟩
  cases x with
  | int i => cases ints_of e1; exact ⟨i, rfl, k A1 H1 st1 _ g1 s1 h1⟩
  | _ => exact False.elim h1
def vSl (T : TE3) (Tl Th : TO3) : TE3 := fun env st Q => T env st fun x st1 => Tl env st1 fun l st2 => Th env st2 fun u st3 => rSl3 x l u st3 Q
theorem q_slice {lo hi : Option Expr} {Tl Th : TO3} (he : PE X e (can X.K Ta)) (hl : L2.PO X lo (canO X.K Tl)) (hu : L2.PO X hi (canO X.K Th)) : PE X (.Subscript e (.Slice lo hi none p2) pos) (can X.K (vSl Ta Tl Th)) :=
  pe_weak (pe_slice o_sl he hl hu) fun σ H Q ⟨A, env, st, Q3, rel, h, k⟩ => ⟨A, env, st, _, rel, h, fun A1 H1 st1 x v g1 s1 e1 h1 => ⟨A1, env, st1, _, rel.grow g1 s1, h1, fun A2 H2 st2 l g2 s2 h2 => ⟨A2, env, st2, _, (rel.grow g1 s1).grow g2 s2, h2, fun A3 H3 st3 u g3 s3 h3 =>
    ⟨A3, st3, x, Q3, s3, e1.grow (g2.trans g3), h3, k.after (g1.trans (g2.trans g3))⟩⟩⟩⟩
end
end L3
set_option Elab.async false
set_option linter.all false
set_option maxRecDepth 100000
set_option maxHeartbeats 4000000
namespace L3
open PySem PySem.Spec PyProof.Rows L2
section
variable {X : Cx} {tg iter a b e : Expr} {es : List Expr} {pos p : Pos} {Ta : TE3} {TA : TA3}
def iAny2 (K : PySem.W.Frag) (tl : TE) : TI := fun σ H R => tl σ H fun x H1 => (∃ a, x = .ref a ∧ (∃ xs, SqL K H1 a xs) ∧ R (Itl K a) H1) ∨ (∃ a, x = .ref a ∧ (∃ xs, SqT K H1 a xs) ∧ R (Itt K a) H1) ∨ ∃ z, x = .str z ∧ R (Its z) H1
theorem pi_any {tl : TE} (hl : PE X iter tl) : PI X tg iter (iAny2 X.K tl) := by
  refine ⟨fun pins s σ H R I h => ?_⟩
  refine thn (hl pins s σ H _ I h) fun v s1 ⟨x, H1, I1, r1, q1⟩ => ?_
  rcases q1 with ⟨a, rfl, ⟨xs, hq⟩, q⟩ | ⟨a, rfl, ⟨xs, hq⟩, q⟩ | ⟨x, rfl, q⟩
  · cases r1
    obtain ⟨its, rv, p, hz⟩ := I1.list hq
    refine wpAny_pyIter_list p.isList ?_
    refine ⟨s1.heap.objs.size, [s1.heap.objs.size], _, _, H1, rfl, I1.kept (t' := s1.toks) fun b o e => Heap.get?_push_of_some _ e, turn_list a _, ⟨_, Heap.get?_push_size _ rfl, rfl, rfl⟩, fun b hb => ?_, q⟩
    have e : b = s1.heap.objs.size := by simpa using hb
    subst e
    exact I1.fpOk (Nat.le_refl _) (I1.hok.fresh (Nat.le_refl _))
  · cases r1
    obtain ⟨its, rv, p, hz⟩ := I1.tuple hq
    refine wpAny_pyIter_tuple (show s1.heap.IsTuple a its.toArray from p) ?_
    refine ⟨s1.heap.objs.size, [s1.heap.objs.size], _, _, H1, rfl, I1.kept (t' := s1.toks) fun b o e => Heap.get?_push_of_some _ e, turn_tuple a _, ⟨_, Heap.get?_push_size _ rfl, rfl, rfl⟩, fun b hb => ?_, q⟩
    have e : b = s1.heap.objs.size := by simpa using hb
    subst e
    exact I1.fpOk (Nat.le_refl _) (I1.hok.fresh (Nat.le_refl _))
  · obtain ⟨t, rfl⟩ := r1
    have fin : ∀ (n : String) (o : Obj), Turn X.prog X.w X.K tg (Its x) [s1.heap.objs.size] s1.heap.objs.size (fun i h => h.IsStrIter s1.heap.objs.size n x t i) → (s1.heap.push o).IsStrIter s1.heap.objs.size n x t 0 → PIE X pins σ tg R (.ref s1.heap.objs.size) { s1 with heap := s1.heap.push o } := fun n o T st =>
      ⟨s1.heap.objs.size, [s1.heap.objs.size], _, _, H1, rfl, I1.kept (t' := s1.toks) fun b u e => Heap.get?_push_of_some _ e, T, st, fun b hb => by
        have e : b = s1.heap.objs.size := by simpa using hb
        subst e
        exact I1.fpOk (Nat.le_refl _) (I1.hok.fresh (Nat.le_refl _)), q⟩
    cases ha : x.cps.all (· < 128)
    · exact wpAny_pyIter_wide ha (fin "str_iterator" _ (turn_str _ x t (by decide) (fun A hA => Walks.strWide hA _ x t) fun _ _ _ _ _ st hQ => wpAny_pyIter_striter_wide st hQ) ⟨_, Heap.get?_push_size _ rfl, rfl, rfl⟩)
    · exact wpAny_pyIter_ascii ha (fin "str_ascii_iterator" _ (turn_str _ x t (by decide) (fun A hA => Walks.strAscii hA _ x t) fun _ _ _ _ _ st hQ => wpAny_pyIter_striter_ascii st hQ) ⟨_, Heap.get?_push_size _ rfl, rfl, rfl⟩)
def signs (z : Str) : List PV := z.cps.toList.map fun c => .str ⟨#[c]⟩
theorem it_str {K : PySem.W.Frag} {A : List Addr} {H : Hp} {z : Str} (hz : z.length ≤ sizeLine) : ItOk K A H none (Its z) (signs z) where
  go := fun i A' H' st g s _ hi => by
    unfold signs at hi
    have hi' : i < z.cps.size := by simpa using hi
    exact hi'
  yld := fun i x A' H' st v H2 hx g s _ y => by
    obtain ⟨rfl, c, hc, rfl⟩ := y
    unfold signs at hx
    rw [List.getElem?_map] at hx
    have hc' : z.cps.toList[i]? = some c := by simpa using hc
    rw [hc'] at hx
    cases hx
    exact ⟨.refl _ _, s, .val (.str _)⟩
  stop := fun A' H' st g s _ => by
    unfold signs
    show _ = z.cps.size
    simp
  small := by
    unfold signs
    rw [List.length_map]
    have : z.cps.toList.length = z.length := by simp [Str.length]
    omega
def iAny (T : TE3) : TI3 := fun env st Q => T env st fun x st1 => match x with
  | .lst xs => Q none xs st1
  | .tup xs => Q none xs st1
  | .str z => z.length ≤ sizeLine ∧ Q none (signs z) st1
  | .obj i => (match st1[i]? with | some (.lst xs) => Q (some (i, .lst xs)) xs st1 | _ => False)
  | _ => False
theorem qi_any (h : PE X iter (can X.K Ta)) : PI X tg iter (canI X.K (iAny Ta)) := by
  refine pi_weak (pi_any h) fun σ H R ⟨A, env, st, Q3, rel, h, k⟩ => ⟨A, env, st, _, rel, h, fun A1 H1 st1 x v g1 s1 e1 h1 => ?_⟩
  cases e1 with
  | obj eo =>
    dsimp only at h1
    split at h1
    · rename_i q
      obtain ⟨vs, h2, r, hz⟩ := s1.at_ _ _ _ eo q
      exact .inl ⟨_, rfl, ⟨_, .of h2⟩, k A1 H1 st1 _ _ _ g1 s1 (it_obj eo (by rw [r.len]; exact hz)) h1⟩
    · exact h1.elim
  | val e =>
    cases e with
    | tup t z r => exact .inr (.inl ⟨_, rfl, ⟨_, t.sq⟩, k A1 H1 st1 none _ _ g1 s1 (it_tup t z r) h1⟩)
    | lst t z r => exact .inl ⟨_, rfl, ⟨_, t.sq⟩, k A1 H1 st1 none _ _ g1 s1 (it_lst t z r) h1⟩
    | str z => exact .inr (.inr ⟨z, rfl, k A1 H1 st1 none _ _ g1 s1 (it_str h1.1) h1.2⟩)
    | _ => exact False.elim h1
theorem qi_rng1 (hg : Gl X "range") (hm : X.mg "range" = none) (ha : PA X [a] (canA X.K TA)) (hs : starEach [a] X.env = [(false, eval a X.env)] := by rfl) : PI X tg (.Call (.Name "range" p) [a] [] pos) (canI X.K (iRng TA)) := by
  refine pi_weak (pi_range1 hg hm ha hs) fun σ H R ⟨A, env, st, Q3, rel, h, k⟩ => ⟨A, env, st, _, rel, h, fun A1 H1 st1 xs vs g1 s1 e1 h1 => ?_⟩
  split at h1
  · rename_i j
    obtain ⟨v, rfl, e⟩ := REs.one e1
    cases ints_of e
    have hb : (2000000 : Nat) ≤ sizeLine := by rw [sizeLine_eq]; decide
    exact ⟨j, rfl, by omega, by omega, k A1 H1 st1 none _ _ g1 s1 (it_rng (by omega)) h1.2⟩
  · exact h1.elim
end
def start3 (N : List Str) (xs : List PV) : Env3 := xs.map some ++ List.replicate (N.length - xs.length) none
def Exit (m : Nat) (Q : K3) : K3 := fun r st => match r with
  | .obj i => if i < m then Q (.obj i) (st.take m) else (match st[i]? with | some (.lst xs) => Q (.lst xs) (st.take m) | some (.dct xs) => Q (.dct xs) (st.take m) | some (.itb xs) => Q (.itb xs) (st.take m) | _ => False)
  | r => Q r (st.take m)
section
variable {K : PySem.W.Frag} {A B : List Addr} {H H' : Hp}
theorem Rel.begin {st : Sto} {xs : List PV} {vs : List V} {N : List Str} (s : RS K A H st) (e : REs K A H xs vs) : Rel K A H (L2.start N vs) (start3 N xs) st := by
  have hl : xs.length = vs.length := Paired.length e
  refine ⟨s, by unfold L2.start start3; rw [List.length_append, List.length_append, List.length_map, List.length_map, List.length_replicate, List.length_replicate, hl], fun i x h => ?_⟩
  unfold start3 at h
  by_cases hi : i < xs.length
  · rw [List.getElem?_append_left (by rw [List.length_map]; exact hi), List.getElem?_map] at h
    cases ex : xs[i]? with
    | none => rw [ex] at h; cases h
    | some y =>
      rw [ex] at h; cases h
      have hv : i < vs.length := by omega
      refine ⟨vs[i], ?_, paired_at e ex (List.getElem?_eq_getElem hv)⟩
      unfold L2.start
      rw [List.getElem?_append_left (by rw [List.length_map]; exact hv), List.getElem?_map, List.getElem?_eq_getElem hv]; rfl
  · rw [List.getElem?_append_right (by rw [List.length_map]; omega), List.getElem?_replicate] at h
    split at h <;> cases h
theorem TupAt.less {A A' : List Addr} (h : ∀ b, b ∈ A' → b ∈ A) {a : Addr} {vs : List V} (t : TupAt K A H a vs) : TupAt K A' H a vs := t.imp (fun t => ⟨t.1, fun m => t.2 (h _ m)⟩) id
theorem LstAt.less {A A' : List Addr} (h : ∀ b, b ∈ A' → b ∈ A) {a : Addr} {vs : List V} (t : LstAt K A H a vs) : LstAt K A' H a vs := t.imp (fun t => ⟨t.1, fun m => t.2 (h _ m)⟩) id
mutual
theorem RV.less {A A' : List Addr} (h : ∀ b, b ∈ A' → b ∈ A) {x : PV} {v : V} : RV K A H x v → RV K A' H x v
  | .non => .non
  | .bl b => .bl b
  | .int i => .int i
  | .str x => .str x
  | .ty n => .ty n
  | .tup t z r => .tup (t.less h) z (RVs.less h r)
  | .lst t z r => .lst (t.less h) z (RVs.less h r)
  | .dct t z r => .dct ⟨t.1, fun m => t.2 (h _ m)⟩ z (RKs.less h r)
  | .itb e n => .itb e fun m => n (h _ m)
  | .clo e => .clo ⟨⟨e.fn.1, fun m => e.fn.2 (h _ m)⟩, ⟨e.cd.1, fun m => e.cd.2 (h _ m)⟩, ⟨e.cl.1, fun m => e.cl.2 (h _ m)⟩, ⟨e.dt.1, fun m => e.dt.2 (h _ m)⟩⟩
theorem RVs.less {A A' : List Addr} (h : ∀ b, b ∈ A' → b ∈ A) {xs : List PV} {vs : List V} : RVs K A H xs vs → RVs K A' H xs vs
  | .nil => .nil
  | .cons r t => .cons (RV.less h r) (RVs.less h t)
theorem RKs.less {A A' : List Addr} (h : ∀ b, b ∈ A' → b ∈ A) {xs : List (Key × PV)} {vs : List (Key × V)} : RKs K A H xs vs → RKs K A' H xs vs
  | .nil => .nil
  | .cons r t => .cons (RV.less h r) (RKs.less h t)
end
theorem OA.less {A A' : List Addr} (h : ∀ b, b ∈ A' → b ∈ A) {a : Addr} {o : PO} (x : OA K A H a o) : OA K A' H a o := by
  cases o with
  | lst xs => obtain ⟨vs, e, r, z⟩ := x; exact ⟨vs, e, r.less h, z⟩
  | dct xs => obtain ⟨vs, e, r, z⟩ := x; exact ⟨vs, e, r.less h, z⟩
  | tbl T pos q => obtain ⟨ea, ps, e, r⟩ := x; exact ⟨ea, ps, e, r.imp id fun ⟨c', e1, e2, e3⟩ => ⟨c', e1, e2, fun m => e3 (h _ m)⟩⟩
  | itb kvs => exact x
theorem mem_take {α : Type} {l : List α} {m : Nat} : ∀ b, b ∈ l.take m → b ∈ l := fun b h => List.mem_of_mem_take h
theorem RS.take {st : Sto} (s : RS K A H st) (m : Nat) : RS K (A.take m) H (st.take m) := by
  refine ⟨List.Nodup.sublist (List.take_sublist _ _) s.nd, by rw [List.length_take, List.length_take, s.len], fun i a o h1 h2 => ?_⟩
  have hi : i < m := by
    have := (List.getElem?_eq_some_iff.mp h1).1
    rw [List.length_take] at this; omega
  rw [List.getElem?_take_of_lt hi] at h1 h2
  exact (s.at_ i a o h1 h2).less mem_take
theorem Grow.take {B' : List Addr} (g : Grow A H B' H') {m : Nat} (h : A.length ≤ m) : Grow A H (B'.take m) H' := by
  obtain ⟨⟨C, rfl, hC⟩, k, l⟩ := g
  refine ⟨⟨C.take (m - A.length), ?_, fun b hb => hC b (List.mem_of_mem_take hb)⟩, k, l⟩
  rw [List.take_append, List.take_of_length_le h]
theorem Fin.exit {Q3 : K3} {Q : VK} {m : Nat} (k : Fin K A H Q3 Q) (hm : A.length ≤ m) : Fin K A H (Exit m Q3) Q := by
  intro A' H' st' r v g s e q
  have g' := g.take hm
  have s' := s.take m
  cases e with
  | val e =>
    refine k _ H' _ r v g' s' (.val (e.less mem_take)) ?_
    cases r with
    | obj i => cases e
    | _ => exact q
  | obj eo =>
    rename_i i a
    unfold Exit at q
    dsimp only at q
    by_cases hi : i < m
    · rw [if_pos hi] at q
      exact k _ H' _ _ _ g' s' (.obj (by rw [List.getElem?_take_of_lt hi]; exact eo)) q
    · rw [if_neg hi] at q
      have na : a ∉ A'.take m := fun hm' => by
        obtain ⟨j, hj, e⟩ := List.getElem_of_mem hm'
        rw [List.length_take] at hj
        have e2 : A'[j]? = some a := by
          rw [← List.getElem?_take_of_lt (show j < m by omega), List.getElem?_eq_getElem (by rw [List.length_take]; omega), e]
        have := (List.getElem?_inj (List.getElem?_eq_some_iff.mp e2).1 s.nd).mp (e2.trans eo.symm)
        omega
      split at q
      · rename_i xs e
        obtain ⟨vs, h1, r, z⟩ := s.at_ _ _ _ eo e
        exact k _ H' _ _ _ g' s' (.val (.lst (.inl ⟨.inl h1, na⟩) z (r.less mem_take))) q
      · rename_i xs e
        obtain ⟨vs, h1, r, z⟩ := s.at_ _ _ _ eo e
        exact k _ H' _ _ _ g' s' (.val (.dct ⟨h1, na⟩ z (r.less mem_take))) q
      · rename_i xs e
        exact k _ H' _ _ _ g' s' (.val (.itb (s.at_ _ _ _ eo e) na)) q
      · exact q.elim
end
theorem ok3 {P : Program} {w : World} {K : PySem.W.Frag} {mg : Str → Option Value} {base : Heap} {x qual : Str} {st : Stmt} {f : Addr} {fd : FuncData} {N ps : List Str} {k : Nat} {S : Sp3} (keep : Nat) (F : Fun K x qual st f fd) (sc : FnScope N ps (defScope st)) (len : ∀ xs st Q, S xs st Q → xs.length = ps.length)
    (hB : ∃ T : TS3, (∀ (cdv : Value) (A : Around) (outer : List Env) (s : Shared) (H : Hp) (E : XK), Room k (A.deeper (envOfC qual (defScope st) s.heap.objs.size f cdv)) → PSs (cxOf CX0 P w K mg base N qual (defScope st) f cdv A outer s H E).nox (defBody st) (canS K T)) ∧
      ∀ xs sto Q, S xs sto Q → T { nx := fun _ s' => Exit (sto.length + keep) Q .non s', rt := Exit (sto.length + keep) Q } (start3 N xs) sto) : FnOk P w K mg base CX0 (k + 1) f fd ps (sp2 K S) := by
  obtain ⟨T, hT, hb⟩ := hB
  refine F.ok sc (fun vs H Q E h => ?_) (fun cdv A outer s H vs Q E hr h => ⟨_, hT cdv A outer s H E hr, ?_⟩)
  · obtain ⟨A, sto, xs, Q3, rs, ex, hS, _⟩ := h
    rw [← len xs sto Q3 hS]
    exact (Paired.length ex).symm
  · obtain ⟨A, sto, xs, Q3, rs, ex, hS, k⟩ := h
    have hm : A.length ≤ sto.length + keep := by rw [rs.len]; omega
    refine ⟨A, start3 N xs, sto, _, Rel.begin rs ex, hb xs sto Q3 hS, ⟨fun A' H' σ' env' st' g r q => ?_, k.exit hm, fun A' H' σ' env' st' g r q => q.elim, fun A' H' σ' env' st' g r q => q.elim⟩⟩
    exact k.exit hm A' H' st' .non .non g r.rs (.val .non) q
end L3
namespace L3
open PySem PySem.Spec PyProof.Rows L2
section
variable {X : Cx} {scope : Scope} {N' own : List Str} {Ti : TI3} {Tg : TG3} {tt : TT3} {te : TE3}
theorem qs_setC {elt target iter : Expr} {ifs : List Expr} {pos spos pos' : Pos} {i0 : Nat} {x : Str} (S : CompScope X scope N' own) (hN : X.N.Nodup) (hi0 : X.N[i0]? = some x) (hx : Loc X.env.scope x) (hc : X.calm = true) (hi : PI X target iter (canI X.K Ti))
    (hg : ∀ C s H fp pins, PG (cxC X scope (N' ++ own) C s H fp pins) target (canG X.K Tg)) (ht : ∀ C s H fp pins, PF (cxC X scope (N' ++ own) C s H fp pins) ifs (canT X.K tt)) (he : ∀ C s H fp pins, PE (cxC X scope (N' ++ own) C s H fp pins) elt (can X.K te))
    (hs : ∀ x, foldedSetIterable iter X.env x = pure x := by intro _; rfl) (hsw : swapsWith (.ListComp elt [⟨target, iter, ifs, 0⟩] scope pos) (some (.Name x pos')) spos.line X.env = pure true := by rfl)
    (hf : X.fn x = true ∨ X.env.scope.names.lookup x = some .local := by first | exact .inl rfl | exact .inr rfl | assumption) :
    PS X (.Assign [.Name x pos'] (.ListComp elt [⟨target, iter, ifs, 0⟩] scope pos) spos) (canS X.K (vAsg (vComp own.length Ti Tg tt te) (gN i0))) := by
  refine ps_weak (ps_setC hN hi0 hx S hc hi hg ht he hs hsw hf) fun D σ H h => ?_
  obtain ⟨A, env, st, Q3, rel, h, k⟩ := can_asg h
  exact can_comp ⟨A, env, st, Q3, rel, h, fun A1 H1 st1 r v g s e q => can_gname (k A1 H1 st1 r v g s e q)⟩
end
end L3
set_option Elab.async false
set_option linter.all false
set_option maxRecDepth 100000
set_option maxHeartbeats 4000000
namespace L3
open PySem PySem.Spec PyProof.Rows L2
def isiT (a b c d e : Bool) (n : String) : Option Bool := if n = "int" then some a else if n = "bool" then some b else if n = "str" then some c else if n = "tuple" then some d else if n = "list" then some e else none
def isiP : PV → String → Option Bool
  | .bl _, n => isiT true true false false false n
  | .int _, n => isiT true false false false false n
  | .str _, n => isiT false false true false false n
  | .tup _, n => isiT false false false true false n
  | .lst _, n => isiT false false false false true n
  | _, _ => none
theorem isiT_of {a b c d e r : Bool} {n : String} (h : isiT a b c d e n = some r) : (n = "int" ∧ r = a) ∨ (n = "bool" ∧ r = b) ∨ (n = "str" ∧ r = c) ∨ (n = "tuple" ∧ r = d) ∨ (n = "list" ∧ r = e) := by
  unfold isiT at h
  by_cases h1 : n = "int"
  · rw [if_pos h1] at h; cases h; exact .inl ⟨h1, rfl⟩
  rw [if_neg h1] at h
  by_cases h2 : n = "bool"
  · rw [if_pos h2] at h; cases h; exact .inr (.inl ⟨h2, rfl⟩)
  rw [if_neg h2] at h
  by_cases h3 : n = "str"
  · rw [if_pos h3] at h; cases h; exact .inr (.inr (.inl ⟨h3, rfl⟩))
  rw [if_neg h3] at h
  by_cases h4 : n = "tuple"
  · rw [if_pos h4] at h; cases h; exact .inr (.inr (.inr (.inl ⟨h4, rfl⟩)))
  rw [if_neg h4] at h
  by_cases h5 : n = "list"
  · rw [if_pos h5] at h; cases h; exact .inr (.inr (.inr (.inr ⟨h5, rfl⟩)))
  rw [if_neg h5] at h; cases h
def rIsi3 : Sp3 := fun xs st Q => match xs with | [x, .ty n] => (match isiP x n with | some b => Q (.bl b) st | none => False) | _ => False
section
variable {X : Cx} {pins : List (Addr × Obj)} {σ : St} {H : Hp} {s : Shared} {A : List Addr}
theorem isi_of {Q : VK} {x : PV} {n : String} {b : Bool} {vv : Value} (I : Inv X pins σ H s) (kx : Kd s x vv) (h : isiP x n = some b) (q : Q (.bl b) H) : wpAny (model X.prog X.w) X.A (call (.builtin "isinstance") [vv, .type n]) (EP X pins σ Q) X.xe s := by
  cases kx with
  | bl =>
    rcases isiT_of h with ⟨rfl, rfl⟩ | ⟨rfl, rfl⟩ | ⟨rfl, rfl⟩ | ⟨rfl, rfl⟩ | ⟨rfl, rfl⟩
    · exact IsiPair.bool_int ⟨.bl true, H, I, rfl, q⟩
    · exact IsiPair.bool_bool ⟨.bl true, H, I, rfl, q⟩
    · exact IsiPair.bool_str ⟨.bl false, H, I.tok _, rfl, q⟩
    · exact IsiPair.bool_tuple ⟨.bl false, H, I.tok _, rfl, q⟩
    · exact IsiPair.bool_list ⟨.bl false, H, I.tok _, rfl, q⟩
  | int =>
    rcases isiT_of h with ⟨rfl, rfl⟩ | ⟨rfl, rfl⟩ | ⟨rfl, rfl⟩ | ⟨rfl, rfl⟩ | ⟨rfl, rfl⟩
    · exact IsiPair.int_int ⟨.bl true, H, I, rfl, q⟩
    · exact IsiPair.int_bool ⟨.bl false, H, I.tok _, rfl, q⟩
    · exact IsiPair.int_str ⟨.bl false, H, I.tok _, rfl, q⟩
    · exact IsiPair.int_tuple ⟨.bl false, H, I.tok _, rfl, q⟩
    · exact IsiPair.int_list ⟨.bl false, H, I.tok _, rfl, q⟩
  | str =>
    rcases isiT_of h with ⟨rfl, rfl⟩ | ⟨rfl, rfl⟩ | ⟨rfl, rfl⟩ | ⟨rfl, rfl⟩ | ⟨rfl, rfl⟩
    · exact IsiPair.str_int ⟨.bl false, H, I.tok _, rfl, q⟩
    · exact IsiPair.str_bool ⟨.bl false, H, I.tok _, rfl, q⟩
    · exact IsiPair.str_str ⟨.bl true, H, I, rfl, q⟩
    · exact IsiPair.str_tuple ⟨.bl false, H, I.tok _, rfl, q⟩
    · exact IsiPair.str_list ⟨.bl false, H, I.tok _, rfl, q⟩
  | tup p =>
    rcases isiT_of h with ⟨rfl, rfl⟩ | ⟨rfl, rfl⟩ | ⟨rfl, rfl⟩ | ⟨rfl, rfl⟩ | ⟨rfl, rfl⟩
    · obtain ⟨o, e, c, _⟩ := id p; exact IsiPair.tuple_int e c ⟨.bl false, H, I.tok _, rfl, q⟩
    · obtain ⟨o, e, c, _⟩ := id p; exact IsiPair.tuple_bool e c ⟨.bl false, H, I.tok _, rfl, q⟩
    · obtain ⟨o, e, c, _⟩ := id p; exact IsiPair.tuple_str e c ⟨.bl false, H, I.tok _, rfl, q⟩
    · obtain ⟨o, e, c, _⟩ := id p; exact IsiPair.tuple_tuple e c ⟨.bl true, H, I, rfl, q⟩
    · obtain ⟨o, e, c, _⟩ := id p; exact IsiPair.tuple_list e c ⟨.bl false, H, I.tok _, rfl, q⟩
  | lst p =>
    rcases isiT_of h with ⟨rfl, rfl⟩ | ⟨rfl, rfl⟩ | ⟨rfl, rfl⟩ | ⟨rfl, rfl⟩ | ⟨rfl, rfl⟩
    · obtain ⟨o, e, c, _⟩ := id p; exact IsiPair.list_int e c ⟨.bl false, H, I.tok _, rfl, q⟩
    · obtain ⟨o, e, c, _⟩ := id p; exact IsiPair.list_bool e c ⟨.bl false, H, I.tok _, rfl, q⟩
    · obtain ⟨o, e, c, _⟩ := id p; exact IsiPair.list_str e c ⟨.bl false, H, I.tok _, rfl, q⟩
    · obtain ⟨o, e, c, _⟩ := id p; exact IsiPair.list_tuple e c ⟨.bl false, H, I.tok _, rfl, q⟩
    · obtain ⟨o, e, c, _⟩ := id p; exact IsiPair.list_list e c ⟨.bl true, H, I, rfl, q⟩
  | _ => cases h
theorem o_isinst : CallR X (.builtin "isinstance") (canL X.K rIsi3) := by
  intro pins s σ H vs us Q I rv ⟨A, st, xs, Q3, rs, ex, h, k⟩
  unfold rIsi3 at h
  split at h
  · rename_i x n
    obtain ⟨v, w, rfl, ex1, ey1⟩ := REs.two ex
    have hw : w = .ty n := by cases ey1 with | val e => cases e; rfl
    subst hw
    obtain ⟨u1, u2, rfl, r1, r2⟩ := vals2 rv
    cases r2
    split at h
    · rename_i b e
      have hd : dpt x < 1000 ∨ ∃ ys, x = .tup ys ∨ x = .lst ys := by
        cases x with
        | tup ys => exact .inr ⟨ys, .inl rfl⟩
        | lst ys => exact .inr ⟨ys, .inr rfl⟩
        | non => cases e
        | bl b => exact .inl (by unfold dpt; decide)
        | int b => exact .inl (by unfold dpt; decide)
        | str b => exact .inl (by unfold dpt; decide)
        | _ => cases e
      have q := k.now rs (.val (.bl b)) h
      refine isi_of I ?_ e q
      rcases hd with hd | ⟨ys, rfl | rfl⟩
      · exact kd_of I (ex1.rv (noObj_of hd)) r1 hd
      · cases ex1 with | val e => cases e with | tup t z r => cases r1; obtain ⟨its, _, p, _⟩ := I.tuple t.sq; exact .tup p
      · cases ex1 with | val e => cases e with | lst t z r => cases r1; obtain ⟨its, _, p, _⟩ := I.list t.sq; exact .lst p.isList
    · exact h.elim
  · exact h.elim
def rInt3 : Sp3 := fun xs st Q => match xs with | [.int i] => Q (.int i) st | [.bl b] => Q (.int (if b then 1 else 0)) st | _ => False
theorem o_int : CallR X (.type "int") (canL X.K rInt3) := by
  intro pins s σ H vs us Q I rv ⟨A, st, xs, Q3, rs, ex, h, k⟩
  unfold rInt3 at h
  split at h
  · obtain ⟨v, rfl, ex1⟩ := REs.one ex
    cases ints_of ex1
    exact call_int1 pins s σ H _ us Q I rv (.inl ⟨_, rfl, k.now rs (.val (.int _)) h⟩)
  · obtain ⟨v, rfl, ex1⟩ := REs.one ex
    cases bls_of ex1
    exact call_int1 pins s σ H _ us Q I rv (.inr ⟨_, rfl, k.now rs (.val (.int _)) h⟩)
  · exact h.elim
def rMin3 : Sp3 := fun xs st Q => match xs with | [.int i, .int j] => Q (.int (if j < i then j else i)) st | _ => False
def rMax3 : Sp3 := fun xs st Q => match xs with | [.int i, .int j] => Q (.int (if j > i then j else i)) st | _ => False
theorem o_min2 (hc : X.calm = true) : CallR X (.builtin "min") (canL X.K rMin3) := by
  intro pins s σ H vs us Q I rv ⟨A, st, xs, Q3, rs, ex, h, k⟩
  unfold rMin3 at h
  split at h
  · obtain ⟨v, w, rfl, ex1, ey1⟩ := REs.two ex
    cases ints_of ex1; cases ints_of ey1
    exact call_min2 hc pins s σ H _ us Q I rv ⟨_, _, rfl, k.now rs (.val (.int _)) h⟩
  · exact h.elim
theorem rvs_bl {K : PySem.W.Frag} : ∀ {bs : List Bool} {vs : List V}, RVs K A H (bs.map PV.bl) vs → vs = bs.map V.bl
  | [], _, .nil => rfl
  | b :: bs, _, .cons r t => by cases r; rw [rvs_bl t]; rfl
theorem rvs_int {K : PySem.W.Frag} : ∀ {bs : List Int} {vs : List V}, RVs K A H (bs.map PV.int) vs → vs = bs.map V.int
  | [], _, .nil => rfl
  | b :: bs, _, .cons r t => by cases r; rw [rvs_int t]; rfl
theorem rvs_str {K : PySem.W.Frag} : ∀ {bs : List Str} {vs : List V}, RVs K A H (bs.map PV.str) vs → vs = bs.map V.str
  | [], _, .nil => rfl
  | b :: bs, _, .cons r t => by cases r; rw [rvs_str t]; rfl
theorem int_rvs {K : PySem.W.Frag} : ∀ (bs : List Int), RVs K A H (bs.map PV.int) (bs.map V.int)
  | [] => .nil
  | b :: bs => .cons (.int b) (int_rvs bs)
def lstOf : PV → Sto → Option (List PV)
  | .lst xs, _ => some xs
  | .obj i, st => (match st[i]? with | some (.lst xs) => some xs | _ => none)
  | _, _ => none
theorem lst_of {st : Sto} {x : PV} {v : V} {xs : List PV} (rs : RS X.K A H st) (ex : RE X.K A H x v) (h : lstOf x st = some xs) : ∃ a vs, v = .ref a ∧ SqL X.K H a vs ∧ RVs X.K A H xs vs ∧ vs.length ≤ sizeLine := by
  cases ex with
  | val e =>
    cases e with
    | lst t z r => cases h; exact ⟨_, _, rfl, t.sq, r, z⟩
    | _ => cases h
  | obj eo =>
    dsimp only [lstOf] at h
    split at h
    · rename_i q
      cases h
      obtain ⟨vs, h1, r, z⟩ := rs.at_ _ _ _ eo q
      exact ⟨_, _, rfl, .of h1, r, z⟩
    · cases h
def rAll3 : Sp3 := fun xs st Q => match xs with | [x] => ∃ bs : List Bool, lstOf x st = some (bs.map PV.bl) ∧ Q (.bl (bs.all id)) st | _ => False
theorem o_all (hc : X.calm = true) : CallR X (.builtin "all") (canL X.K rAll3) := by
  intro pins s σ H vs us Q I rv ⟨A, st, xs, Q3, rs, ex, h, k⟩
  unfold rAll3 at h
  split at h
  · obtain ⟨v, rfl, ex1⟩ := REs.one ex
    obtain ⟨bs, e, h⟩ := h
    obtain ⟨a, ws, rfl, hs, r, z⟩ := lst_of rs ex1 e
    cases rvs_bl r
    exact call_all hc pins s σ H _ us Q I rv ⟨a, bs, rfl, hs, k.now rs (.val (.bl _)) h⟩
  · exact h.elim
def keyP : Key → PV
  | .inl i => .int i
  | .inr z => .str z
def itsOf : PV → Sto → Option (List PV)
  | .lst xs, _ => some xs
  | .tup xs, _ => some xs
  | .obj i, st => (match st[i]? with | some (.lst xs) => some xs | some (.dct kvs) => some (kvs.map fun q => keyP q.1) | _ => none)
  | .dct kvs, _ => some (kvs.map fun q => keyP q.1)
  | _, _ => none
def rList3 : Sp3 := fun xs st Q => match xs with | [x] => (match itsOf x st with | some ys => Q (.lst ys) st | none => False) | _ => False
def rListO3 : Sp3 := fun xs st Q => match xs with | [x] => (match itsOf x st with | some ys => Q (.obj st.length) (st ++ [.lst ys]) | none => False) | _ => False
def vDNew : TE3 := fun _ st Q => Q (.obj st.length) (st ++ [.dct []])
end
end L3
set_option Elab.async false
set_option linter.all false
set_option maxRecDepth 100000
set_option maxHeartbeats 4000000
namespace L3
open PySem PySem.Spec PyProof.Rows L2
def isTy : PV → Sto → String
  | .lst _, _ => "list"
  | .dct _, _ => "dict"
  | .str _, _ => "str"
  | .obj i, st => (match st[i]? with | some (.lst _) => "list" | some (.dct _) => "dict" | _ => "")
  | _, _ => ""
def canM (K : PySem.W.Frag) (R : PV → Sp3) : V → List V → Hp → VK → Prop := fun v vs H Q => ∃ A st x xs Q3, RS K A H st ∧ RE K A H x v ∧ REs K A H xs vs ∧ R x xs st Q3 ∧ Fin K A H Q3 Q
def vBM (T : String) (R : PV → Sp3) (To : TE3) (TA : TA3) : TE3 := fun env st Q => To env st fun x st1 => isTy x st1 = T ∧ TA env st1 fun xs st2 => R x xs st2 Q
def vBM0 (T : String) (R : PV → Sp3) (To : TE3) : TE3 := fun env st Q => To env st fun x st1 => isTy x st1 = T ∧ R x [] st1 Q
section
variable {X : Cx} {o e : Expr} {es : List Expr} {apos cpos : Pos} {To : TE3} {TA : TA3} {T id : String} {name : Str} {R : PV → Sp3}
theorem ty_of {K : PySem.W.Frag} {A : List Addr} {H : Hp} {st : Sto} {x : PV} {v : V} (rs : RS K A H st) (ex : RE K A H x v) (h : isTy x st = T) (hT : T ≠ "") : tyV K T v H := by
  subst h
  cases ex with
  | val e =>
    cases e with
    | lst t z r => exact .inl ⟨rfl, _, t.sq⟩
    | dct t z r => exact .inr (.inr (.inl ⟨rfl, .inl ⟨_, t.1⟩⟩))
    | str z => exact rfl
    | _ => exact absurd rfl hT
  | obj eo =>
    dsimp only [isTy] at hT ⊢
    split
    · rename_i q
      obtain ⟨vs, h1, r, z⟩ := rs.at_ _ _ _ eo q
      exact .inl ⟨rfl, _, .of h1⟩
    · rename_i q
      obtain ⟨vs, h1, r, z⟩ := rs.at_ _ _ _ eo q
      exact .inr (.inr (.inl ⟨rfl, .inl ⟨_, h1⟩⟩))
    · exfalso
      split at hT
      · rename_i n1 n2 _ _ q; exact n1 _ q
      · rename_i n1 n2 _ _ q; exact n2 _ q
      · exact hT rfl
theorem q_bm (pa : PlainAttrs T) (slot : Slot T name id) (hty : typeOf (.builtin id) = pure (.type "method_descriptor")) (hT : T ≠ "") (hm : MtR X id (canM X.K R)) (ho : PE X o (can X.K To)) (ha : PA X (e :: es) (canA X.K TA))
    (hbase : attributeBase o name X.env (eval o X.env) = eval o X.env := by rfl)
    (hfew : ((backTo cpos (starEach (e :: es) X.env)).all (fun x => !x.1) && (backToKw cpos (keywordEach [] X.env)).all (fun x => x.1.isSome)
      && decide ((e :: es).length + ([] : List Keyword).length + (if ([] : List Keyword).isEmpty then 0 else 1) < 30)) = true := by rfl)
    (hline : (apos.endLine == cpos.line) = true := by rfl) (hs : starEach (e :: es) X.env = (false, eval e X.env) :: starEach es X.env := by rfl) (hplain : (backTo cpos (starEach es X.env)).any (·.1) = false := by rfl) :
    PE X (.Call (.Attribute o name apos) (e :: es) [] cpos) (can X.K (vBM T R To TA)) :=
  pe_weak (pe_bm pa slot hty hm ho ha hbase hfew hline hs hplain) fun σ H Q ⟨A, env, st, Q3, rel, h, k⟩ => ⟨A, env, st, _, rel, h, fun A1 H1 st1 x v g1 s1 e1 h1 => ⟨ty_of s1 e1 h1.1 hT, A1, env, st1, _, rel.grow g1 s1, h1.2, fun A2 H2 st2 xs vs g2 s2 e2 h2 =>
    ⟨A2, st2, x, xs, Q3, s2, e1.grow g2, e2, h2, k.after (g1.trans g2)⟩⟩⟩
def rAppend3 : PV → Sp3 := fun x xs st Q => match x, xs with
  | .obj i, [y] => (match st[i]? with | some (.lst zs) => noObj y = true ∧ zs.length < sizeLine ∧ Q .non (st.set i (.lst (zs ++ [y]))) | _ => False)
  | _, _ => False
theorem o_append : MtR X "list.append" (canM X.K rAppend3) := by
  intro pins s σ H v vs vv us Q I rv rvs ⟨A, st, x, xs, Q3, rs, ex, exs, h, k⟩
  unfold rAppend3 at h
  split at h
  · rename_i i y
    obtain ⟨w, rfl, ey⟩ := REs.one exs
    cases ex with
    | val e => cases e
    | obj eo =>
      have hm := List.mem_of_getElem? eo
      split at h
      · rename_i zs q
        obtain ⟨ws, h1, r, z⟩ := rs.at_ _ _ _ eo q
        obtain ⟨hn, hl, h⟩ := h
        rw [r.len] at hl
        refine mt_append pins s σ H _ _ vv us Q I rv rvs ⟨_, ws, w, rfl, rfl, h1, hl, k A _ _ _ _ (.put hm) (rs.put (q := .lst (zs ++ [y])) eo ⟨_, upd_same, (r.grow (.put hm)).append (.cons ((ey.rv hn).grow (.put hm)) .nil), ?_⟩) (.val .non) h⟩
        rw [List.length_append, List.length_singleton]; exact hl
      · exact h.elim
  · exact h.elim
def rExtend3 : PV → Sp3 := fun x xs st Q => match x, xs with
  | .obj i, [.lst ys] => (match st[i]? with | some (.lst zs) => zs.length + ys.length ≤ sizeLine ∧ Q .non (st.set i (.lst (zs ++ ys))) | _ => False)
  | _, _ => False
def rPop3 : PV → Sp3 := fun x xs st Q => match x, xs with
  | .obj i, [] => (match st[i]? with | some (.lst zs) => (match zs.getLast? with | some y => Q y (st.set i (.lst zs.dropLast)) | none => False) | _ => False)
  | _, _ => False
def dctOf : PV → Sto → Option (List (Key × PV))
  | .dct kvs, _ => some kvs
  | .obj i, st => (match st[i]? with | some (.dct kvs) => some kvs | _ => none)
  | _, _ => none
def rJoin3 : PV → Sp3 := fun x xs st Q => match x, xs with
  | .str sep, [y] => ∃ ss : List Str, lstOf y st = some (ss.map PV.str) ∧ (ss.map (·.length)).sum + ss.length * sep.length ≤ 16777216 ∧ Q (.str (Txt.join sep ss)) st
  | _, _ => False
theorem o_join : MtR X "str.join" (canM X.K rJoin3) := by
  intro pins s σ H v vs vv us Q I rv rvs ⟨A, st, x, xs, Q3, rs, ex, exs, h, k⟩
  unfold rJoin3 at h
  split at h
  · obtain ⟨w, rfl, ey⟩ := REs.one exs
    cases strs_of ex
    obtain ⟨ss, e, hl, h⟩ := h
    obtain ⟨a, ws, rfl, hs, r, z⟩ := lst_of rs ey e
    cases rvs_str r
    exact mt_join pins s σ H _ _ vv us Q I rv rvs ⟨_, a, ss, rfl, rfl, hs, hl, k.now rs (.val (.str _)) h⟩
  · exact h.elim
end
end L3
set_option Elab.async false
set_option linter.all false
set_option maxRecDepth 100000
set_option maxHeartbeats 4000000
namespace L3
open PySem PySem.Spec PyProof.Rows L2
section
variable {X : Cx} {o : Expr} {To : TE3} {p ap cp pos : Pos}
end
end L3
set_option Elab.async false
set_option linter.all false
set_option maxRecDepth 100000
namespace L3
open PySem PySem.Spec PyProof.Rows L2
theorem at0 {α : Type} {x : α} {xs : List α} : atI (x :: xs) 0 = some x := atI_nat (j := 0) rfl
theorem at1 {α : Type} {x y : α} {xs : List α} : atI (x :: y :: xs) 1 = some y := atI_nat (j := 1) rfl
theorem at2 {α : Type} {x y z : α} {xs : List α} : atI (x :: y :: z :: xs) 2 = some z := atI_nat (j := 2) rfl
theorem at3 {α : Type} {x y z u : α} {xs : List α} : atI (x :: y :: z :: u :: xs) 3 = some u := atI_nat (j := 3) rfl
theorem at4 {α : Type} {x y z u v : α} {xs : List α} : atI (x :: y :: z :: u :: v :: xs) 4 = some v := atI_nat (j := 4) rfl
theorem ix0 {n : Nat} : ixN (n + 1) 0 = some 0 := by unfold ixN; rw [if_pos (by decide), if_pos (by omega)]; rfl
theorem ix1 {n : Nat} : ixN (n + 2) 1 = some 1 := by unfold ixN; rw [if_pos (by decide), if_pos (by omega)]; rfl
theorem take_self {α : Type} {st : List α} : st.take (st.length + 0) = st := by simp
theorem take_set {α : Type} {st : List α} {i : Nat} {x : α} : (st.set i x).take (st.length + 0) = st.set i x := by rw [Nat.add_zero, List.take_of_length_le (by simp)]
theorem set_set {α : Type} {st : List α} {i : Nat} {x y : α} : (st.set i x).set i y = st.set i y := by simp
theorem get_set {α : Type} {st : List α} {i : Nat} {x y : α} (h : st[i]? = some y) : (st.set i x)[i]? = some x := List.getElem?_set_self (List.getElem?_eq_some_iff.mp h).1
end L3
set_option Elab.async false
set_option linter.all false
set_option maxRecDepth 100000
set_option maxHeartbeats 4000000
namespace L3
open PySem PySem.Spec PyProof.Rows L2
def bagP (l : List (Str × Int)) : PV := .tup (l.map fun q => .tup [.str q.1, .int q.2])
theorem get_set' {α : Type} {st : List α} {i : Nat} {x : α} (h : (st[i]?).isSome = true) : (st.set i x)[i]? = some x := by
  obtain ⟨y, e⟩ := Option.isSome_iff_exists.mp h
  exact get_set e
theorem exit_o1 {Q : K3} {st : Sto} {x : PO} : Exit (st.length + 1) Q (.obj st.length) (st ++ [x]) = Q (.obj st.length) (st ++ [x]) := by
  show (if st.length < st.length + 1 then _ else _) = _
  rw [if_pos (Nat.lt_succ_self _), List.take_of_length_le (by simp)]
theorem exit_f {Q : K3} {st : Sto} {xs : List PV} : Exit (st.length + 0) Q (.obj st.length) (st ++ [.lst xs]) = Q (.lst xs) st := by
  show (if st.length < st.length + 0 then _ else _) = _
  rw [if_neg (by omega)]
  have : (st ++ [PO.lst xs])[st.length]? = some (.lst xs) := by simp
  rw [this]
  simp
theorem exit_fd {Q : K3} {st : Sto} {xs : List (Key × PV)} : Exit (st.length + 0) Q (.obj st.length) (st ++ [.dct xs]) = Q (.dct xs) st := by
  show (if st.length < st.length + 0 then _ else _) = _
  rw [if_neg (by omega)]
  have : (st ++ [PO.dct xs])[st.length]? = some (.dct xs) := by simp
  rw [this]
  simp
theorem at_has {α : Type} (f : α → PV) {ns : List α} {k : Int} (h0 : 0 ≤ k) (h1 : k < ns.length) : ∃ z ∈ ns, atI (ns.map f) k = some (f z) := by
  obtain ⟨y, hy, e⟩ := atI_has (ns.map f) h0 (by simpa using h1)
  obtain ⟨z, hz, rfl⟩ := List.mem_map.mp hy
  exact ⟨z, hz, e⟩
theorem len_at {α : Type} {st : List α} {x : α} : (st ++ [x])[st.length]? = some x := by simp
theorem set_at {α : Type} {st : List α} {x y : α} : (st ++ [x]).set st.length y = st ++ [y] := by simp
theorem take_at {α : Type} {st : List α} {x : α} : (st ++ [x]).take (st.length + 0) = st := by simp
theorem take_at1 {α : Type} {st : List α} {x : α} : (st ++ [x]).take (st.length + 1) = st ++ [x] := by rw [List.take_of_length_le (by simp)]
end L3
set_option Elab.async false
set_option linter.all false
set_option maxRecDepth 100000
namespace L3
open PySem PySem.Spec PyProof.Rows L2
theorem len1 {α : Type} {e : List α} (h : e.length = 1) : ∃ a, e = [a] := List.length_eq_one_iff.mp h
def CP (f : PV → Option PV) (own : Nat) (xs : List PV) (env : Env3) (st : Sto) (i : Nat) (ys : List PV) (env' : Env3) (st' : Sto) : Prop := ys = (xs.take i).filterMap f ∧ st' = st ∧ ∃ e', e'.length = own ∧ env' = env ++ e'
theorem take_succ' {α : Type} {xs : List α} {i : Nat} {x : α} (h : xs[i]? = some x) : xs.take (i + 1) = xs.take i ++ [x] := by rw [List.take_succ, h]; rfl
theorem CP.yes {f : PV → Option PV} {own : Nat} {xs : List PV} {env : Env3} {st : Sto} {i : Nat} {x y : PV} {e' : Env3} (h : xs[i]? = some x) (hf : f x = some y) (he : e'.length = own) : CP f own xs env st (i + 1) ((xs.take i).filterMap f ++ [y]) (env ++ e') st := by
  refine ⟨?_, rfl, e', he, rfl⟩
  rw [take_succ' h, List.filterMap_append, List.filterMap_cons, hf]; rfl
theorem comp_pure {own : Nat} {g : TG3} {tt : TT3} {el : TE3} {xs : List PV} {Q : List PV → Sto → Prop} {env : Env3} {st : Sto} (f : PV → Option PV)
    (hs : ∀ i x e, xs[i]? = some x → e.length = own → g x (env ++ e) st fun e1 s1 => tt e1 s1 fun b s2 => if b = true then el e1 s2 fun y s3 => noObj y = true ∧ CP f own xs env st (i + 1) ((xs.take i).filterMap f ++ [y]) e1 s3 else CP f own xs env st (i + 1) ((xs.take i).filterMap f) e1 s2)
    (hd : Q (xs.filterMap f) st) : CompW3 own g tt el none xs Q env st := by
  refine ⟨CP f own xs env st, ⟨by simp, rfl, _, by simp, rfl⟩, ?_, ?_⟩
  · rintro i x ys env' st' hx ⟨rfl, rfl, e', he, rfl⟩
    exact hs i x e' hx he
  · rintro ys env' st' ⟨rfl, rfl, e', he, rfl⟩
    show Q _ _
    rw [List.take_of_length_le (Nat.le_refl _)]
    exact hd
theorem for_by {g : TG3} {b : TS3} {src : Src} {xs : List PV} {D : Ends3} {env : Env3} {st : Sto} (P : Nat → Env3 → Sto → Prop) (h0 : P 0 env st)
    (hs : ∀ i x env st, xs[i]? = some x → P i env st → withS src st (g x env st fun e s => b { D with nx := P (i + 1), ct := P (i + 1), bk := D.nx } e s)) (hd : ∀ env st, P xs.length env st → withS src st (D.nx env st)) : ForW g b src xs D env st := ⟨P, h0, hs, hd⟩
theorem map_at {α : Type} {f : α → PV} {l : List α} {i : Nat} {x : PV} (h : (l.map f)[i]? = some x) : ∃ y, l[i]? = some y ∧ x = f y := by
  rw [List.getElem?_map] at h
  cases e : l[i]? with
  | none => rw [e] at h; cases h
  | some y => rw [e] at h; exact ⟨y, rfl, (Option.some.inj h).symm⟩
theorem ex_of {x : PV} {Q : K3} {st : Sto} (h : noObj x = true) (q : Q x st) : Exit (st.length + 0) Q x st := by
  cases x with
  | obj i => cases h
  | _ => show Q _ (st.take (st.length + 0)); rw [take_self]; exact q
theorem dpts_map {α : Type} {f : α → PV} {n : Nat} (h : ∀ x, dpt (f x) ≤ n) : ∀ (l : List α), dpts (l.map f) ≤ n
  | [] => by rw [List.map_nil]; unfold dpts; exact Nat.zero_le _
  | x :: l => by
    rw [List.map_cons]; unfold dpts
    exact Nat.max_le.mpr ⟨h x, dpts_map h l⟩
theorem dpt_bag (l : List (Str × Int)) : dpt (bagP l) ≤ 2 := by
  unfold bagP dpt
  exact Nat.succ_le_succ (dpts_map (fun q => by simp [dpt, dpts]) l)
end L3
set_option Elab.async false
set_option linter.all false
set_option maxRecDepth 100000
namespace L3
open PySem PySem.Spec PyProof.Rows L2
end L3
namespace L3
open PySem PySem.Spec PyProof.Rows L2
theorem seq_cut {t u : TS3} {D : Ends3} {env : Env3} {st : Sto} (P : Env3 → Sto → Prop) (h1 : ∀ N : Env3 → Sto → Prop, (∀ e s, P e s → N e s) → t { D with nx := N } env st) (h2 : ∀ e s, P e s → u D e s) : vSeq t u D env st := h1 (u D) h2
theorem eqP_v : (∀ {i j : Int}, eqP (.int i) (.int j) = (i == j)) ∧ (∀ {a b : Str}, eqP (.str a) (.str b) = (a == b)) ∧ (∀ {a b : Bool}, eqP (.bl a) (.bl b) = (a == b)) ∧ (eqP .non .non = true) ∧ (∀ {a b : List PV}, eqP (.tup a) (.tup b) = eqPs a b) ∧ (∀ {a b : List PV}, eqP (.lst a) (.lst b) = eqPs a b) ∧ (∀ {i : Int}, eqP (.int i) .non = false) ∧ (∀ {i : Str}, eqP (.str i) .non = false) ∧ (∀ {i : List PV}, eqP (.tup i) .non = false) ∧ (∀ {i : Int}, eqP .non (.int i) = false) ∧ (∀ {i : Str}, eqP .non (.str i) = false) ∧ (∀ {i : List PV}, eqP .non (.tup i) = false) ∧ (∀ {a : List PV} {b : Str}, eqP (.tup a) (.str b) = false) ∧ (∀ {a : List PV} {b : Str}, eqP (.str b) (.tup a) = false) ∧ (eqPs [] [] = true) ∧ (∀ {x xs}, eqPs (x :: xs) [] = false) ∧ (∀ {x xs}, eqPs [] (x :: xs) = false) ∧ (∀ {x xs y ys}, eqPs (x :: xs) (y :: ys) = (eqP x y && eqPs xs ys)) := by
  refine ⟨?_, ?_, ?_, ?_, ?_, ?_, ?_, ?_, ?_, ?_, ?_, ?_, ?_, ?_, ?_, ?_, ?_, ?_⟩ <;> intros <;> first | rfl | (unfold eqP; rfl) | (unfold eqPs; rfl)
theorem dpt_v : (dpt .non = 0) ∧ (∀ {i}, dpt (.int i) = 0) ∧ (∀ {i}, dpt (.str i) = 0) ∧ (∀ {i}, dpt (.bl i) = 0) ∧ (∀ {i}, dpt (.tup i) = dpts i + 1) ∧ (∀ {i}, dpt (.lst i) = dpts i + 1) ∧ (dpts [] = 0) ∧ (∀ {x xs}, dpts (x :: xs) = max (dpt x) (dpts xs)) := by
  refine ⟨?_, ?_, ?_, ?_, ?_, ?_, ?_, ?_⟩ <;> intros <;> first | rfl | (unfold dpt; rfl) | (unfold dpts; rfl)
theorem dptb (l : List (Str × Int)) : dpt (bagP l) ≤ 50 := Nat.le_trans (dpt_bag l) (by decide)
theorem dptb2 (l : List (Str × Int)) : dpt (bagP l) < 1000 := Nat.lt_of_le_of_lt (dpt_bag l) (by decide)
end L3
set_option Elab.async false
set_option linter.all false
set_option maxRecDepth 100000
set_option maxHeartbeats 4000000
namespace L3
open PySem PySem.Spec PyProof.Rows L2
def vNever : TS3 := fun _ _ _ => False
section
variable {X : Cx}
theorem qs_never {st : Stmt} : PS X st (canS X.K vNever) := ps_weak ps_never fun D σ H ⟨A, env, s, D3, rel, h, k⟩ => h
def vRevSl (T : TE3) (Tl : TO3) : TE3 := fun env st Q => T env st fun x st1 => Tl env st1 fun l st2 => l = some (-1) ∧ (match x with | .lst xs => Q (.lst xs.reverse) st2 | _ => False)
end
end L3
set_option Elab.async false
set_option linter.all false
set_option maxRecDepth 100000
namespace L3
open PySem PySem.Spec PyProof.Rows L2
theorem cutP_from (xs : List PV) (a : Nat) : cutP xs (some (a : Int)) none = xs.drop a := by
  unfold cutP
  rw [HT.sIx_nat, HT.sIx_none]
  rcases Nat.le_total a xs.length with h | h
  · rw [Nat.min_eq_left h, List.take_of_length_le (by rw [List.length_drop]; exact Nat.le_refl _)]
  · rw [Nat.min_eq_right h, List.drop_of_length_le (Nat.le_refl _), List.drop_of_length_le h]; simp
theorem cutP_upto (xs : List PV) (b : Nat) : cutP xs none (some (b : Int)) = xs.take b := by
  unfold cutP
  rw [HT.sIx_nat, HT.sIx_none, List.drop_zero, Nat.sub_zero]
  rcases Nat.le_total b xs.length with h | h
  · rw [Nat.min_eq_left h]
  · rw [Nat.min_eq_right h, List.take_of_length_le (Nat.le_refl _), List.take_of_length_le h]
end L3
set_option Elab.async false
set_option linter.all false
set_option maxRecDepth 100000
set_option maxHeartbeats 4000000
namespace L3
open PySem PySem.Spec PyProof.Rows L2
section
variable {α : Type} [DecidableEq α]
def lcp : List α → List α → Nat
  | x :: xs, y :: ys => if x = y then lcp xs ys + 1 else 0
  | _, _ => 0
theorem lcp_ge : ∀ (k : Nat) (xs ys : List α), k ≤ lcp xs ys ↔ k ≤ xs.length ∧ k ≤ ys.length ∧ xs.take k = ys.take k
  | 0, xs, ys => by simp
  | k + 1, [], ys => by simp [lcp]
  | k + 1, _ :: _, [] => by simp [lcp]
  | k + 1, x :: xs, y :: ys => by
    have ih := lcp_ge k xs ys
    by_cases h : x = y
    · subst h
      simp only [lcp, if_pos, List.length_cons, List.take_succ_cons, List.cons.injEq, true_and, Nat.add_le_add_iff_right]
      exact ih
    · simp [lcp, h]
theorem lcp_l (xs ys : List α) : lcp xs ys ≤ xs.length := ((lcp_ge _ xs ys).mp (Nat.le_refl _)).1
theorem lcp_r (xs ys : List α) : lcp xs ys ≤ ys.length := ((lcp_ge _ xs ys).mp (Nat.le_refl _)).2.1
theorem take_one {xs : List α} {i : Nat} {x : α} (h : xs[i]? = some x) : xs.take (i + 1) = xs.take i ++ [x] := by
  rw [List.take_add_one, h]; rfl
theorem lcp_more {xs ys : List α} {i : Nat} {x : α} (h : i ≤ lcp xs ys) (hx : xs[i]? = some x) (hy : ys[i]? = some x) : i + 1 ≤ lcp xs ys := by
  rw [lcp_ge] at h ⊢
  refine ⟨(List.getElem?_eq_some_iff.mp hx).1, (List.getElem?_eq_some_iff.mp hy).1, ?_⟩
  rw [take_one hx, take_one hy, h.2.2]
theorem lcp_end {xs ys : List α} {i : Nat} (h : i ≤ lcp xs ys) (hn : ∀ x, xs[i]? = some x → ys[i]? = some x → False) : i = lcp xs ys := by
  rcases Nat.lt_or_ge i (lcp xs ys) with hl | hl
  · exfalso
    have q := (lcp_ge (i + 1) xs ys).mp hl
    have hx : i < xs.length := q.1
    have hy : i < ys.length := q.2.1
    refine hn xs[i] (by simp [hx]) ?_
    have e : (xs.take (i + 1))[i]? = (ys.take (i + 1))[i]? := by rw [q.2.2]
    rw [List.getElem?_take_of_lt (Nat.lt_succ_self i), List.getElem?_take_of_lt (Nat.lt_succ_self i)] at e
    rw [← e]; simp [hx]
  · omega
def chA (xs ys : List α) : Nat := lcp xs ys
def chE (xs ys : List α) : Nat := lcp (xs.drop (chA xs ys)).reverse (ys.drop (chA xs ys)).reverse
def chW (xs ys : List α) : List α := (ys.take (ys.length - chE xs ys)).drop (chA xs ys)
theorem chA_l (xs ys : List α) : chA xs ys ≤ xs.length := lcp_l _ _
theorem chA_r (xs ys : List α) : chA xs ys ≤ ys.length := lcp_r _ _
theorem chE_l (xs ys : List α) : chA xs ys + chE xs ys ≤ xs.length := by
  have := lcp_l (xs.drop (chA xs ys)).reverse (ys.drop (chA xs ys)).reverse
  have h := chA_l xs ys
  simp only [List.length_reverse, List.length_drop] at this
  show chA xs ys + lcp _ _ ≤ _
  omega
theorem chE_r (xs ys : List α) : chA xs ys + chE xs ys ≤ ys.length := by
  have := lcp_r (xs.drop (chA xs ys)).reverse (ys.drop (chA xs ys)).reverse
  have h := chA_r xs ys
  simp only [List.length_reverse, List.length_drop] at this
  show chA xs ys + lcp _ _ ≤ _
  omega
theorem chW_len (xs ys : List α) : (chW xs ys).length + chE xs ys + chA xs ys = ys.length := by
  have l2 := chE_r xs ys
  rw [chW, List.length_drop, List.length_take]; omega
end
section
variable {α : Type} [DecidableEq α]
def chB (xs ys : List α) : Nat := xs.length - chE xs ys
def both (w : List α) (a b : Nat) (u : List α) (c d : Nat) (v : List α) : List α := w.take a ++ u ++ (w.take c).drop b ++ v ++ w.drop d
def three (w m y : List α) : Option (List α) :=
  if y = w then some m else if m = w ∨ m = y then some y else
  if decide (chB w m ≤ chA w y) = decide (chB w y ≤ chA w m) then none else
  if chB w m ≤ chA w y then some (both w (chA w m) (chB w m) (chW w m) (chA w y) (chB w y) (chW w y))
  else some (both w (chA w y) (chB w y) (chW w y) (chA w m) (chB w m) (chW w m))
theorem three_comm (w m y : List α) : three w y m = three w m y := by
  unfold three
  by_cases h1 : y = w
  · subst h1
    by_cases h2 : m = y
    · subst h2; simp
    · simp [h2]
  · by_cases h2 : m = w
    · subst h2; simp [h1]
    · by_cases h3 : m = y
      · subst h3; simp
      · have h3' : ¬ y = m := fun z => h3 z.symm
        simp only [h1, h2, h3, h3', if_false, false_or, or_self]
        by_cases p : chB w m ≤ chA w y
        · by_cases q : chB w y ≤ chA w m
          · simp [p, q]
          · simp [p, q]
        · by_cases q : chB w y ≤ chA w m
          · simp [p, q]
          · simp [p, q]
end
theorem three_1 {w m y : List Str} (h : y = w) : three w m y = some m := by unfold three; rw [if_pos h]
theorem three_2 {w m y : List Str} (h : ¬ y = w) (h2 : m = w ∨ m = y) : three w m y = some y := by unfold three; rw [if_neg h, if_pos h2]
theorem three_3 {w m y : List Str} (h : ¬ y = w) (h2 : ¬ (m = w ∨ m = y)) (h3 : decide (chB w m ≤ chA w y) = decide (chB w y ≤ chA w m)) : three w m y = none := by unfold three; rw [if_neg h, if_neg h2, if_pos h3]
theorem three_4 {w m y : List Str} (h : ¬ y = w) (h2 : ¬ (m = w ∨ m = y)) (h3 : ¬ decide (chB w m ≤ chA w y) = decide (chB w y ≤ chA w m)) (h4 : chB w m ≤ chA w y) :
    three w m y = some (both w (chA w m) (chB w m) (chW w m) (chA w y) (chB w y) (chW w y)) := by unfold three; rw [if_neg h, if_neg h2, if_neg h3, if_pos h4]
theorem three_5 {w m y : List Str} (h : ¬ y = w) (h2 : ¬ (m = w ∨ m = y)) (h3 : ¬ decide (chB w m ≤ chA w y) = decide (chB w y ≤ chA w m)) (h4 : ¬ chB w m ≤ chA w y) :
    three w m y = some (both w (chA w y) (chB w y) (chW w y) (chA w m) (chB w m) (chW w m)) := by unfold three; rw [if_neg h, if_neg h2, if_neg h3, if_neg h4]
theorem le_cast {a b : Nat} : decide (((a : Nat) : Int) ≤ ((b : Nat) : Int)) = decide (a ≤ b) := by
  rw [Bool.eq_iff_iff]; simp
theorem eqPs_str : ∀ (xs ys : List Str), eqPs (xs.map PV.str) (ys.map PV.str) = decide (xs = ys)
  | [], [] => by unfold eqPs; rfl
  | [], y :: ys => by simp only [List.map_nil, List.map_cons]; unfold eqPs; simp
  | x :: xs, [] => by simp only [List.map_nil, List.map_cons]; unfold eqPs; simp
  | x :: xs, y :: ys => by
    simp only [List.map_cons]
    unfold eqPs
    rw [eqPs_str xs ys]
    unfold eqP
    rw [Bool.eq_iff_iff]
    simp
theorem dpts_str : ∀ (xs : List Str), dpts (xs.map PV.str) = 0
  | [] => by unfold dpts; rfl
  | x :: xs => by
    simp only [List.map_cons]
    unfold dpts
    rw [dpts_str xs]
    unfold dpt
    rfl
theorem cutP_mid (xs : List PV) (a b : Nat) : cutP xs (some (a : Int)) (some (b : Int)) = (xs.take b).drop a := by
  unfold cutP
  rw [HT.sIx_nat, HT.sIx_nat, List.drop_take]
  rcases Nat.le_total a xs.length with h | h
  · rw [Nat.min_eq_left h]
    rcases Nat.le_total b xs.length with g | g
    · rw [Nat.min_eq_left g]
    · rw [Nat.min_eq_right g, List.take_of_length_le (l := xs.drop a) (by rw [List.length_drop]; exact Nat.le_refl _), List.take_of_length_le (l := xs.drop a) (by rw [List.length_drop]; omega)]
  · rw [Nat.min_eq_right h, List.drop_of_length_le (Nat.le_refl _), List.drop_of_length_le h]; simp
theorem while_by {c : TT3} {b : TS3} {D : Ends3} {env : Env3} {st : Sto} (W : Nat → Env3 → Sto → Prop) (m : Nat) (h0 : W m env st)
    (h : ∀ m env st, W m env st → c env st fun t st1 => if t = true then ∃ N : Env3 → Sto → Prop, (∀ e s, N e s → ∃ m', m' < m ∧ W m' e s) ∧ b { D with nx := N, ct := N, bk := D.nx } env st1 else D.nx env st1) : vWhile c b D env st := ⟨W, ⟨m, h0⟩, h⟩
section
variable {X : Cx}
theorem rev_valsG {vs : List V} {its : List Value} {acc : Array Value} (r : Vals vs its) (h : ItemsOf (fun i v => its.toArray[its.toArray.size - 1 - i]? = some v) acc its.toArray.size) : Vals vs.reverse acc.toList := by
  have hl := r.length
  have h1 : acc.size = its.length := by simpa using h.1
  have h2 : acc.toList.length = acc.size := Array.length_toList
  refine vals_by (by rw [List.length_reverse]; omega) fun j v x hv hx => ?_
  have hj : j < acc.size := by have := (List.getElem?_eq_some_iff.mp hv).1; simpa using this
  have q := h.2 j v (by simpa using hv)
  have hj2 : j < vs.length := by omega
  rw [List.getElem?_reverse hj2] at hx
  have hk : vs.length - 1 - j < vs.length := by omega
  obtain ⟨u, hu, ru⟩ := r.get (i := vs.length - 1 - j) (x := x) hx
  rw [List.size_toArray, ← hl] at q
  have q2 : its[vs.length - 1 - j]? = some v := by simpa using q
  rw [q2] at hu; cases hu
  exact ru
def tTupRevG (K : PySem.W.Frag) (te : TE) : TE := fun σ H Q => te σ H fun x H1 => ∃ (a : Addr) (xs : List V), x = .ref a ∧ SqT K H1 a xs ∧ ∀ p, H1 p = none → Q (.ref p) (upd H1 p (.tup xs.reverse))
theorem pe_tupRevG {e : Expr} {te : TE} {p p2 pos pos2 : Pos} (hc : X.calm = true) (hg : Gl X "tuple") (hm : X.mg "tuple" = none) (hg2 : Gl X "reversed") (hm2 : X.mg "reversed" = none) (he : PE X e te)
    (hs : starEach [e] X.env = [(false, eval e X.env)]) (hs2 : starEach [.Call (.Name "reversed" p2) [e] [] pos2] X.env = [(false, eval (.Call (.Name "reversed" p2) [e] [] pos2) X.env)]) :
    PE X (.Call (.Name "tuple" p) [.Call (.Name "reversed" p2) [e] [] pos2] [] pos) (tTupRevG X.K te) := ⟨fun pins s σ H Q I h => by
  refine wpAny_Call_Name_kw (ld_blt I hg hm (show bootBuiltins "tuple" = some (.type "tuple") by decide +kernel) (PyProof.Rows.callWith_type1 ?_ hs2 rfl))
  rw [hs2]
  show wpAny _ _ (spliced ((false, eval (.Call (.Name "reversed" p2) [e] [] pos2) X.env) :: backTo pos [])) _ _ s
  refine Calls.spliced_cons (wpAny_Call_Name_kw (ld_blt I hg2 hm2 boot_rev (PyProof.Rows.callWith_type1 ?_ hs rfl)))
  rw [hs]
  show wpAny _ _ (spliced ((false, eval e X.env) :: backTo pos2 [])) _ _ s
  refine Calls.spliced_cons (thn (he pins s σ H _ I h) fun u s1 ⟨x, H1, I1, r1, q1⟩ => Calls.spliced_nil ?_)
  obtain ⟨a, xs, rfl, hq, q⟩ := q1
  cases r1
  obtain ⟨its, rv, ip, hz⟩ := I1.tuple hq
  have hl := rv.length
  have hzz : its.toArray.size ≤ sizeLine := by rw [List.size_toArray]; omega
  have al : a < s1.heap.objs.size := by obtain ⟨o, e, _⟩ := id ip; exact Heap.lt_size e
  refine call_revT (show IsTup s1.heap a its.toArray from ip) hzz fun tk => ?_
  refine Calls.spliced_nil ?_
  have kp : ∀ b o, s1.heap.get? b = some o → (s1.heap.push (revT a ((its.toArray.size : Int) - 1))).get? b = some o := fun b o e => Heap.get?_push_of_some _ e
  refine call_tuple_revT (I := s1.heap.objs.size) (t := a) (items := its.toArray) (I1.ok.hd hc) (Nat.ne_of_lt al) (Heap.get?_push_size _ rfl) (by obtain ⟨o, e, r⟩ := id ip; exact ⟨o, kp _ _ e, r⟩) hzz fun s' acc k1 k2 k3 k4 hacc => ?_
  obtain ⟨hp, g, dr, tk', os⟩ := s'
  obtain ⟨hp0, g0, dr0, tk0, os0⟩ := s1
  dsimp only at k1 k2 k3 k4 kp al ip
  subst k2 k3 k4
  have k5 : ∀ b o, hp0.get? b = some o → hp.get? b = some o := fun b o e => k1 b o (Nat.ne_of_lt (Heap.lt_size e)) (kp b o e)
  have I2 : Inv X pins σ H1 ⟨hp, g, dr, tk', os⟩ := I1.kept (t' := tk') (h' := hp) k5
  refine ⟨.ref hp.objs.size, _, I2.laid (t' := tk') (o := .tup xs.reverse) (fun b o e => Heap.get?_push_of_some _ e) (Nat.le_refl _) ⟨by rw [List.length_reverse]; exact hz, acc.toList, rev_valsG rv hacc, by simpa using IsTupD.new _ _⟩, rfl, q _ I2.fresh⟩⟩
def vTupRev (T : TE3) : TE3 := fun env st Q => T env st fun x st1 => match x with | .tup xs => Q (.tup xs.reverse) st1 | _ => False
theorem q_tupRev {e : Expr} {Ta : TE3} {p p2 pos pos2 : Pos} (hc : X.calm = true) (hg : Gl X "tuple") (hm : X.mg "tuple" = none) (hg2 : Gl X "reversed") (hm2 : X.mg "reversed" = none) (he : PE X e (can X.K Ta))
    (hs : starEach [e] X.env = [(false, eval e X.env)] := by rfl) (hs2 : starEach [.Call (.Name "reversed" p2) [e] [] pos2] X.env = [(false, eval (.Call (.Name "reversed" p2) [e] [] pos2) X.env)] := by rfl) :
    PE X (.Call (.Name "tuple" p) [.Call (.Name "reversed" p2) [e] [] pos2] [] pos) (can X.K (vTupRev Ta)) := by
  refine pe_weak (pe_tupRevG hc hg hm hg2 hm2 he hs hs2) fun σ H Q ⟨A, env, st, Q3, rel, h, k⟩ => ⟨A, env, st, _, rel, h, fun A1 H1 st1 x v g1 s1 e1 h1 => ?_⟩
  split at h1
  · cases e1 with | val e => cases e with | tup t z r =>
      exact ⟨_, _, rfl, t.sq, (k.after g1).tup s1 r.reverse (by rw [List.length_reverse]; exact z) h1⟩
  · exact h1.elim
end
end L3
set_option Elab.async false
set_option linter.all false
set_option maxRecDepth 100000
set_option maxHeartbeats 4000000
namespace L3
open PySem PySem.Spec PyProof.Rows L2
section
variable {X : Cx} {a b c : Expr} {pos : Pos} {Tx : TA3}
def vPar3 (i j l : Nat) (T : TA3) : TS3 := fun D env st => T env st fun xs st1 => match xs with | [x, y, z] => D.nx (((env.set l (some z)).set j (some y)).set i (some x)) st1 | _ => False
end
end L3
set_option Elab.async false
set_option linter.all false
set_option maxRecDepth 100000
set_option maxHeartbeats 4000000
namespace L3
open PySem PySem.Spec PyProof.Rows L2
section
variable {X : Cx}
end
end L3
set_option Elab.async false
set_option linter.all false
set_option maxRecDepth 100000
set_option maxHeartbeats 4000000
namespace L3
set_option smartUnfolding false
open PySem PySem.Spec PyProof.Rows L2
def optP {α : Type} (o : Option α) (F : α → Prop) : Prop := match o with | some x => F x | none => False
section
variable {i j : Int} {a b : Str} {xs ys zs : List PV} {x y z : PV} {n m : Nat} {st : Sto} {Q : K3} {p q : Bool} {kvs : List (Key × PV)} {env : Env3}
@[simp] theorem e_addI : rAdd3 (.int i) (.int j) st Q = Q (.int (i + j)) st := rfl
@[simp] theorem e_addS : rAdd3 (.str a) (.str b) st Q = (a.length + b.length ≤ sizeLine ∧ Q (.str (a ++ b)) st) := rfl
@[simp] theorem e_addT : rAdd3 (.tup xs) (.tup ys) st Q = (xs.length + ys.length ≤ sizeLine ∧ Q (.tup (xs ++ ys)) st) := rfl
@[simp] theorem e_addL : rAdd3 (.lst xs) (.lst ys) st Q = (xs.length + ys.length ≤ sizeLine ∧ Q (.lst (xs ++ ys)) st) := rfl
@[simp] theorem e_sub : rSub3 (.int i) (.int j) st Q = Q (.int (i - j)) st := rfl
@[simp] theorem e_mulI : rMul3 (.int i) (.int j) st Q = (((-(2 ^ 64) < i ∧ i < 2 ^ 64) ∨ (-(2 ^ 64) < j ∧ j < 2 ^ 64)) ∧ Q (.int (i * j)) st) := rfl
@[simp] theorem e_mulS : rMul3 (.str a) (.int i) st Q = (if i = 0 then Q (.str Str.empty) st else i = 1 ∧ Q (.str a) st) := rfl
@[simp] theorem e_mod : rMod3 (.int i) (.int j) st Q = (0 < j ∧ Q (.int (i % j)) st) := rfl
@[simp] theorem e_div : rDiv3 (.int i) (.int j) st Q = ((0 < j ∧ j < 1099511627776) ∧ Q (.int (i / j)) st) := rfl
@[simp] theorem e_pow : rPow3 (.int i) (.int j) st Q = (CPow i j ∧ Q (.int (i ^ j.toNat)) st) := rfl
@[simp] theorem e_neg : rNeg3 (.int i) st Q = Q (.int (-i)) st := rfl
@[simp] theorem e_cmp {f : Int → Int → Bool} : rCmp3 f (.int i) (.int j) st Q = Q (.bl (f i j)) st := rfl
@[simp] theorem e_isN : rIsN3 x .non st Q = Q (.bl (isNon x)) st := rfl
@[simp] theorem e_notN : rNotN3 x .non st Q = Q (.bl (!isNon x)) st := rfl
@[simp] theorem e_non0 : isNon .non = true := rfl
@[simp] theorem e_nonI : isNon (.int i) = false := rfl
@[simp] theorem e_nonS : isNon (.str a) = false := rfl
@[simp] theorem e_nonB : isNon (.bl p) = false := rfl
@[simp] theorem e_nonT : isNon (.tup xs) = false := rfl
@[simp] theorem e_nonL : isNon (.lst xs) = false := rfl
@[simp] theorem e_nonD : isNon (.dct kvs) = false := rfl
@[simp] theorem e_nonO : isNon (.obj n) = false := rfl
@[simp] theorem e_kI : kOf (.int i) = some (.inl i) := rfl
@[simp] theorem e_kS : kOf (.str a) = some (.inr a) := rfl
def ixO (o : Option PO) (y : PV) (st : Sto) (Q : K3) : Prop := match o with
  | some (.lst xs) => (match y with | .int i => optP (atI xs i) fun z => Q z st | _ => False)
  | some (.dct kvs) => optP (kOf y) fun k => optP (valP kvs k) fun z => Q z st
  | _ => False
@[simp] theorem e_ixT : rIx3 (.tup xs) (.int i) st Q = optP (atI xs i) fun z => Q z st := rfl
@[simp] theorem e_ixL : rIx3 (.lst xs) (.int i) st Q = optP (atI xs i) fun z => Q z st := rfl
@[simp] theorem e_ixS : rIx3 (.str a) (.int i) st Q = (a.length ≤ sizeLine ∧ optP (atI a.cps.toList i) fun c => Q (.str ⟨#[c]⟩) st) := rfl
@[simp] theorem e_ixD : rIx3 (.dct kvs) y st Q = optP (kOf y) fun k => optP (valP kvs k) fun z => Q z st := rfl
@[simp] theorem e_ixO : rIx3 (.obj n) y st Q = ixO st[n]? y st Q := rfl
@[simp] theorem e_ixOL : ixO (some (.lst xs)) (.int i) st Q = optP (atI xs i) fun z => Q z st := rfl
@[simp] theorem e_ixOD : ixO (some (.dct kvs)) y st Q = optP (kOf y) fun k => optP (valP kvs k) fun z => Q z st := rfl
def setO (o : Option PO) (n : Nat) (i v : PV) (st : Sto) (Q : Sto → Prop) : Prop := match o with
  | some (.lst xs) => (match i with | .int k => noObj v = true ∧ optP (ixN xs.length k) fun j => Q (st.set n (.lst (xs.set j v))) | _ => False)
  | some (.dct kvs) => optP (kOf i) fun k => noObj v = true ∧ kvs.length < sizeLine ∧ Q (st.set n (.dct (putP kvs k v)))
  | _ => False
@[simp] theorem e_set {Q : Sto → Prop} : rSet3 (.obj n) x y st Q = setO st[n]? n x y st Q := rfl
@[simp] theorem e_setL {Q : Sto → Prop} : setO (some (.lst xs)) n (.int i) y st Q = (noObj y = true ∧ optP (ixN xs.length i) fun j => Q (st.set n (.lst (xs.set j y)))) := rfl
@[simp] theorem e_setD {Q : Sto → Prop} : setO (some (.dct kvs)) n x y st Q = optP (kOf x) fun k => noObj y = true ∧ kvs.length < sizeLine ∧ Q (st.set n (.dct (putP kvs k y))) := rfl
@[simp] theorem e_slT {l h : Option Int} : rSl3 (.tup xs) l h st Q = Q (.tup (cutP xs l h)) st := rfl
@[simp] theorem e_slL {l h : Option Int} : rSl3 (.lst xs) l h st Q = Q (.lst (cutP xs l h)) st := rfl
@[simp] theorem e_slS {l h : Option Int} : rSl3 (.str a) l h st Q = (a.length ≤ sizeLine ∧ ((Txt.slice a l h).length ≤ a.length → Q (.str (Txt.slice a l h)) st)) := rfl
def lenO (o : Option PO) (k : Nat → Prop) : Prop := match o with | some (.lst xs) => k xs.length | some (.dct kvs) => k kvs.length | _ => False
@[simp] theorem e_len : rLen3 [x] st Q = lenP x st fun n => Q (.int n) st := rfl
@[simp] theorem e_lenT {k : Nat → Prop} : lenP (.tup xs) st k = k xs.length := rfl
@[simp] theorem e_lenL {k : Nat → Prop} : lenP (.lst xs) st k = k xs.length := rfl
@[simp] theorem e_lenS {k : Nat → Prop} : lenP (.str a) st k = (a.length ≤ sizeLine ∧ k a.length) := rfl
@[simp] theorem e_lenO {k : Nat → Prop} : lenP (.obj n) st k = lenO st[n]? k := rfl
@[simp] theorem e_lenOL {k : Nat → Prop} : lenO (some (.lst xs)) k = k xs.length := rfl
@[simp] theorem e_lenOD {k : Nat → Prop} : lenO (some (.dct kvs)) k = k kvs.length := rfl
def tupO (o : Option PO) (st : Sto) (Q : K3) : Prop := match o with | some (.lst ys) => Q (.tup ys) st | some (.dct kvs) => Q (.tup (kvs.map fun q => match q.1 with | .inl i => .int i | .inr z => .str z)) st | _ => False
@[simp] theorem e_tupL : rTuple3 [.lst ys] st Q = Q (.tup ys) st := rfl
@[simp] theorem e_tupT : rTuple3 [.tup ys] st Q = Q (.tup ys) st := rfl
@[simp] theorem e_tupO : rTuple3 [.obj n] st Q = tupO st[n]? st Q := rfl
@[simp] theorem e_tupOL : tupO (some (.lst ys)) st Q = Q (.tup ys) st := rfl
@[simp] theorem e_tupOD : tupO (some (.dct kvs)) st Q = Q (.tup (kvs.map fun q => match q.1 with | .inl i => .int i | .inr z => .str z)) st := rfl
@[simp] theorem e_isi {t : String} : rIsi3 [x, .ty t] st Q = optP (isiP x t) fun b => Q (.bl b) st := rfl
@[simp] theorem e_isB1 : isiP (.bl p) "int" = some true := rfl
@[simp] theorem e_isB2 : isiP (.bl p) "bool" = some true := rfl
@[simp] theorem e_isB3 : isiP (.bl p) "str" = some false := rfl
@[simp] theorem e_isB4 : isiP (.bl p) "tuple" = some false := rfl
@[simp] theorem e_isB5 : isiP (.bl p) "list" = some false := rfl
@[simp] theorem e_isI1 : isiP (.int i) "int" = some true := rfl
@[simp] theorem e_isI2 : isiP (.int i) "bool" = some false := rfl
@[simp] theorem e_isI3 : isiP (.int i) "str" = some false := rfl
@[simp] theorem e_isI4 : isiP (.int i) "tuple" = some false := rfl
@[simp] theorem e_isI5 : isiP (.int i) "list" = some false := rfl
@[simp] theorem e_isS1 : isiP (.str a) "int" = some false := rfl
@[simp] theorem e_isS3 : isiP (.str a) "str" = some true := rfl
@[simp] theorem e_isS4 : isiP (.str a) "tuple" = some false := rfl
@[simp] theorem e_isT1 : isiP (.tup xs) "int" = some false := rfl
@[simp] theorem e_isT3 : isiP (.tup xs) "str" = some false := rfl
@[simp] theorem e_isT4 : isiP (.tup xs) "tuple" = some true := rfl
@[simp] theorem e_isT5 : isiP (.tup xs) "list" = some false := rfl
@[simp] theorem e_isL4 : isiP (.lst xs) "tuple" = some false := rfl
@[simp] theorem e_isL5 : isiP (.lst xs) "list" = some true := rfl
@[simp] theorem e_intI : rInt3 [.int i] st Q = Q (.int i) st := rfl
@[simp] theorem e_intB : rInt3 [.bl p] st Q = Q (.int (if p then 1 else 0)) st := rfl
@[simp] theorem e_min : rMin3 [.int i, .int j] st Q = Q (.int (if j < i then j else i)) st := rfl
@[simp] theorem e_max : rMax3 [.int i, .int j] st Q = Q (.int (if j > i then j else i)) st := rfl
def truO (o : Option PO) (k : Bool → Prop) : Prop := match o with | some (.lst xs) => k (!xs.isEmpty) | some (.dct xs) => k (!xs.isEmpty) | _ => False
@[simp] theorem e_truN {k : Bool → Prop} : rTru .non st k = k false := rfl
@[simp] theorem e_truB {k : Bool → Prop} : rTru (.bl p) st k = k p := rfl
@[simp] theorem e_truI {k : Bool → Prop} : rTru (.int i) st k = k (i != 0) := rfl
@[simp] theorem e_truS {k : Bool → Prop} : rTru (.str a) st k = (a.length ≤ sizeLine ∧ k ((a.length : Int) != 0)) := rfl
@[simp] theorem e_truT {k : Bool → Prop} : rTru (.tup xs) st k = k (!xs.isEmpty) := rfl
@[simp] theorem e_truL {k : Bool → Prop} : rTru (.lst xs) st k = k (!xs.isEmpty) := rfl
@[simp] theorem e_truD {k : Bool → Prop} : rTru (.dct kvs) st k = k (!kvs.isEmpty) := rfl
@[simp] theorem e_truO {k : Bool → Prop} : rTru (.obj n) st k = truO st[n]? k := rfl
@[simp] theorem e_truOL {k : Bool → Prop} : truO (some (.lst xs)) k = k (!xs.isEmpty) := rfl
@[simp] theorem e_truOD {k : Bool → Prop} : truO (some (.dct kvs)) k = k (!kvs.isEmpty) := rfl
def appO (o : Option PO) (n : Nat) (y : PV) (st : Sto) (Q : K3) : Prop := match o with | some (.lst zs) => noObj y = true ∧ zs.length < sizeLine ∧ Q .non (st.set n (.lst (zs ++ [y]))) | _ => False
@[simp] theorem e_app : rAppend3 (.obj n) [y] st Q = appO st[n]? n y st Q := rfl
@[simp] theorem e_appL : appO (some (.lst zs)) n y st Q = (noObj y = true ∧ zs.length < sizeLine ∧ Q .non (st.set n (.lst (zs ++ [y])))) := rfl
def extO (o : Option PO) (n : Nat) (ys : List PV) (st : Sto) (Q : K3) : Prop := match o with | some (.lst zs) => zs.length + ys.length ≤ sizeLine ∧ Q .non (st.set n (.lst (zs ++ ys))) | _ => False
@[simp] theorem e_ext : rExtend3 (.obj n) [.lst ys] st Q = extO st[n]? n ys st Q := rfl
@[simp] theorem e_extL : extO (some (.lst zs)) n ys st Q = (zs.length + ys.length ≤ sizeLine ∧ Q .non (st.set n (.lst (zs ++ ys)))) := rfl
def popO (o : Option PO) (n : Nat) (st : Sto) (Q : K3) : Prop := match o with | some (.lst zs) => optP zs.getLast? fun y => Q y (st.set n (.lst zs.dropLast)) | _ => False
@[simp] theorem e_pop : rPop3 (.obj n) [] st Q = popO st[n]? n st Q := rfl
@[simp] theorem e_popL : popO (some (.lst zs)) n st Q = optP zs.getLast? fun y => Q y (st.set n (.lst zs.dropLast)) := rfl
def dctO (o : Option PO) : Option (List (Key × PV)) := match o with | some (.dct kvs) => some kvs | _ => none
@[simp] theorem e_dctD : dctOf (.dct kvs) st = some kvs := rfl
@[simp] theorem e_dctO : dctOf (.obj n) st = dctO st[n]? := rfl
@[simp] theorem e_dctOD : dctO (some (.dct kvs)) = some kvs := rfl
def tyO (o : Option PO) : String := match o with | some (.lst _) => "list" | some (.dct _) => "dict" | _ => ""
@[simp] theorem e_tyL : isTy (.lst xs) st = "list" := rfl
@[simp] theorem e_tyD : isTy (.dct kvs) st = "dict" := rfl
@[simp] theorem e_tyS : isTy (.str a) st = "str" := rfl
@[simp] theorem e_tyO : isTy (.obj n) st = tyO st[n]? := rfl
@[simp] theorem e_tyOL : tyO (some (.lst xs)) = "list" := rfl
@[simp] theorem e_tyOD : tyO (some (.dct kvs)) = "dict" := rfl
def itsO (o : Option PO) : Option (List PV) := match o with | some (.lst xs) => some xs | some (.dct kvs) => some (kvs.map fun q => keyP q.1) | _ => none
@[simp] theorem e_itsL : itsOf (.lst xs) st = some xs := rfl
@[simp] theorem e_itsT : itsOf (.tup xs) st = some xs := rfl
@[simp] theorem e_itsD : itsOf (.dct kvs) st = some (kvs.map fun q => keyP q.1) := rfl
@[simp] theorem e_itsO : itsOf (.obj n) st = itsO st[n]? := rfl
@[simp] theorem e_itsOL : itsO (some (.lst xs)) = some xs := rfl
@[simp] theorem e_itsOD : itsO (some (.dct kvs)) = some (kvs.map fun q => keyP q.1) := rfl
@[simp] theorem e_list : rList3 [x] st Q = optP (itsOf x st) fun ys => Q (.lst ys) st := rfl
@[simp] theorem e_listO : rListO3 [x] st Q = optP (itsOf x st) fun ys => Q (.obj st.length) (st ++ [.lst ys]) := rfl
def testK (Q : Bool → Sto → Prop) (x : PV) (st : Sto) : Prop := match x with | .bl k => Q k st | _ => False
@[simp] theorem e_test {T : TE3} {Q : Bool → Sto → Prop} : vTest T env st Q = T env st (testK Q) := rfl
@[simp] theorem e_testB {Q : Bool → Sto → Prop} : testK Q (.bl p) st = Q p st := rfl
def andK (T : TE3) (env : Env3) (Q : K3) (x : PV) (st : Sto) : Prop := match x with | .bl c => if c = true then T env st Q else Q (.bl false) st | _ => False
@[simp] theorem e_and {T U : TE3} : vAndV T U env st Q = T env st (andK U env Q) := rfl
@[simp] theorem e_andB {T : TE3} : andK T env Q (.bl p) st = if p = true then T env st Q else Q (.bl false) st := rfl
def orK (T : TE3) (env : Env3) (Q : K3) (x : PV) (st : Sto) : Prop := match x with | .bl c => if c = true then Q (.bl true) st else T env st Q | _ => False
@[simp] theorem e_or {T U : TE3} : vOrV T U env st Q = T env st (orK U env Q) := rfl
@[simp] theorem e_orB {T : TE3} : orK T env Q (.bl p) st = if p = true then Q (.bl true) st else T env st Q := rfl
def notK (Q : K3) (x : PV) (st : Sto) : Prop := match x with | .bl c => Q (.bl (!c)) st | _ => False
@[simp] theorem e_not {T : TE3} : vNotV T env st Q = T env st (notK Q) := rfl
@[simp] theorem e_notB : notK Q (.bl p) st = Q (.bl (!p)) st := rfl
@[simp] theorem e_gTT {gs : TGs3} {Q : Env3 → Sto → Prop} : gT n gs (.tup xs) env st Q = (xs.length = n ∧ gs xs env st Q) := rfl
@[simp] theorem e_gTL {gs : TGs3} {Q : Env3 → Sto → Prop} : gT n gs (.lst xs) env st Q = (xs.length = n ∧ gs xs env st Q) := rfl
@[simp] theorem e_gsN {Q : Env3 → Sto → Prop} : gsN [] env st Q = Q env st := rfl
@[simp] theorem e_gsC {g : TG3} {gs : TGs3} {Q : Env3 → Sto → Prop} : gsC g gs (x :: xs) env st Q = g x env st fun env1 st1 => gs xs env1 st1 Q := rfl
def parK (n m : Nat) (D : Ends3) (env : Env3) (xs : List PV) (st : Sto) : Prop := match xs with | [x, y] => D.nx ((env.set n (some x)).set m (some y)) st | _ => False
@[simp] theorem e_par {T : TA3} {D : Ends3} : vPar n m T D env st = T env st (parK n m D env) := rfl
@[simp] theorem e_par2 {D : Ends3} : parK n m D env [x, y] st = D.nx ((env.set n (some x)).set m (some y)) st := rfl
def par3K (n m l : Nat) (D : Ends3) (env : Env3) (xs : List PV) (st : Sto) : Prop := match xs with | [x, y, z] => D.nx (((env.set l (some z)).set m (some y)).set n (some x)) st | _ => False
@[simp] theorem e_par3 {l : Nat} {T : TA3} {D : Ends3} : vPar3 n m l T D env st = T env st (par3K n m l D env) := rfl
@[simp] theorem e_par33 {l : Nat} {D : Ends3} : par3K n m l D env [x, y, z] st = D.nx (((env.set l (some z)).set m (some y)).set n (some x)) st := rfl
def anyO (o : Option PO) (n : Nat) (st : Sto) (Q : Src → List PV → Sto → Prop) : Prop := match o with | some (.lst xs) => Q (some (n, .lst xs)) xs st | _ => False
def anyK (Q : Src → List PV → Sto → Prop) (x : PV) (st : Sto) : Prop := match x with
  | .lst xs => Q none xs st
  | .tup xs => Q none xs st
  | .str z => z.length ≤ sizeLine ∧ Q none (signs z) st
  | .obj n => anyO st[n]? n st Q
  | _ => False
@[simp] theorem e_any {T : TE3} {Q : Src → List PV → Sto → Prop} : iAny T env st Q = T env st (anyK Q) := rfl
@[simp] theorem e_anyL {Q : Src → List PV → Sto → Prop} : anyK Q (.lst xs) st = Q none xs st := rfl
@[simp] theorem e_anyT {Q : Src → List PV → Sto → Prop} : anyK Q (.tup xs) st = Q none xs st := rfl
@[simp] theorem e_anyS {Q : Src → List PV → Sto → Prop} : anyK Q (.str a) st = (a.length ≤ sizeLine ∧ Q none (signs a) st) := rfl
@[simp] theorem e_anyO {Q : Src → List PV → Sto → Prop} : anyK Q (.obj n) st = anyO st[n]? n st Q := rfl
@[simp] theorem e_anyOL {Q : Src → List PV → Sto → Prop} : anyO (some (.lst xs)) n st Q = Q (some (n, .lst xs)) xs st := rfl
def rngK (Q : Src → List PV → Sto → Prop) (xs : List PV) (st : Sto) : Prop := match xs with | [.int j] => (-1000000 ≤ j ∧ j ≤ 1000000) ∧ Q none (rngL 0 j.toNat) st | _ => False
@[simp] theorem e_rng {T : TA3} {Q : Src → List PV → Sto → Prop} : iRng T env st Q = T env st (rngK Q) := rfl
@[simp] theorem e_rng1 {Q : Src → List PV → Sto → Prop} : rngK Q [.int j] st = ((-1000000 ≤ j ∧ j ≤ 1000000) ∧ Q none (rngL 0 j.toNat) st) := rfl
def rngBK (Q : Src → List PV → Sto → Prop) (xs : List PV) (st : Sto) : Prop := match xs with | [.int i, .int j] => (-1000000 ≤ i ∧ i ≤ 1000000 ∧ -1000000 ≤ j ∧ j ≤ 1000000) ∧ Q none (rngL i (j - i).toNat) st | _ => False
@[simp] theorem e_rngB {T : TA3} {Q : Src → List PV → Sto → Prop} : iRngB T env st Q = T env st (rngBK Q) := rfl
@[simp] theorem e_rngB2 {Q : Src → List PV → Sto → Prop} : rngBK Q [.int i, .int j] st = ((-1000000 ≤ i ∧ i ≤ 1000000 ∧ -1000000 ≤ j ∧ j ≤ 1000000) ∧ Q none (rngL i (j - i).toNat) st) := rfl
def someK (Q : Option Int → Sto → Prop) (x : PV) (st : Sto) : Prop := match x with | .int i => Q (some i) st | _ => False
@[simp] theorem e_some {T : TE3} {Q : Option Int → Sto → Prop} : oSome T env st Q = T env st (someK Q) := rfl
@[simp] theorem e_someI {Q : Option Int → Sto → Prop} : someK Q (.int i) st = Q (some i) st := rfl
def trevK (Q : K3) (x : PV) (st : Sto) : Prop := match x with | .tup xs => Q (.tup xs.reverse) st | _ => False
@[simp] theorem e_trev {T : TE3} : vTupRev T env st Q = T env st (trevK Q) := rfl
@[simp] theorem e_trevT : trevK Q (.tup xs) st = Q (.tup xs.reverse) st := rfl
def revK (Q : K3) (x : PV) (st : Sto) : Prop := match x with | .lst xs => Q (.lst xs.reverse) st | _ => False
@[simp] theorem e_rev {T : TE3} {U : TO3} : vRevSl T U env st Q = T env st fun x st1 => U env st1 fun l st2 => l = some (-1) ∧ revK Q x st2 := rfl
@[simp] theorem e_revL : revK Q (.lst xs) st = Q (.lst xs.reverse) st := rfl
@[simp] theorem e_exI : Exit m Q (.int i) st = Q (.int i) (st.take m) := rfl
@[simp] theorem e_exS : Exit m Q (.str a) st = Q (.str a) (st.take m) := rfl
@[simp] theorem e_exB : Exit m Q (.bl p) st = Q (.bl p) (st.take m) := rfl
@[simp] theorem e_exN : Exit m Q .non st = Q .non (st.take m) := rfl
@[simp] theorem e_exT : Exit m Q (.tup xs) st = Q (.tup xs) (st.take m) := rfl
@[simp] theorem e_exL : Exit m Q (.lst xs) st = Q (.lst xs) (st.take m) := rfl
@[simp] theorem e_exD : Exit m Q (.dct kvs) st = Q (.dct kvs) (st.take m) := rfl
@[simp] theorem e_wN {P : Prop} : withS none st P = P := rfl
@[simp] theorem e_wS {P : Prop} {o : PO} : withS (some (n, o)) st P = (st[n]? = some o ∧ P) := rfl
@[simp] theorem e_oN : noObj .non = true := rfl
@[simp] theorem e_oI : noObj (.int i) = true := rfl
@[simp] theorem e_oS : noObj (.str a) = true := rfl
@[simp] theorem e_oB : noObj (.bl p) = true := rfl
@[simp] theorem e_oT : noObj (.tup xs) = true := rfl
@[simp] theorem e_oL : noObj (.lst xs) = true := rfl
@[simp] theorem e_oD : noObj (.dct kvs) = true := rfl
@[simp] theorem e_oO : noObj (.obj n) = false := rfl
end
@[simp] theorem u_vNext {D : Ends3} {env : Env3} {st : Sto} : vNext  D env st = (D.nx env st) := rfl
@[simp] theorem u_vAsg {T : TE3} {g : TG3} {D : Ends3} {env : Env3} {st : Sto} : vAsg T g D env st = (T env st fun x st1 => g x env st1 D.nx) := rfl
@[simp] theorem u_vIfS {c : TT3} {t u : TS3} {D : Ends3} {env : Env3} {st : Sto} : vIfS c t u D env st = (c env st fun b st1 => if b = true then t D env st1 else u D env st1) := rfl
@[simp] theorem u_vRet {T : TE3} {D : Ends3} {env : Env3} {st : Sto} : vRet T D env st = (T env st D.rt) := rfl
@[simp] theorem u_vRetN {D : Ends3} {w1 : Env3} {st : Sto} : vRetN  D w1 st = (D.rt .non st) := rfl
@[simp] theorem u_vDrop {T : TE3} {D : Ends3} {env : Env3} {st : Sto} : vDrop T D env st = (T env st fun _ st1 => D.nx env st1) := rfl
@[simp] theorem u_vTru {T : TE3} {env : Env3} {st : Sto} {Q : Bool → Sto → Prop} : vTru T env st Q = (T env st fun x st1 => rTru x st1 fun k => Q k st1) := rfl
@[simp] theorem u_vAnd {t u : TT3} {env : Env3} {st : Sto} {Q : Bool → Sto → Prop} : vAnd t u env st Q = (t env st fun c st1 => if c = true then u env st1 Q else Q false st1) := rfl
@[simp] theorem u_vOr {t u : TT3} {env : Env3} {st : Sto} {Q : Bool → Sto → Prop} : vOr t u env st Q = (t env st fun c st1 => if c = true then Q true st1 else u env st1 Q) := rfl
@[simp] theorem u_vNot {t : TT3} {env : Env3} {st : Sto} {Q : Bool → Sto → Prop} : vNot t env st Q = (t env st fun c st1 => Q (!c) st1) := rfl
@[simp] theorem u_vIf {t : TT3} {Ta Tb : TE3} {env : Env3} {st : Sto} {Q : K3} : vIf t Ta Tb env st Q = (t env st fun c st1 => if c = true then Ta env st1 Q else Tb env st1 Q) := rfl
@[simp] theorem u_vOp {R : R3} {Ta Tb : TE3} {env : Env3} {st : Sto} {Q : K3} : vOp R Ta Tb env st Q = (Ta env st fun x st1 => Tb env st1 fun y st2 => R x y st2 Q) := rfl
@[simp] theorem u_vUn {R : PV → Sto → K3 → Prop} {Ta : TE3} {env : Env3} {st : Sto} {Q : K3} : vUn R Ta env st Q = (Ta env st fun x st1 => R x st1 Q) := rfl
@[simp] theorem u_vC {x : PV} {w0 : Env3} {st : Sto} {Q : K3} : vC x w0 st Q = (Q x st) := rfl
@[simp] theorem u_vNil {w0 : Env3} {st : Sto} {Q : List PV → Sto → Prop} : vNil  w0 st Q = (Q [] st) := rfl
@[simp] theorem u_vCons {Ta : TE3} {Tr : TA3} {env : Env3} {st : Sto} {Q : List PV → Sto → Prop} : vCons Ta Tr env st Q = (Ta env st fun x st1 => Tr env st1 fun xs st2 => Q (x :: xs) st2) := rfl
@[simp] theorem u_vTup {T : TA3} {env : Env3} {st : Sto} {Q : K3} : vTup T env st Q = (T env st fun xs st1 => okI xs = true ∧ Q (.tup xs) st1) := rfl
@[simp] theorem u_vLst {T : TA3} {env : Env3} {st : Sto} {Q : K3} : vLst T env st Q = (T env st fun xs st1 => okI xs = true ∧ Q (.lst xs) st1) := rfl
@[simp] theorem u_vLstO {T : TA3} {env : Env3} {st : Sto} {Q : K3} : vLstO T env st Q = (T env st fun xs st1 => okI xs = true ∧ Q (.obj st1.length) (st1 ++ [.lst xs])) := rfl
@[simp] theorem u_vCB {R : Sp3} {T : TA3} {env : Env3} {st : Sto} {Q : K3} : vCB R T env st Q = (T env st fun xs st1 => R xs st1 Q) := rfl
@[simp] theorem u_vSl {T : TE3} {Tl Th : TO3} {env : Env3} {st : Sto} {Q : K3} : vSl T Tl Th env st Q = (T env st fun x st1 => Tl env st1 fun l st2 => Th env st2 fun u st3 => rSl3 x l u st3 Q) := rfl
@[simp] theorem u_oNone {w0 : Env3} {st : Sto} {Q : Option Int → Sto → Prop} : oNone  w0 st Q = (Q none st) := rfl
@[simp] theorem u_gS {To Ti : TE3} {v : PV} {env : Env3} {st : Sto} {Q : Env3 → Sto → Prop} : gS To Ti v env st Q = (To env st fun o st1 => Ti env st1 fun i st2 => rSet3 o i v st2 fun st3 => Q env st3) := rfl
@[simp] theorem u_vBM {T : String} {R : PV → Sp3} {To : TE3} {TA : TA3} {env : Env3} {st : Sto} {Q : K3} : vBM T R To TA env st Q = (To env st fun x st1 => isTy x st1 = T ∧ TA env st1 fun xs st2 => R x xs st2 Q) := rfl
@[simp] theorem u_vBM0 {T : String} {R : PV → Sp3} {To : TE3} {env : Env3} {st : Sto} {Q : K3} : vBM0 T R To env st Q = (To env st fun x st1 => isTy x st1 = T ∧ R x [] st1 Q) := rfl
@[simp] theorem u_vDNew {w0 : Env3} {st : Sto} {Q : K3} : vDNew  w0 st Q = (Q (.obj st.length) (st ++ [.dct []])) := rfl
@[simp] theorem u_vBreak {D : Ends3} {env : Env3} {st : Sto} : vBreak  D env st = (D.bk env st) := rfl
@[simp] theorem u_vCont {D : Ends3} {env : Env3} {st : Sto} : vCont  D env st = (D.ct env st) := rfl
@[simp] theorem u_rEq3 {x : PV} {y : PV} {st : Sto} {Q : K3} : rEq3  x y st Q = ((dpt x ≤ 50 ∧ dpt y < 1000) ∧ Q (.bl (eqP x y)) st) := rfl
@[simp] theorem u_rNe3 {x : PV} {y : PV} {st : Sto} {Q : K3} : rNe3  x y st Q = ((dpt x ≤ 50 ∧ dpt y < 1000) ∧ Q (.bl (!eqP x y)) st) := rfl
@[simp] theorem u_gN {i : Nat} {x : PV} {env : Env3} {st : Sto} {Q : Env3 → Sto → Prop} : gN i x env st Q = (Q (env.set i (some x)) st) := rfl
@[simp] theorem u_vNever {w0 : Ends3} {w1 : Env3} {w2 : Sto} : vNever  w0 w1 w2 = (False) := rfl
@[simp] theorem u_vFor {I : TI3} {g : TG3} {b : TS3} {D : Ends3} {env : Env3} {st : Sto} : vFor I g b D env st = (I env st fun src xs st1 => ForW g b src xs D env st1) := rfl
@[simp] theorem u_vComp {own : Nat} {I : TI3} {g : TG3} {tt : TT3} {el : TE3} {env : Env3} {st : Sto} {Q : K3} : vComp own I g tt el env st Q = (I env st fun src xs st1 => CompW3 own g tt el src xs (fun ys st2 => Q (.lst ys) st2) env st1) := rfl
@[simp] theorem u_vCompO {own : Nat} {I : TI3} {g : TG3} {tt : TT3} {el : TE3} {env : Env3} {st : Sto} {Q : K3} : vCompO own I g tt el env st Q = (I env st fun src xs st1 => CompW3 own g tt el src xs (fun ys st2 => Q (.obj st2.length) (st2 ++ [.lst ys])) env st1) := rfl
@[simp] theorem u_vYes {w0 : Env3} {st : Sto} {Q : Bool → Sto → Prop} : vYes  w0 st Q = (Q true st) := rfl
@[simp] theorem u_start3 {N : List Str} {xs : List PV} : start3 N xs = xs.map some ++ List.replicate (N.length - xs.length) none := rfl
@[simp] theorem u_okI {xs : List PV} : okI xs = (xs.all noObj && Nat.ble xs.length 1000) := rfl
@[simp] theorem c_var0 {x : PV} {e : Env3} {st : Sto} {Q : K3} : vVar 0 (some x :: e) st Q = Q x st := rfl
@[simp] theorem c_varS {i : Nat} {x : Option PV} {e : Env3} {st : Sto} {Q : K3} : vVar (i + 1) (x :: e) st Q = vVar i e st Q := rfl
@[simp] theorem c_optP {α : Type} {x : α} {F : α → Prop} : optP (some x) F = F x := rfl
section
variable {α β : Type} {x y z u v : α} {xs ys : List α} {f : α → β} {n i : Nat} {p : Prop} {b : Bool} {st : List α}
@[simp] theorem c_mapC : (x :: xs).map f = f x :: xs.map f := rfl
@[simp] theorem c_mapN : ([] : List α).map f = [] := rfl
@[simp] theorem c_lenC : (x :: xs).length = xs.length + 1 := rfl
@[simp] theorem c_lenN : ([] : List α).length = 0 := rfl
@[simp] theorem c_appC : (x :: xs) ++ ys = x :: (xs ++ ys) := rfl
@[simp] theorem c_appN : [] ++ ys = ys := rfl
@[simp] theorem c_repC : List.replicate (n + 1) x = x :: List.replicate n x := rfl
@[simp] theorem c_repN : List.replicate 0 x = [] := rfl
@[simp] theorem c_set0 : (x :: xs).set 0 y = y :: xs := rfl
@[simp] theorem c_setS : (x :: xs).set (n + 1) y = x :: xs.set n y := rfl
@[simp] theorem c_get0 : (x :: xs)[0]? = some x := rfl
@[simp] theorem c_getS : (x :: xs)[n + 1]? = xs[n]? := rfl
@[simp] theorem c_notT : (!true) = false := rfl
@[simp] theorem c_notF : (!false) = true := rfl
@[simp] theorem c_isS : (some x).isSome = true := rfl
@[simp] theorem c_gdS : (some x).getD y = x := rfl
@[simp] theorem c_gdN : (none : Option α).getD y = y := rfl
@[simp] theorem c_allC {q : α → Bool} : (x :: xs).all q = (q x && xs.all q) := rfl
@[simp] theorem c_allN {q : α → Bool} : ([] : List α).all q = true := rfl
@[simp] theorem c_ble1 {m : Nat} : Nat.ble (n + 1) (m + 1) = Nat.ble n m := rfl
end
section
variable {Q : K3} {st : Sto} {x : PO} {xs : List PV} {kvs : List (Key × PV)} {i j : Int} {a b : Str} {p q : Bool} {l : List (Str × Int)}
@[simp] theorem c_exbag {m : Nat} : Exit m Q (bagP l) st = Q (bagP l) (st.take m) := rfl
@[simp] theorem c_oBag : noObj (bagP l) = true := rfl
end
theorem cB : (∀ {α : Type} {x : α} {xs : List α}, atI (x :: xs) 0 = some x) ∧ (∀ {α : Type} {x y : α} {xs : List α}, atI (x :: y :: xs) 1 = some y) ∧ (∀ {α : Type} {x y z : α} {xs : List α}, atI (x :: y :: z :: xs) 2 = some z) ∧ (∀ {α : Type} {x y z u : α} {xs : List α}, atI (x :: y :: z :: u :: xs) 3 = some u) ∧ (∀ {α : Type} {x y z u v : α} {xs : List α}, atI (x :: y :: z :: u :: v :: xs) 4 = some v) ∧
    (∀ {n : Nat}, ixN (n + 1) 0 = some 0) ∧ (∀ {n : Nat}, ixN (n + 2) 1 = some 1) ∧ (∀ {p : Prop}, (True ∧ p) = p) ∧ (∀ {p : Prop}, (p ∧ True) = p) ∧ (∀ {q r : Prop}, (if True then q else r) = q) ∧ (∀ {q r : Prop}, (if False then q else r) = r) ∧ ((false = true) = False) ∧ (∀ {p : Prop}, (p ∨ True) = True) ∧ (∀ {p : Prop}, (True ∨ p) = True) ∧ (∀ {p : Prop}, (p ∧ p) = p) ∧
    (∀ {α : Type} {st : List α}, st.take (st.length + 0) = st) ∧ (∀ {α : Type} {st : List α}, st.take st.length = st) ∧ (∀ {α : Type} {st : List α} {i : Nat} {x : α}, (st.set i x).take (st.length + 0) = st.set i x) ∧ (∀ {α : Type} {st : List α} {i : Nat} {x : α}, (st.set i x).take st.length = st.set i x) ∧ (∀ {α : Type} {st : List α} {i : Nat} {x y : α}, (st.set i x).set i y = st.set i y) ∧
    (∀ {α : Type} {st : List α} {i : Nat} {x : α}, (st[i]?).isSome = true → (st.set i x)[i]? = some x) ∧ (∀ {α : Type} {st : List α} {x : α}, (st ++ [x])[st.length]? = some x) ∧ (∀ {α : Type} {st : List α} {x y : α}, (st ++ [x]).set st.length y = st ++ [y]) ∧ (∀ {α : Type} {st : List α} {x : α}, (st ++ [x]).take (st.length + 0) = st) ∧ (∀ {α : Type} {st : List α} {x : α}, (st ++ [x]).take st.length = st) ∧ (∀ {α : Type} {st : List α} {x : α}, (st ++ [x]).take (st.length + 1) = st ++ [x]) ∧
    (∀ {b : Bool}, (b && true) = b) ∧ (∀ {b : Bool}, (true && b) = b) ∧ (∀ {m : Nat}, Nat.ble 0 m = true) ∧ (∀ {m : Nat}, (0 ≤ m) = True) ∧ (∀ {n : Nat}, max n 0 = n) ∧ (∀ {n : Nat}, max 0 n = n) ∧ (∀ {h : Decidable True}, @decide True h = true) ∧ (∀ {h : Decidable False}, @decide False h = false) ∧
    (∀ {Q : K3} {st : Sto} {x : PO}, Exit (st.length + 1) Q (.obj st.length) (st ++ [x]) = Q (.obj st.length) (st ++ [x])) ∧ (∀ {Q : K3} {st : Sto} {xs : List PV}, Exit (st.length + 0) Q (.obj st.length) (st ++ [.lst xs]) = Q (.lst xs) st) ∧ (∀ {Q : K3} {st : Sto} {kvs : List (Key × PV)}, Exit (st.length + 0) Q (.obj st.length) (st ++ [.dct kvs]) = Q (.dct kvs) st) ∧
    (∀ {Q : K3} {st : Sto} {xs : List PV}, Exit st.length Q (.obj st.length) (st ++ [.lst xs]) = Q (.lst xs) st) ∧ (∀ {Q : K3} {st : Sto} {kvs : List (Key × PV)}, Exit st.length Q (.obj st.length) (st ++ [.dct kvs]) = Q (.dct kvs) st) :=
  ⟨at0, at1, at2, at3, at4, ix0, ix1, true_and _, and_true _, if_pos trivial, if_neg id, Bool.false_eq_true, or_true _, true_or _, and_self _, take_self, List.take_length, take_set, take_set, set_set, get_set', len_at, set_at, take_at, take_at, take_at1, Bool.and_true _, Bool.true_and _, Nat.ble_eq_true_of_le (Nat.zero_le _), eq_true (Nat.zero_le _), Nat.max_zero _, Nat.zero_max _, (by simp), (by simp), exit_o1, exit_f, exit_fd, exit_f, exit_fd⟩
end L3
set_option Elab.async false
set_option linter.all false
set_option maxRecDepth 100000
set_option maxHeartbeats 4000000
namespace L3
open PySem PySem.Spec PyProof.Rows L2
section
variable {X : Cx}
end
end L3
set_option Elab.async false
set_option linter.all false
set_option maxRecDepth 100000
set_option maxHeartbeats 4000000
namespace L3
open PySem PySem.Spec PyProof.Rows L2 PySem.SeqAt
section
variable {X : Cx} {o e : Expr} {es : List Expr} {apos cpos : Pos} {To : TE3} {TA : TA3} {id : String} {name : Str} {R : PV → Sp3}
def isTupP : PV → Bool | .tup _ => true | _ => false
@[simp] theorem e_isTup {xs : List PV} : isTupP (.tup xs) = true := rfl
def vBMT (R : PV → Sp3) (To : TE3) (TA : TA3) : TE3 := fun env st Q => To env st fun x st1 => isTupP x = true ∧ TA env st1 fun ys st2 => R x ys st2 Q
@[simp] theorem u_vBMT {env : Env3} {st : Sto} {Q : K3} : vBMT R To TA env st Q = To env st fun x st1 => isTupP x = true ∧ TA env st1 fun ys st2 => R x ys st2 Q := rfl
end
end L3
set_option Elab.async false
set_option linter.all false
set_option maxRecDepth 100000
set_option maxHeartbeats 4000000
namespace L2
open PySem PySem.Spec PyProof.Rows
section
variable {X : Cx}
end
end L2
set_option Elab.async false
set_option linter.all false
set_option maxRecDepth 100000
set_option maxHeartbeats 4000000
namespace L2
open PySem PySem.Spec PyProof.Rows
end L2
set_option Elab.async false
set_option linter.all false
set_option maxRecDepth 100000
set_option maxHeartbeats 4000000
namespace L3
open PySem PySem.Spec PyProof.Rows L2
def lookT (kvs : List (List Int × Int)) (k : List Int) : Option Int := (kvs.find? fun kv => decide (kv.1 = k)).map (·.2)
def putT (kvs : List (List Int × Int)) (k : List Int) (v : Int) : List (List Int × Int) :=
  if (kvs.any fun kv => decide (kv.1 = k)) = true then kvs.map (fun kv => if kv.1 = k then (kv.1, v) else kv) else kvs ++ [(k, v)]
def itbOf : PV → Sto → Option (List (List Int × Int))
  | .itb kvs, _ => some kvs
  | .obj i, st => (match st[i]? with | some (.itb kvs) => some kvs | _ => none)
  | _, _ => none
def vDNewT : TE3 := fun _ st Q => Q (.obj st.length) (st ++ [.itb []])
def vIxT (Ta : TE3) (TA : TA3) : TE3 := fun env st Q => Ta env st fun x st1 => TA env st1 fun ys st2 => ∃ (k : List Int) (kvs : List (List Int × Int)) (v : Int), ys = k.map PV.int ∧ itbOf x st2 = some kvs ∧ k.length ≤ 100 ∧ lookT kvs k = some v ∧ Q (.int v) st2
def vPutT (Td : TE3) (TA : TA3) (Tv : TE3) : TS3 := fun D env st => Tv env st fun v st1 => Td env st1 fun x st2 => TA env st2 fun ys st3 => ∃ (k : List Int) (i : Nat) (kvs : List (List Int × Int)) (z : Int), ys = k.map PV.int ∧ v = .int z ∧ x = .obj i ∧ st3[i]? = some (.itb kvs) ∧ k.length ≤ 100 ∧ kvs.length < sizeLine ∧ D.nx env (st3.set i (.itb (putT kvs k z)))
@[simp] theorem u_vDNewT {env : Env3} {st : Sto} {Q : K3} : vDNewT env st Q = Q (.obj st.length) (st ++ [.itb []]) := rfl
@[simp] theorem u_vIxT {Ta : TE3} {TA : TA3} {env : Env3} {st : Sto} {Q : K3} : vIxT Ta TA env st Q = (Ta env st fun x st1 => TA env st1 fun ys st2 => ∃ (k : List Int) (kvs : List (List Int × Int)) (v : Int), ys = k.map PV.int ∧ itbOf x st2 = some kvs ∧ k.length ≤ 100 ∧ lookT kvs k = some v ∧ Q (.int v) st2) := rfl
@[simp] theorem u_vPutT {Td : TE3} {TA : TA3} {Tv : TE3} {D : Ends3} {env : Env3} {st : Sto} : vPutT Td TA Tv D env st = (Tv env st fun v st1 => Td env st1 fun x st2 => TA env st2 fun ys st3 => ∃ (k : List Int) (i : Nat) (kvs : List (List Int × Int)) (z : Int), ys = k.map PV.int ∧ v = .int z ∧ x = .obj i ∧ st3[i]? = some (.itb kvs) ∧ k.length ≤ 100 ∧ kvs.length < sizeLine ∧ D.nx env (st3.set i (.itb (putT kvs k z)))) := rfl
section
variable {X : Cx} {a value : Expr} {es : List Expr} {pos pos' p2 : Pos} {Ta Tv : TE3} {TA : TA3}
end
end L3
set_option Elab.async false
set_option linter.all false
set_option maxRecDepth 100000
set_option maxHeartbeats 4000000
namespace L3
open PySem PySem.Spec PyProof.Rows L2
def vCallF (good : Clo → Prop) (i : Nat) (TA : TA3) : TE3 := fun env st Q => ∃ D : Clo, env[i]? = some (some (.clo D)) ∧ good D ∧ TA env st fun xs st1 => ∃ (k : List Int) (v : Int), xs = k.map PV.int ∧ k.length = 3 ∧ lookT D.kvs k = some v ∧ Q (.int v) st1
@[simp] theorem u_vCallF {good : Clo → Prop} {i : Nat} {TA : TA3} {env : Env3} {st : Sto} {Q : K3} : vCallF good i TA env st Q = ∃ D : Clo, env[i]? = some (some (.clo D)) ∧ good D ∧ TA env st fun xs st1 => ∃ (k : List Int) (v : Int), xs = k.map PV.int ∧ k.length = 3 ∧ lookT D.kvs k = some v ∧ Q (.int v) st1 := rfl
section
variable {X : Cx} {e : Expr} {es : List Expr} {p pos : Pos} {TA : TA3}
end
end L3
set_option Elab.async false
set_option linter.all false
set_option maxRecDepth 100000
set_option maxHeartbeats 4000000
namespace L2
open PySem PySem.Spec PyProof.Rows
section
variable {prog : Program} {w : World} {A : Around} {J : Addr} {fp wr : List Addr} {n : Nat} {P : Nat → Value → Prop} {Sn : Nat → Heap → Prop}
end
section
variable {prog : Program} {w : World} {A : Around} {E : Value → Shared → Prop} {s : Shared}
end
section
variable {X : Cx} {e e2 : Expr} {t : TA} {tk : TA} {p pos kpos : Pos}
end
end L2
namespace L3
open PySem PySem.Spec PyProof.Rows L2
end L3
set_option Elab.async false
set_option linter.all false
set_option maxRecDepth 100000
set_option maxHeartbeats 4000000
namespace L3
open PySem PySem.Spec PyProof.Rows L2
section
variable {X : Cx} {a b e : Expr} {es : List Expr} {pos p p2 : Pos} {Ta Tb : TE3} {TA : TA3}
def rSlO : PV → Option Int → Option Int → Sto → K3 → Prop := fun x lo hi st Q => ∃ i xs, x = .obj i ∧ st[i]? = some (.lst xs) ∧ Q (.lst (cutP xs lo hi)) st
def canSlO (K : PySem.W.Frag) : V → Option Int → Option Int → Hp → VK → Prop := fun v lo hi H Q => ∃ A st x Q3, RS K A H st ∧ RE K A H x v ∧ rSlO x lo hi st Q3 ∧ Fin K A H Q3 Q
theorem o_slO : SlR X (canSlO X.K) := by
  intro pins s σ H v vv vl vu lo hi sl Q I rx hs pl pu ⟨A, st, x, Q3, rs, ex, ⟨i, xs, e, q, h⟩, k⟩
  subst e
  cases ex with
  | val ex => cases ex
  | obj eo =>
    obtain ⟨vs, h1, r, hz⟩ := rs.at_ _ _ _ eo q
    exact sl_list pins s σ H _ vv vl vu lo hi sl Q I rx hs pl pu ⟨_, _, rfl, .of h1, k.lst rs (r.cut lo hi) (Nat.le_trans (cutV_length _ lo hi) hz) h⟩
def vSlO (T : TE3) (Tl Th : TO3) : TE3 := fun env st Q => T env st fun x st1 => Tl env st1 fun l st2 => Th env st2 fun u st3 => rSlO x l u st3 Q
theorem q_sliceO {lo hi : Option Expr} {Tl Th : TO3} (he : PE X e (can X.K Ta)) (hl : L2.PO X lo (canO X.K Tl)) (hu : L2.PO X hi (canO X.K Th)) : PE X (.Subscript e (.Slice lo hi none p2) pos) (can X.K (vSlO Ta Tl Th)) :=
  pe_weak (pe_slice o_slO he hl hu) fun σ H Q ⟨A, env, st, Q3, rel, h, k⟩ => ⟨A, env, st, _, rel, h, fun A1 H1 st1 x v g1 s1 e1 h1 => ⟨A1, env, st1, _, rel.grow g1 s1, h1, fun A2 H2 st2 l g2 s2 h2 => ⟨A2, env, st2, _, (rel.grow g1 s1).grow g2 s2, h2, fun A3 H3 st3 u g3 s3 h3 =>
    ⟨A3, st3, x, Q3, s3, e1.grow (g2.trans g3), h3, k.after (g1.trans (g2.trans g3))⟩⟩⟩⟩
end
end L3
set_option Elab.async false
set_option linter.all false
namespace Sets
open PySem
def Rise (xs : Array Nat) : Prop := ∀ i j (hi : i < xs.size) (hj : j < xs.size), i < j → xs[i] < xs[j]
theorem go_spec {xs : Array Nat} {j : Nat} (hr : Rise xs) : ∀ (fuel lo hi : Nat), hi - lo ≤ fuel → lo ≤ hi → hi ≤ xs.size → (∀ i (h : i < xs.size), i < lo → xs[i] < j) → (∀ i (h : i < xs.size), hi ≤ i → j ≤ xs[i]) →
    SetTable.below.go xs j fuel lo hi ≤ xs.size ∧ (∀ i (h : i < xs.size), i < SetTable.below.go xs j fuel lo hi → xs[i] < j) ∧ (∀ i (h : i < xs.size), SetTable.below.go xs j fuel lo hi ≤ i → j ≤ xs[i])
  | 0, lo, hi, hf, hl, hs, h1, h2 => by
    unfold SetTable.below.go
    have : lo = hi := by omega
    subst this
    exact ⟨hs, h1, h2⟩
  | f + 1, lo, hi, hf, hl, hs, h1, h2 => by
    unfold SetTable.below.go
    by_cases hlt : lo < hi
    · rw [if_pos hlt]
      dsimp only
      have hm : (lo + hi) / 2 < xs.size := by omega
      have e : xs.getD ((lo + hi) / 2) j = xs[(lo + hi) / 2] := by simp [Array.getD, hm]
      rw [e]
      by_cases hc : xs[(lo + hi) / 2] < j
      · rw [if_pos hc]
        refine go_spec hr f _ hi (by omega) (by omega) hs (fun i h hi' => ?_) h2
        by_cases hq : i = (lo + hi) / 2
        · subst hq; exact hc
        · have := hr i ((lo + hi) / 2) h hm (by omega); omega
      · rw [if_neg hc]
        refine go_spec hr f lo _ (by omega) (by omega) (by omega) h1 (fun i h hi' => ?_)
        by_cases hq : i = (lo + hi) / 2
        · subst hq; omega
        · have := hr ((lo + hi) / 2) i hm h (by omega); omega
    · rw [if_neg hlt]
      have : lo = hi := by omega
      subst this
      exact ⟨hs, h1, h2⟩
theorem below_spec {xs : Array Nat} (hr : Rise xs) (j : Nat) : SetTable.below xs j ≤ xs.size ∧ (∀ i (h : i < xs.size), i < SetTable.below xs j → xs[i] < j) ∧ (∀ i (h : i < xs.size), SetTable.below xs j ≤ i → j ≤ xs[i]) :=
  go_spec hr xs.size 0 xs.size (by omega) (Nat.zero_le _) (Nat.le_refl _) (fun i h hi => by omega) (fun i h hi => by omega)
theorem rise_list {xs : Array Nat} : Rise xs ↔ xs.toList.Pairwise (· < ·) := by
  rw [List.pairwise_iff_getElem]
  constructor
  · intro h i j hi hj hij
    simpa using h i j (by simpa using hi) (by simpa using hj) hij
  · intro h i j hi hj hij
    have := h i j (by rw [Array.length_toList]; exact hi) (by rw [Array.length_toList]; exact hj) hij
    rwa [Array.getElem_toList, Array.getElem_toList] at this
theorem ins_list {α : Type} (xs : Array α) (p : Nat) (x : α) : (SetTable.insertAt xs p x).toList = xs.toList.take p ++ x :: xs.toList.drop p := by
  rw [SetTable.toList_insertAt]
theorem ins_rise {xs : Array Nat} (hr : Rise xs) {j : Nat} (hn : xs[SetTable.below xs j]? ≠ some j) : Rise (SetTable.insertAt xs (SetTable.below xs j) j) := by
  obtain ⟨h0, h1, h2⟩ := below_spec hr j
  rw [rise_list, ins_list]
  have hl := rise_list.mp hr
  refine List.pairwise_append.mpr ⟨hl.sublist (List.take_sublist _ _), List.pairwise_cons.mpr ⟨fun y hy => ?_, hl.sublist (List.drop_sublist _ _)⟩, fun x hx y hy => ?_⟩
  · obtain ⟨i, hi, e⟩ := List.getElem_of_mem hy
    rw [List.length_drop, Array.length_toList] at hi
    rw [List.getElem_drop, Array.getElem_toList] at e
    have := h2 (SetTable.below xs j + i) (by omega) (by omega)
    by_cases hz : i = 0
    · subst hz
      have hne : xs[SetTable.below xs j + 0] ≠ j := fun q => hn (by rw [Array.getElem?_eq_getElem (by omega)]; exact congrArg some q)
      omega
    · have h3 := h2 (SetTable.below xs j) (by omega) (Nat.le_refl _)
      have h4 := hr (SetTable.below xs j) (SetTable.below xs j + i) (by omega) (by omega) (by omega)
      omega
  · have hx' : x < j := by
      obtain ⟨i, hi, e⟩ := List.getElem_of_mem hx
      rw [List.length_take, Array.length_toList] at hi
      rw [List.getElem_take, Array.getElem_toList] at e
      have := h1 i (by omega) (by omega)
      omega
    have hy' : j ≤ y := by
      rcases List.mem_cons.mp hy with rfl | hy
      · exact Nat.le_refl _
      · obtain ⟨i, hi, e⟩ := List.getElem_of_mem hy
        rw [List.length_drop, Array.length_toList] at hi
        rw [List.getElem_drop, Array.getElem_toList] at e
        have := h2 (SetTable.below xs j + i) (by omega) (by omega)
        omega
    omega
theorem range_rise (n : Nat) : Rise (Array.range n) := by
  intro i j hi hj hij
  simpa using hij
structure Good (led : Bool) (n : Nat) (t : SetTable) : Prop where
  fits : t.fits n = true
  led : t.led = led
  rise : Rise t.place
  dum : t.dummies = #[]
theorem Good.stand {led : Bool} {m : Nat} {t : SetTable} (h : t.led = led) (n : Nat) : Good led n (t.standIn n) :=
  ⟨SetTable.standIn_fits t n, h, range_rise n, rfl⟩
theorem Good.plainOff {led : Bool} {n : Nat} {t : SetTable} (h : Good led n t) : Good led n { t with plain := false } := ⟨SetTable.fits_plain_off h.fits, h.led, h.rise, h.dum⟩
theorem probe_go {t : SetTable} (hd : t.dummies = #[]) {f : Nat → Int} {h : Int} : ∀ (fuel : Nat) (p : SetTable.Probe), p.dummy = none → ∀ j d, SetTable.probe.go t f h fuel p = some (.empty j d) → d = none ∧ t.place[SetTable.below t.place j]? ≠ some j
  | 0, p, hp, j, d, e => by unfold SetTable.probe.go at e; cases e
  | n + 1, p, hp, j, d, e => by
    unfold SetTable.probe.go at e
    have hs : t.slot p.j = (if t.place[SetTable.below t.place p.j]? == some p.j then .live (SetTable.below t.place p.j) else .empty) := by
      unfold SetTable.slot
      dsimp only
      split
      · rfl
      · have : SetTable.has t.dummies p.j = false := by unfold SetTable.has; rw [hd]; simp
        rw [this]; rfl
    rw [hs] at e
    split at e
    · rename_i q
      split at q
      · cases q
      · rename_i q2
        cases e
        exact ⟨hp, by simpa using q2⟩
    · rename_i q
      split at q <;> cases q
    · split at e
      · cases e
      · refine probe_go hd n _ ?_ j d e
        unfold SetTable.advance
        split
        · exact hp
        · exact hp
theorem free_new {t : SetTable} (hd : t.dummies = #[]) {h : Int} {j : Nat} {b : Bool} (e : t.freeSlot h = some (j, b)) : b = false ∧ t.place[SetTable.below t.place j]? ≠ some j := by
  unfold SetTable.freeSlot at e
  split at e
  · rename_i j' d q
    obtain ⟨rfl, hn⟩ := probe_go hd _ _ rfl j' d q
    cases e
    exact ⟨rfl, hn⟩
  · cases e
theorem lay_good {led : Bool} {t : SetTable} {es : Array (Int × Value)} (g : Good led es.size t) (h : Int) (x : Value) : Good led (layNew t es h x).1.size (layNew t es h x).2.1 ∧ (layNew t es h x).2.2.1 = false := by
  unfold layNew
  split
  · rename_i slot wd e
    obtain ⟨rfl, hn⟩ := free_new g.dum e
    dsimp only
    refine ⟨?_, rfl⟩
    unfold SetTable.orStandIn
    split
    · rename_i hf
      refine ⟨hf, g.led, ins_rise g.rise hn, ?_⟩
      show (if SetTable.has t.dummies slot = true then SetTable.eraseAt t.dummies (SetTable.below t.dummies slot) else t.dummies) = #[]
      have : SetTable.has t.dummies slot = false := by unfold SetTable.has; rw [g.dum]; simp
      rw [this, g.dum]; rfl
    · exact Good.stand (m := 0) g.led _
  · dsimp only
    refine ⟨?_, rfl⟩
    rw [Array.size_push]
    exact Good.stand (m := 0) g.led _
theorem relay_good {led : Bool} {t : SetTable} {es : Array (Int × Value)} (g : Good led es.size t) (n : Nat) : Good led (relayAll t es n).1.size (relayAll t es n).2.1 := by
  unfold relayAll
  split
  · rename_i t' order e
    dsimp only
    split
    · rename_i hc
      rw [Bool.and_eq_true] at hc
      unfold SetTable.relaid SetTable.laid at e
      obtain ⟨owner, e1, e2⟩ := Option.bind_eq_some_iff.mp e
      cases e2
      refine ⟨hc.2, g.led, ?_, rfl⟩
      rw [rise_list]
      show ((List.map _ _).toArray.toList).Pairwise _
      rw [List.toList_toArray]
      have hp : ∀ (l : List Nat), l.Pairwise (· < ·) → ((l.filterMap fun j => (owner.getD j none).map fun y => (j, y)).map fun q : Nat × Nat => q.1).Pairwise (· < ·) := by
        intro l hl
        induction l with
        | nil => exact .nil
        | cons a l ih =>
          rw [List.filterMap_cons]
          obtain ⟨h1, h2⟩ := List.pairwise_cons.mp hl
          split
          · exact ih h2
          · rename_i b hb
            rw [List.map_cons]
            refine List.pairwise_cons.mpr ⟨fun y hy => ?_, ih h2⟩
            obtain ⟨c, hc1, rfl⟩ := List.mem_map.mp hy
            obtain ⟨j, hj, hj2⟩ := List.mem_filterMap.mp hc1
            obtain ⟨u, _, rfl⟩ := Option.map_eq_some_iff.mp hj2
            obtain ⟨u2, _, rfl⟩ := Option.map_eq_some_iff.mp hb
            exact h1 j hj
      exact hp _ List.pairwise_lt_range
    · exact Good.stand (m := 0) g.led _
  · exact Good.stand (m := 0) g.led _
end Sets
set_option Elab.async false
set_option linter.all false
set_option maxRecDepth 100000
set_option maxHeartbeats 4000000
namespace Sets
open PySem PyProof.Rows
def SetIs (led : Bool) (a : Addr) (es : Array (Int × Value)) (h : Heap) : Prop := ∃ o ep t, h.get? a = some o ∧ o.ExactSet ∧ o.data = .set es ep t ∧ Good led es.size t
theorem SetIs.keep {led : Bool} {a : Addr} {es : Array (Int × Value)} {h h' : Heap} (x : SetIs led a es h) (k : ∀ o, h.get? a = some o → h'.get? a = some o) : SetIs led a es h' :=
  let ⟨o, ep, t, e, r⟩ := x; ⟨o, ep, t, k _ e, r⟩
section
variable {prog : Program} {w : World} {K : Type} [DecidableEq K] {knd : KeyKind prog w K} {A : Around} {E : Value → Shared → Prop} {s : Shared}
theorem put_set {led : Bool} {a : Addr} {o : Obj} {es : Array (Int × Value)} {ep : Nat} {t : SetTable} {h : Heap} (ho : h.get? a = some o) (hx : o.ExactSet) (hd : o.data = .set es ep t) {es' : Array (Int × Value)} {t' : SetTable} (g : Good led es'.size t') :
    (h.update a (Obj.putSet es' t')).get? a = some { o with data := .set es' (ep + 1) t' } ∧ SetIs led a es' (h.update a (Obj.putSet es' t')) := by
  have e := Heap.get?_update_self (Obj.putSet es' t') ho (by rw [putSet_of es' t' hd]; rfl)
  rw [putSet_of es' t' hd] at e
  exact ⟨e, _, _, _, e, hx, rfl, g⟩
theorem tail_set {led : Bool} {g : Bool → Sem Unit} (hg : ∀ (b : Bool) (u : Shared) (R : Unit → Shared → Prop), R () u → wpAny (model prog w) A (g b) R E u) {a : Addr} {o : Obj} {es : Array (Int × Value)} {ep : Nat} {t : SetTable}
    (ho : s.heap.get? a = some o) (hx : o.ExactSet) (hd : o.data = .set es ep t) {e1 : Array (Int × Value)} {t2 : SetTable} (hz : e1.size < scanBound) (gd : Good led e1.size t2) {wd : Bool} {R : Option Bool → Shared → Prop}
    (h : ∀ h' e', Heap.SameBut a s.heap h' → SetIs led a e' h' → e'.toList.Perm e1.toList → R (some true) { s with heap := h' }) :
    wpAny (model prog w) A (do
      storeSet a e1 t2
      if (!wd && t2.tooFull) = true then do
          g (relayAll t2 e1 (SetTable.grown e1.size)).2.2
          storeSet a (relayAll t2 e1 (SetTable.grown e1.size)).1 (relayAll t2 e1 (SetTable.grown e1.size)).2.1
          pure (some true)
        else pure (some true)) R E s := by
  refine wpAny_bind (wpAny_storeSet_of ho hd ?_ (fits_of_scanBound hz))
  obtain ⟨p1, p2⟩ := put_set ho hx hd gd
  have sb := Heap.SameBut.update s.heap a (Obj.putSet e1 t2)
  split
  · have pm := relayAll_perm t2 e1 (SetTable.grown e1.size)
    have gr := relay_good gd (SetTable.grown e1.size)
    generalize relayAll t2 e1 (SetTable.grown e1.size) = L at pm gr ⊢
    obtain ⟨e2, t3, gv⟩ := L
    dsimp only at pm gr ⊢
    have sz : e2.size = e1.size := by have := pm.length_eq; simpa using this
    refine wpAny_bind (hg _ _ _ (wpAny_bind (wpAny_storeSet_of p1 rfl ?_ (fits_of_scanBound (by rw [sz]; exact hz)))))
    exact wpAny_pure (h _ e2 (sb.trans (Heap.SameBut.update _ a _)) (put_set p1 hx rfl gr).2 pm)
  · exact wpAny_pure (h _ e1 sb p2 (List.Perm.refl _))
theorem add_set {led : Bool} {a : Addr} {es : Array (Int × Value)} {k : K} {x : Value} {Q : Bool → Shared → Prop} (hk : knd.is k x = true) (hc : x.scannable = true) (hel : ElemsOf knd es.toList) (hS : SetIs led a es s.heap) (hz : es.size + 1 < scanBound)
    (h : ∀ (b : Bool) h' es', Heap.SameBut a s.heap h' → SetIs led a es' h' → (if es.toList.any (fun e => knd.is k e.2) = true then es' = es else es'.toList.Perm (es.toList ++ [(knd.hash k, x)])) → Q b { s with heap := h' }) :
    wpAny (model prog w) A (setAddHashed a x (knd.hash k)) Q E s := by
  obtain ⟨o, ep, t, ho, hx, hd, gd⟩ := hS
  have hb : es.size < scanBound := by omega
  unfold setAddHashed setAddHashedIn
  refine wpAny_holding (wpAny_bind (wpAny_setState_of ho hd gd.fits ?_))
  dsimp only
  rw [byScan_of hc hb hel, if_pos rfl]
  unfold setAddByScan
  refine wpAny_bind (wpAny_bind (wpAny_rule (wpAny_bind (wpAny_setScan_of hk ho hd gd.fits hel ?_))))
  cases hr : List.findIdx? (fun e => knd.is k e.2) es.toList with
  | some j =>
    dsimp only
    obtain ⟨hj, pj, _⟩ := List.findIdx?_eq_some_iff_getElem.mp hr
    refine wpAny_pure (wpAny_pure ?_)
    have e : s = { s with heap := s.heap } := by cases s; rfl
    rw [e]
    refine h _ s.heap es (Heap.SameBut.refl a s.heap) ⟨o, ep, t, ho, hx, hd, gd⟩ ?_
    rw [if_pos (List.any_eq_true.mpr ⟨_, List.getElem_mem hj, pj⟩)]
  | none =>
    dsimp only
    have hno : ¬ es.toList.any (fun e => knd.is k e.2) = true := fun q => by
      obtain ⟨e, he, hp⟩ := List.any_eq_true.mp q
      have := List.findIdx?_eq_none_iff.mp hr e he
      rw [hp] at this; cases this
    have gv : ∀ (b : Bool) {u : Shared} {R : Unit → Shared → Prop}, R () u → wpAny (model prog w) A (match b with | true => rule "set.scan.the-table-gave-way" | false => pure ()) R E u :=
      fun b u R q => by cases b <;> first | exact wpAny_pure q | exact wpAny_rule q
    have pm := layNew_perm t es (knd.hash k) x
    obtain ⟨gl, wd0⟩ := lay_good gd (knd.hash k) x
    generalize layNew t es (knd.hash k) x = L at pm gl wd0 ⊢
    obtain ⟨e1, t1, wd, gave⟩ := L
    dsimp only at pm gl wd0 ⊢
    rw [Array.toList_push] at pm
    have z1 : e1.size < scanBound := by have := pm.length_eq; simp at this; omega
    refine wpAny_bind (gv _ ?_)
    have fin : ∀ h' e', Heap.SameBut a s.heap h' → SetIs led a e' h' → e'.toList.Perm e1.toList → Q true { s with heap := h' } := fun h' e' sb si pe => h true h' e' sb si (by rw [if_neg hno]; exact pe.trans pm)
    split
    · refine wpAny_bind ?_
      rw [hashByValue_scannable 8 hc]
      refine wpAny_pure (tail_set (led := led) ?_ ho hx hd z1 ?_ ?_)
      · intro b u R q; cases b <;> first | exact wpAny_pure q | exact wpAny_rule q
      · split
        · exact gl
        · exact gl.plainOff
      · intro h' e' sb si pe; dsimp only; exact wpAny_pure (fin h' e' sb si pe)
    · refine wpAny_bind (wpAny_pure ?_)
      rw [if_pos rfl]
      refine tail_set (led := led) ?_ ho hx hd z1 gl ?_
      · intro b u R q; cases b <;> first | exact wpAny_pure q | exact wpAny_rule q
      · intro h' e' sb si pe; dsimp only; exact wpAny_pure (fin h' e' sb si pe)
end
end Sets
set_option Elab.async false
set_option linter.all false
set_option maxRecDepth 100000
set_option maxHeartbeats 4000000
namespace Sets
open PySem PyProof.Rows
theorem sl_next : Slot "set_iterator" "__next__" "set_iterator.__next__" := .of (owner := "set_iterator") (n := "__next__")
  (by rw [typeLookup_type, builtinLookup_eq_fast]; kernel_rfl) (by decide +kernel) (by decide +kernel) (by decide +kernel) (by first | exact .inl (by decide +kernel) | exact .inr (by decide +kernel)) (by rw [isSubtype_type]; kernel_rfl)
theorem en_next : entryFor table "set_iterator.__next__" = some Builtin.«set_iterator.__next__» := entryFor_of_tree (by kernel_rfl)
theorem en_iter : entryFor table "set.__iter__" = some Builtin.«frozenset.__iter__» := entryFor_alias (id' := "frozenset.__iter__") (by kernel_rfl) rfl (by decide +kernel) (by kernel_rfl)
theorem ow_si : Manifest.owners.lookup (String.ofList ['r', 'o', 't', 'a', 'r', 'e', 't', 'i', '_', 't', 'e', 's'].reverse) = some Manifest.sig_set_iterator := by kernel_rfl
theorem ar_next (a : Value) : argsOk "set_iterator.__next__" ⟨[a], []⟩ := by
  unfold argsOk
  rw [signature?_of (id := "set_iterator.__next__") (n := ['_', '_', 't', 'x', 'e', 'n', '_', '_']) (o := ['r', 'o', 't', 'a', 'r', 'e', 't', 'i', '_', 't', 'e', 's']) (by kernel_rfl) ow_si]; kernel_rfl
def SI (it a : Addr) (f : Value) (i n ep : Nat) (h : Heap) : Prop := ∃ o, h.get? it = some o ∧ o.cls = .type "set_iterator" ∧ o.data = .fields #[f, .int i 0, .ref a, .int n 0, .int ep 0]
theorem SI.type {it a : Addr} {f : Value} {i n ep : Nat} {s : Shared} (x : SI it a f i n ep s.heap) : s.TypeIs (.ref it) "set_iterator" := let ⟨o, ho, hc, _⟩ := x; ⟨o, ho, hc⟩
theorem SI.keep {it a : Addr} {f : Value} {i n ep : Nat} {h h' : Heap} (x : SI it a f i n ep h) (k : ∀ o, h.get? it = some o → h'.get? it = some o) : SI it a f i n ep h' := let ⟨o, ho, r⟩ := x; ⟨o, k o ho, r⟩
structure At (a : Addr) (es : Array (Int × Value)) (ep : Nat) (t : SetTable) (h : Heap) : Prop where
  at_ : ∃ o, h.get? a = some o ∧ o.ExactSet ∧ o.data = .set es ep t
theorem At.keep {a : Addr} {es : Array (Int × Value)} {ep : Nat} {t : SetTable} {h h' : Heap} (x : At a es ep t h) (k : ∀ o, h.get? a = some o → h'.get? a = some o) : At a es ep t h' := let ⟨⟨o, e, r⟩⟩ := x; ⟨o, k o e, r⟩
section
variable {prog : Program} {w : World} {A : Around} {E : Value → Shared → Prop} {s : Shared}
theorem ask_text {Q : Bool → Shared → Prop} (h : Q (w.params.followText "set-order") s) : wpAny (model prog w) A setsByText Q E s := by
  unfold setsByText
  exact wpAny_bind (wpAny_askSetting (wpAny_pure h))
theorem si_put {it a : Addr} {f : Value} {i n ep : Nat} {h : Heap} (x : SI it a f i n ep h) (g : Value) :
    SI it a g (i + 1) n ep ((h.update it (Obj.mapFields (·.setIfInBounds 0 g))).update it (Obj.mapFields (·.setIfInBounds 1 (rawInt ((i : Int) + 1))))) := by
  obtain ⟨o, ho, hc, hd⟩ := x
  have e1 := Heap.get?_update_self (Obj.mapFields (·.setIfInBounds 0 g)) ho (Obj.isFreed_of_fields (Obj.data_mapFields hd _))
  have d1 := Obj.data_mapFields hd (·.setIfInBounds 0 g)
  have e2 := Heap.get?_update_self (Obj.mapFields (·.setIfInBounds 1 (rawInt ((i : Int) + 1)))) e1 (Obj.isFreed_of_fields (Obj.data_mapFields d1 _))
  refine ⟨_, e2, (Obj.cls_mapFields ..).trans ((Obj.cls_mapFields ..).trans hc), ?_⟩
  rw [Obj.data_mapFields d1]; simp [rawInt]
theorem si_put1 {it a : Addr} {f : Value} {i n ep : Nat} {h : Heap} (x : SI it a f i n ep h) :
    SI it a f (i + 1) n ep (h.update it (Obj.mapFields (·.setIfInBounds 1 (rawInt ((i : Int) + 1))))) := by
  obtain ⟨o, ho, hc, hd⟩ := x
  have e1 := Heap.get?_update_self (Obj.mapFields (·.setIfInBounds 1 (rawInt ((i : Int) + 1)))) ho (Obj.isFreed_of_fields (Obj.data_mapFields hd _))
  refine ⟨_, e1, (Obj.cls_mapFields ..).trans hc, ?_⟩
  rw [Obj.data_mapFields hd]; simp [rawInt]
theorem next_slot {it a : Addr} {slot i ep : Nat} {es : Array (Int × Value)} {t : SetTable} {Q : Option Value → Shared → Prop} (x : SI it a (.int slot 0) i es.size ep s.heap) (y : At a es ep t s.heap) (hf : t.fits es.size = true) {v : Value} {nx : Nat}
    (hn : ∀ (B : Around) (R : Option (Value × Nat) → Shared → Prop) (E' : Value → Shared → Prop), R (some (v, nx)) s → wpAny (model prog w) B (setNext a slot i ep) R E' s)
    (h : ∀ h', Heap.SameBut it s.heap h' → SI it a (.int nx 0) (i + 1) es.size ep h' → Q (some v) { s with heap := h' }) : wpAny (model prog w) A (pyNext (.ref it)) Q E s := by
  obtain ⟨o, ho, hc, hd⟩ := id x
  obtain ⟨⟨oa, ha, hx, hda⟩⟩ := id y
  unfold pyNext
  refine wpAny_bind (wpAny_attempt (wpAny_callSpecial?_slot (name := Str.ofString "__next__") x.type sl_next (wpAny_call_entry sl_next x.type en_next ?_ (ar_next _))))
  unfold Builtin.«set_iterator.__next__»
  refine wpAny_bind (wpAny_pure ?_)
  refine wpAny_bind (wpAny_fieldsOf ho hd ?_)
  show wpAny _ _ (setEntries a >>= _) _ _ s
  refine wpAny_bind (wpAny_setEntries_of ha hda hf ?_)
  rw [if_neg (by simp)]
  refine wpAny_bind (hn _ _ _ ?_)
  show wpAny _ _ (setField (.ref it) 0 (rawInt nx) >>= _) _ _ s
  refine wpAny_bind (wpAny_setField ho hd (by simp) ?_)
  have e1 := Heap.get?_update_self (Obj.mapFields (·.setIfInBounds 0 (rawInt nx))) ho (Obj.isFreed_of_fields (Obj.data_mapFields hd _))
  have d1 := Obj.data_mapFields hd (·.setIfInBounds 0 (rawInt nx))
  show wpAny _ _ (setField (.ref it) 1 (rawInt ((i : Int) + 1)) >>= _) _ _ _
  refine wpAny_bind (wpAny_setField (s := { s with heap := s.heap.update it (Obj.mapFields (·.setIfInBounds 0 (rawInt nx))) }) e1 d1 (by simp) ?_)
  show wpAny _ _ (ret v) _ _ _
  refine wpAny_pure ⟨_, rfl, wpAny_pure (h _ ((Heap.SameBut.update ..).trans (Heap.SameBut.update ..)) (si_put x _))⟩
theorem stop_new {B : Around} {R : Fin → Shared → Prop} {X : Value → Shared → Prop} (hh : B.handled = none) {u : Shared} (h : ∀ e h', (∀ b o, u.heap.get? b = some o → h'.get? b = some o) → Shared.TypeIs { u with heap := h' } e "StopIteration" → X e { u with heap := h' }) :
    wpAny (model prog w) B (newExc (.type "StopIteration") [] >>= fun e => raiseNew e) R X u := by
  refine wpAny_bind ?_
  simp only [newExc, newTuple]; refine wpAny_bind (wpAny_newObj_type ?_ (by size_fits)); refine wpAny_bind (m := firstArgMember _ _) (wpAny_of_eq (a := Value.none) (by first | rfl | (simp only [firstArgMember]; rfl)) ?_)
  refine wpAny_newObj_type ?_ (by size_fits)
  simp only [raiseNew]; refine wpAny_bind (wpAny_handled ?_); rw [hh]; refine wpAny_bind (wpAny_pure (wpAny_throw ?_))
  exact h _ _ (fun b o e => Heap.get?_push_of_some _ (Heap.get?_push_of_some _ e)) ⟨_, Heap.get?_push_size _ rfl, rfl⟩
theorem end_slot {it a : Addr} {slot i ep : Nat} {es : Array (Int × Value)} {t : SetTable} {Q : Option Value → Shared → Prop} (hh : A.handled = none) (x : SI it a (.int slot 0) i es.size ep s.heap) (y : At a es ep t s.heap) (hf : t.fits es.size = true)
    (hn : ∀ (B : Around) (R : Option (Value × Nat) → Shared → Prop) (E' : Value → Shared → Prop), R none s → wpAny (model prog w) B (setNext a slot i ep) R E' s)
    (h : ∀ h', (∀ b o, b ≠ it → s.heap.get? b = some o → h'.get? b = some o) → Q none { s with heap := h' }) : wpAny (model prog w) A (pyNext (.ref it)) Q E s := by
  obtain ⟨o, ho, hc, hd⟩ := id x
  obtain ⟨⟨oa, ha, hx, hda⟩⟩ := id y
  unfold pyNext
  refine wpAny_bind (wpAny_attempt (wpAny_callSpecial?_slot (name := Str.ofString "__next__") x.type sl_next (wpAny_call_entry sl_next x.type en_next ?_ (ar_next _))))
  unfold Builtin.«set_iterator.__next__»
  refine wpAny_bind (wpAny_pure ?_)
  refine wpAny_bind (wpAny_fieldsOf ho hd ?_)
  show wpAny _ _ (setEntries a >>= _) _ _ s
  refine wpAny_bind (wpAny_setEntries_of ha hda hf ?_)
  rw [if_neg (by simp)]
  refine wpAny_bind (hn _ _ _ ?_)
  show wpAny _ _ (setField (.ref it) 2 .none >>= _) _ _ s
  refine wpAny_bind (wpAny_setField ho hd (by simp) ?_)
  refine stop_new (show A.in1.handled = none from hh) fun e h' hk hT => ?_
  refine wpAny_bind (wpAny_isInstance (T := "StopIteration") (b := true) hT isSubtype_stop (wpAny_pure (h _ fun b o hb eb => hk b o ?_)))
  exact (Heap.get?_update_other _ _ (Ne.symm hb)).trans eb
theorem next_drawn {it a tp : Addr} {i ep : Nat} {es : Array (Int × Value)} {t : SetTable} {ps : Array Value} {Q : Option Value → Shared → Prop} (x : SI it a (.ref tp) i es.size ep s.heap) (y : At a es ep t s.heap) (hf : t.fits es.size = true) (z : s.heap.IsTuple tp ps)
    {j : Nat} (hp : ps[i]? = some (.int j 0)) {e : Int × Value} (he : es[j]? = some e)
    (h : ∀ h', Heap.SameBut it s.heap h' → SI it a (.ref tp) (i + 1) es.size ep h' → Q (some e.2) { s with heap := h' }) : wpAny (model prog w) A (pyNext (.ref it)) Q E s := by
  obtain ⟨o, ho, hc, hd⟩ := id x
  obtain ⟨⟨oa, ha, hx, hda⟩⟩ := id y
  obtain ⟨ot, hot, hct, nt, hdt⟩ := id z
  unfold pyNext
  refine wpAny_bind (wpAny_attempt (wpAny_callSpecial?_slot (name := Str.ofString "__next__") x.type sl_next (wpAny_call_entry sl_next x.type en_next ?_ (ar_next _))))
  unfold Builtin.«set_iterator.__next__»
  refine wpAny_bind (wpAny_pure ?_)
  refine wpAny_bind (wpAny_fieldsOf ho hd ?_)
  show wpAny _ _ (setEntries a >>= _) _ _ s
  refine wpAny_bind (wpAny_setEntries_of ha hda hf ?_)
  rw [if_neg (by simp)]
  show wpAny _ _ (seqItems? (.ref tp) >>= _) _ _ s
  unfold seqItems?
  refine wpAny_bind (wpAny_bind (wpAny_load hot ?_))
  rw [hdt]
  refine wpAny_pure ?_
  dsimp only
  have hp' : ps[(i : Int).toNat]? = some (.int j 0) := by simpa using hp
  rw [hp']
  dsimp only
  unfold setNextDrawn
  refine wpAny_bind (wpAny_bind (wpAny_setState_of ha hda hf ?_))
  dsimp only
  rw [if_neg (by simp)]
  have he' : es[(j : Int).toNat]? = some e := by simpa using he
  rw [he']
  refine wpAny_pure ?_
  show wpAny _ _ (setField (.ref it) 1 (rawInt ((i : Int) + 1)) >>= _) _ _ _
  refine wpAny_bind (wpAny_setField ho hd (by simp) ?_)
  exact wpAny_pure ⟨_, rfl, wpAny_pure (h _ (Heap.SameBut.update ..) (si_put1 x))⟩
theorem end_drawn {it a tp : Addr} {i ep : Nat} {es : Array (Int × Value)} {t : SetTable} {ps : Array Value} {Q : Option Value → Shared → Prop} (hh : A.handled = none) (x : SI it a (.ref tp) i es.size ep s.heap) (y : At a es ep t s.heap) (hf : t.fits es.size = true) (z : s.heap.IsTuple tp ps)
    (hp : ps[i]? = none) (h : ∀ h', (∀ b o, b ≠ it → s.heap.get? b = some o → h'.get? b = some o) → Q none { s with heap := h' }) : wpAny (model prog w) A (pyNext (.ref it)) Q E s := by
  obtain ⟨o, ho, hc, hd⟩ := id x
  obtain ⟨⟨oa, ha, hx, hda⟩⟩ := id y
  obtain ⟨ot, hot, hct, nt, hdt⟩ := id z
  unfold pyNext
  refine wpAny_bind (wpAny_attempt (wpAny_callSpecial?_slot (name := Str.ofString "__next__") x.type sl_next (wpAny_call_entry sl_next x.type en_next ?_ (ar_next _))))
  unfold Builtin.«set_iterator.__next__»
  refine wpAny_bind (wpAny_pure ?_)
  refine wpAny_bind (wpAny_fieldsOf ho hd ?_)
  show wpAny _ _ (setEntries a >>= _) _ _ s
  refine wpAny_bind (wpAny_setEntries_of ha hda hf ?_)
  rw [if_neg (by simp)]
  show wpAny _ _ (seqItems? (.ref tp) >>= _) _ _ s
  unfold seqItems?
  refine wpAny_bind (wpAny_bind (wpAny_load hot ?_))
  rw [hdt]
  refine wpAny_pure ?_
  dsimp only
  have hp' : ps[(i : Int).toNat]? = none := by simpa using hp
  rw [hp']
  show wpAny _ _ (setField (.ref it) 0 (rawInt 0) >>= _) _ _ s
  refine wpAny_bind (wpAny_setField ho hd (by simp) ?_)
  have e1 := Heap.get?_update_self (Obj.mapFields (·.setIfInBounds 0 (rawInt 0))) ho (Obj.isFreed_of_fields (Obj.data_mapFields hd _))
  have d1 := Obj.data_mapFields hd (·.setIfInBounds 0 (rawInt 0))
  show wpAny _ _ (setField (.ref it) 2 .none >>= _) _ _ _
  refine wpAny_bind (wpAny_setField (s := { s with heap := s.heap.update it (Obj.mapFields (·.setIfInBounds 0 (rawInt 0))) }) e1 d1 (by simp) ?_)
  refine stop_new (show A.in1.handled = none from hh) fun e h' hk hT => ?_
  refine wpAny_bind (wpAny_isInstance (T := "StopIteration") (b := true) hT isSubtype_stop (wpAny_pure (h _ fun b o hb eb => hk b o ?_)))
  exact (Heap.get?_update_other _ _ (Ne.symm hb)).trans ((Heap.get?_update_other _ _ (Ne.symm hb)).trans eb)
end
end Sets
set_option Elab.async false
set_option linter.all false
set_option maxRecDepth 100000
set_option maxHeartbeats 4000000
namespace Sets
open PySem PyProof.Rows
theorem cons_erase {α : Type} : ∀ {l : List α} {i : Nat} (h : i < l.length), (l[i] :: l.eraseIdx i).Perm l
  | x :: l, 0, _ => List.Perm.refl _
  | x :: l, i + 1, h => (List.Perm.swap _ _ _).trans ((cons_erase (l := l) (i := i) (by simpa using h)).cons x)
theorem pick_go {α : Type} (f : Nat → Nat) : ∀ (n k : Nat) (l : List α) (out : Array α), l.length = n → (pickOrder.go f n k l out).toList.Perm (out.toList ++ l)
  | 0, k, l, out, h => by
    unfold pickOrder.go
    rw [List.length_eq_zero_iff.mp h, List.append_nil]
  | n + 1, k, l, out, h => by
    unfold pickOrder.go
    have hlt : f k % l.length < l.length := Nat.mod_lt _ (by omega)
    rw [List.getElem?_eq_getElem hlt]
    dsimp only
    refine (pick_go f n (k + 1) _ _ (by rw [List.length_eraseIdx_of_lt hlt]; omega)).trans ?_
    rw [Array.toList_push, List.append_assoc]
    exact (List.Perm.refl _).append (cons_erase hlt)
theorem pick_perm {α : Type} (f : Nat → Nat) (xs : Array α) : (pickOrder f xs).toList.Perm xs.toList := by
  unfold pickOrder
  have := pick_go f xs.size 0 xs.toList #[] (by simp)
  simpa using this
section
variable {prog : Program} {w : World} {A : Around} {E : Value → Shared → Prop} {s : Shared}
theorem draw_all {α : Type} : ∀ (n : Nat) (xs : List α) (s : Shared) {Q : List α → Shared → Prop}, xs.length ≤ n → (∀ ys d, ys.Perm xs → Q ys { s with drawn := d }) → wpAny (model prog w) A (drawOrder n xs) Q E s
  | 0, xs, s, Q, hn, h => by
    have e : xs = [] := List.length_eq_zero_iff.mp (by omega)
    subst e
    unfold drawOrder
    exact wpAny_pure (h [] s.drawn (List.Perm.refl _))
  | n + 1, [], s, Q, hn, h => by
    unfold drawOrder
    exact wpAny_pure (h [] s.drawn (List.Perm.refl _))
  | n + 1, x :: xs, s, Q, hn, h => by
    unfold drawOrder
    refine wpAny_bind (m := choose .order (x :: xs).length) ?_
    intro Γ p hΓ
    unfold choose
    rw [Sem.wp_choose]
    refine ⟨by simp, ?_⟩
    rw [show (Sem.pure : Nat → Sem Nat) = (pure : Nat → Sem Nat) from rfl]
    generalize hi : (model prog w).w.draws Source.order (s.drawn.get Source.order) % (x :: xs).length = i
    have hlt : i < (x :: xs).length := by rw [← hi]; exact Nat.mod_lt _ (by simp)
    refine wpAny_pure (M := model prog w) (A := A) (E := E) (s := { s with drawn := s.drawn.bump Source.order }) (Q := fun i s' => wpAny (model prog w) A (match (x :: xs)[i]? with | some y => do return y :: (← drawOrder n ((x :: xs).eraseIdx i)) | none => unsupported "internal:drawOrder") Q E s') ?_ Γ p hΓ
    rw [List.getElem?_eq_getElem hlt]
    dsimp only
    refine wpAny_bind (draw_all n _ _ (by rw [List.length_eraseIdx_of_lt hlt]; simp at hn hlt ⊢; omega) fun ys d hp => wpAny_pure (h _ d ?_))
    exact (hp.cons _).trans (cons_erase hlt)
theorem next_text {a : Addr} {es : Array (Int × Value)} {ep slot i : Nat} {t : SetTable} {R : Option (Value × Nat) → Shared → Prop} (y : At a es ep t s.heap) (hf : t.fits es.size = true) (hT : w.params.followText "set-order" = true)
    (h : R (((pickOrder (w.params.setOrder a ep) es)[i]?).map fun e => (e.2, slot)) s) : wpAny (model prog w) A (setNext a slot i ep) R E s := by
  obtain ⟨⟨o, ho, hx, hd⟩⟩ := y
  unfold setNext
  refine wpAny_bind (wpAny_setState_of ho hd hf (wpAny_bind (ask_text ?_)))
  rw [hT, if_pos rfl, if_neg (by simp)]
  unfold setWalk
  refine wpAny_bind (wpAny_bind (wpAny_setState_of ho hd hf (wpAny_bind (ask_text ?_))))
  rw [hT, if_pos rfl]
  exact wpAny_bind (wpAny_askSetting (wpAny_pure (wpAny_pure h)))
theorem next_plain {a : Addr} {es : Array (Int × Value)} {ep slot i : Nat} {t : SetTable} {R : Option (Value × Nat) → Shared → Prop} (y : At a es ep t s.heap) (hf : t.fits es.size = true) (hT : w.params.followText "set-order" = false) (hled : t.led = true) (hp : (!t.plain && decide (es.size > 1)) = false)
    (h : R (match es[SetTable.below t.place slot]?, t.place[SetTable.below t.place slot]? with | some (_, x), some j => some (x, j + 1) | _, _ => none) s) : wpAny (model prog w) A (setNext a slot i ep) R E s := by
  obtain ⟨⟨o, ho, hx, hd⟩⟩ := y
  unfold setNext
  refine wpAny_bind (wpAny_setState_of ho hd hf (wpAny_bind (ask_text ?_)))
  rw [hT, if_neg Bool.false_ne_true]
  show wpAny _ _ (if (!t.plain && decide (es.size > 1)) = true then _ else _) _ _ s
  rw [hp, if_neg Bool.false_ne_true]
  show wpAny _ _ ((if (!t.led && !es.isEmpty) = true then unsupported "set:maker-not-led" else pure ()) >>= _) _ _ s
  rw [hled]
  exact wpAny_bind (wpAny_pure (wpAny_pure h))
def slotAt (t : SetTable) (i : Nat) : Nat := if i = 0 then 0 else t.place.getD (i - 1) 0 + 1
theorem below_at {t : SetTable} (hr : Rise t.place) {i : Nat} (hi : i ≤ t.place.size) : SetTable.below t.place (slotAt t i) = i := by
  obtain ⟨h0, h1, h2⟩ := below_spec hr (slotAt t i)
  have key : ∀ j (h : j < t.place.size), j < i → t.place[j] < slotAt t i := fun j h hj => by
    unfold slotAt
    rw [if_neg (by omega)]
    have e : t.place.getD (i - 1) 0 = t.place[i - 1] := by simp [Array.getD, show i - 1 < t.place.size by omega]
    rw [e]
    by_cases hq : j = i - 1
    · subst hq; omega
    · have := hr j (i - 1) h (by omega) (by omega); omega
  have key2 : ∀ (h : i < t.place.size), slotAt t i ≤ t.place[i] := fun h => by
    unfold slotAt
    by_cases hz : i = 0
    · rw [if_pos hz]; omega
    · rw [if_neg hz]
      have e : t.place.getD (i - 1) 0 = t.place[i - 1] := by simp [Array.getD, show i - 1 < t.place.size by omega]
      rw [e]
      have := hr (i - 1) i (by omega) h (by omega); omega
  rcases Nat.lt_trichotomy (SetTable.below t.place (slotAt t i)) i with h | h | h
  · have a1 := h2 _ (by omega) (Nat.le_refl _)
    have a2 := key _ (by omega) h
    omega
  · exact h
  · have a1 := h1 i (by omega) h
    have a2 := key2 (by omega)
    omega
theorem sl_iter : Slot "set_iterator" "__iter__" "set_iterator.__iter__" := .of (owner := "set_iterator") (n := "__iter__")
  (by rw [typeLookup_type, builtinLookup_eq_fast]; kernel_rfl) (by decide +kernel) (by decide +kernel) (by decide +kernel) (by first | exact .inl (by decide +kernel) | exact .inr (by decide +kernel)) (by rw [isSubtype_type]; kernel_rfl)
theorem en_siter : entryFor table "set_iterator.__iter__" = some Builtin.«dict_keyiterator.__iter__» := entryFor_alias (id' := "dict_keyiterator.__iter__") (by kernel_rfl) rfl (by decide +kernel) (by kernel_rfl)
theorem ar_siter (a : Value) : argsOk "set_iterator.__iter__" ⟨[a], []⟩ := by
  unfold argsOk
  rw [signature?_of (id := "set_iterator.__iter__") (n := ['_', '_', 'r', 'e', 't', 'i', '_', '_']) (o := ['r', 'o', 't', 'a', 'r', 'e', 't', 'i', '_', 't', 'e', 's']) (by kernel_rfl) ow_si]; kernel_rfl
theorem self_si {it a : Addr} {f : Value} {i n ep : Nat} {Q : Value → Shared → Prop} (x : SI it a f i n ep s.heap) (h : Q (.ref it) s) : wpAny (model prog w) A (pyIter (.ref it)) Q E s := by
  refine wpAny_pyIter_slot x.type sl_iter (wpAny_call_entry sl_iter x.type en_siter ?_ (ar_siter _))
  show wpAny _ _ (ret (.ref it)) _ _ s
  exact wpAny_pure ⟨_, rfl, "set_iterator", _, x.type, sl_next.lookup, h⟩
def Walk (prog : Program) (w : World) (I : Addr) (fp : List Addr) (ord : List Value) (St : Nat → Heap → Prop) : Prop := ∀ B : Around, B.handled = none → Walks prog w B I fp [I] ord.length (fun i v => ord[i]? = some v) St
theorem walk_text {it a : Addr} (ne : a ≠ it) {es : Array (Int × Value)} {ep : Nat} {t : SetTable} (hf : t.fits es.size = true) (hT : w.params.followText "set-order" = true) :
    Walk prog w it [it, a] ((pickOrder (w.params.setOrder a ep) es).toList.map (·.2)) (fun i h => SI it a (.int (0 : Nat) 0) i es.size ep h ∧ At a es ep t h) := fun B hB =>
  { sub := fun b hb => by simp at hb; simp [hb]
    frame := fun i h h' st k => ⟨st.1.keep (k it (by simp)), st.2.keep (k a (by simp))⟩
    item := fun i u Q X hi st hQ => by
      have hl : i < (pickOrder (w.params.setOrder a ep) es).size := by simpa using hi
      refine next_slot (v := (pickOrder (w.params.setOrder a ep) es)[i].2) (nx := 0) st.1 st.2 hf (fun B' R X' r => next_text st.2 hf hT ?_) fun h' sb si => hQ _ h' u.toks ?_ ⟨si, st.2.keep fun o e => (sb.2 a ne).trans e⟩ fun b o hb e => (sb.2 b (by simpa using hb)).trans e
      · rw [Array.getElem?_eq_getElem hl]; exact r
      · rw [List.getElem?_map, Array.getElem?_toList, Array.getElem?_eq_getElem hl]; rfl
    done := fun u Q X st hQ => by
      refine end_slot hB st.1 st.2 hf (fun B' R X' r => next_text st.2 hf hT ?_) fun h' k => hQ h' u.toks fun b o hb e => k b o (by simpa using hb) e
      rw [Array.getElem?_eq_none (by simp)]; exact r
    self := fun i u Q X st hQ => self_si st.1 hQ }
theorem walk_plain {it a : Addr} (ne : a ≠ it) {es : Array (Int × Value)} {ep : Nat} {t : SetTable} (g : Good true es.size t) (hT : w.params.followText "set-order" = false) (hp : (!t.plain && decide (es.size > 1)) = false) :
    Walk prog w it [it, a] (es.toList.map (·.2)) (fun i h => SI it a (.int (slotAt t i : Nat) 0) i es.size ep h ∧ At a es ep t h) := fun B hB => by
  have hsz : t.place.size = es.size := by have := g.fits; unfold SetTable.fits at this; simp at this; exact this.1
  exact
  { sub := fun b hb => by simp at hb; simp [hb]
    frame := fun i h h' st k => ⟨st.1.keep (k it (by simp)), st.2.keep (k a (by simp))⟩
    item := fun i u Q X hi st hQ => by
      have hl : i < es.size := by simpa using hi
      have hl2 : i < t.place.size := by omega
      have hs : t.place[i] + 1 = slotAt t (i + 1) := by unfold slotAt; rw [if_neg (by omega)]; simp [Array.getD, hl2]
      refine next_slot (v := es[i].2) (nx := slotAt t (i + 1)) st.1 st.2 g.fits (fun B' R X' r => next_plain st.2 g.fits hT g.led hp ?_) fun h' sb si => hQ _ h' u.toks ?_ ⟨si, st.2.keep fun o e => (sb.2 a ne).trans e⟩ fun b o hb e => (sb.2 b (by simpa using hb)).trans e
      · rw [below_at g.rise (by omega), Array.getElem?_eq_getElem hl, Array.getElem?_eq_getElem hl2, ← hs] at *; exact r
      · rw [List.getElem?_map, Array.getElem?_toList, Array.getElem?_eq_getElem hl]; rfl
    done := fun u Q X st hQ => by
      refine end_slot hB st.1 st.2 g.fits (fun B' R X' r => next_plain st.2 g.fits hT g.led hp ?_) fun h' k => hQ h' u.toks fun b o hb e => k b o (by simpa using hb) e
      rw [below_at g.rise (by simp [hsz]), Array.getElem?_eq_none (by simp)]; exact r
    self := fun i u Q X st hQ => self_si st.1 hQ }
theorem walk_drawn {it a tp : Addr} (ne : a ≠ it) (nt : tp ≠ it) {es : Array (Int × Value)} {ep : Nat} {t : SetTable} (hf : t.fits es.size = true) {js : List Nat} (hj : js.Perm (List.range es.size)) :
    Walk prog w it [it, a, tp] (js.map fun j => (es.getD j default).2) (fun i h => SI it a (.ref tp) i es.size ep h ∧ At a es ep t h ∧ h.IsTuple tp (js.map fun (j : Nat) => rawInt j).toArray) := fun B hB =>
  { sub := fun b hb => by simp at hb; simp [hb]
    frame := fun i h h' st k => ⟨st.1.keep (k it (by simp)), st.2.1.keep (k a (by simp)), let ⟨o, e, r⟩ := st.2.2; ⟨o, k tp (by simp) o e, r⟩⟩
    item := fun i u Q X hi st hQ => by
      have hl : i < js.length := by simpa using hi
      have hjl : js[i] < es.size := List.mem_range.mp (hj.mem_iff.mp (List.getElem_mem hl))
      refine next_drawn (j := js[i]) (e := es[js[i]]) st.1 st.2.1 hf st.2.2 ?_ (Array.getElem?_eq_getElem hjl) fun h' sb si => hQ _ h' u.toks ?_ ⟨si, st.2.1.keep fun o e => (sb.2 a ne).trans e, let ⟨o, e, r⟩ := st.2.2; ⟨o, (sb.2 tp nt).trans e, r⟩⟩ fun b o hb e => (sb.2 b (by simpa using hb)).trans e
      · simp [hl, rawInt]
      · simp [hl, Array.getD, hjl]
    done := fun u Q X st hQ => by
      refine end_drawn hB st.1 st.2.1 hf st.2.2 ?_ fun h' k => hQ h' u.toks fun b o hb e => k b o (by simpa using hb) e
      simp
    self := fun i u Q X st hQ => self_si st.1 hQ }
end
end Sets
set_option Elab.async false
set_option linter.all false
set_option maxRecDepth 100000
set_option maxHeartbeats 4000000
namespace Sets
open PySem PyProof.Rows
section
variable {prog : Program} {w : World} {A : Around} {E : Value → Shared → Prop} {s : Shared}
structure Begun (prog : Program) (w : World) (a : Addr) (es : Array (Int × Value)) (s s1 : Shared) (I : Addr) (fp : List Addr) (ord : List Value) (St : Nat → Heap → Prop) : Prop where
  keep : ∀ b o, s.heap.get? b = some o → s1.heap.get? b = some o
  fresh : s.heap.objs.size ≤ I
  foot : ∀ b ∈ fp, b = a ∨ s.heap.objs.size ≤ b
  same : s1.gens = s.gens ∧ s1.os = s.os ∧ s1.toks = s.toks
  perm : ord.Perm (es.toList.map (·.2))
  walk : Walk prog w I fp ord St
  st : St 0 s1.heap
theorem getD_vals (es : Array (Int × Value)) : ((List.range es.size).map fun j => (es.getD j default).2) = es.toList.map (·.2) := by
  apply List.ext_getElem?
  intro i
  rw [List.getElem?_map, List.getElem?_map]
  by_cases h : i < es.size
  · rw [List.getElem?_range h]; simp [Array.getD, h]
  · rw [List.getElem?_eq_none (by simpa using h), List.getElem?_eq_none (by simpa using h)]; rfl
theorem iter_set {a : Addr} {es : Array (Int × Value)} {ep : Nat} {t : SetTable} {Q : Value → Shared → Prop} (y : At a es ep t s.heap) (g : Good (!w.params.followText "set-order") es.size t) (hz : es.size ≤ 1000)
    (h : ∀ I s1 fp ord St, Begun prog w a es s s1 I fp ord St → Q (.ref I) s1) : wpAny (model prog w) A (pyIter (.ref a)) Q E s := by
  obtain ⟨⟨o, ho, hx, hd⟩⟩ := id y
  have hT : s.TypeIs (.ref a) "set" := ⟨o, ho, hx.1⟩
  have hal : a < s.heap.objs.size := Heap.lt_size ho
  refine wpAny_pyIter_slot hT F.slot_set_iter (wpAny_call_entry F.slot_set_iter hT en_iter ?_ (F.args_set_iter_1 _))
  unfold Builtin.«frozenset.__iter__» Builtin.Frozenset.slot0 slotArgs
  simp only [List.isEmpty_nil, Bool.not_true, Bool.false_eq_true, if_false, bind_assoc, List.length_nil, bne_self_eq_false]
  unfold Builtin.Frozenset.addrOf Builtin.Frozenset.sizeOf
  refine wpAny_bind (wpAny_pure (wpAny_bind (wpAny_pure ?_)))
  refine wpAny_bind (wpAny_bind (wpAny_setEntries_of ho hd g.fits (wpAny_pure ?_)))
  unfold setDrawn
  refine wpAny_bind (wpAny_bind (wpAny_setState_of ho hd g.fits (wpAny_bind (ask_text (wpAny_pure ?_)))))
  show wpAny _ _ (if (!w.params.followText "set-order" && (!t.plain && decide (es.size > 1))) = true then _ else _) _ _ s
  by_cases hc : (!w.params.followText "set-order" && (!t.plain && decide (es.size > 1))) = true
  · rw [if_pos hc]
    refine wpAny_bind (draw_all es.size (List.range es.size) s (by simp) fun js d hj => ?_)
    have hjl : js.length = es.size := by have := hj.length_eq; simpa using this
    refine wpAny_bind (wpAny_newObj_type ?_ (by show (List.map _ js).toArray.size ≤ sizeLine; rw [List.size_toArray, List.length_map, hjl]; exact Nat.le_trans hz (by decide)))
    refine wpAny_bind (wpAny_setEpoch_of (Heap.get?_push_of_some _ ho) hd g.fits ?_)
    refine wpAny_bind (wpAny_newObj_type ?_ (by size_fits))
    generalize ht : ({ cls := .type "tuple", data := .seq (js.map fun (i : Nat) => rawInt i).toArray } : Obj) = ot
    have e1 : (s.heap.push ot).get? s.heap.objs.size = some ot := Heap.get?_push_size _ (by subst ht; rfl)
    refine wpAny_pure ⟨_, rfl, "set_iterator", _, ⟨_, Heap.get?_push_size _ rfl, rfl⟩, sl_next.lookup, h _ _ [(s.heap.push ot).objs.size, a, s.heap.objs.size] (js.map fun j => (es.getD j default).2) (fun i h => SI (s.heap.push ot).objs.size a (.ref s.heap.objs.size) i es.size ep h ∧ At a es ep t h ∧ h.IsTuple s.heap.objs.size (js.map fun (j : Nat) => rawInt j).toArray) ?_⟩
    have sz : (s.heap.push ot).objs.size = s.heap.objs.size + 1 := Heap.size_push ..
    refine ⟨fun b o e => Heap.get?_push_of_some _ (Heap.get?_push_of_some _ e), by rw [sz]; omega, fun b hb => ?_, ⟨rfl, rfl, rfl⟩, ?_, walk_drawn (t := t) (ep := ep) (by rw [sz]; exact Nat.ne_of_lt (Nat.lt_succ_of_lt hal)) (by rw [sz]; exact Nat.ne_of_lt (Nat.lt_succ_self _)) g.fits hj, ⟨_, Heap.get?_push_size _ rfl, rfl, rfl⟩, y.keep fun o e => Heap.get?_push_of_some _ (Heap.get?_push_of_some _ e), ⟨ot, Heap.get?_push_of_some _ e1, by subst ht; exact ⟨rfl, _, rfl⟩⟩⟩
    · simp only [List.mem_cons, List.not_mem_nil, or_false] at hb
      rcases hb with rfl | rfl | rfl
      · rw [sz]; exact .inr (Nat.le_succ _)
      · exact .inl rfl
      · exact .inr (Nat.le_refl _)
    · rw [← getD_vals]; exact hj.map _
  · rw [if_neg hc]
    refine wpAny_bind (wpAny_pure (wpAny_bind (wpAny_setEpoch_of ho hd g.fits ?_)))
    refine wpAny_bind (wpAny_newObj_type ?_ (by size_fits))
    have ne : a ≠ s.heap.objs.size := Nat.ne_of_lt hal
    have keep : ∀ (oI : Obj) b o, s.heap.get? b = some o → (s.heap.push oI).get? b = some o := fun oI b o e => Heap.get?_push_of_some _ e
    have foot : ∀ b ∈ [s.heap.objs.size, a], b = a ∨ s.heap.objs.size ≤ b := fun b hb => by
      simp only [List.mem_cons, List.not_mem_nil, or_false] at hb
      rcases hb with rfl | rfl
      · exact .inr (Nat.le_refl _)
      · exact .inl rfl
    cases hT : w.params.followText "set-order" with
    | true =>
      exact wpAny_pure ⟨_, rfl, "set_iterator", _, ⟨_, Heap.get?_push_size _ rfl, rfl⟩, sl_next.lookup, h _ _ _ _ _ ⟨keep _, Nat.le_refl _, foot, ⟨rfl, rfl, rfl⟩, (pick_perm _ es).map _, walk_text (t := t) (ep := ep) ne g.fits hT, ⟨_, Heap.get?_push_size _ rfl, rfl, rfl⟩, y.keep fun o e => Heap.get?_push_of_some _ e⟩⟩
    | false =>
      rw [hT] at hc g
      have hp : (!t.plain && decide (es.size > 1)) = false := by simpa using hc
      exact wpAny_pure ⟨_, rfl, "set_iterator", _, ⟨_, Heap.get?_push_size _ rfl, rfl⟩, sl_next.lookup, h _ _ _ _ _ ⟨keep _, Nat.le_refl _, foot, ⟨rfl, rfl, rfl⟩, List.Perm.refl _, walk_plain (ep := ep) ne g hT hp, ⟨_, Heap.get?_push_size _ rfl, rfl, rfl⟩, y.keep fun o e => Heap.get?_push_of_some _ e⟩⟩
theorem hint_set {a : Addr} {Q : Bool → Shared → Prop} (hT : s.TypeIs (.ref a) "set") (h : Q false s) : wpAny (model prog w) A (Builtin.List.listLengthHint (.ref a)) Q E s := by
  unfold Builtin.List.listLengthHint
  refine wpAny_bind (wpAny_specialOf hT F.slot_set_len.lookup ?_)
  generalize hid : ("set.__len__" : String) = nm
  wp_delta
  rw [show splitId nm = some ("set", "__len__") from by subst hid; decide +kernel]
  subst hid
  refine wpAny_bind (wpAny_isInstance (T := "set") (b := true) hT sub_set_self ?_)
  refine wpAny_ite_split (fun z => absurd z (by decide)) (fun _ => ?_)
  refine wpAny_ite_split (fun _ => ?_) (fun z => absurd (by decide +kernel) z)
  exact wpAny_bind (wpAny_typeOf hT (wpAny_pure h))
theorem fill_set {a : Addr} {es : Array (Int × Value)} {ep : Nat} {t : SetTable} {R : Result → Shared → Prop} (hh : A.handled = none) (y : At a es ep t s.heap) (g : Good (!w.params.followText "set-order") es.size t) (hz : es.size ≤ 1000) (S : Addr) (hSa : S ≠ a) (res : Value) (c : Nat)
    (hS : s.heap.get? S = some { cls := .type "list", data := .seq #[] c })
    (hR : ∀ s' acc c', (∀ b o, b ≠ S → s.heap.get? b = some o → s'.heap.get? b = some o) → s'.heap.get? S = some { cls := .type "list", dict := none, data := .seq acc c', slots := #[] } → acc.toList.Perm (es.toList.map (·.2)) → s'.gens = s.gens ∧ s'.os = s.os ∧ s.toks ≤ s'.toks → R (.ok (.ret res)) s') :
    wpAny (model prog w) A.in1 (Builtin.List.listExtendWith (.ref S) (.ref a) res) (fun fin s' => match fin with | .done f => R (.ok f) s' | .again c' => c'.quiet = true ∧ codeAny (model prog w) A c' R s') (fun e s' => R (.error e) s') s := by
  obtain ⟨⟨o, ho, hx, hd⟩⟩ := id y
  have hT : s.TypeIs (.ref a) "set" := ⟨o, ho, hx.1⟩
  have hSl : S < s.heap.objs.size := Heap.lt_size hS
  unfold Builtin.List.listExtendWith
  refine wpAny_bind (wpAny_typeOf hT ?_)
  have h1 : Builtin.List.listSameRef (.ref S) (.ref a) = false := by simp [Builtin.List.listSameRef, hSa]
  simp only [h1, show (Value.type "set" == Value.type "list") = false by decide, show (Value.type "set" == Value.type "tuple") = false by decide, Bool.or_false, Bool.false_eq_true, if_false]
  refine wpAny_bind (iter_set y g hz fun I s1 fp ord St bg => ?_)
  have hS1 := bg.keep _ _ hS
  have hT1 : s1.TypeIs (.ref a) "set" := ⟨o, bg.keep _ _ ho, hx.1⟩
  have hSf : S ∉ fp := fun z => by
    rcases bg.foot S z with e | e
    · exact hSa e
    · exact absurd hSl (Nat.not_lt.mpr e)
  have ol : ord.length = es.size := by have := bg.perm.length_eq; simpa using this
  refine wpAny_bind (wpAny_holding (hint_set hT1 ?_))
  refine wpAny_ite_split (fun _ => ?_) (fun z => absurd (by decide) z)
  refine wpAny_bind (wpAny_rule (wpAny_bind ?_))
  show wpAny _ _ (updateSeq S (·.push .none) >>= fun _ => updateSeq S (·.pop)) _ _ _
  refine wpAny_bind (wpAny_updateSeq hS1 rfl ?_)
  have hS2 := Heap.get?_update_self (Obj.mapSeq (·.push Value.none)) hS1 rfl
  refine wpAny_updateSeq (hz := by seq_fits) hS2 rfl ?_
  have hS3 := Heap.get?_update_self (Obj.mapSeq (·.pop)) hS2 rfl
  have ot : ∀ b ob, b ≠ S → s1.heap.get? b = some ob → ((s1.heap.update S (Obj.mapSeq (·.push Value.none))).update S (Obj.mapSeq (·.pop))).get? b = some ob := fun b ob hb e =>
    (Heap.get?_update_other _ _ (Ne.symm hb)).trans ((Heap.get?_update_other _ _ (Ne.symm hb)).trans e)
  refine wpAny_pure ⟨plainId_quiet F.plain_extend_loop _, ?_⟩
  have W := bg.walk A.in1 hh
  refine codeAny_extend_loopS W.toS (by rw [ol]; exact Nat.le_trans hz (by decide)) S hSf res ord.length 0 _ #[] _ rfl (Nat.zero_le _) (W.frame 0 _ _ bg.st fun b hb ob e => ot b ob (fun z => hSf (z ▸ hb)) e) hS3 (ItemsOf.nil _) fun s' acc c' hm hS' hacc => ?_
  have ea : acc.toList = ord := by
    apply List.ext_getElem?
    intro i
    by_cases hi : i < acc.size
    · have e1 : acc[i]? = some acc[i] := Array.getElem?_eq_getElem hi
      have := hacc.2 i _ e1
      rw [Array.getElem?_toList, e1, this]
    · rw [Array.getElem?_toList, Array.getElem?_eq_none (by omega), List.getElem?_eq_none (by rw [← hacc.1]; omega)]
  refine hR s' acc c' (fun b ob hb e => hm.heap b ob (fun z => ?_) (ot b ob hb (bg.keep b ob e))) hS' (by rw [ea]; exact bg.perm) ?_
  · rcases List.mem_cons.mp z with z | z
    · exact hb z
    · exact absurd (Heap.lt_size e) (Nat.not_lt.mpr (by rw [List.mem_singleton.mp z]; exact bg.fresh))
  · obtain ⟨g1, g2, g3⟩ := bg.same
    exact ⟨Eq.trans hm.gens g1, Eq.trans hm.os g2, by have := hm.toks; rw [← g3]; exact this⟩
theorem collect_set {a : Addr} {es : Array (Int × Value)} {ep : Nat} {t : SetTable} {R : List Value → Shared → Prop} (hh : A.handled = none) (y : At a es ep t s.heap) (g : Good (!w.params.followText "set-order") es.size t) (hz : es.size ≤ 1000)
    (h : ∀ (s' : Shared) (vs : List Value), (∀ b o, s.heap.get? b = some o → s'.heap.get? b = some o) → vs.Perm (es.toList.map (·.2)) → s'.gens = s.gens ∧ s'.os = s.os ∧ s.toks ≤ s'.toks → R vs s') : wpAny (model prog w) A (collect (.ref a)) R E s := by
  have hal : a < s.heap.objs.size := let ⟨⟨o, ho, _⟩⟩ := y; Heap.lt_size ho
  unfold collect
  refine wpAny_bind (wpAny_runValue (codeAny_builtin F.entry_proto_collect ?_))
  rw [Around.under_plainId F.plain_proto_collect _]
  show wpAny _ A.in1 (newList [] >>= fun l => again (.builtin "list.__iadd__" ⟨[l, .ref a], []⟩)) _ _ s
  refine wpAny_bind (wpAny_newObj_type ?_)
  refine wpAny_pure ⟨plainId_quiet F.plain_list_iadd _, codeAny_builtin F.entry_list_iadd ?_⟩
  rw [Around.under_plainId F.plain_list_iadd _]
  have hS1 : (s.heap.push { cls := .type "list", data := .seq ([] : List Value).toArray }).get? s.heap.objs.size = some { cls := .type "list", data := .seq #[] } := Heap.get?_push_size _ rfl
  show wpAny _ A.in1 (Builtin.List.listExtendWith (.ref s.heap.objs.size) (.ref a) (.ref s.heap.objs.size)) _ _ _
  have key := fill_set (prog := prog) (A := A) (s := { s with heap := s.heap.push { cls := .type "list", data := .seq ([] : List Value).toArray } }) (R := fun q s' => ∃ acc c', q = .ok (.ret (.ref s.heap.objs.size)) ∧ (∀ b o, s.heap.get? b = some o → s'.heap.get? b = some o) ∧
      s'.heap.get? s.heap.objs.size = some { cls := .type "list", dict := none, data := .seq acc c', slots := #[] } ∧ acc.toList.Perm (es.toList.map (·.2)) ∧ s'.gens = s.gens ∧ s'.os = s.os ∧ s.toks ≤ s'.toks) hh (y.keep fun o e => Heap.get?_push_of_some _ e) g hz s.heap.objs.size (Nat.ne_of_gt hal) (.ref s.heap.objs.size) 0 hS1
    (fun s' acc c' k k2 pm sm => ⟨acc, c', rfl, fun b o e => k b o (Nat.ne_of_lt (Heap.lt_size e)) (Heap.get?_push_of_some _ e), k2, pm, sm⟩)
  refine wpAny_mono key (fun fin s' x => ?_) fun e s' x => ?_
  · cases fin with
    | done f =>
      obtain ⟨acc, c', e, k, k2, pm, sm⟩ := x
      cases e
      exact wpAny_bind (wpAny_load k2 (wpAny_pure (h s' acc.toList k pm sm)))
    | again c1 =>
      refine ⟨x.1, codeAny_mono x.2 fun q s2 x => ?_⟩
      obtain ⟨acc, c', rfl, k, k2, pm, sm⟩ := x
      exact wpAny_bind (wpAny_load k2 (wpAny_pure (h s2 acc.toList k pm sm)))
  · obtain ⟨_, _, e', _⟩ := x
    cases e'
end
end Sets
set_option Elab.async false
set_option linter.all false
set_option maxRecDepth 100000
set_option maxHeartbeats 4000000
namespace Sets
open PySem PyProof.Rows
section
variable {prog : Program} {w : World} {A : Around} {E : Value → Shared → Prop} {s : Shared}
abbrev freshO (led : Bool) : Obj := { cls := .type "set", dict := none, data := .set #[] 0 (.fresh 0 0 led) }
abbrev ledW (w : World) : Bool := !w.params.followText "set-order"
theorem new1 (arg : Value) {Q : Value → Shared → Prop} (h : Q (.ref s.heap.objs.size) { s with heap := s.heap.push (freshO (ledW w)) }) : codeAny (model prog w) A (.call (.builtin "set.__new__") ⟨[.type "set", arg], []⟩) (wants Q E) s := by
  refine codeAny_of_tree ?_
  show wpAny _ A.in1 (do checkBuiltinCall "set.__new__" ⟨[.type "set", arg], []⟩; again (.builtin "set.__new__" ⟨[.type "set", arg], []⟩)) _ _ s
  refine wpAny_bind (wpAny_of_eq (F.newCall_set_1 arg) (wpAny_pure ⟨plainId_quiet F.plain_set_new _, codeAny_builtin F.entry_set_new ?_⟩)); rw [Around.under_plainId F.plain_set_new _]
  unfold Builtin.«set.__new__» Builtin.Frozenset.newClass
  have hsub := sub_set_self
  obtain ⟨hp, g, d, tk, os⟩ := s
  dsimp only
  wp_walk
  refine wpAny_askSetting (wpAny_pure ?_); dsimp only; simp only [newObj]; refine wpAny_bind (wpAny_alloc (wpAny_pure ?_))
  exact wpAny_pure h
theorem call_set1 {arg : Value} {Post : Shared → Prop} {Q : Value → Shared → Prop} (hh : A.handled = none)
    (hu : ∀ (B : Around) (X : Value → Shared → Prop) (R : Unit → Shared → Prop), B.handled = none → (∀ s', Post s' → R () s') → wpAny (model prog w) B (Builtin.Frozenset.updateFrom "set.__init__" s.heap.objs.size arg) R X { s with heap := s.heap.push (freshO (ledW w)) })
    (h : ∀ s', Post s' → Q (.ref s.heap.objs.size) s') : wpAny (model prog w) A (call (.type "set") [arg]) Q E s := by
  obtain ⟨c, tl, hmro⟩ := F.called_set.mro
  have hmade := F.called_set.made
  have hsub := F.called_set.sub
  refine wpAny_call (codeAny_of_tree ?_)
  show wpAny _ _ (callAny (.type "set") _) _ _ _
  refine wpAny_pure ⟨Code.quiet_builtin _ (by decide +kernel), codeAny_builtin F.entry_type_call ?_⟩; rw [Around.under_plain (weight_type_call_type "set" [arg] []) rfl]
  have h1 := F.called_set.notType
  have h2 := F.called_set.canCreate
  have hct := F.typeCall_set_1 arg
  repeat (any_goals (first | assumption | wp_step))
  refine codeAny_mono (new1 arg (E := E) (Q := fun obj u => obj = .ref s.heap.objs.size ∧ u = { s with heap := s.heap.push (freshO (ledW w)) }) ⟨rfl, rfl⟩) fun r u hr => ?_
  cases r with
  | error e => exact hr
  | ok fl =>
    cases fl with
    | ret obj =>
      obtain ⟨rfl, rfl⟩ := hr
      have hS : (s.heap.push (freshO (ledW w))).get? s.heap.objs.size = some (freshO (ledW w)) := Heap.get?_push_size _ rfl
      have hT : Shared.TypeIs { s with heap := s.heap.push (freshO (ledW w)) } (.ref s.heap.objs.size) "set" := ⟨_, hS, rfl⟩
      have hli := F.called_set.init.lookup
      have hbi := F.called_set.init.bind (.ref s.heap.objs.size)
      repeat (any_goals (first | assumption | wp_step))
      refine codeAny_mono (codeAny_call_builtin (R := wants (fun r u => r = .none ∧ Post u) E) F.called_set.init.plain F.entry_set_init (check_set_init_1 hT ?_)) fun r2 s2 hr2 => ?_
      · unfold Builtin.«set.__init__» noKeywords
        have hu' := hu
        generalize Builtin.Frozenset.updateFrom = U at hu' ⊢
        wp_walk
        exact hu' _ _ _ (by simp [hh]) fun s' hP => wpAny_pure ⟨rfl, hP⟩
      · cases r2 with
        | error e => exact hr2
        | ok fl2 =>
          cases fl2 with
          | ret r =>
            obtain ⟨rfl, hP⟩ := hr2
            repeat (any_goals (first | assumption | wp_step))
            exact h _ hP
          | _ => exact hr2.elim
    | _ => exact hr.elim
end
inductive Two {α β : Type} (R : α → β → Prop) : List α → List β → Prop
  | nil : Two R [] []
  | cons {a : α} {b : β} {l : List α} {m : List β} : R a b → Two R l m → Two R (a :: l) (b :: m)
theorem Two.perm {α β : Type} {R : α → β → Prop} {l l' : List α} (p : l'.Perm l) : ∀ {m : List β}, Two R l m → ∃ m', m'.Perm m ∧ Two R l' m' := by
  induction p with
  | nil => intro m h; exact ⟨m, List.Perm.refl _, h⟩
  | cons x _ ih =>
    intro m h
    cases h with
    | cons r t =>
      obtain ⟨m', p', h'⟩ := ih t
      exact ⟨_, p'.cons _, .cons r h'⟩
  | swap x y l =>
    intro m h
    cases h with
    | cons r t =>
      cases t with
      | cons r' t => exact ⟨_, List.Perm.swap _ _ _, .cons r' (.cons r t)⟩
  | trans _ _ ih1 ih2 =>
    intro m h
    obtain ⟨m1, p1, h1⟩ := ih2 h
    obtain ⟨m2, p2, h2⟩ := ih1 h1
    exact ⟨m2, p2.trans p1, h2⟩
theorem Two.append {α β : Type} {R : α → β → Prop} {l l' : List α} {m m' : List β} (h : Two R l m) (h' : Two R l' m') : Two R (l ++ l') (m ++ m') := by
  induction h with
  | nil => exact h'
  | cons r _ ih => exact .cons r ih
theorem Two.map {α β γ : Type} {R : α → β → Prop} {S : γ → β → Prop} {f : α → γ} (hf : ∀ a b, R a b → S (f a) b) {l : List α} {m : List β} (h : Two R l m) : Two S (l.map f) m := by
  induction h with
  | nil => exact .nil
  | cons r _ ih => exact .cons (hf _ _ r) ih
theorem Two.len {α β : Type} {R : α → β → Prop} {l : List α} {m : List β} (h : Two R l m) : l.length = m.length := by
  induction h with
  | nil => rfl
  | cons _ _ ih => rw [List.length_cons, List.length_cons, ih]
def addK {K : Type} [DecidableEq K] (ds : List K) (k : K) : List K := if k ∈ ds then ds else ds ++ [k]
def dd {K : Type} [DecidableEq K] (ks : List K) : List K := ks.foldl addK []
theorem addK_nodup {K : Type} [DecidableEq K] {ds : List K} {k : K} (h : ds.Nodup) : (addK ds k).Nodup := by
  unfold addK
  split
  · exact h
  · rename_i hn
    exact List.nodup_append.mpr ⟨h, by simp, fun a ha b hb => by cases List.mem_singleton.mp hb; exact fun e => hn (e ▸ ha)⟩
theorem addK_mem {K : Type} [DecidableEq K] {ds : List K} {k x : K} : x ∈ addK ds k ↔ x ∈ ds ∨ x = k := by
  unfold addK
  split
  · rename_i h; exact ⟨.inl, fun z => z.elim id (fun e => e ▸ h)⟩
  · rw [List.mem_append, List.mem_singleton]
theorem addK_len {K : Type} [DecidableEq K] {ds : List K} {k : K} : (addK ds k).length ≤ ds.length + 1 := by
  unfold addK
  split
  · exact Nat.le_succ _
  · rw [List.length_append]; exact Nat.le_refl _
theorem fold_nodup {K : Type} [DecidableEq K] : ∀ (ks : List K) {ds : List K}, ds.Nodup → (ks.foldl addK ds).Nodup
  | [], _, h => h
  | k :: ks, _, h => fold_nodup ks (addK_nodup h)
theorem fold_mem {K : Type} [DecidableEq K] {x : K} : ∀ (ks : List K) {ds : List K}, x ∈ ks.foldl addK ds ↔ x ∈ ds ∨ x ∈ ks
  | [], ds => by simp
  | k :: ks, ds => by rw [List.foldl_cons, fold_mem ks, addK_mem, List.mem_cons, or_assoc]
theorem fold_len {K : Type} [DecidableEq K] : ∀ (ks : List K) {ds : List K}, (ks.foldl addK ds).length ≤ ds.length + ks.length
  | [], _ => Nat.le_refl _
  | k :: ks, ds => by
    have h1 := fold_len ks (ds := addK ds k)
    have h2 := addK_len (ds := ds) (k := k)
    rw [List.foldl_cons, List.length_cons]; omega
theorem dd_nodup {K : Type} [DecidableEq K] (ks : List K) : (dd ks).Nodup := fold_nodup ks (ds := []) .nil
theorem dd_mem {K : Type} [DecidableEq K] {ks : List K} {x : K} : x ∈ dd ks ↔ x ∈ ks := by unfold dd; rw [fold_mem]; simp
theorem dd_len {K : Type} [DecidableEq K] (ks : List K) : (dd ks).length ≤ ks.length := by have := fold_len ks (ds := []); rw [List.length_nil, Nat.zero_add] at this; exact this
section
variable {prog : Program} {w : World} {K : Type} [DecidableEq K] (knd : KeyKind prog w K)
def IsE (e : Int × Value) (k : K) : Prop := knd.is k e.2 = true ∧ e.1 = knd.hash k ∧ e.2.scannable = true
def Ents (es : Array (Int × Value)) (ds : List K) : Prop := ∃ ds' : List K, ds'.Perm ds ∧ Two (IsE knd) es.toList ds'
variable {knd}
theorem two_elems {l : List (Int × Value)} {ds : List K} (h : Two (IsE knd) l ds) : ElemsOf knd l := by
  induction h with
  | nil => intro e he; cases he
  | cons r _ ih =>
    intro e he
    rcases List.mem_cons.mp he with rfl | he
    · exact ⟨⟨_, r.1, r.2.1⟩, r.2.2⟩
    · exact ih e he
theorem two_any {l : List (Int × Value)} {ds : List K} (h : Two (IsE knd) l ds) (k : K) : (l.any fun e => knd.is k e.2) = decide (k ∈ ds) := by
  induction h with
  | nil => rfl
  | cons r _ ih =>
    rw [List.any_cons, ih, KeyKind.is_eq_decide r.1 k]
    simp [List.mem_cons]
theorem Ents.elems {es : Array (Int × Value)} {ds : List K} (h : Ents knd es ds) : ElemsOf knd es.toList := let ⟨_, _, t⟩ := h; two_elems t
theorem Ents.size {es : Array (Int × Value)} {ds : List K} (h : Ents knd es ds) : es.size = ds.length := by
  obtain ⟨ds', p, t⟩ := h
  have := t.len
  rw [Array.length_toList] at this
  rw [this, p.length_eq]
theorem Ents.add {es es' : Array (Int × Value)} {ds : List K} {k : K} {x : Value} (h : Ents knd es ds) (hk : knd.is k x = true) (hc : x.scannable = true) (e : if es.toList.any (fun e => knd.is k e.2) = true then es' = es else es'.toList.Perm (es.toList ++ [(knd.hash k, x)])) : Ents knd es' (addK ds k) := by
  obtain ⟨ds', p, t⟩ := h
  rw [two_any t] at e
  unfold addK
  by_cases hm : k ∈ ds
  · rw [if_pos hm]
    rw [decide_eq_true (p.mem_iff.mpr hm), if_pos rfl] at e
    rw [e]; exact ⟨ds', p, t⟩
  · rw [if_neg hm]
    rw [decide_eq_false (fun z => hm (p.mem_iff.mp z)), if_neg Bool.false_ne_true] at e
    obtain ⟨m', p', t'⟩ := (t.append (.cons ⟨hk, rfl, hc⟩ .nil : Two (IsE knd) [(knd.hash k, x)] [k])).perm e
    exact ⟨m', p'.trans (p.append (List.Perm.refl _)), t'⟩
end
end Sets
set_option Elab.async false
set_option linter.all false
set_option maxRecDepth 100000
set_option maxHeartbeats 4000000
namespace Sets
open PySem PyProof.Rows
section
variable {prog : Program} {w : World} {A : Around} {E : Value → Shared → Prop} {s : Shared} {K : Type} [DecidableEq K] {knd : KeyKind prog w K}
def Holds (knd : KeyKind prog w K) (a : Addr) (ds : List K) (h : Heap) : Prop := ∃ es, SetIs (ledW w) a es h ∧ Ents knd es ds
theorem Holds.keep {a : Addr} {ds : List K} {h h' : Heap} (x : Holds knd a ds h) (k : ∀ o, h.get? a = some o → h'.get? a = some o) : Holds knd a ds h' := let ⟨es, y, z⟩ := x; ⟨es, y.keep k, z⟩
theorem add_holds {a : Addr} {ds : List K} {k : K} {x : Value} {Q : Bool → Shared → Prop} (hk : knd.is k x = true) (hc : x.scannable = true) (hS : Holds knd a ds s.heap) (hz : ds.length + 1 < scanBound)
    (h : ∀ (b : Bool) h', Heap.SameBut a s.heap h' → Holds knd a (addK ds k) h' → Q b { s with heap := h' }) : wpAny (model prog w) A (setAddHashed a x (knd.hash k)) Q E s := by
  obtain ⟨es, y, z⟩ := hS
  exact add_set hk hc z.elems y (by rw [z.size]; exact hz) fun b h' es' sb si e => h b h' sb ⟨es', si, z.add hk hc e⟩
theorem loop_set {I : Addr} {fp wr : List Addr} {n : Nat} {P : Nat → Value → Prop} {St : Nat → Heap → Prop} (W : Walks prog w A.in1 I fp wr n P St) (S : Addr) (hSf : S ∉ fp) {ks : List K} (hn : n = ks.length) (hv : ∀ (i : Nat) v, P i v → ∃ k, ks[i]? = some k ∧ knd.is k v = true ∧ v.scannable = true) (hz : n + 1 < scanBound) {R : Result → Shared → Prop} :
    ∀ (m i : Nat) (s : Shared), n - i = m → i ≤ n → St i s.heap → Holds knd S ((ks.take i).foldl addK []) s.heap →
      (∀ h' tk, (∀ b o, b ∉ S :: wr → s.heap.get? b = some o → h'.get? b = some o) → Holds knd S (dd ks) h' → R (.ok (.ret .none)) { s with heap := h', toks := tk }) →
      codeAny (model prog w) A (.builtin "set.update.loop" ⟨[.ref S, .ref I], []⟩) R s
  | 0, i, s, hm, hi, st, hS, hR => by
    have e : i = n := by omega
    subst e
    refine codeAny_builtin F.entry_set_update_loop ?_; rw [Around.under_plainId F.plain_set_update_loop _]
    show wpAny _ A.in1 (pyNext (.ref I) >>= _) _ _ s
    refine wpAny_bind (W.done s _ _ st fun h' tk k => ?_)
    rw [hn, List.take_of_length_le (Nat.le_refl _)] at hS
    exact wpAny_pure (hR h' tk (fun b o hb e => k b o (fun z => hb (List.mem_cons_of_mem _ z)) e) (hS.keep fun o e => k S o (fun z => hSf (W.sub _ z)) e))
  | m + 1, i, s, hm, hi, st, hS, hR => by
    have hlt : i < n := by omega
    refine codeAny_builtin F.entry_set_update_loop ?_; rw [Around.under_plainId F.plain_set_update_loop _]
    show wpAny _ A.in1 (pyNext (.ref I) >>= _) _ _ s
    refine wpAny_bind (W.item i s _ _ hlt st fun v h1 tk hP st1 k1 => ?_)
    obtain ⟨k, ek, hk, hc⟩ := hv i v hP
    have hS1 : Holds knd S ((ks.take i).foldl addK []) h1 := hS.keep fun o e => k1 S o (fun z => hSf (W.sub _ z)) e
    show wpAny _ A.in1 (holding [v] (setAdd S v) >>= _) _ _ _
    refine wpAny_bind (wpAny_holding ?_)
    unfold setAdd
    refine wpAny_holding (wpAny_bind (knd.pyHash hk ?_))
    have hl : ((ks.take i).foldl addK []).length ≤ i := by
      have := fold_len (ks.take i) (ds := []); rw [List.length_nil, Nat.zero_add, List.length_take] at this; omega
    refine add_holds (s := { s with heap := h1, toks := tk + 1 }) hk hc hS1 (by omega) fun b h2 sb hS2 => ?_
    have e2 : addK ((ks.take i).foldl addK []) k = (ks.take (i + 1)).foldl addK [] := by rw [List.take_succ, ek, List.foldl_append]; rfl
    rw [e2] at hS2
    refine wpAny_pure ⟨plainId_quiet F.plain_set_update_loop _, loop_set W S hSf hn hv hz m (i + 1) _ (by omega) hlt (W.frame _ _ _ st1 fun b hb o e => (sb.2 b (fun z => hSf (z ▸ hb))).trans e) hS2 fun h3 tk3 k3 hS3 => ?_⟩
    exact hR h3 tk3 (fun b o hb e => k3 b o hb ((sb.2 b (fun z => hb (by rw [z]; exact List.mem_cons_self))).trans (k1 b o (fun z => hb (List.mem_cons_of_mem _ z)) e))) hS3
theorem holds_fresh {a : Addr} {h : Heap} (e : h.get? a = some (freshO (ledW w))) : Holds knd a [] h :=
  ⟨#[], ⟨_, 0, _, e, ⟨rfl, rfl, rfl⟩, rfl, ⟨rfl, rfl, fun i j hi => by simp [SetTable.fresh] at hi, rfl⟩⟩, [], List.Perm.refl _, .nil⟩
theorem set_list {l : Addr} {items : Array Value} {ks : List K} {Q : Value → Shared → Prop} (hh : A.handled = none) (hl : s.heap.IsList l items) (hn : items.size = ks.length) (hv : ∀ (i : Nat) v, items[i]? = some v → ∃ k, ks[i]? = some k ∧ knd.is k v = true ∧ v.scannable = true) (hz : items.size + 1 < scanBound)
    (h : ∀ h' tk, (∀ b o, s.heap.get? b = some o → h'.get? b = some o) → Holds knd s.heap.objs.size (dd ks) h' → Q (.ref s.heap.objs.size) { s with heap := h', toks := tk }) : wpAny (model prog w) A (call (.type "set") [.ref l]) Q E s := by
  refine call_set1 (Post := fun s' => ∃ h' tk, s' = { s with heap := h', toks := tk } ∧ (∀ b o, s.heap.get? b = some o → h'.get? b = some o) ∧ Holds knd s.heap.objs.size (dd ks) h') hh (fun B X R hB hR => ?_) fun s' ⟨h', tk, e, k, hS⟩ => by subst e; exact h h' tk k hS
  obtain ⟨ol, hol, hcl, nl, hdl⟩ := id hl
  have hlS : l < s.heap.objs.size := Heap.lt_size hol
  have hS : (s.heap.push (freshO (ledW w))).get? s.heap.objs.size = some (freshO (ledW w)) := Heap.get?_push_size _ rfl
  have hl1 : (s.heap.push (freshO (ledW w))).IsList l items := hl.push _
  have hT : Shared.TypeIs { s with heap := s.heap.push (freshO (ledW w)) } (.ref l) "list" := ⟨ol, Heap.get?_push_of_some _ hol, hcl⟩
  have i1 := F.sub_list_set
  have i2 := F.sub_list_frozenset
  have i3 : (Value.type "list" == Value.type "dict") = false := by decide
  unfold Builtin.Frozenset.updateFrom
  generalize hPI : pyIter = PI
  wp_walk
  subst hPI
  refine wpAny_pyIter_list hl1 (wpAny_bind (wpAny_runValue ?_))
  have sz : (s.heap.push (freshO (ledW w))).objs.size = s.heap.objs.size + 1 := Heap.size_push ..
  have neI : l ≠ (s.heap.push (freshO (ledW w))).objs.size := by rw [sz]; exact Nat.ne_of_lt (Nat.lt_succ_of_lt hlS)
  have hSf : s.heap.objs.size ∉ [(s.heap.push (freshO (ledW w))).objs.size, l] := by
    rw [sz]; intro z
    rcases List.mem_cons.mp z with z | z
    · exact absurd z (Nat.ne_of_lt (Nat.lt_succ_self _))
    · exact absurd (List.mem_singleton.mp z) (Nat.ne_of_gt hlS)
  refine loop_set (knd := knd) (Walks.list (show B.in1.handled = none from hB) _ l neI items) s.heap.objs.size hSf hn hv hz (items.size - 0) 0 _ (by omega) (Nat.zero_le _) ?_ ?_ fun h' tk k hS' => ?_
  · exact ⟨⟨_, Heap.get?_push_size _ rfl, rfl, rfl⟩, hl1.push _⟩
  · exact holds_fresh (Heap.get?_push_of_some _ hS)
  refine wpAny_pure (hR _ ⟨h', tk, rfl, fun b o e => k b o (fun z => ?_) (Heap.get?_push_of_some _ (Heap.get?_push_of_some _ e)), hS'⟩)
  have hb := Heap.lt_size e
  rcases List.mem_cons.mp z with z | z
  · exact absurd hb (by rw [z]; exact Nat.lt_irrefl _)
  · rw [List.mem_singleton.mp z, sz] at hb; exact absurd hb (Nat.not_lt.mpr (Nat.le_succ _))
end
end Sets
set_option Elab.async false
set_option linter.all false
set_option maxRecDepth 100000
set_option maxHeartbeats 4000000
namespace Sets
open PySem PyProof.Rows
section
variable {prog : Program} {w : World} {A : Around} {E : Value → Shared → Prop} {s : Shared} {K : Type} [DecidableEq K] {knd : KeyKind prog w K}
end
end Sets
set_option Elab.async false
set_option linter.all false
set_option maxRecDepth 100000
set_option maxHeartbeats 4000000
namespace L2
open PySem PySem.Spec PyProof.Rows
section
variable {X : Cx} {pins : List (Addr × Obj)} {σ : St} {H : Hp} {s s' : Shared}
theorem inv_other (I : Inv X pins σ H { s with heap := s'.heap }) (e : s'.gens = s.gens ∧ s'.os = s.os) : Inv X pins σ H s' :=
  ⟨I.ok, e.2.trans I.os, by rw [e.1]; exact I.bare, I.base, I.loc, I.cell, I.free, I.freeC, I.pin, I.hok, I.len⟩
theorem mix_int {P : Program} {w : World} {n : Int} {t : Tok} : (mixKind P w).is (Sum.inl n) (.int n t) = true := by show decide (n = n) = true; exact decide_eq_true rfl
theorem mix_str {P : Program} {w : World} {n : Str} {t : Tok} : (mixKind P w).is (Sum.inr n) (.str n t) = true := by show decide (n = n) = true; exact decide_eq_true rfl
def setV (P : Program) (w : World) (a : Addr) (ds : List Key) : HO := .ext (Sets.Holds (mixKind P w) a ds)
theorem set_ok {P : Program} {w : World} {H : Hp} {a : Addr} {ds : List Key} {h : Heap} (x : Sets.Holds (mixKind P w) a ds h) : ObjOk P w H h a (setV P w a ds) :=
  ⟨x, let ⟨es, ⟨o, _, _, e, _⟩, _⟩ := x; ⟨o, e⟩, fun h1 h2 y k => y.keep k⟩
theorem call_setL (hc : X.calm = true) : CallR X (.type "set") (fun xs H Q => ∃ (l : Addr) (ks : List Key), xs = [.ref l] ∧ SqL X.K H l (ks.map kV) ∧ ks.length ≤ 64 ∧ ∀ p, H p = none → Q (.ref p) (upd H p (setV X.prog X.w p (Sets.dd ks)))) := by
  intro pins s σ H xs us Q I r h
  obtain ⟨l, ks, rfl, hl, hz, q⟩ := h
  obtain ⟨u, rfl, ru⟩ := vals1 r
  cases ru
  obtain ⟨its, rv, p, _⟩ := I.list hl
  have hlen := rv.length
  rw [List.length_map] at hlen
  refine Sets.set_list (knd := mixKind X.prog X.w) (ks := ks) (I.ok.hd hc) p.isList (by simp [hlen]) (fun i v e => ?_) (by unfold scanBound; simp; omega) fun h' tk k hS => ?_
  · have hi : i < ks.length := by have := (Array.getElem?_eq_some_iff.mp e).1; simp at this; omega
    obtain ⟨v', e', rv'⟩ := rv.get (i := i) (x := kV ks[i]) (by simp [hi])
    have e2 : its[i]? = some v := by simpa using e
    rw [e2] at e'
    cases e'
    refine ⟨ks[i], by simp [hi], ?_⟩
    generalize ks[i] = k0 at rv'
    cases k0 with
    | inl n => obtain ⟨t, rfl⟩ := rv'; exact ⟨mix_int, rfl⟩
    | inr x => obtain ⟨t, rfl⟩ := rv'; exact ⟨mix_str, rfl⟩
  · exact ⟨.ref s.heap.objs.size, _, I.laid (t' := tk) k (Nat.le_refl _) (set_ok hS), rfl, q _ I.fresh⟩
theorem two_ints : ∀ {vs : List Value} {ss : List Int}, Sets.Two (fun v k => keyIs k v = true) vs (ss.map Sum.inl) → IntsAre vs ss
  | [], [], _ => .nil
  | _ :: _, [], h => nomatch h
  | [], _ :: _, h => nomatch h
  | v :: vs, x :: ss, h => by
    cases h with
    | cons r t =>
      rcases keyIs_shape r with ⟨i, t', e, rfl⟩ | ⟨y, t', e, rfl⟩
      · cases e; exact .cons _ t' (two_ints t)
      · cases e
theorem perm_inj {α β : Type} {f : α → β} (g : β → α) (hg : ∀ a, g (f a) = a) {l : List α} {m : List β} (h : m.Perm (l.map f)) : ∃ l' : List α, m = l'.map f ∧ l'.Perm l := by
  refine ⟨m.map g, ?_, ?_⟩
  · rw [List.map_map]
    refine (List.map_id m).symm.trans (List.map_congr_left fun x hx => ?_)
    obtain ⟨a, _, rfl⟩ := List.mem_map.mp (h.mem_iff.mp hx)
    show f a = f (g (f a)); rw [hg]
  · have := h.map g
    rw [List.map_map, show g ∘ f = id from funext hg, List.map_id] at this
    exact this
def unL : Key → Int | .inl x => x | .inr _ => 0
theorem vals_keys {P : Program} {w : World} {es : Array (Int × Value)} {ds : List Key} {vs : List Value} (h : Sets.Ents (mixKind P w) es ds) (p : vs.Perm (es.toList.map (·.2))) : ∃ ds', ds'.Perm ds ∧ Sets.Two (fun v k => keyIs k v = true) vs ds' := by
  obtain ⟨d1, p1, t1⟩ := h
  have t2 : Sets.Two (fun v k => keyIs k v = true) (es.toList.map (·.2)) d1 := t1.map fun a b r => r.1
  obtain ⟨d2, p2, t3⟩ := t2.perm p
  exact ⟨d2, p2.trans p1, t3⟩
theorem call_sortedSetI (hc : X.calm = true) : CallR X (.builtin "sorted") (fun xs H Q => ∃ (a : Addr) (ss : List Int), xs = [.ref a] ∧ H a = some (setV X.prog X.w a (ss.map Sum.inl)) ∧ ss.length < 64 ∧ ∀ p (ss' : List Int), H p = none → ss'.Perm ss → ss'.Pairwise (· ≤ ·) → Q (.ref p) (upd H p (.lst (ss'.map V.int)))) := by
  intro pins s σ H xs us Q I r h
  obtain ⟨a, ss, rfl, ha, h64, q⟩ := h
  obtain ⟨u, rfl, ru⟩ := vals1 r
  cases ru
  obtain ⟨es, ⟨o, ep, t, ho, hx, hd, g⟩, en⟩ := (I.hok a _ ha).1
  have hn : es.size = ss.length := by rw [en.size, List.length_map]
  refine Calls.call_function_entry kind_sorted plain_sorted entry_sorted (args_sorted1 _) ?_
  unfold Builtin.«sorted»; refine wpAny_bind (m := checkCount "sorted" 1 1 _) (wpAny_pure ?_)
  refine wpAny_bind (Sets.collect_set (A := X.A.in1) (ep := ep) (t := t) (I.ok.hd hc) ⟨o, ho, hx, hd⟩ g (by omega) fun s1 vs k pm sm => ?_)
  obtain ⟨d2, p2, t2⟩ := vals_keys en pm
  obtain ⟨ss2, rfl, p3⟩ := perm_inj unL (fun a => rfl) p2
  have hS := two_ints t2
  have hvl : vs.length < 64 := by have := pm.length_eq; simp at this; omega
  have I1 : Inv X pins σ H s1 := inv_other (I.kept (t' := s.toks) k) ⟨sm.1, sm.2.1⟩
  refine wpAny_bind (wpAny_newList ?_)
  have hL : (s1.heap.push (seqObj "list" vs.toArray 0)).get? s1.heap.objs.size = some (seqObj "list" vs.toArray 0) := Heap.get?_push_size _ rfl
  refine wpAny_bind (wpAny_holding (wpAny_call_entry slot_list_sort ⟨_, hL, rfl⟩ entry_list_sort (list_sort_tree (s := { s1 with heap := s1.heap.push (seqObj "list" vs.toArray 0) }) hL hS hvl fun out ss' h1 h2 h3 => ⟨_, rfl, ?_⟩) (args_list_sort _)))
  obtain ⟨e, he⟩ := sortedHeap_at (out := out) hL
  have kp : ∀ b o, s1.heap.get? b = some o → (sortedHeap (s1.heap.push (seqObj "list" vs.toArray 0)) s1.heap.objs.size vs out).get? b = some o := fun b o z => by
    have hb := Heap.lt_size z
    rw [sortedHeap_old (Nat.ne_of_lt hb) (by rw [Heap.size_push]; exact Nat.lt_succ_of_lt hb)]; exact Heap.get?_push_of_some _ z
  refine wpAny_pure ⟨_, rfl, .ref s1.heap.objs.size, _, I1.laid (t' := s1.toks) (o := .lst (ss'.map V.int)) kp (Nat.le_refl _) ⟨?_, out.toList, e, vals_ints h1, ?_⟩, rfl, q _ ss' I1.fresh (h2.trans p3) h3⟩
  · rw [List.length_map, h2.length_eq, p3.length_eq]; exact Nat.le_trans (Nat.le_of_lt h64) (by decide)
  · rw [Array.toArray_toList]; exact he
end
end L2
set_option Elab.async false
set_option linter.all false
set_option maxRecDepth 100000
set_option maxHeartbeats 4000000
namespace L3
open PySem PySem.Spec PyProof.Rows L2
section
variable {X : Cx} {To : TE3} {o : Expr} {p q pos ap : Pos}
def vSortSet (To : TE3) : TE3 := fun env st Q => To env st fun x st' => ∃ ns : List Int, lstOf x st' = some (ns.map PV.int) ∧ ns.length < 64 ∧ ∀ ns' : List Int, ns'.Pairwise (· < ·) → (∀ n, n ∈ ns' ↔ n ∈ ns) → ns'.length ≤ ns.length → Q (.lst (ns'.map PV.int)) st'
theorem rise_of : ∀ {l : List Int}, l.Pairwise (· ≤ ·) → l.Nodup → l.Pairwise (· < ·)
  | [], _, _ => .nil
  | _ :: _, .cons h t, .cons g u => .cons (fun x hx => by have := h x hx; have := g x hx; omega) (rise_of t u)
theorem q_sortSet (hc : X.calm = true) (hg : Gl X "sorted") (hm : X.mg "sorted" = none) (hg2 : Gl X "set") (hm2 : X.mg "set" = none) (ho : PE X o (can X.K To))
    (he : starEach [.Call (.Name "set" q) [o] [] ap] X.env = (false, eval (.Call (.Name "set" q) [o] [] ap) X.env) :: starEach [] X.env := by rfl) (hpl : (backTo pos (starEach [] X.env)).any (·.1) = false := by rfl)
    (he2 : starEach [o] X.env = (false, eval o X.env) :: starEach [] X.env := by rfl) (hpl2 : (backTo ap (starEach [] X.env)).any (·.1) = false := by rfl) :
    PE X (.Call (.Name "sorted" p) [.Call (.Name "set" q) [o] [] ap] [] pos) (can X.K (vSortSet To)) := by
  refine pe_weak (pe_callB (call_sortedSetI hc) hg hm PyProof.Rows.boot_sorted (pa_cons (pe_callTy (call_setL hc) hg2 hm2 PyProof.Rows.boot_set (pa_cons ho pa_nil he2) (by decide) (by decide) he2 hpl2) pa_nil he) (by decide) (by decide) he hpl) fun σ H Q ⟨A, env, st, Q3, rel, h, k⟩ => ?_
  refine ⟨A, env, st, _, rel, h, fun A1 H1 st1 x v g1 s1 e1 h1 => ?_⟩
  obtain ⟨ns, ed, hl, h1⟩ := h1
  obtain ⟨a, us, rfl, hs, r, z⟩ := lst_of s1 e1 ed
  cases rvs_int r
  refine ⟨a, ns.map Sum.inl, rfl, by rw [List.map_map]; exact hs, by rw [List.length_map]; omega, fun t ht => ?_⟩
  have hdn : (Sets.dd (ns.map (Sum.inl : Int → Key))).Nodup := Sets.dd_nodup _
  have hdl := Sets.dd_len (ns.map (Sum.inl : Int → Key))
  have hdm : ∀ x : Key, x ∈ Sets.dd (ns.map Sum.inl) ↔ x ∈ ns.map (Sum.inl : Int → Key) := fun x => Sets.dd_mem
  generalize Sets.dd (ns.map (Sum.inl : Int → Key)) = ds at hdn hdm hdl ⊢
  obtain ⟨ms, rfl⟩ : ∃ ms : List Int, ds = ms.map Sum.inl := ⟨ds.map L2.unL, by
    rw [List.map_map]
    refine (List.map_id ds).symm.trans (List.map_congr_left fun x hx => ?_)
    obtain ⟨y, _, rfl⟩ := List.mem_map.mp ((hdm x).mp hx)
    rfl⟩
  refine ⟨t, ms, rfl, upd_same, by rw [List.length_map, List.length_map] at hdl; omega, fun L ns' hL hp hw => ?_⟩
  have s2 := s1.new (o := setV X.prog X.w t (ms.map Sum.inl)) ht
  have g2 : Grow A1 H1 A1 (upd H1 t (setV X.prog X.w t (ms.map Sum.inl))) := .new ht
  have s3 := s2.new (o := .lst (ns'.map V.int)) hL
  have hm' : ∀ n, n ∈ ms ↔ n ∈ ns := fun n => by
    have := hdm (Sum.inl n)
    simpa using this
  have hnd : ms.Nodup := (List.pairwise_map.mp hdn).imp fun h e => h (congrArg _ e)
  refine k A1 _ st1 _ _ (g1.trans (g2.trans (.new hL))) s3 (.val (.lst (.inl ⟨.inl upd_same, s2.fresh hL⟩) ?_ (int_rvs ns'))) (h1 ns' (rise_of hw (hp.nodup_iff.mpr hnd)) (fun n => by rw [hp.mem_iff]; exact hm' n) (by rw [List.length_map, List.length_map] at hdl; rw [hp.length_eq]; exact hdl))
  rw [List.length_map, hp.length_eq]
  rw [List.length_map, List.length_map] at hdl
  exact Nat.le_trans (m := 64) (by omega) (by decide)
end
end L3
set_option linter.all false
set_option maxHeartbeats 1000000
namespace L3
section
variable {α : Type} [DecidableEq α] {w U u l : List α} {A B a b : Nat}
structure Hull (w : List α) (A B : Nat) (U : List α) : Prop where
  ab : A ≤ B
  bn : B ≤ w.length
  an : A < w.length
  front : ∀ x ∈ U, x ∉ w.take A
  back : ∀ x ∈ U, x ∉ w.drop B
  hd : ∀ x, U.head? = some x → w[A]? ≠ some x
  ne : U = [] → A < B
  ls : A < B → ∀ x, U.getLast? = some x → w[B - 1]? ≠ some x
theorem nd_at {i j : Nat} {x : α} (nd : w.Nodup) (h1 : w[i]? = some x) (h2 : w[j]? = some x) : i = j := by
  obtain ⟨p, e1⟩ := List.getElem?_eq_some_iff.mp h1
  obtain ⟨q, e2⟩ := List.getElem?_eq_some_iff.mp h2
  have hp := List.pairwise_iff_getElem.mp nd
  rcases Nat.lt_trichotomy i j with h | h | h
  · exact (hp i j p q h (e1.trans e2.symm)).elim
  · exact h
  · exact (hp j i q p h (e2.trans e1.symm)).elim
theorem in_take {i n : Nat} {x : α} (h : w[i]? = some x) (hi : i < n) : x ∈ w.take n := List.mem_iff_getElem?.mpr ⟨i, by rw [List.getElem?_take, if_pos hi]; exact h⟩
theorem in_drop {i n : Nat} {x : α} (h : w[i]? = some x) (hi : n ≤ i) : x ∈ w.drop n := List.mem_iff_getElem?.mpr ⟨i - n, by rw [List.getElem?_drop, show n + (i - n) = i by omega]; exact h⟩
theorem in_w {i : Nat} {x : α} (h : w[i]? = some x) : x ∈ w := List.mem_iff_getElem?.mpr ⟨i, h⟩
theorem Hull.one (ab : a ≤ b) (bn : b ≤ w.length) (an : a < w.length) (f : ∀ x ∈ u, x ∉ w) (ne : u = [] → a < b) : Hull w a b u :=
  ⟨ab, bn, an, fun x h m => f x h (List.mem_of_mem_take m), fun x h m => f x h (List.mem_of_mem_drop m), fun x h e => f x (List.mem_of_mem_head? h) (in_w e), ne, fun _ x h e => f x (List.mem_of_mem_getLast? h) (in_w e)⟩
theorem Hull.right (nd : w.Nodup) (h : Hull w A B U) (g : Hull w a b u) (f : ∀ x ∈ u, x ∉ w) (k : B ≤ a) (k2 : A < a) : Hull w A b (U ++ (w.take a).drop B ++ u) := by
  have mid : ∀ x ∈ (w.take a).drop B, ∃ j, B ≤ j ∧ j < a ∧ w[j]? = some x := fun x hx => by
    obtain ⟨i, hi⟩ := List.mem_iff_getElem?.mp hx
    rw [List.getElem?_drop, List.getElem?_take] at hi
    split at hi
    · exact ⟨B + i, by omega, by assumption, hi⟩
    · cases hi
  have hab := h.ab
  have gab := g.ab
  refine ⟨by omega, g.bn, h.an, fun x hx m => ?_, fun x hx m => ?_, fun x hx e => ?_, fun _ => by omega, fun _ x hx e => ?_⟩
  · obtain ⟨i, hi⟩ := List.mem_iff_getElem?.mp m
    rw [List.getElem?_take] at hi
    split at hi
    · rcases List.mem_append.mp hx with hx | hx
      · rcases List.mem_append.mp hx with hx | hx
        · exact h.front x hx m
        · obtain ⟨j, j1, j2, j3⟩ := mid x hx
          have := nd_at nd hi j3
          omega
      · exact f x hx (in_w hi)
    · cases hi
  · obtain ⟨i, hi⟩ := List.mem_iff_getElem?.mp m
    rw [List.getElem?_drop] at hi
    rcases List.mem_append.mp hx with hx | hx
    · rcases List.mem_append.mp hx with hx | hx
      · exact h.back x hx (in_drop hi (by omega))
      · obtain ⟨j, j1, j2, j3⟩ := mid x hx
        have := nd_at nd hi j3
        omega
    · exact f x hx (in_w hi)
  · rw [List.append_assoc, List.head?_append] at hx
    cases hU : U.head? with
    | some y => rw [hU] at hx; exact h.hd x (hU.trans hx) e
    | none =>
      rw [hU] at hx
      have hlt := h.ne (by simpa using hU)
      have hx' := List.mem_of_mem_head? (show x ∈ ((w.take a).drop B ++ u).head? from hx)
      rcases List.mem_append.mp hx' with hx | hx
      · obtain ⟨j, j1, j2, j3⟩ := mid x hx
        have := nd_at nd e j3
        omega
      · exact f x hx (in_w e)
  · rw [List.getLast?_append] at hx
    cases hu : u.getLast? with
    | some y => rw [hu] at hx; exact f x (List.mem_of_mem_getLast? (hu.trans hx)) (in_w e)
    | none =>
      rw [hu] at hx
      have hlt := g.ne (by simpa using hu)
      have hx' := List.mem_of_mem_getLast? (show x ∈ (U ++ (w.take a).drop B).getLast? from hx)
      rcases List.mem_append.mp hx' with hx | hx
      · exact h.back x hx (in_drop e (by omega))
      · obtain ⟨j, j1, j2, j3⟩ := mid x hx
        have := nd_at nd e j3
        omega
theorem Hull.left (nd : w.Nodup) (h : Hull w A B U) (g : Hull w a b u) (f : ∀ x ∈ u, x ∉ w) (k : b ≤ A) (k2 : a < A) : Hull w a B (u ++ (w.take A).drop b ++ U) := by
  have mid : ∀ x ∈ (w.take A).drop b, ∃ j, b ≤ j ∧ j < A ∧ w[j]? = some x := fun x hx => by
    obtain ⟨i, hi⟩ := List.mem_iff_getElem?.mp hx
    rw [List.getElem?_drop, List.getElem?_take] at hi
    split at hi
    · exact ⟨b + i, by omega, by assumption, hi⟩
    · cases hi
  have hab := h.ab
  have gab := g.ab
  refine ⟨by omega, h.bn, g.an, fun x hx m => ?_, fun x hx m => ?_, fun x hx e => ?_, fun _ => by omega, fun _ x hx e => ?_⟩
  · obtain ⟨i, hi⟩ := List.mem_iff_getElem?.mp m
    rw [List.getElem?_take] at hi
    split at hi
    · rcases List.mem_append.mp hx with hx | hx
      · rcases List.mem_append.mp hx with hx | hx
        · exact f x hx (in_w hi)
        · obtain ⟨j, j1, j2, j3⟩ := mid x hx
          have := nd_at nd hi j3
          omega
      · exact h.front x hx (in_take hi (by omega))
    · cases hi
  · obtain ⟨i, hi⟩ := List.mem_iff_getElem?.mp m
    rw [List.getElem?_drop] at hi
    rcases List.mem_append.mp hx with hx | hx
    · rcases List.mem_append.mp hx with hx | hx
      · exact f x hx (in_w hi)
      · obtain ⟨j, j1, j2, j3⟩ := mid x hx
        have := nd_at nd hi j3
        omega
    · exact h.back x hx m
  · rw [List.append_assoc, List.head?_append] at hx
    cases hu : u.head? with
    | some y => rw [hu] at hx; exact f x (List.mem_of_mem_head? (hu.trans hx)) (in_w e)
    | none =>
      rw [hu] at hx
      have hlt := g.ne (by simpa using hu)
      have hx' := List.mem_of_mem_head? (show x ∈ ((w.take A).drop b ++ U).head? from hx)
      rcases List.mem_append.mp hx' with hx | hx
      · obtain ⟨j, j1, j2, j3⟩ := mid x hx
        have := nd_at nd e j3
        omega
      · exact h.front x hx (in_take e (by omega))
  · rw [List.getLast?_append] at hx
    cases hU : U.getLast? with
    | some y =>
      rw [hU] at hx
      rcases Nat.lt_or_ge A B with hl | hl
      · exact h.ls hl x (hU.trans hx) e
      · exact h.front x (List.mem_of_mem_getLast? (hU.trans hx)) (in_take e (by omega))
    | none =>
      rw [hU] at hx
      have hlt := h.ne (by simpa using hU)
      have hx' := List.mem_of_mem_getLast? (show x ∈ (u ++ (w.take A).drop b).getLast? from hx)
      rcases List.mem_append.mp hx' with hx | hx
      · exact f x hx (in_w e)
      · obtain ⟨j, j1, j2, j3⟩ := mid x hx
        have := nd_at nd e j3
        omega
theorem Hull.chA (nd : w.Nodup) (h : Hull w A B U) : chA w (w.take A ++ U ++ w.drop B) = A := by
  have hn := h.an
  have ht : (w.take A).length = A := by rw [List.length_take]; omega
  unfold L3.chA
  refine (lcp_end ?_ fun x h1 h2 => ?_).symm
  · rw [lcp_ge]
    refine ⟨by omega, by simp only [List.length_append, ht]; omega, ?_⟩
    rw [List.append_assoc, List.take_append_of_le_length (by omega), List.take_take, Nat.min_self]
  · rw [List.append_assoc, List.getElem?_append_right (by omega), ht, Nat.sub_self, ← List.head?_eq_getElem?, List.head?_append] at h2
    cases hU : U.head? with
    | some y => rw [hU] at h2; exact h.hd x (hU.trans h2) h1
    | none =>
      rw [hU] at h2
      have hlt := h.ne (by simpa using hU)
      have h3 : (w.drop B)[0]? = some x := by rw [← List.head?_eq_getElem?]; exact h2
      rw [List.getElem?_drop] at h3
      have := nd_at nd h1 h3
      omega
theorem Hull.chE (nd : w.Nodup) (h : Hull w A B U) : chE w (w.take A ++ U ++ w.drop B) = w.length - B := by
  have hn := h.an
  have hb := h.bn
  have hab := h.ab
  have ht : (w.take A).length = A := by rw [List.length_take]; omega
  unfold L3.chE
  rw [h.chA nd]
  have e1 : (w.take A ++ U ++ w.drop B).drop A = U ++ w.drop B := by
    rw [List.append_assoc, List.drop_append_of_le_length (by omega), List.drop_take_self, List.nil_append]
  rw [e1, List.reverse_append]
  have hl : (w.drop B).reverse.length = w.length - B := by simp
  have e2 : (w.drop A).reverse = (w.drop B).reverse ++ ((w.take B).drop A).reverse := by
    rw [← List.reverse_append]
    congr 1
    have := List.take_append_drop (B - A) (w.drop A)
    rw [List.drop_drop, show A + (B - A) = B by omega, List.take_drop, show A + (B - A) = B by omega] at this
    exact this.symm
  rw [e2]
  refine (lcp_end ?_ fun x h1 h2 => ?_).symm
  · rw [lcp_ge]
    refine ⟨by simp only [List.length_append, hl]; omega, by simp only [List.length_append, hl]; omega, ?_⟩
    rw [List.take_append_of_le_length (by omega), List.take_append_of_le_length (by omega)]
  · rw [List.getElem?_append_right (by omega), hl, Nat.sub_self, ← List.head?_eq_getElem?, List.head?_reverse] at h1 h2
    have hlt : A < B := by
      rcases Nat.lt_or_ge A B with hl | hl
      · exact hl
      · rw [List.drop_eq_nil_of_le (by rw [List.length_take]; omega)] at h1; cases h1
    refine h.ls hlt x h2 ?_
    rw [List.getLast?_drop, if_neg (by rw [List.length_take]; omega), List.getLast?_eq_getElem?, List.length_take, List.getElem?_take, if_pos (by omega), show min B w.length - 1 = B - 1 by omega] at h1
    exact h1
theorem Hull.chB (nd : w.Nodup) (h : Hull w A B U) : chB w (w.take A ++ U ++ w.drop B) = B := by
  have := h.bn
  unfold L3.chB; rw [h.chE nd]; omega
theorem Hull.chW (nd : w.Nodup) (h : Hull w A B U) : chW w (w.take A ++ U ++ w.drop B) = U := by
  have hn := h.an
  have hb := h.bn
  have ht : (w.take A).length = A := by rw [List.length_take]; omega
  unfold L3.chW
  rw [h.chE nd, h.chA nd]
  have e : (w.take A ++ U ++ w.drop B).length - (w.length - B) = (w.take A ++ U).length := by simp only [List.length_append, List.length_drop]; omega
  rw [e, List.take_left, List.drop_append_of_le_length (by omega), List.drop_take_self, List.nil_append]
theorem Hull.off (nd : w.Nodup) (h : Hull w A B U) : w.take A ++ U ++ w.drop B ≠ w := fun e => by
  have h1 := h.chA nd
  rw [e] at h1
  have h2 : w.length ≤ L3.chA w w := by unfold L3.chA; rw [lcp_ge]; exact ⟨Nat.le_refl _, Nat.le_refl _, rfl⟩
  have := h.an
  omega
theorem Hull.unlike (nd : w.Nodup) (h : Hull w A B U) (g : Hull w a b u) (k : A ≠ a) : w.take A ++ U ++ w.drop B ≠ w.take a ++ u ++ w.drop b := fun e => by
  have h1 := h.chA nd
  rw [e, g.chA nd] at h1
  omega
theorem Hull.joins (nd : w.Nodup) (h : Hull w A B U) (g : Hull w a b u) (k : B ≤ a) (k2 : A < a) : three w (w.take A ++ U ++ w.drop B) (w.take a ++ u ++ w.drop b) = some (w.take A ++ U ++ (w.take a).drop B ++ u ++ w.drop b) := by
  have gab := g.ab
  have d1 : decide (B ≤ a) = true := decide_eq_true k
  have d2 : decide (b ≤ A) = false := decide_eq_false (by omega)
  have n1 := h.off nd
  have n2 := g.off nd
  have n3 := h.unlike nd g (by omega)
  unfold three both
  rw [h.chA nd, h.chB nd, h.chW nd, g.chA nd, g.chB nd, g.chW nd, if_neg n2, if_neg (fun z => z.elim n1 n3), d1, d2, if_neg (by decide), if_pos k]
theorem Hull.clash (nd : w.Nodup) (h : Hull w A B U) (g : Hull w a b u) (k : a < B) (k2 : A < a) : three w (w.take A ++ U ++ w.drop B) (w.take a ++ u ++ w.drop b) = none := by
  have gab := g.ab
  have d1 : decide (B ≤ a) = false := decide_eq_false (by omega)
  have d2 : decide (b ≤ A) = false := decide_eq_false (by omega)
  have n1 := h.off nd
  have n2 := g.off nd
  have n3 := h.unlike nd g (by omega)
  unfold three both
  rw [h.chA nd, h.chB nd, h.chW nd, g.chA nd, g.chB nd, g.chW nd, if_neg n2, if_neg (fun z => z.elim n1 n3), d1, d2, if_pos rfl]
def gl (w : List α) : Nat → List (Nat × Nat × List α) → List α
  | k, [] => w.drop k
  | k, (a, b, u) :: r => (w.take a).drop k ++ u ++ gl w b r
def Gd (w : List α) (l : List (Nat × Nat × List α)) (A B : Nat) (U : List α) : Prop := ∀ k r, gl w k (l ++ r) = (w.take A).drop k ++ U ++ gl w B r
theorem Gd.one : Gd w [(a, b, u)] a b u := fun k r => rfl
theorem Gd.right {l : List (Nat × Nat × List α)} (h : Gd w l A B U) : Gd w (l ++ [(a, b, u)]) A b (U ++ (w.take a).drop B ++ u) := fun k r => by
  rw [List.append_assoc, h]
  simp only [gl, List.cons_append, List.nil_append, List.append_assoc]
theorem Gd.left {l : List (Nat × Nat × List α)} (h : Gd w l A B U) : Gd w ((a, b, u) :: l) a B (u ++ (w.take A).drop b ++ U) := fun k r => by
  rw [List.cons_append]
  simp only [gl, h b r, List.append_assoc]
theorem Gd.row {l : List (Nat × Nat × List α)} (h : Gd w l A B U) : gl w 0 l = w.take A ++ U ++ w.drop B := by
  have := h 0 []
  rw [List.append_nil, List.drop_zero] at this
  exact this
structure Dn (w : List α) (ds : List (Nat × Nat × List α)) : Prop where
  nd : w.Nodup
  hull : ∀ (i : Nat) (c : Nat × Nat × List α), ds[i]? = some c → Hull w c.1 c.2.1 c.2.2 ∧ ∀ x ∈ c.2.2, x ∉ w
  apart : ∀ (i j : Nat) (c d : Nat × Nat × List α), i < j → ds[i]? = some c → ds[j]? = some d → c.2.1 ≤ d.1 ∧ c.1 < d.1
def Sofar (w : List α) (ds : List (Nat × Nat × List α)) (l h : Nat) (x : List α) : Prop :=
  l < h ∧ h ≤ ds.length ∧ x = gl w 0 ((ds.take h).drop l) ∧ ∃ (c d : Nat × Nat × List α) (U : List α), ds[l]? = some c ∧ ds[h - 1]? = some d ∧ Gd w ((ds.take h).drop l) c.1 d.2.1 U ∧ Hull w c.1 d.2.1 U
theorem cut_one {β : Type} {ds : List β} {l : Nat} {c : β} (h : ds[l]? = some c) : (ds.take (l + 1)).drop l = [c] := by
  obtain ⟨p, rfl⟩ := List.getElem?_eq_some_iff.mp h
  rw [List.take_succ_eq_append_getElem p, List.drop_append_of_le_length (by rw [List.length_take]; omega), List.drop_take_self]; rfl
theorem cut_low {β : Type} {ds : List β} {l h : Nat} {c : β} (e : ds[l]? = some c) (k : l < h) : (ds.take h).drop l = c :: (ds.take h).drop (l + 1) := by
  have p := (List.getElem?_eq_some_iff.mp e).1
  have q : l < (ds.take h).length := by rw [List.length_take]; omega
  have e2 : (ds.take h)[l]? = some c := by rw [List.getElem?_take, if_pos k]; exact e
  rw [List.drop_eq_getElem_cons q, (List.getElem?_eq_some_iff.mp e2).2]
theorem cut_high {β : Type} {ds : List β} {l h : Nat} {c : β} (e : ds[h]? = some c) (k : l ≤ h) : (ds.take (h + 1)).drop l = (ds.take h).drop l ++ [c] := by
  obtain ⟨p, rfl⟩ := List.getElem?_eq_some_iff.mp e
  rw [List.take_succ_eq_append_getElem p, List.drop_append_of_le_length (by rw [List.length_take]; omega)]
variable {ds : List (Nat × Nat × List α)} {h k : Nat} {x : List α} {n : Nat}
theorem Sofar.one (D : Dn w ds) (p : n < ds.length) : Sofar w ds n (n + 1) (gl w 0 ((ds.take (n + 1)).drop n)) := by
  have e : ds[n]? = some ds[n] := List.getElem?_eq_getElem p
  refine ⟨by omega, p, rfl, ds[n], ds[n], ds[n].2.2, e, e, ?_, (D.hull _ _ e).1⟩
  rw [cut_one e]; exact Gd.one
theorem Sofar.low (D : Dn w ds) (S : Sofar w ds (n + 1) h x) : three w x (gl w 0 ((ds.take (n + 1)).drop n)) = some (gl w 0 ((ds.take h).drop n)) ∧ Sofar w ds n h (gl w 0 ((ds.take h).drop n)) := by
  obtain ⟨h1, h2, rfl, c, d, U, e1, e2, g, u⟩ := S
  have e : ds[n]? = some ds[n] := List.getElem?_eq_getElem (by omega)
  obtain ⟨v, f⟩ := D.hull _ _ e
  obtain ⟨k1, k2⟩ := D.apart n (n + 1) _ _ (by omega) e e1
  have G := g.left (a := ds[n].1) (b := ds[n].2.1) (u := ds[n].2.2)
  rw [cut_one e, cut_low (h := h) e (by omega)]
  refine ⟨?_, by omega, h2, by rw [cut_low e (by omega)], ds[n], d, _, e, e2, by rw [cut_low e (by omega)]; exact G, u.left D.nd v f k1 k2⟩
  rw [g.row, Gd.one.row, three_comm, v.joins D.nd u k1 k2, G.row]
  simp only [List.append_assoc]
theorem Sofar.high (D : Dn w ds) (S : Sofar w ds n h x) (p : h < ds.length) : three w x (gl w 0 ((ds.take (h + 1)).drop h)) = some (gl w 0 ((ds.take (h + 1)).drop n)) ∧ Sofar w ds n (h + 1) (gl w 0 ((ds.take (h + 1)).drop n)) := by
  obtain ⟨h1, h2, rfl, c, d, U, e1, e2, g, u⟩ := S
  have e : ds[h]? = some ds[h] := List.getElem?_eq_getElem p
  obtain ⟨v, f⟩ := D.hull _ _ e
  have k1 := (D.apart (h - 1) h _ _ (by omega) e2 e).1
  have k2 := (D.apart n h _ _ (by omega) e1 e).2
  have G := g.right (a := ds[h].1) (b := ds[h].2.1) (u := ds[h].2.2)
  rw [cut_one e, cut_high (l := n) e (by omega)]
  refine ⟨?_, by omega, p, by rw [cut_high e (by omega)], c, ds[h], _, e1, e, by rw [cut_high e (by omega)]; exact G, u.right D.nd v f k1 k2⟩
  rw [g.row, Gd.one.row, u.joins D.nd v k1 k2, G.row]
  simp only [List.append_assoc]
theorem Sofar.clash (D : Dn w ds) {c : Nat × Nat × List α} (S : Sofar w ds 0 ds.length x) (e : ds[k]? = some c) (p : 0 < k) (q : k + 1 < ds.length) : three w x (gl w 0 [c]) = none := by
  obtain ⟨h1, h2, rfl, c1, d, U, e1, e2, g, u⟩ := S
  obtain ⟨v, f⟩ := D.hull _ _ e
  have k2 := (D.apart 0 k _ _ p e1 e).2
  have k3 := (D.apart k (ds.length - 1) _ _ (by omega) e e2).2
  have dd := (D.hull _ _ e2).1.ab
  rw [g.row, Gd.one.row]
  exact u.clash D.nd v (by omega) k2
theorem gl_len : ∀ (l : List (Nat × Nat × List α)) (k : Nat), (∀ c ∈ l, c.2.2.length ≤ 2) → (gl w k l).length ≤ (w.length + 2) * l.length + w.length
  | [], k, _ => by simp only [gl, List.length_drop, List.length_nil]; omega
  | (a, b, u) :: r, k, h => by
    have h1 := gl_len r b fun c hc => h c (List.mem_cons_of_mem _ hc)
    have h2 := h _ List.mem_cons_self
    change u.length ≤ 2 at h2
    simp only [gl, List.length_append, List.length_drop, List.length_take, List.length_cons, Nat.mul_succ]
    omega
end
end L3
set_option Elab.async false
set_option linter.all false
set_option maxRecDepth 100000
set_option maxHeartbeats 1000000
namespace N26
open PySem L2 L3
def top (i : Nat) : Stmt := PySem.Challenge.pw_copiedhouse_k26_whole_changes_joined_out.main.body.getD i (.Pass ⟨0, 0, 0, 0⟩)
theorem boot_tuple' : bootBuiltins "tuple" = some (.type "tuple") := by decide +kernel
theorem boot_int' : bootBuiltins "int" = some (.type "int") := by decide +kernel
theorem boot_str' : bootBuiltins "str" = some (.type "str") := by decide +kernel
abbrev sjoined : Stmt := top 9
theorem scjoined : FnScope ["manner", "was", "mine", "yours", "wrote"] ["manner", "was", "mine", "yours", "wrote"] (defScope sjoined) := ⟨rfl, rfl, rfl, by decide +kernel, rfl, by decide +kernel, by decide +kernel⟩
abbrev srows_by_three : Stmt := top 10
theorem scrows_by_three : FnScope ["was", "mine", "yours", "my_change", "your_change", "ahead", "behind"] ["was", "mine", "yours"] (defScope srows_by_three) := ⟨rfl, rfl, rfl, by decide +kernel, rfl, by decide +kernel, by decide +kernel⟩
abbrev srow_change : Stmt := top 11
theorem scrow_change : FnScope ["was", "other", "start", "end"] ["was", "other"] (defScope srow_change) := ⟨rfl, rfl, rfl, by decide +kernel, rfl, by decide +kernel, by decide +kernel⟩
abbrev smany_alike : Stmt := top 12
theorem scmany_alike : FnScope ["one", "other", "alike"] ["one", "other"] (defScope smany_alike) := ⟨rfl, rfl, rfl, by decide +kernel, rfl, by decide +kernel, by decide +kernel⟩
abbrev swith_changes : Stmt := top 13
theorem scwith_changes : FnScope ["was", "first", "second"] ["was", "first", "second"] (defScope swith_changes) := ⟨rfl, rfl, rfl, by decide +kernel, rfl, by decide +kernel, by decide +kernel⟩
abbrev sL_box : Stmt := top 15
theorem scL_box : FnScope ["_law_script", "_law_k", "_law_cell", "_law_seed"] ["_law_script", "_law_k"] (defScope sL_box) := ⟨rfl, rfl, rfl, by decide +kernel, rfl, by decide +kernel, by decide +kernel⟩
abbrev sL_take : Stmt := top 16
theorem scL_take : FnScope ["_law_box_here", "_law_many", "_law_digit", "_law_one"] ["_law_box_here", "_law_many"] (defScope sL_take) := ⟨rfl, rfl, rfl, by decide +kernel, rfl, by decide +kernel, by decide +kernel⟩
abbrev sL_pool : Stmt := top 17
theorem scL_pool : FnScope ["_law_box_here", "_law_many", "_law_small", "_law_k", "_law_common", "_law_at", "_law_first", "_law_step", "_law_longer", "_law_found", "_law_own", "_law_word"] ["_law_box_here", "_law_many"] (defScope sL_pool) := ⟨rfl, rfl, rfl, by decide +kernel, rfl, by decide +kernel, by decide +kernel⟩
abbrev sL_is_row : Stmt := top 18
theorem scL_is_row : FnScope ["_law_found", "_law_due"] ["_law_found", "_law_due"] (defScope sL_is_row) := ⟨rfl, rfl, rfl, by decide +kernel, rfl, by decide +kernel, by decide +kernel⟩
abbrev sL_change : Stmt := top 19
theorem scL_change : FnScope ["_law_box_here", "_law_p", "_law_q", "_law_new", "_law_a", "_law_b", "_law_form"] ["_law_box_here", "_law_p", "_law_q", "_law_new"] (defScope sL_change) := ⟨rfl, rfl, rfl, by decide +kernel, rfl, by decide +kernel, by decide +kernel⟩
abbrev sL_with : Stmt := top 20
theorem scL_with : FnScope ["_law_was", "_law_changes", "_law_found", "_law_at", "_law_a", "_law_b", "_law_words"] ["_law_was", "_law_changes"] (defScope sL_with) := ⟨rfl, rfl, rfl, by decide +kernel, rfl, by decide +kernel, by decide +kernel⟩
abbrev svalue_of_three : Stmt := top 5
abbrev slaw : Stmt := top 21
theorem sclaw : FnScope ["_law_script", "_law_box_here", "_law_some", "_law_many", "_law_was", "_law_k", "_law_cuts", "_law_changes", "_law_low", "_law_high", "_law_mine", "_law_yours", "_law_found", "_law_change_here"] ["_law_script"] (defScope slaw) := ⟨rfl, rfl, rfl, by decide +kernel, rfl, by decide +kernel, by decide +kernel⟩
structure Mo (K : PySem.W.Frag) (mg : Str → Option Value) : Prop where
  len : mg "len" = none
  int : mg "int" = none
  range : mg "range" = none
  tuple : mg "tuple" = none
  isinstance : mg "isinstance" = none
  bool : mg "bool" = none
  str : mg "str" = none
  dict : mg "dict" = none
  list : mg "list" = none
  sorted : mg "sorted" = none
  min : mg "min" = none
  all : mg "all" = none
  reversed : mg "reversed" = none
  set : mg "set" = none
  joined : ∃ f fd, Fun K "joined" "joined" sjoined f fd ∧ Binds K fd ["manner", "was", "mine", "yours", "wrote"] [] ∧ mg "joined" = some (.ref f)
  rows_by_three : ∃ f fd, Fun K "rows_by_three" "rows_by_three" srows_by_three f fd ∧ Binds K fd ["was", "mine", "yours"] [] ∧ mg "rows_by_three" = some (.ref f)
  row_change : ∃ f fd, Fun K "row_change" "row_change" srow_change f fd ∧ Binds K fd ["was", "other"] [] ∧ mg "row_change" = some (.ref f)
  many_alike : ∃ f fd, Fun K "many_alike" "many_alike" smany_alike f fd ∧ Binds K fd ["one", "other"] [] ∧ mg "many_alike" = some (.ref f)
  with_changes : ∃ f fd, Fun K "with_changes" "with_changes" swith_changes f fd ∧ Binds K fd ["was", "first", "second"] [] ∧ mg "with_changes" = some (.ref f)
  _law_box : ∃ f fd, Fun K "_law_box" "_law_box" sL_box f fd ∧ Binds K fd ["_law_script", "_law_k"] [] ∧ mg "_law_box" = some (.ref f)
  _law_take : ∃ f fd, Fun K "_law_take" "_law_take" sL_take f fd ∧ Binds K fd ["_law_box_here", "_law_many"] [] ∧ mg "_law_take" = some (.ref f)
  _law_pool : ∃ f fd, Fun K "_law_pool" "_law_pool" sL_pool f fd ∧ Binds K fd ["_law_box_here", "_law_many"] [] ∧ mg "_law_pool" = some (.ref f)
  _law_is_row : ∃ f fd, Fun K "_law_is_row" "_law_is_row" sL_is_row f fd ∧ Binds K fd ["_law_found", "_law_due"] [] ∧ mg "_law_is_row" = some (.ref f)
  _law_change : ∃ f fd, Fun K "_law_change" "_law_change" sL_change f fd ∧ Binds K fd ["_law_box_here", "_law_p", "_law_q", "_law_new"] [] ∧ mg "_law_change" = some (.ref f)
  _law_with : ∃ f fd, Fun K "_law_with" "_law_with" sL_with f fd ∧ Binds K fd ["_law_was", "_law_changes"] [] ∧ mg "_law_with" = some (.ref f)
  value_of_three : ∃ f fd, Fun K "value_of_three" "value_of_three" svalue_of_three f fd ∧ Binds K fd ["term", "was", "mine", "yours"] [] ∧ mg "value_of_three" = some (.ref f)
local macro_rules | `(tactic| simp_all? only [$ts,*]) => `(tactic| ((try dsimp [vSeq]); repeat (simp only [cB, c_isS, eqP_v, dpt_v, dptb, dptb2, Nat.reduceAdd, Nat.reduceSub, Nat.reduceLT, Nat.reduceLeDiff, Int.reduceLT, Int.reduceLE, Int.reducePow, Int.reduceNeg, Int.reduceMul, Int.reduceAdd, Int.reduceSub, Int.reduceToNat, $ts,*]; (try dsimp [vSeq]))))
local macro_rules | `(tactic| simp? only [$ts,*]) => `(tactic| ((try dsimp); repeat (simp only [cB, c_isS, eqP_v, dpt_v, dptb, dptb2, Nat.reduceAdd, Nat.reduceSub, Nat.reduceLT, Nat.reduceLeDiff, Int.reduceLT, Int.reduceLE, Int.reducePow, Int.reduceNeg, Int.reduceMul, Int.reduceAdd, Int.reduceSub, Int.reduceToNat, $ts,*]; (try dsimp))))
theorem cpow10 : CPow 10 18 := ⟨by decide, by decide, by decide⟩
def BoxOk (a b : Int) : Prop := 0 ≤ a ∧ 0 ≤ b ∧ b ≤ 2147483647
abbrev box (a b : Int) : PO := .lst [.int a, .int b]
def spBox : Sp3 := fun xs st Q => ∃ (ns : List Int) (k : Int), xs = [.lst (ns.map .int), .int k] ∧ ns.length ≤ 63 ∧ 0 ≤ k ∧ ∀ a b, BoxOk a b → Q (.obj st.length) (st ++ [box a b])
def spTake : Sp3 := fun xs st Q => ∃ (i : Nat) (many a b : Int), xs = [.obj i, .int many] ∧ st[i]? = some (box a b) ∧ BoxOk a b ∧ 0 < many ∧ many < 1099511627776 ∧ ∀ d a b, 0 ≤ d → d < many → BoxOk a b → Q (.int d) (st.set i (box a b))
theorem seq_step {t u : TS3} {D : Ends3} {env : Env3} {st : Sto} (h : t { D with nx := u D } env st) : vSeq t u D env st := h
theorem txtLen (ys : List Str) (n : Nat) (h : ∀ y ∈ ys, y.length ≤ n) : (ys.map (·.length)).sum ≤ n * ys.length := by
  induction ys with
  | nil => simp
  | cons y r ih =>
    have h1 := h y List.mem_cons_self
    have h2 := ih fun z hz => h z (List.mem_cons_of_mem _ hz)
    rw [List.map_cons, List.sum_cons, List.length_cons, Nat.mul_succ]
    omega
theorem letter_at {d : Int} (d0 : 0 ≤ d) (d1 : d < 26) : atI (("abcdefghijklmnopqrstuvwxyz" : Str)).cps.toList d = some (97 + d.toNat) := by
  have h : ∀ n < 26, (("abcdefghijklmnopqrstuvwxyz" : Str)).cps.toList[n]? = some (97 + n) := by decide +kernel
  obtain ⟨n, rfl⟩ : ∃ n : Nat, d = n := ⟨d.toNat, by omega⟩
  exact atI_nat (h n (by omega))
def spLaw : Sp3 := fun xs st Q => ∃ ns : List Int, xs = [.lst (ns.map PV.int)] ∧ st = [] ∧ ns.length ≤ 63 ∧ Q (.bl true) []
abbrev rowP (xs : List Str) : PV := .tup (xs.map PV.str)
def opP : Option (List Str) → PV | none => .non | some f => rowP f
def spMA : Sp3 := fun xs st Q => ∃ a b : List Str, xs = [rowP a, rowP b] ∧ Q (.int (lcp a b : Nat)) st
def spRC : Sp3 := fun xs st Q => ∃ a b : List Str, xs = [rowP a, rowP b] ∧ Q (.tup [.int (chA a b : Nat), .int (chB a b : Nat), rowP (chW a b)]) st
def spWC : Sp3 := fun xs st Q => ∃ (w u v : List Str) (a b c d : Nat), xs = [rowP w, .tup [.int a, .int b, rowP u], .tup [.int c, .int d, rowP v]] ∧ w.length ≤ 200 ∧ u.length ≤ 200 ∧ v.length ≤ 200 ∧ Q (rowP (both w a b u c d v)) st
def spR3 : Sp3 := fun xs st Q => ∃ w m y : List Str, xs = [rowP w, rowP m, rowP y] ∧ w.length ≤ 100 ∧ m.length ≤ 100 ∧ y.length ≤ 100 ∧ Q (opP (three w m y)) st
def spJoin : Sp3 := fun xs st Q => ∃ w m y : List Str, xs = [.tup [.str "row"], rowP w, rowP m, rowP y, .bl true] ∧ w.length ≤ 100 ∧ m.length ≤ 100 ∧ y.length ≤ 100 ∧ Q (opP (three w m y)) st
def spIR : Sp3 := fun xs st Q => ∃ o p : Option (List Str), xs = [opP o, opP p] ∧ (∀ f, o = some f → f.length ≤ 1000) ∧ Q (.bl (decide (o = p))) st
theorem str_at {xs : List Str} {i : Nat} {x : Str} (h : xs[i]? = some x) : atI (xs.map PV.str) (i : Int) = some (.str x) := by
  exact atI_nat (by rw [List.getElem?_map, h]; rfl)
def Ltr (n : Nat) (first stp : Int) (ws : List Str) : Prop := ∀ (m : Nat) (w : Str), ws[m]? = some w → w.cps.toList[n]? = some (97 + ((first + stp * (0 + (m : Int))) % 26).toNat)
def Stp (s : Int) : Prop := s = 1 ∨ s = 3 ∨ s = 5 ∨ s = 7
theorem Ltr.snoc {n : Nat} {first stp : Int} {ws : List Str} {v : Str} (h : Ltr n first stp ws) {k : Nat} (hk : ws.length = k) (hv : v.cps.toList[n]? = some (97 + ((first + stp * (0 + (k : Int))) % 26).toNat)) : Ltr n first stp (ws ++ [v]) := fun m w hw => by
  subst hk
  rcases Nat.lt_or_ge m ws.length with hl | hl
  · rw [List.getElem?_append_left hl] at hw; exact h m w hw
  · rw [List.getElem?_append_right hl] at hw
    have : m = ws.length := by
      have := (List.getElem?_eq_some_iff.mp hw).1
      simp at this; omega
    subst this
    rw [Nat.sub_self] at hw
    injection hw with hw
    rw [← hw]; exact hv
theorem cps_app (a b : Str) : (a ++ b).cps.toList = a.cps.toList ++ b.cps.toList := by
  show (a.cps ++ b.cps).toList = _
  exact Array.toList_append
theorem mid_at {A B z : Str} {c : Nat} : (A ++ ⟨#[c]⟩ ++ B ++ z).cps.toList[A.length]? = some c := by
  rw [cps_app, cps_app, cps_app, List.append_assoc, List.append_assoc]
  show (A.cps.toList ++ _)[A.cps.size]? = _
  rw [List.getElem?_append_right (by simp)]
  simp
theorem app_at {a z : Str} {n c : Nat} (h : a.cps.toList[n]? = some c) : (a ++ z).cps.toList[n]? = some c := by
  rw [cps_app, List.getElem?_append_left (List.getElem?_eq_some_iff.mp h).1]; exact h
abbrev c7 (w : Str) : Str := Txt.slice w none (some 7)
theorem c7_at {w : Str} {n c : Nat} (hn : n < 7) (h : w.cps.toList[n]? = some c) : (c7 w).cps.toList[n]? = some c := by
  rcases Nat.lt_or_ge w.length 7 with hl | hl
  · have : ∀ k < 7, ((PySem.Builtin.Str.strSliceIndices none (some 7) 1 k).length == k) = true := by decide +kernel
    have e : c7 w = w := by
      unfold c7 Txt.slice
      rw [if_pos (by rw [this _ hl]; rfl)]
    rw [e]; exact h
  · have e := PyProof.Rows.slice_closes_to (x := w) (j := 7) ⟨by decide, by rw [Array.length_toList]; exact Int.ofNat_le.mpr hl⟩
    show (Txt.slice w none (some 7)).cps.toList[n]? = _
    rw [eq_of_beq e]
    show (List.take 7 (List.drop 0 w.cps.toList)).toArray.toList[n]? = _
    rw [List.drop_zero, List.getElem?_take, if_pos hn]; exact h
theorem Ltr.c7 {n : Nat} {first stp : Int} {ws : List Str} (hn : n < 7) (h : Ltr n first stp ws) : Ltr n first stp (ws.map c7) := fun m w hw => by
  rw [List.getElem?_map] at hw
  cases e : ws[m]? with
  | none => rw [e] at hw; cases hw
  | some v => rw [e] at hw; injection hw with hw; rw [← hw]; exact c7_at hn (h m v e)
theorem Ltr.inj {n : Nat} {first stp : Int} {ws : List Str} {i j : Nat} {u v : Str} {c : Nat} (h : Ltr n first stp ws) (hs : Stp stp) (hi : ws[i]? = some u) (hj : ws[j]? = some v) (i26 : i < 26) (j26 : j < 26) (eu : u.cps.toList[n]? = some c) (ev : v.cps.toList[n]? = some c) : i = j := by
  have a := h i u hi
  have b := h j v hj
  rw [eu] at a
  rw [ev] at b
  injection a with a
  injection b with b
  rcases hs with rfl | rfl | rfl | rfl <;> omega
theorem Ltr.nodup {n : Nat} {first stp : Int} {ws : List Str} (h : Ltr n first stp ws) (hs : Stp stp) (hl : ws.length ≤ 26) : ws.Nodup := by
  refine List.pairwise_iff_getElem.mpr fun i j hi hj hij e => ?_
  have a := h i _ (List.getElem?_eq_getElem hi)
  have := h.inj hs (List.getElem?_eq_getElem hi) (List.getElem?_eq_getElem hj) (by omega) (by omega) a (by rw [← e]; exact a)
  omega
def spPool : Sp3 := fun xs st Q => ∃ (i : Nat) (many a b : Int), xs = [.obj i, .int many] ∧ st[i]? = some (box a b) ∧ BoxOk a b ∧ 0 ≤ many ∧ many ≤ 26 ∧ ∀ (ws : List Str) (n : Nat) (first stp : Int) a b, (ws.length : Int) = many → (∀ w ∈ ws, w.length ≤ 20) → n < 7 → Stp stp → Ltr n first stp ws → BoxOk a b → Q (.lst (ws.map PV.str)) (st.set i (box a b))
abbrev Ch := Nat × Nat × List Str
abbrev chP (c : Ch) : PV := .tup [.int (c.1 : Nat), .int (c.2.1 : Nat), rowP c.2.2]
def ChIn (p q : Nat) (c : Ch) : Prop := p ≤ c.1 ∧ c.1 < q ∧ c.1 ≤ c.2.1 ∧ c.2.1 ≤ q ∧ (c.2.2 = [] → c.1 < c.2.1) ∧ c.2.2.length ≤ 2
def spChange : Sp3 := fun xs st Q => ∃ (i p q : Nat) (new : Str) (a b : Int), xs = [.obj i, .int (p : Nat), .int (q : Nat), .str new] ∧ st[i]? = some (box a b) ∧ BoxOk a b ∧ p < q ∧ q ≤ 20 ∧ new.length ≤ 20 ∧ ∀ (c : Ch) a b, ChIn p q c → (∀ x ∈ c.2.2, x = new ∨ x = new ++ "z") → BoxOk a b → Q (chP c) (st.set i (box a b))
def spWith : Sp3 := fun xs st Q => ∃ (w : List Str) (cs : List Ch), xs = [rowP w, .lst (cs.map chP)] ∧ w.length ≤ 20 ∧ cs.length ≤ 4 ∧ (∀ c ∈ cs, c.2.2.length ≤ 2) ∧ Q (rowP (gl w 0 cs)) st
def f7 : PV → Option PV | .str w => some (.str (c7 w)) | _ => none
theorem f7_all (ws : List Str) : (ws.map PV.str).filterMap f7 = (ws.map c7).map PV.str := by
  induction ws with
  | nil => rfl
  | cons w ws ih => rw [List.map_cons, List.map_cons, List.map_cons, List.filterMap_cons, ← ih]; rfl
def ChAt (us : List Str) (m : Nat) (cs : List Int) (ds : List Ch) : Prop := ∀ (i : Nat) (c : Ch), ds[i]? = some c → ∃ (p q : Nat) (new : Str), cs[i]? = some (p : Int) ∧ cs[i + 1]? = some (q : Int) ∧ ChIn p q c ∧ us[m + 2 * i]? = some new ∧ ∀ x ∈ c.2.2, x = new ∨ x = new ++ "z"
theorem ChAt.snoc {us : List Str} {m k p q : Nat} {cs : List Int} {ds : List Ch} {c : Ch} {new : Str} (h : ChAt us m cs ds) (hk : ds.length = k) (h1 : cs[k]? = some (p : Int)) (h2 : cs[k + 1]? = some (q : Int)) (h3 : ChIn p q c) (h4 : us[m + 2 * k]? = some new) (h5 : ∀ x ∈ c.2.2, x = new ∨ x = new ++ "z") : ChAt us m cs (ds ++ [c]) := fun i d hd => by
  subst hk
  rcases Nat.lt_or_ge i ds.length with hl | hl
  · rw [List.getElem?_append_left hl] at hd; exact h i d hd
  · rw [List.getElem?_append_right hl] at hd
    have : i = ds.length := by
      have := (List.getElem?_eq_some_iff.mp hd).1
      simp at this; omega
    subst this
    rw [Nat.sub_self] at hd
    injection hd with hd
    rw [← hd]; exact ⟨p, q, new, h1, h2, h3, h4, h5⟩
theorem ChAt.dn {us : List Str} {m n : Nat} {first stp : Int} {cs : List Int} {ds : List Ch} (h : ChAt us m cs ds) (hU : Ltr n first stp us) (hs : Stp stp) (hl : us.length = 26) (hpw : cs.Pairwise (· < ·)) (c0 : ∀ c ∈ cs, 0 ≤ c ∧ c ≤ m) (hm : m ≤ 17) : Dn (us.take m) ds := by
  have hw : (us.take m).length = m := by rw [List.length_take]; omega
  refine ⟨(hU.nodup hs (by omega)).sublist (List.take_sublist _ _), fun i c hc => ?_, fun i j c d hij hc hd => ?_⟩
  · obtain ⟨p, q, new, e1, e2, ⟨i1, i2, i3, i4, i5, i6⟩, e3, hx⟩ := h i c hc
    have hq := (c0 _ (List.mem_iff_getElem?.mpr ⟨_, e2⟩)).2
    have f : ∀ x ∈ c.2.2, x ∉ us.take m := fun x hx' mem => by
      obtain ⟨j, hj⟩ := List.mem_iff_getElem?.mp mem
      rw [List.getElem?_take] at hj
      split at hj
      · have en := hU _ _ e3
        have := hU.inj hs hj e3 (by omega) (by have := (List.getElem?_eq_some_iff.mp e3).1; omega) (by
          rcases hx x hx' with rfl | rfl
          · exact en
          · exact app_at en) en
        omega
      · cases hj
    exact ⟨Hull.one i3 (by omega) (by omega) f i5, f⟩
  · obtain ⟨p, q, new, e1, e2, ⟨i1, i2, i3, i4, i5, i6⟩, e3, hx⟩ := h i c hc
    obtain ⟨p', q', new', e1', e2', ⟨j1, j2, j3, j4, j5, j6⟩, e3', hx'⟩ := h j d hd
    have : q ≤ p' := by
      rcases Nat.lt_or_ge (i + 1) j with hlt | hge
      · obtain ⟨a1, a2⟩ := List.getElem?_eq_some_iff.mp e2
        obtain ⟨b1, b2⟩ := List.getElem?_eq_some_iff.mp e1'
        have := List.pairwise_iff_getElem.mp hpw (i + 1) j a1 b1 hlt
        rw [a2, b2] at this
        omega
      · have : j = i + 1 := by omega
        subst this
        rw [e2] at e1'
        injection e1' with e
        omega
    omega
theorem int_at {cs : List Int} {i : Nat} {x : Int} (h : cs[i]? = some x) : atI (cs.map PV.int) (i : Int) = some (.int x) := atI_nat (by rw [List.getElem?_map, h]; rfl)
theorem test_cut {c : TT3} {t u : TS3} {D : Ends3} {env : Env3} {st : Sto} (P : Bool → Sto → Prop) (h1 : ∀ N : Bool → Sto → Prop, (∀ b s, P b s → N b s) → c env st N) (h2 : ∀ b s, P b s → if b = true then t D env s else u D env s) : vIfS c t u D env st := h1 _ h2
def WL (v0 v2 v3 v5 v6 : Option PV) (o0 : PO) (rest : Sto) (w : List Str) (ds : List Ch) (mm : Nat) (env : Env3) (s : Sto) : Prop := ∃ (l h : Nat) (x : List Str) (v11 v12 : Option PV) (a b : Int), env = [v0, some (.obj (rest.length + 1 + 1)), v2, v3, some (rowP w), v5, v6, some (.obj 1), some (.int (l : Nat)), some (.int (h : Nat)), some (rowP x), v11, v12, none] ∧ Sofar w ds l h x ∧ BoxOk a b ∧ s = o0 :: .lst (ds.map chP) :: (rest ++ [box a b]) ∧ mm = ds.length - (h - l)
section
variable {P : Program} {w : World} {K : PySem.W.Frag} {mg : Str → Option Value} {base : Heap}
theorem ok_many_alike {f : Addr} {fd : FuncData} (M : Mo K mg) (F : Fun K "many_alike" "many_alike" smany_alike f fd) : FnOk P w K mg base CX0 1 f fd ["one", "other"] (sp2 K spMA) := by
  refine ok3 0 F scmany_alike (fun xs st Q h => by obtain ⟨a, b, rfl, _⟩ := h; rfl) ⟨_, fun cdv A outer s H E hr => (qss_cons (qs_set (i := 2) scmany_alike.nd rfl (Or.inl rfl) q_int)
      (qss_cons (qs_while PassesOwn.never (PW.pt (qw_and (qt_cmp o_lt (qv 2) (q_callB (o_min2 rfl) (by rfl) M.min PyProof.Rows.boot_min (qa_cons (q_callB o_len (by rfl) M.len PySem.boot_len (qa_cons (qv 0) qa_nil)) (qa_cons (q_callB o_len (by rfl) M.len PySem.boot_len (qa_cons (qv 1) qa_nil)) qa_nil))) (nomark _)) (qw_and1 (qt_cmp (o_eq hr) (q_ix (o_ix hr) (qv 0) (qv 2) (fun _ _ => rfl)) (q_ix (o_ix hr) (qv 1) (qv 2) (fun _ _ => rfl)) (nomark _))))) (qss_one (qs_set (i := 2) scmany_alike.nd rfl (Or.inl rfl) (q_op o_add (qv 2) q_int))))
      (qss_one (qs_ret (qv 2))))), fun xs st Q h => ?_⟩
  obtain ⟨xs, ys, rfl, q⟩ := h
  simp_all? only [true_and]
  refine while_by (fun m env s => ∃ i : Nat, env = [some (rowP xs), some (rowP ys), some (.int (i : Nat))] ∧ s = st ∧ i ≤ lcp xs ys ∧ m = xs.length - i) _ ⟨0, rfl, rfl, Nat.zero_le _, rfl⟩ ?_
  rintro m env s ⟨i, rfl, rfl, hi, rfl⟩
  have hx := lcp_l xs ys
  have hy := lcp_r xs ys
  simp_all? only [List.length_map]
  by_cases hlt : i < xs.length ∧ i < ys.length
  · have hd : decide ((i : Int) < if (ys.length : Int) < (xs.length : Int) then (ys.length : Int) else (xs.length : Int)) = true := decide_eq_true (by split <;> omega)
    have ex : xs[i]? = some xs[i] := List.getElem?_eq_getElem hlt.1
    have ey : ys[i]? = some ys[i] := List.getElem?_eq_getElem hlt.2
    rw [if_pos hd]
    simp_all? only [str_at ex, str_at ey]
    by_cases he : xs[i] = ys[i]
    · rw [if_pos (by rw [he]; exact beq_self_eq_true _)]
      refine ⟨fun e s' => e = [some (rowP xs), some (rowP ys), some (PV.int ((i : Int) + 1))] ∧ s' = s, ?_, rfl, rfl⟩
      rintro e s' ⟨rfl, rfl⟩
      exact ⟨_, by omega, i + 1, rfl, rfl, lcp_more hi ex (he ▸ ey), rfl⟩
    · rw [if_neg (by simpa using he)]
      have := lcp_end hi fun x h1 h2 => he (by rw [ex] at h1; rw [ey] at h2; cases h1; exact (Option.some.inj h2).symm)
      rw [this]; exact q
  · have hd : ¬ decide ((i : Int) < if (ys.length : Int) < (xs.length : Int) then (ys.length : Int) else (xs.length : Int)) = true := fun z => hlt (by have := of_decide_eq_true z; split at this <;> omega)
    rw [if_neg hd]
    have := lcp_end hi fun x h1 h2 => hlt ⟨(List.getElem?_eq_some_iff.mp h1).1, (List.getElem?_eq_some_iff.mp h2).1⟩
    rw [this]; exact q
theorem ok_row_change {f : Addr} {fd : FuncData} (M : Mo K mg) (F : Fun K "row_change" "row_change" srow_change f fd) : FnOk P w K mg base CX0 2 f fd ["was", "other"] (sp2 K spRC) := by
  obtain ⟨fmany_alike, fdmany_alike, Fmany_alike, bmany_alike, mmany_alike⟩ := M.many_alike
  have Gmany_alike : FnOk P w K mg base CX0 1 fmany_alike fdmany_alike ["one", "other"] (sp2 K spMA) := ok_many_alike M Fmany_alike
  refine ok3 0 F scrow_change (fun xs st Q h => by obtain ⟨a, b, rfl, _⟩ := h; rfl) ⟨_, fun cdv A outer s H E hr => have hr1 : Room 1 _ := hr.mono (by decide); (qss_cons (qs_set (i := 2) scrow_change.nd rfl (Or.inl rfl) (q_call Gmany_alike hr1 (by rfl) mmany_alike Fmany_alike.kp bmany_alike (qa_cons (qv 0) (qa_cons (qv 1) qa_nil))))
      (qss_cons (qs_set (i := 3) scrow_change.nd rfl (Or.inl rfl) (q_call Gmany_alike hr1 (by rfl) mmany_alike Fmany_alike.kp bmany_alike (qa_cons (q_tupRev rfl (by rfl) M.tuple (by rfl) M.reversed (q_slice (qv 0) (qo_some (qv 2)) qo_none)) (qa_cons (q_tupRev rfl (by rfl) M.tuple (by rfl) M.reversed (q_slice (qv 1) (qo_some (qv 2)) qo_none)) qa_nil))))
      (qss_one (qs_ret (q_tup (qa_cons (qv 2) (qa_cons (q_op o_sub (q_callB o_len (by rfl) M.len PySem.boot_len (qa_cons (qv 0) qa_nil)) (qv 3)) (qa_cons (q_slice (qv 1) (qo_some (qv 2)) (qo_some (q_op o_sub (q_callB o_len (by rfl) M.len PySem.boot_len (qa_cons (qv 1) qa_nil)) (qv 3)))) qa_nil)))))))), fun xs st Q h => ?_⟩
  obtain ⟨xs, ys, rfl, q⟩ := h
  have a1 := chE_l xs ys
  have a2 := chE_r xs ys
  simp_all? only [true_and]
  refine ⟨xs, ys, rfl, ?_⟩
  simp_all? only [vTupRev, cutP_from, ← List.map_drop, ← List.map_reverse]
  refine ⟨_, _, rfl, ?_⟩
  simp_all? only [List.length_map]
  have e1 : (xs.length : Int) - ((lcp (List.drop (lcp xs ys) xs).reverse (List.drop (lcp xs ys) ys).reverse : Nat) : Int) = ((chB xs ys : Nat) : Int) := by unfold chB; show (xs.length : Int) - ((chE xs ys : Nat) : Int) = _; omega
  have e2 : (ys.length : Int) - ((lcp (List.drop (lcp xs ys) xs).reverse (List.drop (lcp xs ys) ys).reverse : Nat) : Int) = ((ys.length - chE xs ys : Nat) : Int) := by show (ys.length : Int) - ((chE xs ys : Nat) : Int) = _; omega
  rw [e1, e2, cutP_mid, ← List.map_take, ← List.map_drop]
  exact q
theorem ok_with_changes {f : Addr} {fd : FuncData} (M : Mo K mg) (F : Fun K "with_changes" "with_changes" swith_changes f fd) : FnOk P w K mg base CX0 1 f fd ["was", "first", "second"] (sp2 K spWC) := by
  refine ok3 0 F scwith_changes (fun xs st Q h => by obtain ⟨w, u, v, a, b, c, d, rfl, _⟩ := h; rfl) ⟨_, fun cdv A outer s H E hr => (qss_one (qs_ret (q_op o_add (q_op o_add (q_op o_add (q_op o_add (q_slice (qv 0) qo_none (qo_some (q_ix (o_ix hr) (qv 1) q_int (fun _ _ => rfl)))) (q_ix (o_ix hr) (qv 1) q_int (fun _ _ => rfl))) (q_slice (qv 0) (qo_some (q_ix (o_ix hr) (qv 1) q_int (fun _ _ => rfl))) (qo_some (q_ix (o_ix hr) (qv 2) q_int (fun _ _ => rfl))))) (q_ix (o_ix hr) (qv 2) q_int (fun _ _ => rfl))) (q_slice (qv 0) (qo_some (q_ix (o_ix hr) (qv 2) q_int (fun _ _ => rfl))) qo_none)))), fun xs st Q h => ?_⟩
  obtain ⟨xs, u, v, a, b, c, d, rfl, hw, hu, hv, q⟩ := h
  try simp? only [true_and]
  simp only [cutP_from, cutP_upto, cutP_mid, ← List.map_drop, ← List.map_take, ← List.map_append, List.length_map, List.length_append, List.length_take, List.length_drop]
  have thou : ∀ {n : Nat}, n ≤ 1000 → n ≤ sizeLine := fun h => Nat.le_trans h (by decide)
  exact ⟨thou (by omega), thou (by omega), thou (by omega), thou (by omega), q⟩
theorem ok_rows_by_three {f : Addr} {fd : FuncData} (M : Mo K mg) (F : Fun K "rows_by_three" "rows_by_three" srows_by_three f fd) : FnOk P w K mg base CX0 3 f fd ["was", "mine", "yours"] (sp2 K spR3) := by
  obtain ⟨frow_change, fdrow_change, Frow_change, brow_change, mrow_change⟩ := M.row_change
  have Grow_change : FnOk P w K mg base CX0 2 frow_change fdrow_change ["was", "other"] (sp2 K spRC) := ok_row_change M Frow_change
  obtain ⟨fwith_changes, fdwith_changes, Fwith_changes, bwith_changes, mwith_changes⟩ := M.with_changes
  have Gwith_changes : FnOk P w K mg base CX0 1 fwith_changes fdwith_changes ["was", "first", "second"] (sp2 K spWC) := ok_with_changes M Fwith_changes
  refine ok3 0 F scrows_by_three (fun xs st Q h => by obtain ⟨w, m, y, rfl, _⟩ := h; rfl) ⟨_, fun cdv A outer s H E hr => have hr1 : Room 1 _ := hr.mono (by decide); have hr2 : Room 2 _ := hr.mono (by decide); (qss_cons (qs_if (qt_cmp (o_eq hr) (qv 2) (qv 0) (nomark _)) (qss_one (qs_ret (qv 1))) qss_nil)
      (qss_cons (qs_if (PW.pt (qw_or (qt_cmp (o_eq hr) (qv 1) (qv 0) (nomark _)) (qw_or1 (qt_cmp (o_eq hr) (qv 1) (qv 2) (nomark _))))) (qss_one (qs_ret (qv 2))) qss_nil)
      (qss_cons (qs_set (i := 3) scrows_by_three.nd rfl (Or.inl rfl) (q_call Grow_change hr2 (by rfl) mrow_change Frow_change.kp brow_change (qa_cons (qv 0) (qa_cons (qv 1) qa_nil))))
      (qss_cons (qs_set (i := 4) scrows_by_three.nd rfl (Or.inl rfl) (q_call Grow_change hr2 (by rfl) mrow_change Frow_change.kp brow_change (qa_cons (qv 0) (qa_cons (qv 2) qa_nil))))
      (qss_cons (qs_set (i := 5) scrows_by_three.nd rfl (Or.inl rfl) (q_cmp o_le (q_ix (o_ix hr) (qv 3) q_int (fun _ _ => rfl)) (q_ix (o_ix hr) (qv 4) q_int (fun _ _ => rfl)) (nomark _)))
      (qss_cons (qs_set (i := 6) scrows_by_three.nd rfl (Or.inl rfl) (q_cmp o_le (q_ix (o_ix hr) (qv 4) q_int (fun _ _ => rfl)) (q_ix (o_ix hr) (qv 3) q_int (fun _ _ => rfl)) (nomark _)))
      (qss_cons (qs_if (qt_cmp (o_eq hr) (qv 5) (qv 6) (nomark _)) (qss_one (qs_ret q_non)) qss_nil)
      (qss_cons (qs_if (qt_tru (qv 5)) (qss_one (qs_ret (q_call Gwith_changes hr1 (by rfl) mwith_changes Fwith_changes.kp bwith_changes (qa_cons (qv 0) (qa_cons (qv 3) (qa_cons (qv 4) qa_nil)))))) qss_nil)
      (qss_one (qs_ret (q_call Gwith_changes hr1 (by rfl) mwith_changes Fwith_changes.kp bwith_changes (qa_cons (qv 0) (qa_cons (qv 4) (qa_cons (qv 3) qa_nil)))))))))))))), fun xs st Q h => ?_⟩
  obtain ⟨xs, ms, ys, rfl, hw, hm, hy, q⟩ := h
  refine seq_step ?_
  try simp? only [eqPs_str, dpts_str]
  by_cases h1 : ys = xs
  · rw [if_pos (decide_eq_true h1)]; rw [three_1 h1] at q; exact q
  rw [if_neg (by simpa using h1)]
  refine seq_step ?_
  try simp? only [eqPs_str, dpts_str]
  by_cases h2 : ms = xs
  · rw [if_pos (decide_eq_true h2)]; rw [three_2 h1 (.inl h2)] at q; exact q
  rw [if_neg (by simpa using h2)]
  by_cases h3 : ms = ys
  · rw [if_pos (decide_eq_true h3)]; rw [three_2 h1 (.inr h3)] at q; exact q
  rw [if_neg (by simpa using h3)]
  have h23 : ¬ (ms = xs ∨ ms = ys) := fun z => z.elim h2 h3
  have a1 := chW_len xs ms
  have a2 := chW_len xs ys
  refine seq_step ?_
  try simp? only [true_and]
  refine ⟨_, _, rfl, ?_⟩
  refine seq_step ?_
  try simp? only [true_and]
  refine ⟨_, _, rfl, ?_⟩
  refine seq_step ?_
  try simp? only [le_cast, List.take_length, Nat.add_zero]
  refine seq_step ?_
  try simp? only [le_cast, List.take_length, Nat.add_zero]
  refine seq_step ?_
  try simp? only [List.take_length]
  by_cases h4 : decide (chB xs ms ≤ chA xs ys) = decide (chB xs ys ≤ chA xs ms)
  · rw [if_pos (by rw [h4]; exact beq_self_eq_true _)]; rw [three_3 h1 h23 h4] at q; exact q
  rw [if_neg (by simpa using h4)]
  refine seq_step ?_
  try simp? only [true_and]
  by_cases h5 : chB xs ms ≤ chA xs ys
  · rw [if_pos (decide_eq_true h5)]; rw [three_4 h1 h23 h4 h5] at q
    exact ⟨_, _, _, _, _, _, _, rfl, by omega, by omega, by omega, ex_of rfl q⟩
  · rw [if_neg (by simpa using h5)]; rw [three_5 h1 h23 h4 h5] at q
    exact ⟨_, _, _, _, _, _, _, rfl, by omega, by omega, by omega, ex_of rfl q⟩
theorem ok_joined {f : Addr} {fd : FuncData} (M : Mo K mg) (F : Fun K "joined" "joined" sjoined f fd) : FnOk P w K mg base CX0 4 f fd ["manner", "was", "mine", "yours", "wrote"] (sp2 K spJoin) := by
  obtain ⟨frows_by_three, fdrows_by_three, Frows_by_three, brows_by_three, mrows_by_three⟩ := M.rows_by_three
  have Grows_by_three : FnOk P w K mg base CX0 3 frows_by_three fdrows_by_three ["was", "mine", "yours"] (sp2 K spR3) := ok_rows_by_three M Frows_by_three
  refine ok3 0 F scjoined (fun xs st Q h => by obtain ⟨w, m, y, rfl, _⟩ := h; rfl) ⟨_, fun cdv A outer s H E hr => have hr3 : Room 3 _ := hr.mono (by decide); (qss_cons (qs_if (qt_cmp (o_eq hr) (q_ix (o_ix hr) (qv 0) q_int (fun _ _ => rfl)) q_str (nomark _)) (qss_one qs_never) qss_nil)
      (qss_cons (qs_if (qt_cmp (o_eq hr) (q_ix (o_ix hr) (qv 0) q_int (fun _ _ => rfl)) q_str (nomark _)) (qss_one qs_never) qss_nil)
      (qss_cons (qs_if (qt_cmp (o_eq hr) (q_ix (o_ix hr) (qv 0) q_int (fun _ _ => rfl)) q_str (nomark _)) (qss_one (qs_ret (q_call Grows_by_three hr3 (by rfl) mrows_by_three Frows_by_three.kp brows_by_three (qa_cons (qv 1) (qa_cons (qv 2) (qa_cons (qv 3) qa_nil)))))) qss_nil)
      (qss_cons qs_never
      (qss_cons qs_never
      (qss_one qs_never)))))), fun xs st Q h => ?_⟩
  obtain ⟨xs, ms, ys, rfl, hw, hm, hy, q⟩ := h
  have e1 : ((("row" : Str) == ("sum" : Str))) = false := by decide +kernel
  have e2 : ((("row" : Str) == ("bag" : Str))) = false := by decide +kernel
  simp_all? only [e1, e2, beq_self_eq_true]
  refine ⟨_, _, _, rfl, hw, hm, hy, ?_⟩
  cases hc : three xs ms ys with
  | none => rw [hc] at q; exact ex_of rfl q
  | some f => rw [hc] at q; exact ex_of rfl q
theorem nd0 : (["_law_found", "_law_due", "_law_word"] : List Str).Nodup := by decide +kernel
theorem ok_L_is_row {f : Addr} {fd : FuncData} (M : Mo K mg) (F : Fun K "_law_is_row" "_law_is_row" sL_is_row f fd) : FnOk P w K mg base CX0 1 f fd ["_law_found", "_law_due"] (sp2 K spIR) := by
  refine ok3 0 F scL_is_row (fun xs st Q h => by obtain ⟨o, p, rfl, _⟩ := h; rfl) ⟨_, fun cdv A outer s H E hr => (qss_cons (qs_if (PW.pt (qw_or (qt_cmp o_isN (qv 1) q_non (nomark _)) (qw_or1 (qt_cmp o_isN (qv 0) q_non (nomark _))))) (qss_one (qs_ret (q_and (q_cmp o_isN (qv 1) q_non (nomark _)) (q_one (q_cmp o_isN (qv 0) q_non (nomark _)))))) qss_nil)
      (qss_one (qs_ret (q_and (q_callB o_isinst (by rfl) M.isinstance PyProof.Rows.boot_isinstance (qa_cons (qv 0) (qa_cons (q_ty (by rfl) M.tuple boot_tuple') qa_nil))) (q_and (q_callB (o_all rfl) (by rfl) M.all PyProof.Rows.boot_all (qa_cons (q_comp (own := ["_law_word"]) (comp_scope (fsc := defScope sL_is_row) (N := ["_law_found", "_law_due"]) (N' := ["_law_found", "_law_due"]) rfl rfl (by decide +kernel)) rfl (qi_any (qv 0)) (fun C s H fp pins => (qg_name (i := 2) nd0 rfl (Or.inl rfl))) (fun C s H fp pins => qf_nil) (fun C s H fp pins => (q_callB o_isinst (by rfl) M.isinstance PyProof.Rows.boot_isinstance (qa_cons (qv 2) (qa_cons (q_ty (by rfl) M.str boot_str') qa_nil))))) qa_nil)) (q_one (q_cmp (o_eq hr) (qv 0) (qv 1) (nomark _)))))))), fun xs st Q h => ?_⟩
  obtain ⟨o, p, rfl, hl, q⟩ := h
  rcases o with _ | f <;> rcases p with _ | g
  · unfold opP; simp_all? only [true_and]; exact q
  · unfold opP; simp_all? only [true_and]
    exact q
  · unfold opP; simp_all? only [true_and]
    exact q
  · unfold opP; simp_all? only [eqPs_str, dpts_str]
    refine comp_pure (fun _ => some (PV.bl true)) (fun j x e hx he => ?_) ?_
    · obtain ⟨w, hw, rfl⟩ := map_at hx
      obtain ⟨y, rfl⟩ := len1 he
      simp_all? only [true_and]
      exact CP.yes (e' := [_]) hx rfl rfl
    · have e1 : (List.map PV.str f).filterMap (fun _ => some (PV.bl true)) = (f.map fun _ => true).map PV.bl := by
        rw [List.filterMap_map, List.map_map]
        clear hl q
        induction f with
        | nil => rfl
        | cons x f ih => simpa using ih
      rw [e1]
      refine ⟨f.map fun _ => true, rfl, ?_⟩
      have e2 : (f.map fun _ => true).all id = true := by simp
      simp_all? only [e2, eqPs_str, dpts_str, List.take_length, Nat.add_zero]
      have e3 : decide (f = g) = decide (some f = some g) := by rw [Bool.eq_iff_iff]; simp
      rw [e3]; exact q
theorem ok_L_box {f : Addr} {fd : FuncData} (M : Mo K mg) (F : Fun K "_law_box" "_law_box" sL_box f fd) : FnOk P w K mg base CX0 1 f fd ["_law_script", "_law_k"] (sp2 K spBox) := by
  refine ok3 1 F scL_box (fun xs st Q h => by obtain ⟨ns, k, rfl, _⟩ := h; rfl) ⟨_, fun cdv A outer s H E hr => (qss_cons (qs_set (i := 2) scL_box.nd rfl (Or.inl rfl) (q_op o_add (q_op o_mul q_int (qv 1)) q_int))
      (qss_cons (qs_if (qt_cmp o_lt (qv 1) (q_callB o_len (by rfl) M.len PySem.boot_len (qa_cons (qv 0) qa_nil)) (nomark _)) (qss_one (qs_set (i := 2) scL_box.nd rfl (Or.inl rfl) (q_ix (o_ix hr) (qv 0) (qv 1) (fun _ _ => rfl)))) (qss_one (qs_if (qt_cmp o_gt (q_callB o_len (by rfl) M.len PySem.boot_len (qa_cons (qv 0) qa_nil)) q_int (nomark _)) (qss_one (qs_set (i := 2) scL_box.nd rfl (Or.inl rfl) (q_op o_add (qv 2) (q_op o_mul (q_op o_mod (q_ix (o_ix hr) (qv 0) (q_op o_mod (qv 1) (q_callB o_len (by rfl) M.len PySem.boot_len (qa_cons (qv 0) qa_nil))) (fun _ _ => rfl)) q_int) q_int)))) qss_nil)))
      (qss_cons (qs_set (i := 3) scL_box.nd rfl (Or.inl rfl) (q_op o_add (q_op o_mod (q_op o_add (q_op o_mul (q_op o_mod (qv 2) q_int) q_int) (q_op o_mul q_int (qv 1))) q_int) q_int))
      (qss_one (qs_ret (q_lstO (qa_cons (q_op o_mul (qv 2) (q_callTy o_int (by rfl) M.int boot_int' (qa_cons (q_cmp o_ge (qv 2) (q_op o_pow q_int q_int) (nomark _)) qa_nil))) (qa_cons (qv 3) qa_nil)))))))), fun xs st Q h => ?_⟩
  obtain ⟨ns, k, rfl, hl, hk, q⟩ := h
  simp_all? only [List.length_map]
  have bit : ∀ c : Int, -18446744073709551616 < (if decide (1000000000000000000 ≤ c) = true then (1 : Int) else 0) ∧ (if decide (1000000000000000000 ≤ c) = true then (1 : Int) else 0) < 18446744073709551616 := fun c => by split <;> exact ⟨by decide, by decide⟩
  have fin : ∀ c : Int, BoxOk (c * (if decide (1000000000000000000 ≤ c) = true then (1 : Int) else 0)) ((c % 2147483629 * 48271 + 40692 * k) % 2147483646 + 1) := fun c => by
    refine ⟨?_, by omega, by omega⟩
    split
    · rename_i h
      have := of_decide_eq_true h
      omega
    · omega
  refine ite2 (fun h => ?_) (fun h => ite2 (fun h2 => ?_) (fun h2 => ?_))
  · obtain ⟨z, _, ez⟩ := at_has PV.int (ns := ns) hk (of_decide_eq_true h)
    simp_all? only [ez]
    exact ⟨cpow10, .inr (bit z), q _ _ (fin z)⟩
  · have hp : (0 : Int) < ns.length := of_decide_eq_true h2
    obtain ⟨z, _, ez⟩ := at_has PV.int (ns := ns) (k := k % ns.length) (Int.emod_nonneg _ (by omega)) (Int.emod_lt_of_pos _ hp)
    simp_all? only [ez]
    exact ⟨hp, cpow10, .inr (bit _), q _ _ (fin _)⟩
  · exact ⟨cpow10, .inr (bit _), q _ _ (fin _)⟩
theorem ok_L_take {f : Addr} {fd : FuncData} (M : Mo K mg) (F : Fun K "_law_take" "_law_take" sL_take f fd) : FnOk P w K mg base CX0 1 f fd ["_law_box_here", "_law_many"] (sp2 K spTake) := by
  refine ok3 0 F scL_take (fun xs st Q h => by obtain ⟨i, many, a, b, rfl, _⟩ := h; rfl) ⟨_, fun cdv A outer s H E hr => (qss_cons (qs_if (qt_cmp o_gt (q_ix (o_ix hr) (qv 0) q_int (fun _ _ => rfl)) q_int (nomark _)) (qss_cons (qs_set (i := 2) scL_take.nd rfl (Or.inl rfl) (q_op o_mod (q_ix (o_ix hr) (qv 0) q_int (fun _ _ => rfl)) (qv 1)))
      (qss_cons (qs_asg (q_op o_div (q_ix (o_ix hr) (qv 0) q_int (fun _ _ => rfl)) (qv 1)) (qg_sub hr (qv 0) q_int))
      (qss_one (qs_ret (qv 2))))) qss_nil)
      (qss_cons (qs_set (i := 3) scL_take.nd rfl (Or.inl rfl) (q_op o_mod (q_op o_mul (q_ix (o_ix hr) (qv 0) q_int (fun _ _ => rfl)) q_int) q_int))
      (qss_cons (qs_asg (q_op o_add (q_op o_mod (q_op o_add (q_op o_mul (qv 3) q_int) q_int) q_int) q_int) (qg_sub hr (qv 0) q_int))
      (qss_one (qs_ret (q_op o_mod (q_op o_div (q_op o_add (q_op o_mul (qv 3) q_int) (q_ix (o_ix hr) (qv 0) q_int (fun _ _ => rfl))) q_int) (qv 1))))))), fun xs st Q h => ?_⟩
  obtain ⟨i, many, a, b, rfl, hi, ⟨ha, hb, hb2⟩, hm, hm2, q⟩ := h
  simp_all? only [hi]
  refine ite2 (fun h => ?_) (fun h => ?_)
  · exact ⟨hm, ⟨hm, hm2⟩, q _ _ _ (Int.emod_nonneg _ (by omega)) (Int.emod_lt_of_pos _ hm) ⟨Int.ediv_nonneg ha (by omega), hb, hb2⟩⟩
  · exact ⟨hm, q _ _ _ (Int.emod_nonneg _ (by omega)) (Int.emod_lt_of_pos _ hm) ⟨ha, by omega, by omega⟩⟩
theorem nd1 : (["_law_box_here", "_law_many", "_law_small", "?3", "_law_common", "_law_at", "_law_first", "_law_step", "_law_longer", "_law_found", "_law_own", "_law_word", "_law_k"] : List Str).Nodup := by decide +kernel
theorem ok_L_pool {f : Addr} {fd : FuncData} (M : Mo K mg) (F : Fun K "_law_pool" "_law_pool" sL_pool f fd) : FnOk P w K mg base CX0 2 f fd ["_law_box_here", "_law_many"] (sp2 K spPool) := by
  obtain ⟨fL_take, fdL_take, FL_take, bL_take, mL_take⟩ := M._law_take
  have GL_take : FnOk P w K mg base CX0 1 fL_take fdL_take ["_law_box_here", "_law_many"] (sp2 K spTake) := ok_L_take M FL_take
  refine ok3 0 F scL_pool (fun xs st Q h => by obtain ⟨i, many, a, b, rfl, _⟩ := h; rfl) ⟨_, fun cdv A outer s H E hr => have hr1 : Room 1 _ := hr.mono (by decide); (qss_cons (qs_set (i := 2) scL_pool.nd rfl (Or.inr rfl) q_str)
      (qss_cons (qs_set (i := 4) scL_pool.nd rfl (Or.inl rfl) (q_bm PySem.F.plainAttrs_str PySem.F.slot_str_join PySem.F.type_str_join (by decide) o_join q_str (qa_cons (q_comp (own := ["_law_k"]) (comp_scope (fsc := defScope sL_pool) (N := ["_law_box_here", "_law_many", "_law_small", "_law_k", "_law_common", "_law_at", "_law_first", "_law_step", "_law_longer", "_law_found", "_law_own", "_law_word"]) (N' := ["_law_box_here", "_law_many", "_law_small", "?3", "_law_common", "_law_at", "_law_first", "_law_step", "_law_longer", "_law_found", "_law_own", "_law_word"]) rfl rfl (by decide +kernel)) rfl (qi_rng1 (by rfl) M.range (qa_cons (q_call GL_take hr1 (by rfl) mL_take FL_take.kp bL_take (qa_cons (qv 0) (qa_cons q_int qa_nil))) qa_nil)) (fun C s H fp pins => (qg_name (i := 12) nd1 rfl (Or.inl rfl))) (fun C s H fp pins => qf_nil) (fun C s H fp pins => (q_ix (o_ix hr) (qv 2) (q_call GL_take hr1 (by rfl) mL_take FL_take.kp bL_take (qa_cons (qv 0) (qa_cons q_int qa_nil))) (fun _ _ => rfl)))) qa_nil)))
      (qss_cons (qs_set (i := 5) scL_pool.nd rfl (Or.inl rfl) (q_call GL_take hr1 (by rfl) mL_take FL_take.kp bL_take (qa_cons (qv 0) (qa_cons (q_op o_add (q_callB o_len (by rfl) M.len PySem.boot_len (qa_cons (qv 4) qa_nil)) q_int) qa_nil))))
      (qss_cons (qs_set (i := 6) scL_pool.nd rfl (Or.inl rfl) (q_call GL_take hr1 (by rfl) mL_take FL_take.kp bL_take (qa_cons (qv 0) (qa_cons q_int qa_nil))))
      (qss_cons (qs_set (i := 7) scL_pool.nd rfl (Or.inl rfl) (q_ix (o_ix hr) (q_lst (qa_cons q_int (qa_cons q_int (qa_cons q_int (qa_cons q_int qa_nil))))) (q_call GL_take hr1 (by rfl) mL_take FL_take.kp bL_take (qa_cons (qv 0) (qa_cons q_int qa_nil))) (fun _ _ => rfl)))
      (qss_cons (qs_set (i := 8) scL_pool.nd rfl (Or.inl rfl) (q_call GL_take hr1 (by rfl) mL_take FL_take.kp bL_take (qa_cons (qv 0) (qa_cons q_int qa_nil))))
      (qss_cons (qs_set (i := 9) scL_pool.nd rfl (Or.inl rfl) (q_lstO qa_nil))
      (qss_cons (qs_for PassesOwn.never rfl (qi_rng1 (by rfl) M.range (qa_cons (qv 1) qa_nil)) (qg_name (i := 3) scL_pool.nd rfl (Or.inl rfl)) (qss_cons (qs_set (i := 10) scL_pool.nd rfl (Or.inl rfl) (q_ix (o_ix hr) (qv 2) (q_op o_mod (q_op o_add (qv 6) (q_op o_mul (qv 7) (qv 3))) q_int) (fun _ _ => rfl)))
      (qss_cons (qs_set (i := 11) scL_pool.nd rfl (Or.inl rfl) (q_op o_add (q_op o_add (q_slice (qv 4) qo_none (qo_some (qv 5))) (qv 10)) (q_slice (qv 4) (qo_some (qv 5)) qo_none)))
      (qss_one (qs_expr (q_bm PySem.F.plainAttrs_list PySem.F.slot_list_append PySem.F.type_list_append (by decide) o_append (qv 9) (qa_cons (q_op o_add (qv 11) (q_op o_mul q_str (q_op o_div (q_op o_mod (q_op o_add (qv 3) (qv 8)) q_int) q_int))) qa_nil)))))))
      (qss_one (qs_ret (qv 9))))))))))), fun xs st Q h => ?_⟩
  obtain ⟨i, many, a, b, rfl, hi, hb, h0, h26, q⟩ := h
  have hil := (List.getElem?_eq_some_iff.mp hi).1
  have hset : ∀ {a b : Int}, (st.set i (box a b))[i]? = some (box a b) := fun {a b} => get_set hi
  have small : ∀ d : Int, 0 ≤ d → d < 26 → ∃ c, atI (("abcdefghijklmnopqrstuvwxyz" : Str)).cps.toList d = some c := fun d d0 d1 => by
    have hl : (("abcdefghijklmnopqrstuvwxyz" : Str)).cps.toList.length = 26 := by decide +kernel
    obtain ⟨y, hy, e⟩ := atI_has (("abcdefghijklmnopqrstuvwxyz" : Str)).cps.toList (d := d) d0 (by omega)
    exact ⟨y, e⟩
  have small_l : (("abcdefghijklmnopqrstuvwxyz" : Str)).length ≤ sizeLine := Nat.le_trans (m := 1000) (by decide +kernel) (by decide)
  have thou : ∀ {n : Nat}, n ≤ 1000 → n ≤ sizeLine := fun h => Nat.le_trans h (by decide)
  simp_all? only [true_and]
  refine ⟨i, 7, a, b, rfl, hi, hb, by decide, by decide, fun d a b d0 d1 hb => ?_⟩
  simp_all? only [true_and]
  refine ⟨⟨by omega, by omega⟩, fun k ys env s => ∃ (xs : List Str) (v : Option PV) (a b : Int), ys = xs.map PV.str ∧ xs.length = k ∧ (∀ x ∈ xs, x.length ≤ 1) ∧ env = [some (PV.obj i), some (PV.int many), some (PV.str "abcdefghijklmnopqrstuvwxyz"), none, none, none, none, none, none, none, none, none, v] ∧ BoxOk a b ∧ s = st.set i (box a b),
    ⟨[], none, a, b, rfl, rfl, by simp, rfl, hb, rfl⟩, ?_, ?_⟩
  · rintro k x ys env s hx ⟨xs, v, a, b, rfl, hk, hx1, rfl, hb, rfl⟩
    obtain ⟨_, rfl⟩ := rngL_at hx
    simp_all? only [true_and]
    refine ⟨i, 26, a, b, rfl, hset, hb, by decide, by decide, fun e a b e0 e1 hb => ?_⟩
    obtain ⟨c, hc⟩ := small e e0 e1
    simp_all? only [hc]
    refine ⟨small_l, xs ++ [⟨#[c]⟩], _, a, b, by simp, by simp [hk], fun z hz => ?_, rfl, hb, rfl⟩
    rcases List.mem_append.mp hz with hz | hz
    · exact hx1 z hz
    · rw [List.mem_singleton.mp hz]; exact Nat.le_refl _
  rintro ys env s ⟨xs, v, a, b, rfl, hk, hx1, rfl, hb, rfl⟩
  rw [rngL_len] at hk
  have hsum : (xs.map (·.length)).sum ≤ 1 * xs.length := txtLen xs 1 hx1
  have hz : (xs.map (·.length)).sum + xs.length * (Str.ofString "").length ≤ 6 := by
    rw [show (Str.ofString "").length = 0 by decide +kernel]
    omega
  simp_all? only [rJoin3]
  refine ⟨xs, rfl, Nat.le_trans hz (by decide), ?_⟩
  have hcl : (Txt.join (Str.ofString "") xs).length ≤ 6 := Nat.le_trans (join_len _ _) hz
  generalize Txt.join (Str.ofString "") xs = common at hcl ⊢
  try simp_all? only [true_and]
  refine ⟨thou (by omega), i, _, a, b, rfl, hset, hb, by omega, by omega, fun at' a b a0 a1 hb => ?_⟩
  try simp_all? only [true_and]
  refine ⟨i, 26, a, b, rfl, hset, hb, by decide, by decide, fun first a b f0 f1 hb => ?_⟩
  try simp_all? only [true_and]
  refine ⟨i, 4, a, b, rfl, hset, hb, by decide, by decide, fun stp a b t0 t1 hb => ?_⟩
  obtain ⟨z, ez, z1⟩ : ∃ z : Int, atI [PV.int 1, .int 3, .int 5, .int 7] stp = some (.int z) ∧ Stp z := by
    have : stp = 0 ∨ stp = 1 ∨ stp = 2 ∨ stp = 3 := by omega
    rcases this with rfl | rfl | rfl | rfl
    · exact ⟨1, rfl, .inl rfl⟩
    · exact ⟨3, rfl, .inr (.inl rfl)⟩
    · exact ⟨5, rfl, .inr (.inr (.inl rfl))⟩
    · exact ⟨7, rfl, .inr (.inr (.inr rfl))⟩
  simp_all? only [ez]
  refine ⟨i, 3, a, b, rfl, hset, hb, by decide, by decide, fun lg a b g0 g1 hb => ?_⟩
  try simp_all? only [true_and]
  refine ⟨⟨by omega, by omega⟩, ?_⟩
  have hsl : (st.set i (box a b)).length = st.length := List.length_set
  refine for_by (fun k env s => ∃ (ws : List Str) (v3 v10 v11 : Option PV), env = [some (PV.obj i), some (PV.int many), some (PV.str "abcdefghijklmnopqrstuvwxyz"), v3, some (.str common), some (.int at'), some (.int first), some (.int z), some (.int lg), some (.obj (st.set i (box a b)).length), v10, v11] ∧ ws.length = k ∧ (∀ w ∈ ws, w.length ≤ 20) ∧ Ltr (Txt.slice common none (some at')).length first z ws ∧ s = st.set i (box a b) ++ [.lst (ws.map PV.str)])
    ⟨[], none, none, none, rfl, rfl, by simp, fun m w h => by simp at h, rfl⟩ ?_ ?_
  · rintro k x env s hx ⟨ws, v3, v10, v11, rfl, hwl, hw, hL, rfl⟩
    obtain ⟨hk2, rfl⟩ := rngL_at hx
    have hc := letter_at (d := (first + z * (0 + (k : Int))) % 26) (Int.emod_nonneg _ (by decide)) (Int.emod_lt_of_pos _ (by decide))
    obtain ⟨c, hcc⟩ : ∃ c : Nat, c = 97 + ((first + z * (0 + (k : Int))) % 26).toNat := ⟨_, rfl⟩
    rw [← hcc] at hc
    simp_all? only [hc, List.length_map]
    have lc : (⟨#[c]⟩ : Str).length = 1 := rfl
    refine ⟨.inr ⟨by omega, by omega⟩, small_l, thou (by omega), fun l1 => ⟨thou (by omega), thou (by omega), fun l2 => ⟨thou (by rw [Str.length_append]; omega), ?_⟩⟩⟩
    obtain ⟨word, ew⟩ : ∃ word : Str, word = Txt.slice common none (some at') ++ ⟨#[c]⟩ ++ Txt.slice common (some at') none := ⟨_, rfl⟩
    have lw : word.length ≤ 13 := by rw [ew, Str.length_append, Str.length_append]; omega
    rw [← ew]
    have h2 : (0 + (k : Int) + lg) % 3 / 2 = 0 ∨ (0 + (k : Int) + lg) % 3 / 2 = 1 := by omega
    have done : ∀ zt : Str, zt.length ≤ 1 → word.length + zt.length ≤ sizeLine ∧ ws.length < sizeLine ∧ ∃ (ws' : List Str) (v3 v10 v11 : Option PV), [some (PV.obj i), some (PV.int many), some (PV.str "abcdefghijklmnopqrstuvwxyz"), some (PV.int (0 + k)), some (.str common), some (.int at'), some (.int first), some (.int z), some (.int lg), some (.obj (st.set i (box a b)).length), some (PV.str ⟨#[c]⟩), some (PV.str word)] = [some (PV.obj i), some (PV.int many), some (PV.str "abcdefghijklmnopqrstuvwxyz"), v3, some (.str common), some (.int at'), some (.int first), some (.int z), some (.int lg), some (.obj (st.set i (box a b)).length), v10, v11] ∧ ws'.length = k + 1 ∧ (∀ w ∈ ws', w.length ≤ 20) ∧ Ltr (Txt.slice common none (some at')).length first z ws' ∧ st.set i (box a b) ++ [PO.lst (ws.map PV.str ++ [.str (word ++ zt)])] = st.set i (box a b) ++ [.lst (ws'.map PV.str)] := fun zz hzz => by
      refine ⟨thou (by omega), Nat.lt_of_lt_of_le (m := 1000) (by omega) (by decide), ws ++ [word ++ zz], _, _, _, rfl, by simp [hwl], fun y hy => ?_, hL.snoc hwl (by rw [ew, ← hcc]; exact mid_at), by simp⟩
      rcases List.mem_append.mp hy with hy | hy
      · exact hw y hy
      · rw [List.mem_singleton.mp hy, Str.length_append]; omega
    rcases h2 with h2 | h2
    · rw [h2]
      simp_all? only [true_and]
      exact done _ (by decide +kernel)
    · rw [h2]
      simp_all? only [Int.one_ne_zero, if_false]
      exact done _ (by decide +kernel)
  · rintro env s ⟨ws, v3, v10, v11, rfl, hwl, hw, hL, rfl⟩
    rw [rngL_len] at hwl
    simp_all? only [true_and]
    rw [show Exit st.length Q = Exit ((st.set i (box a b)).length + 0) Q by rw [hsl]; rfl, exit_f]
    exact q ws _ first z a b (by omega) hw (Nat.lt_of_le_of_lt (Txt.slice_le common none (some at')) (by omega)) z1 hL hb
theorem ok_L_change {f : Addr} {fd : FuncData} (M : Mo K mg) (F : Fun K "_law_change" "_law_change" sL_change f fd) : FnOk P w K mg base CX0 2 f fd ["_law_box_here", "_law_p", "_law_q", "_law_new"] (sp2 K spChange) := by
  obtain ⟨fL_take, fdL_take, FL_take, bL_take, mL_take⟩ := M._law_take
  have GL_take : FnOk P w K mg base CX0 1 fL_take fdL_take ["_law_box_here", "_law_many"] (sp2 K spTake) := ok_L_take M FL_take
  refine ok3 0 F scL_change (fun xs st Q h => by obtain ⟨i, p, q, new, a, b, rfl, _⟩ := h; rfl) ⟨_, fun cdv A outer s H E hr => have hr1 : Room 1 _ := hr.mono (by decide); (qss_cons (qs_set (i := 4) scL_change.nd rfl (Or.inl rfl) (q_op o_add (qv 1) (q_call GL_take hr1 (by rfl) mL_take FL_take.kp bL_take (qa_cons (qv 0) (qa_cons (q_op o_sub (qv 2) (qv 1)) qa_nil)))))
      (qss_cons (qs_set (i := 5) scL_change.nd rfl (Or.inl rfl) (q_op o_add (q_op o_add (qv 4) q_int) (q_call GL_take hr1 (by rfl) mL_take FL_take.kp bL_take (qa_cons (qv 0) (qa_cons (q_op o_sub (qv 2) (qv 4)) qa_nil)))))
      (qss_cons (qs_set (i := 6) scL_change.nd rfl (Or.inl rfl) (q_call GL_take hr1 (by rfl) mL_take FL_take.kp bL_take (qa_cons (qv 0) (qa_cons q_int qa_nil))))
      (qss_cons (qs_if (qt_cmp (o_eq hr) (qv 6) q_int (nomark _)) (qss_one (qs_ret (q_tup (qa_cons (qv 4) (qa_cons (qv 5) (qa_cons (q_tup qa_nil) qa_nil)))))) qss_nil)
      (qss_cons (qs_if (qt_cmp (o_eq hr) (qv 6) q_int (nomark _)) (qss_one (qs_ret (q_tup (qa_cons (qv 4) (qa_cons (qv 4) (qa_cons (q_tup (qa_cons (qv 3) qa_nil)) qa_nil)))))) qss_nil)
      (qss_one (qs_ret (q_tup (qa_cons (qv 4) (qa_cons (qv 5) (qa_cons (q_slice (q_tup (qa_cons (qv 3) (qa_cons (q_op o_add (qv 3) q_str) qa_nil))) qo_none (qo_some (q_op o_add q_int (q_call GL_take hr1 (by rfl) mL_take FL_take.kp bL_take (qa_cons (qv 0) (qa_cons q_int qa_nil)))))) qa_nil))))))))))), fun xs st Q h => ?_⟩
  obtain ⟨i, p, q', new, a, b, rfl, hi, hb, hpq, hq, hn, q⟩ := h
  have hset : ∀ {a b : Int}, (st.set i (box a b))[i]? = some (box a b) := fun {a b} => get_set hi
  have thou : ∀ {n : Nat}, n ≤ 1000 → n ≤ sizeLine := fun h => Nat.le_trans h (by decide)
  refine seq_step ?_
  try simp? only [true_and]
  refine ⟨i, (q' : Int) - (p : Int), a, b, rfl, hi, hb, by omega, by omega, fun d a b d0 d1 hb => ?_⟩
  obtain ⟨A, hA⟩ : ∃ A : Nat, (A : Int) = (p : Int) + d := ⟨p + d.toNat, by omega⟩
  try simp? only [← hA]
  refine seq_step ?_
  try simp? only [true_and]
  refine ⟨i, (q' : Int) - (A : Int), a, b, rfl, hset, hb, by omega, by omega, fun e a b e0 e1 hb => ?_⟩
  obtain ⟨B, hB⟩ : ∃ B : Nat, (B : Int) = (A : Int) + 1 + e := ⟨A + 1 + e.toNat, by omega⟩
  try simp? only [← hB, set_set]
  refine seq_step ?_
  try simp? only [true_and]
  refine ⟨i, 3, a, b, rfl, hset, hb, by decide, by decide, fun f a b f0 f1 hb => ?_⟩
  try simp? only [set_set]
  refine seq_step ?_
  by_cases h0 : f = 0
  · subst h0
    try simp? only [beq_self_eq_true]
    exact q (A, B, []) a b ⟨by show p ≤ A; omega, by show A < q'; omega, by show A ≤ B; omega, by show B ≤ q'; omega, fun _ => by show A < B; omega, by show 0 ≤ 2; omega⟩ (fun x hx => by cases hx) hb
  have n0 : (f == 0) = false := by simpa using h0
  try simp? only [n0]
  refine seq_step ?_
  by_cases h1 : f = 1
  · subst h1
    try simp? only [beq_self_eq_true]
    exact q (A, A, [new]) a b ⟨by show p ≤ A; omega, by show A < q'; omega, by show A ≤ A; omega, by show A ≤ q'; omega, fun z => (by cases z), by show 1 ≤ 2; omega⟩ (fun x hx => .inl (List.mem_singleton.mp hx)) hb
  have n1 : (f == 1) = false := by simpa using h1
  try simp? only [n1]
  refine ⟨thou (by have : (Str.ofString "z").length = 1 := by decide +kernel
                   omega), ?_⟩
  refine ⟨i, 2, a, b, rfl, hset, hb, by decide, by decide, fun g a b g0 g1 hb => ?_⟩
  try simp? only [set_set]
  have hg : g = 0 ∨ g = 1 := by omega
  rcases hg with rfl | rfl
  · exact q (A, B, [new]) a b ⟨by show p ≤ A; omega, by show A < q'; omega, by show A ≤ B; omega, by show B ≤ q'; omega, fun z => (by cases z), by show 1 ≤ 2; omega⟩ (fun x hx => .inl (List.mem_singleton.mp hx)) hb
  · refine q (A, B, [new, new ++ "z"]) a b ⟨by show p ≤ A; omega, by show A < q'; omega, by show A ≤ B; omega, by show B ≤ q'; omega, fun z => (by cases z), by show 2 ≤ 2; omega⟩ (fun x hx => ?_) hb
    rcases List.mem_cons.mp hx with hx | hx
    · exact .inl hx
    · exact .inr (List.mem_singleton.mp hx)
theorem ok_L_with {f : Addr} {fd : FuncData} (M : Mo K mg) (F : Fun K "_law_with" "_law_with" sL_with f fd) : FnOk P w K mg base CX0 1 f fd ["_law_was", "_law_changes"] (sp2 K spWith) := by
  refine ok3 0 F scL_with (fun xs st Q h => by obtain ⟨w, cs, rfl, _⟩ := h; rfl) ⟨_, fun cdv A outer s H E hr => (qss_cons (qs_set (i := 2) scL_with.nd rfl (Or.inl rfl) (q_tup qa_nil))
      (qss_cons (qs_set (i := 3) scL_with.nd rfl (Or.inl rfl) q_int)
      (qss_cons (qs_for PassesOwn.never rfl (qi_any (qv 1)) (qg_tup (n := 3) rfl (qgs_cons (qg_name (i := 4) scL_with.nd rfl (Or.inl rfl)) (qgs_cons (qg_name (i := 5) scL_with.nd rfl (Or.inl rfl)) (qgs_cons (qg_name (i := 6) scL_with.nd rfl (Or.inl rfl)) qgs_nil)))) (qss_cons (qs_set (i := 2) scL_with.nd rfl (Or.inl rfl) (q_op o_add (q_op o_add (qv 2) (q_slice (qv 0) (qo_some (qv 3)) (qo_some (qv 4)))) (qv 6)))
      (qss_one (qs_set (i := 3) scL_with.nd rfl (Or.inl rfl) (qv 5)))))
      (qss_one (qs_ret (q_op o_add (qv 2) (q_slice (qv 0) (qo_some (qv 3)) qo_none))))))), fun xs st Q h => ?_⟩
  obtain ⟨ws, cs, rfl, hw, hc, hu, q⟩ := h
  have thou : ∀ {n : Nat}, n ≤ 1000 → n ≤ sizeLine := fun h => Nat.le_trans h (by decide)
  refine seq_step ?_
  try simp? only [true_and]
  refine seq_step ?_
  try simp? only [true_and]
  refine seq_step ?_
  try simp? only [true_and]
  refine for_by (fun k env s => ∃ (f : List Str) (m : Nat) (v4 v5 v6 : Option PV), env = [some (rowP ws), some (.lst (cs.map chP)), some (rowP f), some (.int (m : Nat)), v4, v5, v6] ∧ s = st ∧ f.length ≤ 30 * k ∧ f ++ gl ws m (cs.drop k) = gl ws 0 cs) ⟨[], 0, none, none, none, rfl, rfl, by simp, rfl⟩ ?_ ?_
  · rintro k x env s hx ⟨f, m, v4, v5, v6, rfl, rfl, hf, hg⟩
    obtain ⟨⟨a, b, u⟩, hk, rfl⟩ := map_at hx
    have hkl := (List.getElem?_eq_some_iff.mp hk).1
    have hu2 := hu _ (List.mem_iff_getElem?.mpr ⟨k, hk⟩)
    change u.length ≤ 2 at hu2
    have hl : ((ws.take a).drop m).length ≤ 20 := by rw [List.length_drop, List.length_take]; omega
    have ed : cs.drop k = (a, b, u) :: cs.drop (k + 1) := by
      rw [List.drop_eq_getElem_cons hkl, (List.getElem?_eq_some_iff.mp hk).2]
    rw [ed] at hg
    try simp? only [true_and]
    refine seq_step ?_
    try simp? only [cutP_mid, ← List.map_drop, ← List.map_take, ← List.map_append, List.length_map, List.length_append]
    refine ⟨thou (by omega), thou (by omega), ?_⟩
    try simp? only [true_and]
    exact ⟨f ++ (ws.take a).drop m ++ u, b, _, _, _, rfl, by simp only [List.length_append]; omega, by rw [← hg]; simp only [gl, List.append_assoc]⟩
  · rintro env s ⟨f, m, v4, v5, v6, rfl, rfl, hf, hg⟩
    rw [List.length_map] at hf hg
    rw [List.drop_length] at hg
    try simp? only [cutP_from, ← List.map_drop, ← List.map_append, List.length_map, List.length_drop]
    refine ⟨thou (by omega), ?_⟩
    rw [show f ++ ws.drop m = gl ws 0 cs from hg]
    exact q
theorem nd2 : (["_law_script", "_law_box_here", "_law_some", "_law_many", "_law_was", "_law_k", "_law_cuts", "_law_changes", "_law_low", "_law_high", "_law_mine", "_law_yours", "_law_found", "_law_change_here", "_law_word"] : List Str).Nodup := by decide +kernel
theorem nd3 : (["_law_script", "_law_box_here", "_law_some", "_law_many", "_law_was", "?5", "_law_cuts", "_law_changes", "_law_low", "_law_high", "_law_mine", "_law_yours", "_law_found", "_law_change_here", "_law_k"] : List Str).Nodup := by decide +kernel
theorem ok_law {f : Addr} {fd : FuncData} (M : Mo K mg) (F : Fun K "law" "law" slaw f fd) : FnOk P w K mg base CX0 5 f fd ["_law_script"] (sp2 K spLaw) := by
  obtain ⟨fjoined, fdjoined, Fjoined, bjoined, mjoined⟩ := M.joined
  have Gjoined : FnOk P w K mg base CX0 4 fjoined fdjoined ["manner", "was", "mine", "yours", "wrote"] (sp2 K spJoin) := ok_joined M Fjoined
  obtain ⟨fL_box, fdL_box, FL_box, bL_box, mL_box⟩ := M._law_box
  have GL_box : FnOk P w K mg base CX0 1 fL_box fdL_box ["_law_script", "_law_k"] (sp2 K spBox) := ok_L_box M FL_box
  obtain ⟨fL_take, fdL_take, FL_take, bL_take, mL_take⟩ := M._law_take
  have GL_take : FnOk P w K mg base CX0 1 fL_take fdL_take ["_law_box_here", "_law_many"] (sp2 K spTake) := ok_L_take M FL_take
  obtain ⟨fL_pool, fdL_pool, FL_pool, bL_pool, mL_pool⟩ := M._law_pool
  have GL_pool : FnOk P w K mg base CX0 2 fL_pool fdL_pool ["_law_box_here", "_law_many"] (sp2 K spPool) := ok_L_pool M FL_pool
  obtain ⟨fL_is_row, fdL_is_row, FL_is_row, bL_is_row, mL_is_row⟩ := M._law_is_row
  have GL_is_row : FnOk P w K mg base CX0 1 fL_is_row fdL_is_row ["_law_found", "_law_due"] (sp2 K spIR) := ok_L_is_row M FL_is_row
  obtain ⟨fL_change, fdL_change, FL_change, bL_change, mL_change⟩ := M._law_change
  have GL_change : FnOk P w K mg base CX0 2 fL_change fdL_change ["_law_box_here", "_law_p", "_law_q", "_law_new"] (sp2 K spChange) := ok_L_change M FL_change
  obtain ⟨fL_with, fdL_with, FL_with, bL_with, mL_with⟩ := M._law_with
  have GL_with : FnOk P w K mg base CX0 1 fL_with fdL_with ["_law_was", "_law_changes"] (sp2 K spWith) := ok_L_with M FL_with
  refine ok3 0 F sclaw (fun xs st Q h => by obtain ⟨ns, rfl, _⟩ := h; rfl) ⟨_, fun cdv A outer s H E hr => have hr1 : Room 1 _ := hr.mono (by decide); have hr2 : Room 2 _ := hr.mono (by decide); have hr4 : Room 4 _ := hr.mono (by decide); (qss_cons (qs_set (i := 1) sclaw.nd rfl (Or.inr rfl) (q_call GL_box hr1 (by rfl) mL_box FL_box.kp bL_box (qa_cons (qv 0) (qa_cons q_int qa_nil))))
      (qss_cons (qs_setC (i0 := 2) (own := ["_law_word"]) (comp_scope (fsc := defScope slaw) (N := ["_law_script", "_law_box_here", "_law_some", "_law_many", "_law_was", "_law_k", "_law_cuts", "_law_changes", "_law_low", "_law_high", "_law_mine", "_law_yours", "_law_found", "_law_change_here"]) (N' := ["_law_script", "_law_box_here", "_law_some", "_law_many", "_law_was", "_law_k", "_law_cuts", "_law_changes", "_law_low", "_law_high", "_law_mine", "_law_yours", "_law_found", "_law_change_here"]) rfl rfl (by decide +kernel)) sclaw.nd rfl (Or.inl rfl) rfl (qi_any (q_call GL_pool hr2 (by rfl) mL_pool FL_pool.kp bL_pool (qa_cons (qv 1) (qa_cons q_int qa_nil)))) (fun C s H fp pins => (qg_name (i := 14) nd2 rfl (Or.inl rfl))) (fun C s H fp pins => qf_nil) (fun C s H fp pins => (q_slice (qv 14) qo_none (qo_some q_int))))
      (qss_cons (qs_set (i := 3) sclaw.nd rfl (Or.inr rfl) (q_op o_add q_int (q_call GL_take hr1 (by rfl) mL_take FL_take.kp bL_take (qa_cons (qv 1) (qa_cons q_int qa_nil)))))
      (qss_cons (qs_set (i := 4) sclaw.nd rfl (Or.inl rfl) (q_callTy (o_tuple rfl) (by rfl) M.tuple boot_tuple' (qa_cons (q_slice (qv 2) qo_none (qo_some (qv 3))) qa_nil)))
      (qss_cons (qs_set (i := 6) sclaw.nd rfl (Or.inl rfl) (q_sortSet rfl (by rfl) M.sorted (by rfl) M.set (q_op o_add (q_lst (qa_cons q_int (qa_cons (qv 3) qa_nil))) (q_comp (own := ["_law_k"]) (comp_scope (fsc := defScope slaw) (N := ["_law_script", "_law_box_here", "_law_some", "_law_many", "_law_was", "_law_k", "_law_cuts", "_law_changes", "_law_low", "_law_high", "_law_mine", "_law_yours", "_law_found", "_law_change_here"]) (N' := ["_law_script", "_law_box_here", "_law_some", "_law_many", "_law_was", "?5", "_law_cuts", "_law_changes", "_law_low", "_law_high", "_law_mine", "_law_yours", "_law_found", "_law_change_here"]) rfl rfl (by decide +kernel)) rfl (qi_rng1 (by rfl) M.range (qa_cons q_int qa_nil)) (fun C s H fp pins => (qg_name (i := 14) nd3 rfl (Or.inl rfl))) (fun C s H fp pins => qf_nil) (fun C s H fp pins => (q_op o_add q_int (q_call GL_take hr1 (by rfl) mL_take FL_take.kp bL_take (qa_cons (qv 1) (qa_cons (q_op o_sub (qv 3) q_int) qa_nil)))))))))
      (qss_cons (qs_set (i := 7) sclaw.nd rfl (Or.inl rfl) (q_lstO qa_nil))
      (qss_cons (qs_for PassesOwn.never rfl (qi_rng1 (by rfl) M.range (qa_cons (q_op o_sub (q_callB o_len (by rfl) M.len PySem.boot_len (qa_cons (qv 6) qa_nil)) q_int) qa_nil)) (qg_name (i := 5) sclaw.nd rfl (Or.inl rfl)) (qss_one (qs_expr (q_bm PySem.F.plainAttrs_list PySem.F.slot_list_append PySem.F.type_list_append (by decide) o_append (qv 7) (qa_cons (q_call GL_change hr2 (by rfl) mL_change FL_change.kp bL_change (qa_cons (q_call GL_box hr1 (by rfl) mL_box FL_box.kp bL_box (qa_cons (qv 0) (qa_cons (q_op o_add q_int (qv 5)) qa_nil))) (qa_cons (q_ix (o_ix hr) (qv 6) (qv 5) (fun _ _ => rfl)) (qa_cons (q_ix (o_ix hr) (qv 6) (q_op o_add (qv 5) q_int) (fun _ _ => rfl)) (qa_cons (q_ix (o_ix hr) (qv 2) (q_op o_add (qv 3) (q_op o_mul q_int (qv 5))) (fun _ _ => rfl)) qa_nil))))) qa_nil)))))
      (qss_cons (qs_set (i := 1) sclaw.nd rfl (Or.inr rfl) (q_call GL_box hr1 (by rfl) mL_box FL_box.kp bL_box (qa_cons (qv 0) (qa_cons q_int qa_nil))))
      (qss_cons (qs_set (i := 8) sclaw.nd rfl (Or.inl rfl) (q_call GL_take hr1 (by rfl) mL_take FL_take.kp bL_take (qa_cons (qv 1) (qa_cons (q_callB o_len (by rfl) M.len PySem.boot_len (qa_cons (qv 7) qa_nil)) qa_nil))))
      (qss_cons (qs_set (i := 9) sclaw.nd rfl (Or.inl rfl) (q_op o_add (qv 8) q_int))
      (qss_cons (qs_set (i := 10) sclaw.nd rfl (Or.inl rfl) (q_call GL_with hr1 (by rfl) mL_with FL_with.kp bL_with (qa_cons (qv 4) (qa_cons (q_sliceO (qv 7) (qo_some (qv 8)) (qo_some (qv 9))) qa_nil))))
      (qss_cons (qs_while PassesOwn.never (qt_cmp o_lt (q_op o_sub (qv 9) (qv 8)) (q_callB o_len (by rfl) M.len PySem.boot_len (qa_cons (qv 7) qa_nil)) (nomark _)) (qss_cons (qs_if (PW.pt (qw_and (qt_cmp o_gt (qv 8) q_int (nomark _)) (qw_and1 (PW.pt (qw_or (qt_cmp (o_eq hr) (qv 9) (q_callB o_len (by rfl) M.len PySem.boot_len (qa_cons (qv 7) qa_nil)) (nomark _)) (qw_or1 (qt_cmp (o_eq hr) (q_call GL_take hr1 (by rfl) mL_take FL_take.kp bL_take (qa_cons (qv 1) (qa_cons q_int qa_nil))) q_int (nomark _)))))))) (qss_cons (qs_set (i := 8) sclaw.nd rfl (Or.inl rfl) (q_op o_sub (qv 8) q_int))
      (qss_one (qs_set (i := 11) sclaw.nd rfl (Or.inl rfl) (q_call GL_with hr1 (by rfl) mL_with FL_with.kp bL_with (qa_cons (qv 4) (qa_cons (q_sliceO (qv 7) (qo_some (qv 8)) (qo_some (q_op o_add (qv 8) q_int))) qa_nil)))))) (qss_cons (qs_set (i := 9) sclaw.nd rfl (Or.inl rfl) (q_op o_add (qv 9) q_int))
      (qss_one (qs_set (i := 11) sclaw.nd rfl (Or.inl rfl) (q_call GL_with hr1 (by rfl) mL_with FL_with.kp bL_with (qa_cons (qv 4) (qa_cons (q_sliceO (qv 7) (qo_some (q_op o_sub (qv 9) q_int)) (qo_some (qv 9))) qa_nil)))))))
      (qss_cons (qs_set (i := 12) sclaw.nd rfl (Or.inl rfl) (q_call Gjoined hr4 (by rfl) mjoined Fjoined.kp bjoined (qa_cons (q_tup (qa_cons q_str qa_nil)) (qa_cons (qv 4) (qa_cons (qv 10) (qa_cons (qv 11) (qa_cons q_bl qa_nil)))))))
      (qss_cons (qs_if (qt_not (qt_tru (q_call GL_is_row hr1 (by rfl) mL_is_row FL_is_row.kp bL_is_row (qa_cons (qv 12) (qa_cons (q_call GL_with hr1 (by rfl) mL_with FL_with.kp bL_with (qa_cons (qv 4) (qa_cons (q_sliceO (qv 7) (qo_some (qv 8)) (qo_some (qv 9))) qa_nil))) qa_nil))))) (qss_one (qs_ret q_bl)) qss_nil)
      (qss_cons (qs_if (qt_not (qt_tru (q_call GL_is_row hr1 (by rfl) mL_is_row FL_is_row.kp bL_is_row (qa_cons (q_call Gjoined hr4 (by rfl) mjoined Fjoined.kp bjoined (qa_cons (q_tup (qa_cons q_str qa_nil)) (qa_cons (qv 4) (qa_cons (qv 11) (qa_cons (qv 10) (qa_cons q_bl qa_nil)))))) (qa_cons (qv 12) qa_nil))))) (qss_one (qs_ret q_bl)) qss_nil)
      (qss_one (qs_set (i := 10) sclaw.nd rfl (Or.inl rfl) (qv 12))))))))
      (qss_cons (qs_for PassesOwn.never rfl (qi_any (q_sliceO (qv 7) (qo_some q_int) (qo_some (q_op o_sub (q_callB o_len (by rfl) M.len PySem.boot_len (qa_cons (qv 7) qa_nil)) q_int)))) (qg_name (i := 13) sclaw.nd rfl (Or.inl rfl)) (qss_one (qs_if (qt_cmp o_notN (q_call Gjoined hr4 (by rfl) mjoined Fjoined.kp bjoined (qa_cons (q_tup (qa_cons q_str qa_nil)) (qa_cons (qv 4) (qa_cons (qv 10) (qa_cons (q_call GL_with hr1 (by rfl) mL_with FL_with.kp bL_with (qa_cons (qv 4) (qa_cons (q_lst (qa_cons (qv 13) qa_nil)) qa_nil))) (qa_cons q_bl qa_nil)))))) q_non (nomark _)) (qss_one (qs_ret q_bl)) qss_nil)))
      (qss_one (qs_ret q_bl))))))))))))))), fun xs st Q h => ?_⟩
  obtain ⟨ns, rfl, rfl, hl, q⟩ := h
  have thou : ∀ {n : Nat}, n ≤ 1000 → n ≤ sizeLine := fun h => Nat.le_trans h (by decide)
  refine seq_step ?_
  try simp? only [true_and]
  refine ⟨ns, 0, rfl, hl, by decide, fun a b hb => ?_⟩
  try simp? only [true_and]
  refine seq_step ?_
  try simp? only [true_and]
  refine ⟨0, 26, a, b, rfl, rfl, hb, by decide, by decide, fun ws n first stp a b hwl hw20 hn hs hL hb => ?_⟩
  try simp? only [true_and]
  refine comp_pure f7 (fun j x e hx he => ?_) ?_
  · obtain ⟨w, hw, rfl⟩ := map_at hx
    obtain ⟨y, rfl⟩ := len1 he
    have := hw20 w (List.mem_iff_getElem?.mpr ⟨j, hw⟩)
    try simp? only [true_and]
    exact ⟨thou (by omega), fun _ => CP.yes (e' := [_]) hx rfl rfl⟩
  rw [f7_all]
  have hU := hL.c7 hn
  have hul : (ws.map c7).length = 26 := by rw [List.length_map]; omega
  have hu20 : ∀ w ∈ ws.map c7, w.length ≤ 20 := fun w h => by
    obtain ⟨v, hv, rfl⟩ := List.mem_map.mp h
    exact Nat.le_trans (Txt.slice_le v none (some 7)) (hw20 v hv)
  generalize ws.map c7 = us at hU hul hu20 ⊢
  have hnd := hU.nodup hs (by omega)
  try simp? only [true_and]
  refine seq_step ?_
  try simp? only [true_and]
  refine ⟨0, 10, a, b, rfl, rfl, hb, by decide, by decide, fun d a b d0 d1 hb => ?_⟩
  obtain ⟨m, hm⟩ : ∃ m : Nat, (m : Int) = 8 + d := ⟨8 + d.toNat, by omega⟩
  try simp? only [← hm]
  refine seq_step ?_
  try simp? only [cutP_upto, ← List.map_take]
  refine seq_step ?_
  try simp? only [vSortSet]
  refine ⟨fun k ys env s => ∃ (xs : List Int) (v : Option PV) (a b : Int), ys = xs.map PV.int ∧ xs.length = k ∧ (∀ x ∈ xs, 1 ≤ x ∧ x < m) ∧ env = [some (.lst (ns.map PV.int)), some (.obj 0), some (.lst (us.map PV.str)), some (.int (m : Nat)), some (rowP (us.take m)), none, none, none, none, none, none, none, none, none, v] ∧ BoxOk a b ∧ s = [box a b], ⟨[], none, a, b, rfl, rfl, by simp, rfl, hb, rfl⟩, ?_, ?_⟩
  · rintro k x ys env s hx ⟨xs, v, a, b, rfl, hk, hx1, rfl, hb, rfl⟩
    obtain ⟨_, rfl⟩ := rngL_at hx
    try simp? only [true_and]
    refine ⟨0, (m : Int) - 1, a, b, rfl, rfl, hb, by omega, by omega, fun e a b e0 e1 hb => ?_⟩
    try simp? only [true_and]
    refine ⟨xs ++ [1 + e], _, a, b, by simp, by simp [hk], fun z hz => ?_, rfl, hb, rfl⟩
    rcases List.mem_append.mp hz with hz | hz
    · exact hx1 z hz
    · rw [List.mem_singleton.mp hz]; omega
  rintro ys env s ⟨xs, v, a, b, rfl, hk, hx1, rfl, hb, rfl⟩
  rw [rngL_len] at hk
  have hk3 : xs.length = 3 := hk
  refine ⟨thou (by rw [List.length_map]; omega), 0 :: (m : Int) :: xs, rfl, by rw [List.length_cons, List.length_cons]; omega, fun cs hpw hmem hle => ?_⟩
  have c0 : ∀ c ∈ cs, 0 ≤ c ∧ c ≤ m := fun c hc => by
    have := (hmem c).mp hc
    rw [List.mem_cons, List.mem_cons] at this
    rcases this with rfl | rfl | h
    · omega
    · omega
    · have := hx1 c h; omega
  have cl5 : cs.length ≤ 5 := by rw [List.length_cons, List.length_cons] at hle; omega
  have cl2 : 2 ≤ cs.length := by
    obtain ⟨i, hi⟩ := List.mem_iff_getElem?.mp ((hmem 0).mpr (by simp))
    obtain ⟨j, hj⟩ := List.mem_iff_getElem?.mp ((hmem (m : Int)).mpr (by simp))
    have h1 := (List.getElem?_eq_some_iff.mp hi).1
    have h2 := (List.getElem?_eq_some_iff.mp hj).1
    have h3 : i ≠ j := fun e => by rw [e, hj] at hi; injection hi; omega
    omega
  have hm17 : m ≤ 17 := by omega
  have hm8 : 8 ≤ m := by omega
  clear hmem hle hx1 hk hk3 d0 d1
  try simp? only [true_and]
  refine seq_step ?_
  try simp? only [true_and]
  refine seq_step ?_
  try simp? only [List.length_map]
  refine ⟨⟨by omega, by omega⟩, ?_⟩
  refine for_by (fun k env s => ∃ (ds : List Ch) (v5 : Option PV) (rest : Sto), env = [some (.lst (ns.map PV.int)), some (.obj 0), some (.lst (us.map PV.str)), some (.int (m : Nat)), some (rowP (us.take m)), v5, some (.lst (cs.map PV.int)), some (.obj 1), none, none, none, none, none, none] ∧ ds.length = k ∧ ChAt us m cs ds ∧ s = box a b :: .lst (ds.map chP) :: rest) ⟨[], none, [], rfl, rfl, fun i c h => (by simp at h), rfl⟩ ?_ ?_
  · rintro k x env s hx ⟨ds, v5, rest, rfl, hdl, hD, rfl⟩
    obtain ⟨hk2, rfl⟩ := rngL_at hx
    have g1 : cs[k]? = some cs[k] := List.getElem?_eq_getElem (by omega)
    have g2 : cs[k + 1]? = some cs[k + 1] := List.getElem?_eq_getElem (by omega)
    have g3 : us[m + 2 * k]? = some us[m + 2 * k] := List.getElem?_eq_getElem (by omega)
    have lt12 := List.pairwise_iff_getElem.mp hpw k (k + 1) (by omega) (by omega) (by omega)
    have nn1 := c0 _ (List.mem_iff_getElem?.mpr ⟨_, g1⟩)
    have nn2 := c0 _ (List.mem_iff_getElem?.mpr ⟨_, g2⟩)
    have hn3 := hu20 _ (List.mem_iff_getElem?.mpr ⟨_, g3⟩)
    generalize cs[k] = pI at g1 lt12 nn1
    generalize cs[k + 1] = qI at g2 lt12 nn2
    generalize us[m + 2 * k] = new at g3 hn3
    obtain ⟨p, rfl⟩ : ∃ p : Nat, pI = p := ⟨pI.toNat, by omega⟩
    obtain ⟨q', rfl⟩ : ∃ p : Nat, qI = p := ⟨qI.toNat, by omega⟩
    have r1 : atI (cs.map PV.int) (0 + (k : Int)) = some (.int (p : Nat)) := by rw [Int.zero_add]; exact int_at g1
    have r2 : atI (cs.map PV.int) (0 + (k : Int) + 1) = some (.int (q' : Nat)) := by rw [Int.zero_add]; exact int_at g2
    have r3 : atI (us.map PV.str) ((m : Int) + 2 * (0 + (k : Int))) = some (.str new) := by
      rw [Int.zero_add, show (m : Int) + 2 * (k : Int) = ((m + 2 * k : Nat) : Int) by omega]; exact str_at g3
    try simp? only [true_and]
    refine ⟨ns, 1 + (0 + (k : Int)), rfl, hl, by omega, fun a' b' hb' => ?_⟩
    try simp? only [r1, r2, r3]
    refine ⟨rest.length + 1 + 1, p, q', new, a', b', rfl, by simp, hb', by omega, by omega, hn3, fun c a2 b2 hin hx hb2 => ?_⟩
    try simp? only [true_and]
    refine ⟨Nat.lt_of_lt_of_le (m := 1000) (by rw [List.length_map]; omega) (by decide), ds ++ [c], _, rest ++ [box a2 b2], rfl, by simp [hdl], hD.snoc hdl g1 g2 hin g3 hx, by simp⟩
  rintro env s ⟨ds, v5, rest, rfl, hdl, hD, rfl⟩
  rw [rngL_len] at hdl
  have D := hD.dn hU hs hul hpw c0 hm17
  have hu2 : ∀ c ∈ ds, c.2.2.length ≤ 2 := fun c hc => by
    obtain ⟨i, hi⟩ := List.mem_iff_getElem?.mp hc
    obtain ⟨_, _, _, _, _, hin, _⟩ := hD i c hi
    exact hin.2.2.2.2.2
  have hwl : (us.take m).length ≤ 17 := by rw [List.length_take]; omega
  have d1 : 1 ≤ ds.length := by omega
  have d4 : ds.length ≤ 4 := by omega
  obtain ⟨w', hw'⟩ : ∃ w', w' = us.take m := ⟨_, rfl⟩
  rw [← hw'] at D hwl ⊢
  have cu : ∀ l h : Nat, ((ds.take h).drop l).length ≤ 4 ∧ (∀ c ∈ (ds.take h).drop l, c.2.2.length ≤ 2) := fun l h => ⟨by rw [List.length_drop, List.length_take]; omega, fun c hc => hu2 c (List.mem_of_mem_take (List.mem_of_mem_drop hc))⟩
  have gll : ∀ l : List Ch, l.length ≤ 4 → (∀ c ∈ l, c.2.2.length ≤ 2) → (gl w' 0 l).length ≤ 100 := fun l h1 h2 => by
    have h3 := gl_len (w := w') l 0 h2
    have h4 : (w'.length + 2) * l.length ≤ 19 * 4 := Nat.mul_le_mul (by omega) h1
    omega
  clear hD hU hL hpw c0 hnd hdl
  generalize hv2 : some (PV.lst (us.map PV.str)) = v2
  generalize hv6 : some (PV.lst (cs.map PV.int)) = v6
  generalize hv3 : some (PV.int (m : Nat)) = v3
  try simp? only [true_and]
  refine seq_step ?_
  try simp? only [true_and]
  refine ⟨ns, 5, rfl, hl, by decide, fun a1 b1 hb1 => ?_⟩
  try simp? only [true_and]
  refine seq_step ?_
  try simp? only [List.length_map]
  refine ⟨rest.length + 1 + 1, (ds.length : Int), a1, b1, rfl, by simp, hb1, by omega, by omega, fun l a1 b1 l0 l1 hb1 => ?_⟩
  obtain ⟨l, rfl⟩ : ∃ n : Nat, l = n := ⟨l.toNat, by omega⟩
  obtain ⟨h, hh⟩ : ∃ h : Nat, (h : Int) = (l : Int) + 1 := ⟨l + 1, by omega⟩
  try simp? only [true_and]
  refine seq_step ?_
  try simp? only [← hh]
  refine seq_step ?_
  try simp? only [vSlO, rSlO]
  refine ⟨1, _, rfl, rfl, ?_⟩
  rw [cutP_mid, ← List.map_take, ← List.map_drop]
  refine ⟨w', (ds.take h).drop l, rfl, by omega, (cu l h).1, (cu l h).2, ?_⟩
  try simp? only [true_and]
  refine seq_step ?_
  have hS : Sofar w' ds l h (gl w' 0 ((ds.take h).drop l)) := by
    have : h = l + 1 := by omega
    subst this
    exact Sofar.one D (by omega)
  refine while_by (WL (some (.lst (ns.map PV.int))) v2 v3 v5 v6 (box a b) rest w' ds) _ ⟨l, h, _, _, _, a1, b1, rfl, hS, hb1, by simp, rfl⟩ ?_
  rintro mm env s ⟨l, h, x, v11, v12, a1, b1, rfl, hS, hb1, rfl, rfl⟩
  obtain ⟨s1, s2, s3, _⟩ := id hS
  have hxl : x.length ≤ 100 := by rw [s3]; exact gll _ (cu l h).1 (cu l h).2
  try simp? only [List.length_map]
  by_cases hlt : (h : Int) - (l : Int) < (ds.length : Int)
  · rw [if_pos (decide_eq_true hlt)]
    refine ⟨fun e s => ∃ m', m' < ds.length - (h - l) ∧ WL (some (.lst (ns.map PV.int))) v2 v3 v5 v6 (box a b) rest w' ds m' e s, fun e s z => z, ?_⟩
    refine seq_cut (fun env s => ∃ (l' h' : Nat) (y : List Str) (a1 b1 : Int), env = [some (.lst (ns.map PV.int)), some (.obj (rest.length + 1 + 1)), v2, v3, some (rowP w'), v5, v6, some (.obj 1), some (.int (l' : Nat)), some (.int (h' : Nat)), some (rowP x), some (rowP y), v12, none] ∧ BoxOk a1 b1 ∧ s = box a b :: .lst (ds.map chP) :: (rest ++ [box a1 b1]) ∧ three w' x y = some (gl w' 0 ((ds.take h').drop l')) ∧ Sofar w' ds l' h' (gl w' 0 ((ds.take h').drop l')) ∧ y.length ≤ 100 ∧ ds.length - (h' - l') < ds.length - (h - l)) (fun N hN => ?_) ?_
    · refine test_cut (fun t s => ∃ a1 b1 : Int, BoxOk a1 b1 ∧ s = box a b :: .lst (ds.map chP) :: (rest ++ [box a1 b1]) ∧ (t = true → 0 < l) ∧ (t = false → h < ds.length)) (fun M hM => ?_) ?_
      · try simp? only [List.length_map]
        by_cases l0 : 0 < l
        · have e1 : decide ((0 : Int) < (l : Int)) = true := decide_eq_true (by omega)
          try simp? only [e1]
          by_cases hh : (h : Int) = (ds.length : Int)
          · have e2 : ((h : Int) == (ds.length : Int)) = true := by rw [hh]; exact beq_self_eq_true _
            try simp? only [e2]
            exact hM _ _ ⟨a1, b1, hb1, rfl, fun _ => l0, fun z => by cases z⟩
          · have e2 : ((h : Int) == (ds.length : Int)) = false := by simpa using hh
            try simp? only [e2]
            refine ⟨rest.length + 1 + 1, 2, a1, b1, rfl, by simp, hb1, by decide, by decide, fun g a1 b1 g0 g1 hb1 => ?_⟩
            try simp? only [true_and]
            exact hM _ _ ⟨a1, b1, hb1, by simp, fun _ => l0, fun _ => by omega⟩
        · have e1 : decide ((0 : Int) < (l : Int)) = false := decide_eq_false (by omega)
          try simp? only [e1]
          exact hM _ _ ⟨a1, b1, hb1, rfl, fun z => (by cases z), fun _ => by omega⟩
      · rintro t s ⟨a1, b1, hb1, rfl, t1, t2⟩
        cases t with
        | true =>
          rw [if_pos rfl]
          have t3 := t1 rfl
          obtain ⟨l', hl'⟩ : ∃ l' : Nat, (l' : Int) = (l : Int) - 1 := ⟨l - 1, by omega⟩
          have hS2 : Sofar w' ds (l' + 1) h x := by rw [show l' + 1 = l by omega]; exact hS
          obtain ⟨hT, hS'⟩ := hS2.low D
          obtain ⟨k, hk⟩ : ∃ k : Nat, (k : Int) = (l' : Int) + 1 := ⟨l' + 1, by omega⟩
          refine seq_step ?_
          try simp? only [← hl']
          try simp? only [vSlO, rSlO, ← hk]
          refine ⟨1, _, rfl, rfl, ?_⟩
          rw [cutP_mid, ← List.map_take, ← List.map_drop]
          refine ⟨w', (ds.take k).drop l', rfl, by omega, (cu l' k).1, (cu l' k).2, ?_⟩
          have : k = l' + 1 := by omega
          subst this
          exact hN _ _ ⟨l', h, _, a1, b1, rfl, hb1, rfl, hT, hS', gll _ (cu _ _).1 (cu _ _).2, by omega⟩
        | false =>
          rw [if_neg (by decide)]
          have hlt2 := t2 rfl
          obtain ⟨hT, hS'⟩ := hS.high D hlt2
          obtain ⟨k, hk⟩ : ∃ k : Nat, (k : Int) = (h : Int) + 1 := ⟨h + 1, by omega⟩
          have e0 : (k : Int) - 1 = (h : Int) := by omega
          refine seq_step ?_
          try simp? only [← hk]
          try simp? only [vSlO, rSlO, e0]
          refine ⟨1, _, rfl, rfl, ?_⟩
          rw [cutP_mid, ← List.map_take, ← List.map_drop]
          refine ⟨w', (ds.take k).drop h, rfl, by omega, (cu h k).1, (cu h k).2, ?_⟩
          have : k = h + 1 := by omega
          subst this
          exact hN _ _ ⟨l, h + 1, _, a1, b1, rfl, hb1, rfl, hT, hS', gll _ (cu _ _).1 (cu _ _).2, by omega⟩
    · rintro env s ⟨l', h', y, a1, b1, rfl, hb1, rfl, hT, hS', hyl, hmm⟩
      have hT2 := (three_comm w' x y).trans hT
      have hfl := gll _ (cu l' h').1 (cu l' h').2
      obtain ⟨f, hf⟩ : ∃ f, f = gl w' 0 ((ds.take h').drop l') := ⟨_, rfl⟩
      rw [← hf] at hT hT2 hS' hfl
      have ed : decide (some f = some f) = true := decide_eq_true rfl
      refine seq_step ?_
      try simp? only [true_and]
      refine ⟨w', x, y, rfl, by omega, hxl, hyl, ?_⟩
      rw [hT]
      try simp? only [true_and]
      refine seq_step ?_
      try simp? only [vSlO, rSlO]
      refine ⟨1, _, rfl, rfl, ?_⟩
      rw [cutP_mid, ← List.map_take, ← List.map_drop]
      refine ⟨w', (ds.take h').drop l', rfl, by omega, (cu l' h').1, (cu l' h').2, ?_⟩
      rw [← hf]
      refine ⟨some f, some f, rfl, fun g hg => by cases hg; omega, ?_⟩
      try simp? only [ed]
      refine seq_step ?_
      try simp? only [true_and]
      refine ⟨w', y, x, rfl, by omega, hyl, hxl, ?_⟩
      rw [hT2]
      refine ⟨some f, some f, rfl, fun g hg => by cases hg; omega, ?_⟩
      try simp? only [ed]
      exact ⟨_, hmm, l', h', f, _, _, a1, b1, rfl, hS', hb1, rfl, rfl⟩
  rw [if_neg (by simpa using hlt)]
  have z1 : l = 0 := by omega
  have z2 : h = ds.length := by omega
  subst z1 z2
  obtain ⟨e, he⟩ : ∃ e : Nat, (e : Int) = (ds.length : Int) - 1 := ⟨ds.length - 1, by omega⟩
  try simp? only [true_and]
  refine seq_step ?_
  try simp? only [vSlO, rSlO, List.length_map, ← he]
  refine ⟨1, _, rfl, rfl, ?_⟩
  rw [show ((1 : Int)) = ((1 : Nat) : Int) from rfl, cutP_mid, ← List.map_take, ← List.map_drop]
  refine for_by (fun k env s => ∃ v13 : Option PV, env = [some (.lst (ns.map PV.int)), some (.obj (rest.length + 1 + 1)), v2, v3, some (rowP w'), v5, v6, some (.obj 1), some (.int (0 : Nat)), some (.int (ds.length : Nat)), some (rowP x), v11, v12, v13] ∧ s = box a b :: .lst (ds.map chP) :: (rest ++ [box a1 b1])) ⟨none, rfl, rfl⟩ ?_ ?_
  · rintro k y env s hx ⟨v13, rfl, rfl⟩
    obtain ⟨c, hc, rfl⟩ := map_at hx
    rw [List.getElem?_drop, List.getElem?_take] at hc
    split at hc
    · have hcl := hS.clash D hc (by omega) (by omega)
      try simp? only [true_and]
      have hc2 := hu2 c (List.mem_iff_getElem?.mpr ⟨_, hc⟩)
      refine ⟨w', [c], rfl, by omega, show 1 ≤ 4 by decide, fun d hd => by rw [List.mem_singleton.mp hd]; exact hc2, ?_⟩
      try simp? only [true_and]
      refine ⟨w', x, gl w' 0 [c], rfl, by omega, hxl, gll _ (show 1 ≤ 4 by decide) (fun d hd => by rw [List.mem_singleton.mp hd]; exact hc2), ?_⟩
      rw [hcl]
      try simp? only [true_and]
      exact ⟨_, rfl⟩
    · cases hc
  · rintro env s ⟨v13, rfl, rfl⟩
    try simp? only [true_and]
    exact q
end
theorem blen2 {us : List Value} (h : us.length = 2) : ∃ x0 x1, us = [x0, x1] := by
  rcases us with _ | ⟨x0, _ | ⟨x1, _ | ⟨y, us⟩⟩⟩ <;> first | exact ⟨x0, x1, rfl⟩ | (simp at h; done)
theorem blen3 {us : List Value} (h : us.length = 3) : ∃ x0 x1 x2, us = [x0, x1, x2] := by
  rcases us with _ | ⟨x0, _ | ⟨x1, _ | ⟨x2, _ | ⟨y, us⟩⟩⟩⟩ <;> first | exact ⟨x0, x1, x2, rfl⟩ | (simp at h; done)
theorem blen4 {us : List Value} (h : us.length = 4) : ∃ x0 x1 x2 x3, us = [x0, x1, x2, x3] := by
  rcases us with _ | ⟨x0, _ | ⟨x1, _ | ⟨x2, _ | ⟨x3, _ | ⟨y, us⟩⟩⟩⟩⟩ <;> first | exact ⟨x0, x1, x2, x3, rfl⟩ | (simp at h; done)
theorem blen5 {us : List Value} (h : us.length = 5) : ∃ x0 x1 x2 x3 x4, us = [x0, x1, x2, x3, x4] := by
  rcases us with _ | ⟨x0, _ | ⟨x1, _ | ⟨x2, _ | ⟨x3, _ | ⟨x4, _ | ⟨y, us⟩⟩⟩⟩⟩⟩ <;> first | exact ⟨x0, x1, x2, x3, x4, rfl⟩ | (simp at h; done)
theorem all_mk {l : PySem.W.OpenLaw} {w : World} {K : PySem.W.Frag} {h : Heap} {mg : Str → Option Value}  {fa c0 T f1 f2 f3 f4 f5 f6 f7 f8 f9 f10 f11 f12 f13 : Addr} (X : K.In h) (G : h.Ns mainGlobals mg) (hfa : mg "law" = some (.ref fa))
    {od1 an1 od2 an2 od3 an3 od4 an4 od5 an5 od6 an6 od7 an7 od8 an8 od9 an9 od10 an10 od11 an11 od12 an12 od13 an13 : Option Addr} {sl1 sl2 sl3 sl4 sl5 sl6 sl7 sl8 sl9 sl10 sl11 sl12 sl13 : Array (Option Value)} {oc1 kV1 dc1 pm1 cd1 ct1 oc2 kV2 dc2 pm2 cd2 ct2 oc3 kV3 dc3 pm3 cd3 ct3 oc4 kV4 dc4 pm4 cd4 ct4 oc5 kV5 dc5 pm5 cd5 ct5 oc6 kV6 dc6 pm6 cd6 ct6 oc7 kV7 dc7 pm7 cd7 ct7 oc8 kV8 dc8 pm8 cd8 ct8 oc9 kV9 dc9 pm9 cd9 ct9 oc10 kV10 dc10 pm10 cd10 ct10 oc11 kV11 dc11 pm11 cd11 ct11 oc12 kV12 dc12 pm12 ct12 oc13 kV13 dc13 pm13 cd13 ct13 : Value}
    {odc : Option Addr} {slc : Array (Option Value)} {vsc : Array Value} {t18 t7 t10 : Tok} {x18 : Str} {x7 x10 : Int} {x9 : Bool}
    (a1 : PySem.W.nsIn K mainGlobals "joined" = some (some (.ref f1))) (l1 : K.lookup f1 = some ⟨oc1, od1, .func (PySem.W.fnOf "joined" "joined" (defArgs sjoined) (defBody sjoined) (defScope sjoined) .none kV1 dc1 pm1 an1 cd1 ct1), sl1⟩) (c1 : PySem.W.codeIn K cd1 "joined" = true) (k1 : PySem.W.keepIn K (.ref f1) = true)
    (a2 : PySem.W.nsIn K mainGlobals "rows_by_three" = some (some (.ref f2))) (l2 : K.lookup f2 = some ⟨oc2, od2, .func (PySem.W.fnOf "rows_by_three" "rows_by_three" (defArgs srows_by_three) (defBody srows_by_three) (defScope srows_by_three) .none kV2 dc2 pm2 an2 cd2 ct2), sl2⟩) (c2 : PySem.W.codeIn K cd2 "rows_by_three" = true) (k2 : PySem.W.keepIn K (.ref f2) = true)
    (a3 : PySem.W.nsIn K mainGlobals "row_change" = some (some (.ref f3))) (l3 : K.lookup f3 = some ⟨oc3, od3, .func (PySem.W.fnOf "row_change" "row_change" (defArgs srow_change) (defBody srow_change) (defScope srow_change) .none kV3 dc3 pm3 an3 cd3 ct3), sl3⟩) (c3 : PySem.W.codeIn K cd3 "row_change" = true) (k3 : PySem.W.keepIn K (.ref f3) = true)
    (a4 : PySem.W.nsIn K mainGlobals "many_alike" = some (some (.ref f4))) (l4 : K.lookup f4 = some ⟨oc4, od4, .func (PySem.W.fnOf "many_alike" "many_alike" (defArgs smany_alike) (defBody smany_alike) (defScope smany_alike) .none kV4 dc4 pm4 an4 cd4 ct4), sl4⟩) (c4 : PySem.W.codeIn K cd4 "many_alike" = true) (k4 : PySem.W.keepIn K (.ref f4) = true)
    (a5 : PySem.W.nsIn K mainGlobals "with_changes" = some (some (.ref f5))) (l5 : K.lookup f5 = some ⟨oc5, od5, .func (PySem.W.fnOf "with_changes" "with_changes" (defArgs swith_changes) (defBody swith_changes) (defScope swith_changes) .none kV5 dc5 pm5 an5 cd5 ct5), sl5⟩) (c5 : PySem.W.codeIn K cd5 "with_changes" = true) (k5 : PySem.W.keepIn K (.ref f5) = true)
    (a6 : PySem.W.nsIn K mainGlobals "_law_box" = some (some (.ref f6))) (l6 : K.lookup f6 = some ⟨oc6, od6, .func (PySem.W.fnOf "_law_box" "_law_box" (defArgs sL_box) (defBody sL_box) (defScope sL_box) .none kV6 dc6 pm6 an6 cd6 ct6), sl6⟩) (c6 : PySem.W.codeIn K cd6 "_law_box" = true) (k6 : PySem.W.keepIn K (.ref f6) = true)
    (a7 : PySem.W.nsIn K mainGlobals "_law_take" = some (some (.ref f7))) (l7 : K.lookup f7 = some ⟨oc7, od7, .func (PySem.W.fnOf "_law_take" "_law_take" (defArgs sL_take) (defBody sL_take) (defScope sL_take) .none kV7 dc7 pm7 an7 cd7 ct7), sl7⟩) (c7 : PySem.W.codeIn K cd7 "_law_take" = true) (k7 : PySem.W.keepIn K (.ref f7) = true)
    (a8 : PySem.W.nsIn K mainGlobals "_law_pool" = some (some (.ref f8))) (l8 : K.lookup f8 = some ⟨oc8, od8, .func (PySem.W.fnOf "_law_pool" "_law_pool" (defArgs sL_pool) (defBody sL_pool) (defScope sL_pool) .none kV8 dc8 pm8 an8 cd8 ct8), sl8⟩) (c8 : PySem.W.codeIn K cd8 "_law_pool" = true) (k8 : PySem.W.keepIn K (.ref f8) = true)
    (a9 : PySem.W.nsIn K mainGlobals "_law_is_row" = some (some (.ref f9))) (l9 : K.lookup f9 = some ⟨oc9, od9, .func (PySem.W.fnOf "_law_is_row" "_law_is_row" (defArgs sL_is_row) (defBody sL_is_row) (defScope sL_is_row) .none kV9 dc9 pm9 an9 cd9 ct9), sl9⟩) (c9 : PySem.W.codeIn K cd9 "_law_is_row" = true) (k9 : PySem.W.keepIn K (.ref f9) = true)
    (a10 : PySem.W.nsIn K mainGlobals "_law_change" = some (some (.ref f10))) (l10 : K.lookup f10 = some ⟨oc10, od10, .func (PySem.W.fnOf "_law_change" "_law_change" (defArgs sL_change) (defBody sL_change) (defScope sL_change) .none kV10 dc10 pm10 an10 cd10 ct10), sl10⟩) (c10 : PySem.W.codeIn K cd10 "_law_change" = true) (k10 : PySem.W.keepIn K (.ref f10) = true)
    (a11 : PySem.W.nsIn K mainGlobals "_law_with" = some (some (.ref f11))) (l11 : K.lookup f11 = some ⟨oc11, od11, .func (PySem.W.fnOf "_law_with" "_law_with" (defArgs sL_with) (defBody sL_with) (defScope sL_with) .none kV11 dc11 pm11 an11 cd11 ct11), sl11⟩) (c11 : PySem.W.codeIn K cd11 "_law_with" = true) (k11 : PySem.W.keepIn K (.ref f11) = true)
    (a12 : PySem.W.nsIn K mainGlobals "value_of_three" = some (some (.ref f12))) (l12 : K.lookup f12 = some ⟨oc12, od12, .func (PySem.W.fnOf "value_of_three" "value_of_three" (defArgs svalue_of_three) (defBody svalue_of_three) (defScope svalue_of_three) .none kV12 dc12 pm12 an12 (.ref c0) ct12), sl12⟩) (c12 : PySem.W.codeIn K (.ref c0) "value_of_three" = true) (k12 : PySem.W.keepIn K (.ref f12) = true)
    (a13 : PySem.W.nsIn K mainGlobals "law" = some (some (.ref f13))) (l13 : K.lookup f13 = some ⟨oc13, od13, .func (PySem.W.fnOf "law" "law" (defArgs slaw) (defBody slaw) (defScope slaw) .none kV13 dc13 pm13 an13 cd13 ct13), sl13⟩) (c13 : PySem.W.codeIn K cd13 "law" = true) (k13 : PySem.W.keepIn K (.ref f13) = true)
    (zn0 : PySem.W.nsIn K mainGlobals "len" = some none)
    (zn1 : PySem.W.nsIn K mainGlobals "int" = some none)
    (zn2 : PySem.W.nsIn K mainGlobals "range" = some none)
    (zn3 : PySem.W.nsIn K mainGlobals "tuple" = some none)
    (zn4 : PySem.W.nsIn K mainGlobals "isinstance" = some none)
    (zn5 : PySem.W.nsIn K mainGlobals "bool" = some none)
    (zn6 : PySem.W.nsIn K mainGlobals "str" = some none)
    (zn7 : PySem.W.nsIn K mainGlobals "dict" = some none)
    (zn8 : PySem.W.nsIn K mainGlobals "list" = some none)
    (zn9 : PySem.W.nsIn K mainGlobals "sorted" = some none)
    (zn10 : PySem.W.nsIn K mainGlobals "min" = some none)
    (zn11 : PySem.W.nsIn K mainGlobals "all" = some none)
    (zn12 : PySem.W.nsIn K mainGlobals "reversed" = some none)
    (zn13 : PySem.W.nsIn K mainGlobals "set" = some none)
    (lc : K.lookup c0 = some ⟨.type "code", odc, .fields vsc, slc⟩) (v11 : vsc[11]? = some (.ref T)) (v18 : vsc.getD 18 .none = .str x18 t18) (v7 : vsc.getD 7 .none = .int x7 t7) (v9 : vsc.getD 9 .none = .bool x9) (v10 : vsc.getD 10 .none = .int x10 t10) (ncT : (c0 != T) = true) (lT : K.lookup T = none) :
    ∃ (fd : FuncData) (c0 T : Addr), PySem.W.tabIn K "value_of_three" = some (c0, T) ∧ K.lookup T = none ∧ (∀ (s : Shared) (v : Value), BindsTo s fd ⟨[v], []⟩ [("_law_script", v)]) ∧ ∀ base : Heap, K.In base → base.Ns mainGlobals mg → base.BuiltinsAt mg T → FnOk l.prog w K mg base CX0 5 fa fd ["_law_script"] (sp2 K spLaw) := by
  have e := hfa.symm.trans (PySem.W.mg_of X G a13)
  cases e
  have F1 := fun_mk (st := sjoined) l1 c1 k1
  have F2 := fun_mk (st := srows_by_three) l2 c2 k2
  have F3 := fun_mk (st := srow_change) l3 c3 k3
  have F4 := fun_mk (st := smany_alike) l4 c4 k4
  have F5 := fun_mk (st := swith_changes) l5 c5 k5
  have F6 := fun_mk (st := sL_box) l6 c6 k6
  have F7 := fun_mk (st := sL_take) l7 c7 k7
  have F8 := fun_mk (st := sL_pool) l8 c8 k8
  have F9 := fun_mk (st := sL_is_row) l9 c9 k9
  have F10 := fun_mk (st := sL_change) l10 c10 k10
  have F11 := fun_mk (st := sL_with) l11 c11 k11
  have F12 := fun_mk (st := svalue_of_three) l12 c12 k12
  have F13 := fun_mk (st := slaw) l13 c13 k13
  have b1 := F1.binds (ps := ["manner", "was", "mine", "yours", "wrote"]) fun _ _ _ _ _ _ us hl => by obtain ⟨x0, x1, x2, x3, x4, rfl⟩ := blen5 hl; rfl
  have m1 := PySem.W.mg_of X G a1
  have b2 := F2.binds (ps := ["was", "mine", "yours"]) fun _ _ _ _ _ _ us hl => by obtain ⟨x0, x1, x2, rfl⟩ := blen3 hl; rfl
  have m2 := PySem.W.mg_of X G a2
  have b3 := F3.binds (ps := ["was", "other"]) fun _ _ _ _ _ _ us hl => by obtain ⟨x0, x1, rfl⟩ := blen2 hl; rfl
  have m3 := PySem.W.mg_of X G a3
  have b4 := F4.binds (ps := ["one", "other"]) fun _ _ _ _ _ _ us hl => by obtain ⟨x0, x1, rfl⟩ := blen2 hl; rfl
  have m4 := PySem.W.mg_of X G a4
  have b5 := F5.binds (ps := ["was", "first", "second"]) fun _ _ _ _ _ _ us hl => by obtain ⟨x0, x1, x2, rfl⟩ := blen3 hl; rfl
  have m5 := PySem.W.mg_of X G a5
  have b6 := F6.binds (ps := ["_law_script", "_law_k"]) fun _ _ _ _ _ _ us hl => by obtain ⟨x0, x1, rfl⟩ := blen2 hl; rfl
  have m6 := PySem.W.mg_of X G a6
  have b7 := F7.binds (ps := ["_law_box_here", "_law_many"]) fun _ _ _ _ _ _ us hl => by obtain ⟨x0, x1, rfl⟩ := blen2 hl; rfl
  have m7 := PySem.W.mg_of X G a7
  have b8 := F8.binds (ps := ["_law_box_here", "_law_many"]) fun _ _ _ _ _ _ us hl => by obtain ⟨x0, x1, rfl⟩ := blen2 hl; rfl
  have m8 := PySem.W.mg_of X G a8
  have b9 := F9.binds (ps := ["_law_found", "_law_due"]) fun _ _ _ _ _ _ us hl => by obtain ⟨x0, x1, rfl⟩ := blen2 hl; rfl
  have m9 := PySem.W.mg_of X G a9
  have b10 := F10.binds (ps := ["_law_box_here", "_law_p", "_law_q", "_law_new"]) fun _ _ _ _ _ _ us hl => by obtain ⟨x0, x1, x2, x3, rfl⟩ := blen4 hl; rfl
  have m10 := PySem.W.mg_of X G a10
  have b11 := F11.binds (ps := ["_law_was", "_law_changes"]) fun _ _ _ _ _ _ us hl => by obtain ⟨x0, x1, rfl⟩ := blen2 hl; rfl
  have m11 := PySem.W.mg_of X G a11
  have b12 := F12.binds (ps := ["term", "was", "mine", "yours"]) fun _ _ _ _ _ _ us hl => by obtain ⟨x0, x1, x2, x3, rfl⟩ := blen4 hl; rfl
  have m12 := PySem.W.mg_of X G a12
  have M : Mo K mg := ⟨PySem.W.mg_none_of X G zn0, PySem.W.mg_none_of X G zn1, PySem.W.mg_none_of X G zn2, PySem.W.mg_none_of X G zn3, PySem.W.mg_none_of X G zn4, PySem.W.mg_none_of X G zn5, PySem.W.mg_none_of X G zn6, PySem.W.mg_none_of X G zn7, PySem.W.mg_none_of X G zn8, PySem.W.mg_none_of X G zn9, PySem.W.mg_none_of X G zn10, PySem.W.mg_none_of X G zn11, PySem.W.mg_none_of X G zn12, PySem.W.mg_none_of X G zn13, ⟨_, _, F1, b1, m1⟩, ⟨_, _, F2, b2, m2⟩, ⟨_, _, F3, b3, m3⟩, ⟨_, _, F4, b4, m4⟩, ⟨_, _, F5, b5, m5⟩, ⟨_, _, F6, b6, m6⟩, ⟨_, _, F7, b7, m7⟩, ⟨_, _, F8, b8, m8⟩, ⟨_, _, F9, b9, m9⟩, ⟨_, _, F10, b10, m10⟩, ⟨_, _, F11, b11, m11⟩, ⟨_, _, F12, b12, m12⟩⟩
  have hT : PySem.W.tabIn K "value_of_three" = some (c0, T) := by
    unfold PySem.W.tabIn
    rw [a12]
    show (match K.lookup f12 with | some ⟨_, _, .func fd, _⟩ => (match fd.code with | .ref c => (match K.lookup c with | some ⟨_, _, .fields vs, _⟩ => (match (vs[11]? : Option Value) with | some (.ref P) => some (c, P) | _ => none) | _ => none) | _ => none) | _ => none) = _
    rw [l12]
    show (match K.lookup c0 with | some ⟨_, _, .fields vs, _⟩ => (match (vs[11]? : Option Value) with | some (.ref P) => some (c0, P) | _ => none) | _ => none) = _
    rw [lc]
    show (match (vsc[11]? : Option Value) with | some (.ref P) => some (c0, P) | _ => none) = _
    rw [v11]
  exact ⟨PySem.W.fnOf "law" "law" (defArgs slaw) (defBody slaw) (defScope slaw) .none kV13 dc13 pm13 an13 cd13 ct13, c0, T, hT, lT, fun s v => .of_eq rfl, fun base _ _ _ => ok_law M F13⟩
theorem law_in {K : PySem.W.Frag} {H : Hp} {a : Addr} {ns : List Int} (hl : ns.length ≤ 63) (hS : SqL K H a (ns.map V.int)) {E : XK} : sp2 K spLaw [.ref a] H (fun v _ => v = .bl true) E := by
  refine ⟨[], [], [.lst (ns.map PV.int)], fun r _ => r = .bl true, ⟨by simp, rfl, fun i a o h => by cases h⟩, .cons (.val (.lst (hS.imp (fun h => ⟨h, by simp⟩) id) ?_ (int_rvs ns))) .nil, ⟨ns, rfl, rfl, hl, rfl⟩, fun A' H' st' r v g s e q => ?_⟩
  · rw [List.length_map]; exact Nat.le_trans hl (by decide)
  · subst q; exact bls_of e
theorem walk {l : PySem.W.OpenLaw} {q : Program} {loose : List Str} {XP : (Str → Option Value) → Heap → Prop} {YP : World → Heap → Prop} {d : DefRec} {K : Params → PySem.W.Frag} (hn : l.most = some 63) (hdf : d.params.defaults = []) (hrec : ∃ e, (PyProof.Rows.recsOf q).find? (fun e => e.name == ("value_of_three" : Str)) = some e)
    (hY : ∀ (w : World) (h : Heap), YP w h → (K w.params).In h)
    (F : ∀ (w : World) (mg : Str → Option Value) (fa : Addr) (h : Heap), (K w.params).In h → h.Ns mainGlobals mg → mg d.name = some (.ref fa) →
      ∃ (fd : FuncData) (c0 T : Addr), PySem.W.tabIn (K w.params) "value_of_three" = some (c0, T) ∧ (K w.params).lookup T = none ∧ (∀ (s : Shared) (u : Value), BindsTo s fd ⟨[u], []⟩ [("_law_script", u)]) ∧ ∀ base : Heap, (K w.params).In base → base.Ns mainGlobals mg → base.BuiltinsAt mg T → FnOk l.prog w (K w.params) mg base CX0 5 fa fd ["_law_script"] (sp2 (K w.params) spLaw)) :
    PySem.W.WalkO q loose XP YP l.row.toRowW d [] (fun f vs => PySem.call f vs) :=
  L2.walk_ofT (n := 63) (k := 5) (x := "_law_script") (tn := "value_of_three") (sp := fun _ w => sp2 (K w.params) spLaw) hn (by decide) hdf ⟨rfl, by decide, by decide⟩ hrec hY F (fun _ _ _ a ns hl _ hS => law_in hl hS)
end N26
open PySem PySem.W PyProof.Rows
set_option maxRecDepth 100000 in
set_option maxHeartbeats 0 in
theorem PySem.Challenge.cw_copiedhouse_k26_whole_changes_joined_out_holds : PySem.Challenge.rw_copiedhouse_k26_whole_changes_joined_out.Holds := by
  w_on; o_law; k_head; (case hw => w_witness2)
  k_fill
  refine N26.walk (l := PySem.Challenge.rw_copiedhouse_k26_whole_changes_joined_out) rfl rfl ⟨_, rfl⟩ (fun w h Y => PySem.W.km_in_of Y) ?F
  case F =>
    intro w mg fa h KX G hmg
    refine' N26.all_mk KX G hmg ?a1_ ?l1_ ?c1_ ?k1_ ?a2_ ?l2_ ?c2_ ?k2_ ?a3_ ?l3_ ?c3_ ?k3_ ?a4_ ?l4_ ?c4_ ?k4_ ?a5_ ?l5_ ?c5_ ?k5_ ?a6_ ?l6_ ?c6_ ?k6_ ?a7_ ?l7_ ?c7_ ?k7_ ?a8_ ?l8_ ?c8_ ?k8_ ?a9_ ?l9_ ?c9_ ?k9_ ?a10_ ?l10_ ?c10_ ?k10_ ?a11_ ?l11_ ?c11_ ?k11_ ?a12_ ?l12_ ?c12_ ?k12_ ?a13_ ?l13_ ?c13_ ?k13_ ?zn0_ ?zn1_ ?zn2_ ?zn3_ ?zn4_ ?zn5_ ?zn6_ ?zn7_ ?zn8_ ?zn9_ ?zn10_ ?zn11_ ?zn12_ ?zn13_ ?lc_ ?v11_ ?v18_ ?v7_ ?v9_ ?v10_ ?ncT_ ?lT_
    (case a1_ => k_is)
    (case l1_ => k_is)
    (case c1_ => k_is)
    (case k1_ => k_is)
    (case a2_ => k_is)
    (case l2_ => k_is)
    (case c2_ => k_is)
    (case k2_ => k_is)
    (case a3_ => k_is)
    (case l3_ => k_is)
    (case c3_ => k_is)
    (case k3_ => k_is)
    (case a4_ => k_is)
    (case l4_ => k_is)
    (case c4_ => k_is)
    (case k4_ => k_is)
    (case a5_ => k_is)
    (case l5_ => k_is)
    (case c5_ => k_is)
    (case k5_ => k_is)
    (case a6_ => k_is)
    (case l6_ => k_is)
    (case c6_ => k_is)
    (case k6_ => k_is)
    (case a7_ => k_is)
    (case l7_ => k_is)
    (case c7_ => k_is)
    (case k7_ => k_is)
    (case a8_ => k_is)
    (case l8_ => k_is)
    (case c8_ => k_is)
    (case k8_ => k_is)
    (case a9_ => k_is)
    (case l9_ => k_is)
    (case c9_ => k_is)
    (case k9_ => k_is)
    (case a10_ => k_is)
    (case l10_ => k_is)
    (case c10_ => k_is)
    (case k10_ => k_is)
    (case a11_ => k_is)
    (case l11_ => k_is)
    (case c11_ => k_is)
    (case k11_ => k_is)
    (case a12_ => k_is)
    (case l12_ => k_is)
    (case c12_ => k_is)
    (case k12_ => k_is)
    (case a13_ => k_is)
    (case l13_ => k_is)
    (case c13_ => k_is)
    (case k13_ => k_is)
    (case zn0_ => k_is)
    (case zn1_ => k_is)
    (case zn2_ => k_is)
    (case zn3_ => k_is)
    (case zn4_ => k_is)
    (case zn5_ => k_is)
    (case zn6_ => k_is)
    (case zn7_ => k_is)
    (case zn8_ => k_is)
    (case zn9_ => k_is)
    (case zn10_ => k_is)
    (case zn11_ => k_is)
    (case zn12_ => k_is)
    (case zn13_ => k_is)
    (case lc_ => k_is)
    (case v11_ => rfl)
    (case v18_ => rfl)
    (case v7_ => rfl)
    (case v9_ => rfl)
    (case v10_ => rfl)
    (case ncT_ => first | rfl | decide | k_is)
    (case lT_ => first | k_is | rfl)
