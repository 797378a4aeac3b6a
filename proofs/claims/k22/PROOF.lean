import PyProof.Rows.All
import Wide.All
import OpenK.AllK
import Wide.FinOn
import Lean
import PyProof.EqAt
import PyProof.EqKinds
import PyProof.TupleCall
import PyProof.NeKinds
import KE.KRevIter
import PyProof.EnumStmt
import PyProof.StationsW
import PyProof.ExcClass3
import PyProof.InstStoreFacts
import PyProof.StrCalls
import PyProof.StrCalls2
import PyProof.StrWalks
import PyProof.StrBlockG
import PyProof.ConsumeWalk
import PyProof.StrOps2
import KE.KIntText
import KE.IntTextText
import PyProof.JoinWalk
import PyProof.CollectIter
import PyProof.StrLawsTight
import PyProof.StrLawsChain
import PyProof.Conv_int_bool
import PyProof.MinMaxWalk
import PyProof.WalksMore
import PyProof.WalkInts
import PyProof.ZipIter
import PySem.Challenge.RW_heightfractions_k22_tables_of_moments
set_option Elab.async false
set_option linter.all false
set_option maxRecDepth 100000
set_option maxHeartbeats 4000000
namespace L2
open PySem PySem.Spec PyProof.Rows
abbrev Key := Sum Int Str
def keyIs : Key → Value → Bool
  | .inl k, v => Value.isInt k v
  | .inr x, v => Value.isStrOf x v
def keyH (w : World) : Key → Int
  | .inl k => hashInt k
  | .inr x => hashStr w x
theorem keyIs_shape : ∀ {k : Key} {v : Value}, keyIs k v = true → (∃ i t, k = Sum.inl i ∧ v = Value.int i t) ∨ (∃ x t, k = Sum.inr x ∧ v = Value.str x t)
  | .inl i, v, h => by
    obtain ⟨t, e⟩ := Value.isInt_shape (k := i) (v := v) h
    exact .inl ⟨i, t, rfl, e⟩
  | .inr x, v, h => by
    obtain ⟨t, e⟩ := Value.isStrOf_shape (x := x) (v := v) h
    exact .inr ⟨x, t, rfl, e⟩
theorem key_ll (a b : Int) : decide ((Sum.inl a : Key) = Sum.inl b) = (a == b) := by
  by_cases e : a = b
  · subst e; simp
  · have h : ¬ (Sum.inl a : Key) = Sum.inl b := fun q => e (Sum.inl.inj q)
    rw [decide_eq_false h]
    exact (beq_eq_false_iff_ne.mpr e).symm
theorem key_rr (a b : Str) : decide ((Sum.inr a : Key) = Sum.inr b) = decide (a = b) := by
  by_cases e : a = b
  · subst e; simp
  · have h : ¬ (Sum.inr a : Key) = Sum.inr b := fun q => e (Sum.inr.inj q)
    rw [decide_eq_false h, decide_eq_false e]
theorem key_lr (a : Int) (b : Str) : decide ((Sum.inl a : Key) = Sum.inr b) = false := decide_eq_false (fun q => nomatch q)
theorem key_rl (a : Str) (b : Int) : decide ((Sum.inr a : Key) = Sum.inl b) = false := decide_eq_false (fun q => nomatch q)
def mixKind (prog : Program) (w : World) : PySem.KeyKind prog w Key where
  is := keyIs
  hash := keyH w
  inj := fun v a b ha hb => by
    rcases keyIs_shape ha with ⟨i, t, rfl, rfl⟩ | ⟨x, t, rfl, rfl⟩
    · rcases keyIs_shape hb with ⟨j, u, rfl, e⟩ | ⟨y, u, rfl, e⟩
      · injection e with e1 _; rw [e1]
      · exact nomatch e
    · rcases keyIs_shape hb with ⟨j, u, rfl, e⟩ | ⟨y, u, rfl, e⟩
      · exact nomatch e
      · injection e with e1 _; rw [e1]
  byValue := fun k v h => by
    rcases keyIs_shape h with ⟨i, t, rfl, rfl⟩ | ⟨x, t, rfl, rfl⟩ <;> rfl
  pyHash := fun hv h => by
    rcases keyIs_shape hv with ⟨i, t, rfl, rfl⟩ | ⟨x, t, rfl, rfl⟩
    · exact wpAny_pyHash_int h
    · exact wpAny_pyHash_str h
  eqBool := fun hu hv h => by
    rcases keyIs_shape hu with ⟨i, t, rfl, rfl⟩ | ⟨x, t, rfl, rfl⟩
    · rcases keyIs_shape hv with ⟨j, u, rfl, rfl⟩ | ⟨y, u, rfl, rfl⟩
      · rw [key_ll] at h; exact wpAny_eqBool_int h
      · rw [key_lr] at h; exact SeqAt.EqAt.int_str i t y u _ _ _ _ h
    · rcases keyIs_shape hv with ⟨j, u, rfl, rfl⟩ | ⟨y, u, rfl, rfl⟩
      · rw [key_rl] at h; exact SeqAt.EqAt.str_int x t j u _ _ _ _ h
      · rw [key_rr] at h; exact wpAny_eqBool_str h
  «strs» := fun k x t v h => by
    rcases keyIs_shape h with ⟨i, u, rfl, e⟩ | ⟨y, u, rfl, e⟩
    · exact nomatch e
    · injection e with e1 _
      subst e1
      cases v <;> rfl
end L2
namespace L2
open PySem PySem.Spec PyProof.Rows
inductive V where
  | non | bl (b : Bool) | int (i : Int) | str (x : Str) | byt (b : Array UInt8) | flt (b : UInt64) | ref (a : Addr) | ty (n : String)
  deriving DecidableEq
def RelV : V → Value → Prop
  | .non, u => u = Value.none
  | .bl b, u => u = Value.bool b
  | .int i, u => ∃ t, u = Value.int i t
  | .str x, u => ∃ t, u = Value.str x t
  | .byt b, u => ∃ t, u = Value.bytes b t
  | .flt b, u => ∃ t, u = Value.float b t
  | .ref a, u => u = Value.ref a
  | .ty n, u => u = Value.type n
abbrev Vals : List V → List Value → Prop := Paired RelV
theorem Vals.length {xs : List V} {us : List Value} (r : Vals xs us) : xs.length = us.length := Paired.length r
theorem Vals.get : ∀ {xs : List V} {us : List Value} {i : Nat} {x : V}, Vals xs us → xs[i]? = some x → ∃ u, us[i]? = some u ∧ RelV x u
  | _, _, _, _, .nil, e => by simp at e
  | _, _, 0, _, .cons r _, e => by simp at e; subst e; exact ⟨_, rfl, r⟩
  | _, _, i + 1, x, .cons _ t, e => by
    obtain ⟨u, h1, h2⟩ := Vals.get (i := i) (x := x) t (by simpa using e)
    exact ⟨u, by simpa using h1, h2⟩
theorem Vals.set {x : V} {u : Value} (r : RelV x u) : ∀ {xs : List V} {us : List Value} (i : Nat), Vals xs us → Vals (xs.set i x) (us.set i u)
  | _, _, _, .nil => .nil
  | _, _, 0, .cons _ t => .cons r t
  | _, _, i + 1, .cons q t => .cons q (Vals.set r i t)
theorem Vals.append : ∀ {xs ys : List V} {us ws : List Value}, Vals xs us → Vals ys ws → Vals (xs ++ ys) (us ++ ws)
  | _, _, _, _, .nil, s => s
  | _, _, _, _, .cons r t, s => .cons r (Vals.append t s)
theorem Vals.take : ∀ {xs : List V} {us : List Value} (n : Nat), Vals xs us → Vals (xs.take n) (us.take n)
  | _, _, 0, _ => .nil
  | _, _, _ + 1, .nil => .nil
  | _, _, n + 1, .cons r t => .cons r (Vals.take n t)
theorem Vals.drop : ∀ {xs : List V} {us : List Value} (n : Nat), Vals xs us → Vals (xs.drop n) (us.drop n)
  | _, _, 0, r => r
  | _, _, _ + 1, .nil => .nil
  | _, _, n + 1, .cons _ t => Vals.drop n t
def RelO : Option V → Option Value → Prop
  | some v, some u => RelV v u
  | none, none => True
  | _, _ => False
def KV {κ : Type} : List (κ × V) → List (κ × Value) → Prop := Paired fun (p : κ × V) (q : κ × Value) => p.1 = q.1 ∧ RelV p.2 q.2
def kV : Key → V
  | .inl i => .int i
  | .inr x => .str x
inductive HO where
  | lst (xs : List V)
  | tup (xs : List V)
  | dK (kvs : List (Key × V)) | dT (kvs : List (List Key × V))
  | set (S : Int → Bool) (n : Nat)
  | ins (C dx : Addr) (fs : List (Str × V))
  | own (x : Addr)
  | xd (fs : List (Str × V))
  | met (f x : Addr)
  | rng (lo hi : Int)
  | frz (o : Obj) (u : HO)
  | tbl (ps : Array Value)
  | ext (φ : Heap → Prop)
abbrev Hp := Addr → Option HO
def upd (H : Hp) (a : Addr) (o : HO) : Hp := fun b => if b = a then some o else H b
theorem upd_same {H : Hp} {a : Addr} {o : HO} : upd H a o a = some o := by unfold upd; rw [if_pos rfl]
theorem upd_ne {H : Hp} {a b : Addr} {o : HO} (h : b ≠ a) : upd H a o b = H b := by unfold upd; rw [if_neg h]
theorem ne_of_none {H : Hp} {a b : Addr} {o : HO} (h : H a = some o) (h' : H b = none) : a ≠ b := by
  intro e; subst e; rw [h] at h'; cases h'
section
variable (P : Program) (w : World)
def ObjOk (H : Hp) (h : Heap) (a : Addr) : HO → Prop
  | .lst xs => xs.length ≤ sizeLine ∧ ∃ (its : List Value) (n : Nat), Vals xs its ∧ h.get? a = some { cls := .type "list", data := .seq its.toArray n }
  | .tup xs => xs.length ≤ sizeLine ∧ ∃ its : List Value, Vals xs its ∧ IsTup h a its.toArray
  | .dK kvs => kvs.length ≤ sizeLine ∧ (a == sysModules) = false ∧ ∃ vs, KV kvs vs ∧ h.DictOf (mixKind P w) a vs
  | .dT kvs => kvs.length ≤ sizeLine ∧ (a == sysModules) = false ∧ ∃ xs : List (List Key × Addr × Value),
      Paired (fun (p : List Key × V) (q : List Key × Addr × Value) => p.1 = q.1 ∧ H q.2.1 = some (.tup (p.1.map kV)) ∧ RelV p.2 q.2.2) kvs xs ∧
      ∃ o es ep, h.get? a = some o ∧ o.ExactDict ∧ o.data = .dict es ep ∧ es.toList = xs.map (entryOfKey (tupleKind (mixKind P w))) ∧ (xs.map (·.1)).Nodup
  | .set S n => h.SetOf (intKind P w) a S n
  | .ins C dx fs => H dx = some (.own a) ∧ fs.length ≤ 1000 ∧ dx ≠ a ∧ h.get? a = some (PySem.W.instObj C dx) ∧
      ∃ mA, h.Ns1 dx mA ∧ (∀ f, RelO (fs.lookup f) (mA f)) ∧ PySem.Within mA (fs.map (·.1))
  | .own _ => ∃ o, h.get? a = some o
  | .xd fs => ∃ mA, h.Ns1 a mA ∧ ∀ f, RelO (fs.lookup f) (mA f)
  | .rng lo hi => ∃ t u v, h.get? a = some { cls := .type "range", data := .fields #[.int lo t, .int hi u, .int 1 v] }
  | .frz o u => h.get? a = some o ∧ ObjOk H h a u
  | .tbl ps => h.get? a = some { cls := .none, data := .fields ps }
  | .met f x => h.get? a = some (PySem.W.methodObj (.ref f) (.ref x))
  | .ext φ => φ h ∧ (∃ o, h.get? a = some o) ∧ ∀ h1 h2 : Heap, φ h1 → (∀ o, h1.get? a = some o → h2.get? a = some o) → φ h2
def HOk (H : Hp) (h : Heap) : Prop := ∀ a o, H a = some o → ObjOk P w H h a o
end
section
variable {P : Program} {w : World} {H H' : Hp} {h h' : Heap} {a : Addr} {o : HO}
theorem ObjOk.lt (x : ObjOk P w H h a o) : a < h.objs.size := by
  cases o with
  | lst xs => obtain ⟨_, _, _, _, e⟩ := x; exact Heap.lt_size e
  | tup xs => obtain ⟨_, _, _, p⟩ := x; exact p.lt
  | dK kvs => obtain ⟨_, _, _, _, o, _, _, e, _⟩ := x; exact Heap.lt_size e
  | dT kvs => obtain ⟨_, _, _, _, o, _, _, e, _⟩ := x; exact Heap.lt_size e
  | set S n => obtain ⟨o, _, _, _, e, _⟩ := x; exact Heap.lt_size e
  | ins C dx fs => obtain ⟨_, _, _, e, _⟩ := x; exact Heap.lt_size e
  | own y => obtain ⟨_, e⟩ := x; exact Heap.lt_size e
  | xd fs => obtain ⟨_, ⟨_, _, _, e, _⟩, _⟩ := x; exact Heap.lt_size e
  | rng lo hi => obtain ⟨_, _, _, e⟩ := x; exact Heap.lt_size e
  | frz ob u => obtain ⟨e, _⟩ := x; exact Heap.lt_size e
  | tbl ps => exact Heap.lt_size (show h.get? a = some _ from x)
  | met f y => exact Heap.lt_size (show h.get? a = some _ from x)
  | ext φ => obtain ⟨_, ⟨_, e⟩, _⟩ := x; exact Heap.lt_size e
theorem Paired.mapP {α β : Type} {F G : α → β → Prop} : ∀ {l₁ : List α} {l₂ : List β}, Paired F l₁ l₂ → (∀ a b, F a b → G a b) → Paired G l₁ l₂
  | _, _, .nil, _ => .nil
  | _, _, .cons r t, f => .cons (f _ _ r) (Paired.mapP t f)
theorem ObjOk.stay (x : ObjOk P w H h a o) (k : ∀ b u, (b = a ∨ H b = some (.own a)) → h.get? b = some u → h'.get? b = some u)
    (ho : ∀ b, H b = some (.own a) → H' b = some (.own a)) (ht : ∀ b xs, H b = some (.tup xs) → H' b = some (.tup xs)) : ObjOk P w H' h' a o := by
  induction o with
  | lst xs => obtain ⟨z, its, n, r, e⟩ := x; exact ⟨z, its, n, r, k _ _ (.inl rfl) e⟩
  | tup xs => obtain ⟨z, its, r, ob, e, c⟩ := x; exact ⟨z, its, r, ob, k _ _ (.inl rfl) e, c⟩
  | dK kvs => obtain ⟨z, y, vs, r, ob, es, ep, e, c⟩ := x; exact ⟨z, y, vs, r, ob, es, ep, k _ _ (.inl rfl) e, c⟩
  | dT kvs =>
    obtain ⟨z, y, xs, r, ob, es, ep, e, c⟩ := x
    exact ⟨z, y, xs, Paired.mapP r fun p q z => ⟨z.1, ht _ _ z.2.1, z.2.2⟩, ob, es, ep, k _ _ (.inl rfl) e, c⟩
  | set S n => obtain ⟨ob, es, ep, t, e, c⟩ := x; exact ⟨ob, es, ep, t, k _ _ (.inl rfl) e, c⟩
  | ins C dx fs =>
    obtain ⟨d, z, ne, e, mA, ⟨od, es, ep, e2, c⟩, r⟩ := x
    exact ⟨ho _ d, z, ne, k _ _ (.inl rfl) e, mA, ⟨od, es, ep, k _ _ (.inr d) e2, c⟩, r⟩
  | own y => obtain ⟨ob, e⟩ := x; exact ⟨ob, k _ _ (.inl rfl) e⟩
  | xd fs => obtain ⟨mA, ⟨od, es, ep, e, c⟩, r⟩ := x; exact ⟨mA, ⟨od, es, ep, k _ _ (.inl rfl) e, c⟩, r⟩
  | rng lo hi => obtain ⟨t, u, v, e⟩ := x; exact ⟨t, u, v, k _ _ (.inl rfl) e⟩
  | frz ob u ih => obtain ⟨e, q⟩ := x; exact ⟨k _ _ (.inl rfl) e, ih q⟩
  | tbl ps =>
    have e : h.get? a = some { cls := .none, data := .fields ps } := x
    show h'.get? a = some { cls := .none, data := .fields ps }
    exact k a _ (.inl rfl) e
  | met f y =>
    have e : h.get? a = some (PySem.W.methodObj (.ref f) (.ref y)) := x
    show h'.get? a = some (PySem.W.methodObj (.ref f) (.ref y))
    exact k a _ (.inl rfl) e
  | ext φ => obtain ⟨p, ⟨o, e⟩, st⟩ := x; exact ⟨st _ _ p fun o q => k _ _ (.inl rfl) q, ⟨o, k _ _ (.inl rfl) e⟩, st⟩
theorem HOk.lt (x : HOk P w H h) (e : H a = some o) : a < h.objs.size := (x a o e).lt
theorem HOk.fresh (x : HOk P w H h) (e : h.objs.size ≤ a) : H a = none := by
  cases q : H a with
  | none => rfl
  | some u => exact absurd (Nat.lt_of_lt_of_le (x.lt q) e) (Nat.lt_irrefl _)
theorem HOk.kept (x : HOk P w H h) (k : ∀ b u, h.get? b = some u → h'.get? b = some u) : HOk P w H h' := fun a o e =>
  (x a o e).stay (fun b u _ q => k b u q) (fun _ q => q) fun _ _ q => q
theorem HOk.laid (x : HOk P w H h) (k : ∀ b u, h.get? b = some u → h'.get? b = some u) (hp : h.objs.size ≤ a) (new : ObjOk P w (upd H a o) h' a o) : HOk P w (upd H a o) h' := fun b u e => by
  have hn := x.fresh hp
  by_cases hb : b = a
  · subst hb; rw [upd_same] at e; cases e; exact new
  · rw [upd_ne hb] at e
    exact (x b u e).stay (fun c v _ q => k c v q) (fun c q => by rw [upd_ne (ne_of_none q hn)]; exact q) fun c xs q => by rw [upd_ne (ne_of_none q hn)]; exact q
end
def Rd (H : Hp) (a : Addr) (u : HO) : Prop := H a = some u ∨ ∃ o, H a = some (.frz o u)
theorem Rd.of {H : Hp} {a : Addr} {u : HO} (h : H a = some u) : Rd H a u := .inl h
theorem Rd.ok {P : Program} {w : World} {H : Hp} {h : Heap} {a : Addr} {u : HO} (r : Rd H a u) (x : HOk P w H h) : ObjOk P w H h a u := by
  rcases r with r | ⟨o, r⟩
  · exact x a u r
  · obtain ⟨_, q⟩ := x a _ r
    exact q
def Mut : Option HO → Prop
  | some (.lst _) => True
  | some (.dK _) => True
  | some (.dT _) => True
  | some (.set _ _) => True
  | some (.ins _ _ _) => True
  | some (.ext _) => True
  | _ => False
section
variable {P : Program} {w : World} {H : Hp} {h h' : Heap} {x e : Addr} {o' : HO}
theorem HOk.write (ok : HOk P w H h) (mu : Mut (H x)) (he : e = x ∨ H e = some (.own x)) (k : ∀ b u, b ≠ e → h.get? b = some u → h'.get? b = some u) (heo : ∃ u, h'.get? e = some u)
    (new : ObjOk P w (upd H x o') h' x o') : HOk P w (upd H x o') h' := fun b u q => by
  have nown : ∀ c y, H c = some (.own y) → c ≠ x := fun c y r z => by subst z; rw [r] at mu; exact mu
  have ntup : ∀ c xs, H c = some (.tup xs) → c ≠ x := fun c xs r z => by subst z; rw [r] at mu; exact mu
  by_cases hb : b = x
  · subst hb; rw [upd_same] at q; cases q; exact new
  · rw [upd_ne hb] at q
    by_cases hbe : b = e
    · have q' : H b = some (.own x) := by
        rcases he with z | z
        · exact absurd (hbe.trans z) hb
        · rw [hbe]; exact z
      rw [q] at q'; cases q'
      obtain ⟨v, hv⟩ := heo
      exact ⟨v, by rw [hbe]; exact hv⟩
    · refine (ok b u q).stay (fun c v hc r => k c v ?_ r) (fun c r => by rw [upd_ne (nown c b r)]; exact r) fun c xs r => by rw [upd_ne (ntup c xs r)]; exact r
      rcases hc with rfl | hc
      · exact hbe
      · rintro rfl
        rcases he with z | z
        · exact nown c b hc z
        · rw [hc] at z; cases z; exact hb rfl
end
structure Un (fs ex : List Addr) (H H' : Hp) (h h' : Heap) : Prop where
  keep : ∀ b o, h.get? b = some o → H b = none → b ∉ fs → b ∉ ex → h'.get? b = some o
  slot : ∀ b o, h.get? b = some o → H b = none → b ∈ fs → b ∉ ex → ∃ sl, h'.get? b = some { o with slots := sl }
  free : ∀ b o, h.get? b = some o → H b = none → b ∉ ex → H' b = none
  there : ∀ b o, h.get? b = some o → b ∉ ex → ∃ o', h'.get? b = some o'
  tups : ∀ b xs, H b = some (.tup xs) → H' b = some (.tup xs)
  frzs : ∀ b o u, H b = some (.frz o u) → H' b = some (.frz o u)
  tbls : ∀ b ps, H b = some (.tbl ps) → ∃ more, H' b = some (.tbl (ps ++ more))
section
variable {fs fs' ex ex' : List Addr} {H H1 H2 : Hp} {h h1 h2 h' : Heap} {a x e : Addr} {o : HO}
theorem Un.any (u : Un fs ex H H1 h h1) {b : Addr} {ob : Obj} (q : h.get? b = some ob) (n : H b = none) (hx : b ∉ ex) : ∃ sl, h1.get? b = some { ob with slots := sl } := by
  by_cases hb : b ∈ fs
  · exact u.slot b ob q n hb hx
  · exact ⟨ob.slots, u.keep b ob q n hb hx⟩
theorem Un.trans (a : Un fs ex H H1 h h1) (b : Un fs ex H1 H2 h1 h2) : Un fs ex H H2 h h2 where
  keep := fun c ob q n hc hx => b.keep c ob (a.keep c ob q n hc hx) (a.free c ob q n hx) hc hx
  slot := fun c ob q n hc hx => by
    obtain ⟨sl, e1⟩ := a.slot c ob q n hc hx
    obtain ⟨sl', e2⟩ := b.slot c _ e1 (a.free c ob q n hx) hc hx
    exact ⟨sl', e2⟩
  free := fun c ob q n hx => by
    obtain ⟨o', e1⟩ := a.there c ob q hx
    exact b.free c o' e1 (a.free c ob q n hx) hx
  there := fun c ob q hx => by
    obtain ⟨o', e1⟩ := a.there c ob q hx
    exact b.there c o' e1 hx
  tups := fun c xs q => b.tups c xs (a.tups c xs q)
  frzs := fun c ob xs q => b.frzs c ob xs (a.frzs c ob xs q)
  tbls := fun c ps q => by
    obtain ⟨m1, e1⟩ := a.tbls c ps q
    obtain ⟨m2, e2⟩ := b.tbls c _ e1
    exact ⟨m1 ++ m2, by rw [e2, Array.append_assoc]⟩
theorem Un.kept (k : ∀ b u, h.get? b = some u → h'.get? b = some u) : Un fs ex H H h h' :=
  ⟨fun b ob q _ _ _ => k b ob q, fun b ob q _ _ _ => ⟨ob.slots, k b ob q⟩, fun _ _ _ n _ => n, fun b ob q _ => ⟨ob, k b ob q⟩, fun _ _ q => q, fun _ _ _ q => q, fun _ ps q => ⟨#[], by rw [q]; simp⟩⟩
theorem Un.refl : Un fs ex H H h h := Un.kept fun _ _ q => q
theorem Un.laid (k : ∀ b u, h.get? b = some u → h'.get? b = some u) (hp : h.objs.size ≤ a) (hn : H a = none) : Un fs ex H (upd H a o) h h' where
  keep := fun b u q _ _ _ => k b u q
  slot := fun b u q _ _ _ => ⟨u.slots, k b u q⟩
  free := fun b u q n _ => by rw [upd_ne (Nat.ne_of_lt (Nat.lt_of_lt_of_le (Heap.lt_size q) hp))]; exact n
  there := fun b u q _ => ⟨u, k b u q⟩
  tups := fun b xs q => by rw [upd_ne (ne_of_none q hn)]; exact q
  frzs := fun b u xs q => by rw [upd_ne (ne_of_none q hn)]; exact q
  tbls := fun b ps q => ⟨#[], by rw [upd_ne (ne_of_none q hn), q]; simp⟩
theorem Un.write (mu : Mut (H x)) (he : e = x ∨ H e = some (.own x)) (k : ∀ b u, b ≠ e → h.get? b = some u → h'.get? b = some u) (heo : ∃ u, h'.get? e = some u) : Un fs ex H (upd H x o) h h' := by
  have hx : ∀ b, H b = none → b ≠ x := fun b n z => by subst z; rw [n] at mu; exact mu
  have hb : ∀ b, H b = none → b ≠ e := fun b n z => by
    subst z
    rcases he with r | r
    · exact hx b n r
    · rw [n] at r; cases r
  have hm : ∀ b u, H b = some u → ¬ Mut (some u) → b ≠ x := fun b u q nm z => by subst z; rw [q] at mu; exact nm mu
  refine ⟨fun b u q n _ _ => k b u (hb b n) q, fun b u q n _ _ => ⟨u.slots, k b u (hb b n) q⟩, fun b u q n _ => by rw [upd_ne (hx b n)]; exact n, fun b u q _ => ?_,
    fun b xs q => by rw [upd_ne (hm b _ q fun z => z)]; exact q, fun b u xs q => by rw [upd_ne (hm b _ q fun z => z)]; exact q, fun b ps q => ⟨#[], by rw [upd_ne (hm b _ q fun z => z), q]; simp⟩⟩
  by_cases hbe : b = e
  · subst hbe; exact heo
  · exact ⟨u, k b u hbe q⟩
theorem Un.mono (u : Un fs ex H H1 h h1) (hs : ∀ b ∈ fs, b ∈ fs') (hx : ∀ b ∈ ex, b ∈ ex') : Un fs' ex' H H1 h h1 :=
  ⟨fun b ob q n hb he => u.keep b ob q n (fun z => hb (hs b z)) fun z => he (hx b z), fun _ _ q n _ he => u.any q n fun z => he (hx _ z), fun b ob q n he => u.free b ob q n fun z => he (hx b z), fun b ob q he => u.there b ob q fun z => he (hx b z), u.tups, u.frzs, u.tbls⟩
end
def trk (h : Heap) (H : Hp) : List Addr := (List.range h.objs.size).filter fun a => (H a).isSome
def hidT (h : Heap) (H : Hp) : Heap := PySem.W.hideAll h (trk h H)
theorem hidT_size (h : Heap) (H : Hp) : (hidT h H).objs.size = h.objs.size := PySem.W.hideAll_size _ _
theorem hidT_get {h : Heap} {H : Hp} {b : Addr} {o : Obj} (e : h.get? b = some o) (n : H b = none) : (hidT h H).get? b = some o :=
  PySem.W.hideAll_get _ e fun hm => by
    have q : (H b).isSome = true := (List.mem_filter.mp hm).2
    rw [n] at q; simp at q
theorem of_hidT {h : Heap} {H : Hp} {b : Addr} {o : Obj} (e : (hidT h H).get? b = some o) : h.get? b = some o ∧ H b = none := by
  have e' : h.get? b = some o := PySem.W.of_hideAll (trk h H) e
  refine ⟨e', ?_⟩
  cases q : H b with
  | none => rfl
  | some x =>
    have hm : b ∈ trk h H := List.mem_filter.mpr ⟨List.mem_range.mpr (Heap.lt_size e'), by simp [q]⟩
    have z : (hidT h H).get? b = none := PySem.W.hideAll_none (trk h H) hm
    rw [z] at e; cases e
def allNews (g h : Heap) (L : Addr) : List (Addr × Obj) := (List.range h.objs.size).filterMap fun a => if a = L ∨ (g.get? a).isSome = true then none else (h.get? a).map fun o => (a, o)
def rest (g h : Heap) (L d : Addr) : List (Addr × Obj) := (allNews g h L).filter fun p => decide (p.1 ≠ d)
end L2
namespace L2
open PySem PySem.Spec PyProof.Rows
structure Mod (K : PySem.W.Frag) (mg : Str → Option Value) (base : Heap) : Prop where
  kin : K.In base
  glob : base.Ns mainGlobals mg
  blt : ∃ mb, base.Ns builtinsNs mb ∧ ∀ x : Str, x ≠ "__name__" → mb x = bootBuiltins x
  nolimit : base.NoLimit
/-- the context: a def's body (or a comprehension's block) running. base: fixed through the whole law; s₀, H₀: the entry; outer: the frames whose slots others may change (a def's callers); stack: all frames that run;
   ex: iterators that were made ahead of the entry and are walked here (a comprehension's); fn: the names whose cells were made at the entry (a def: all; a comprehension's block: its own); calm: not within an except suite; pn: pins that every state bears; xe: what is wanted of an exception that leaves the code -/
structure Cx where
  prog : Program
  w : World
  K : PySem.W.Frag
  mg : Str → Option Value
  base : Heap
  A : Around
  N : List Str
  s₀ : Shared
  H₀ : Hp
  env : Env
  outer : List Env
  stack : List Env
  ex : List Addr
  fn : Str → Bool
  calm : Bool
  pn : List (Addr × Obj)
  xe : Value → Shared → Prop
def frs (l : List Env) : List Addr := l.filterMap (·.frame)
abbrev Cx.fs (X : Cx) : List Addr := frs X.outer
def Vis (sc : Scope) (x : Str) : Prop := sc.names.lookup x = some .local ∨ sc.names.lookup x = some .cell ∨ sc.names.lookup x = some .free
def Loc (sc : Scope) (x : Str) : Prop := sc.names.lookup x = some .local ∨ sc.names.lookup x = some .cell
def Look (env : Env) (h : Heap) (m : Str → Option Value) (x : Str) (u : Value) : Prop :=
  (env.kindOf x = some .local ∧ m x = some u) ∨ ((env.kindOf x = some .cell ∨ env.kindOf x = some .free) ∧ ∃ c, env.cells.lookup x = some c ∧ h.IsCell c (some u))
structure Cx.Ok (X : Cx) : Prop where
  mod : Mod X.K X.mg X.base
  kind : X.env.scope.kind = .function
  glob : X.env.globals = mainGlobals
  blt : X.env.builtins = builtinsNs
  above : X.s₀.heap.objs.size ≤ X.env.locals
  inj : ∀ x y c, X.env.cells.lookup x = some c → X.env.cells.lookup y = some c → x = y
  has : ∀ x, (X.env.kindOf x = some .cell ∨ X.env.kindOf x = some .free) → ∃ c, X.env.cells.lookup x = some c
  cab : ∀ x c, X.fn x = true → X.env.cells.lookup x = some c → X.s₀.heap.objs.size ≤ c
  hd : X.calm = true → X.A.handled = none
  frames : X.A.frames = some X.stack
  stk : X.stack = X.outer ∨ (X.stack = X.env :: X.outer ∧ X.env.frame = some X.env.locals)
  exf : ∀ b ∈ X.ex, b ≠ X.env.locals ∧ ∀ x c, X.env.cells.lookup x = some c → c ≠ b
  bs : ∀ b o, X.base.get? b = some o → X.s₀.heap.get? b = some o ∧ X.H₀ b = none
  bsz : X.base.objs.size ≤ X.s₀.heap.objs.size
  noex : ∀ b o, X.base.get? b = some o → b ∉ X.ex
  exfs : ∀ b ∈ X.ex, b ∉ X.fs
  funs : X.s₀.heap.FunFrames X.base X.outer
  frf : ∀ b ∈ X.fs, X.H₀ b = none
structure Inv (X : Cx) (pins : List (Addr × Obj)) (σ : List (Option V)) (H : Hp) (s : Shared) : Prop where
  ok : X.Ok
  os : s.os = X.s₀.os
  bare : AllBare s.gens
  base : Un X.fs X.ex X.H₀ H X.s₀.heap s.heap
  loc : ∃ m, s.heap.Ns X.env.locals m ∧ ∀ (i : Nat) (x : Str) (v : V), X.N[i]? = some x → σ[i]? = some (some v) → Vis X.env.scope x → ∃ u, RelV v u ∧ Look X.env s.heap m x u
  cell : ∀ x c, X.env.cells.lookup x = some c → ∃ v, s.heap.IsCell c v
  free : H X.env.locals = none
  freeC : ∀ x c, X.env.cells.lookup x = some c → H c = none
  pin : ∀ p ∈ X.pn ++ pins, s.heap.get? p.1 = some p.2 ∧ H p.1 = none ∧ p.1 ≠ X.env.locals ∧ p.1 ∉ X.fs ∧ ∀ v, p.2.data ≠ .cell v
  hok : HOk X.prog X.w H s.heap
  len : σ.length = X.N.length
section
variable {X : Cx} {pins : List (Addr × Obj)} {σ : List (Option V)} {H H' : Hp} {s : Shared} {h' : Heap}
theorem Cx.Ok.nofr (ok : X.Ok) {b : Addr} {o : Obj} (e : X.base.get? b = some o) : b ∉ X.fs := fun hb => by
  have := (ok.funs.mem hb).1
  rw [e] at this; cases this
theorem Inv.bs (I : Inv X pins σ H s) : ∀ b o, X.base.get? b = some o → s.heap.get? b = some o ∧ H b = none := fun b o e =>
  ⟨I.base.keep b o (I.ok.bs b o e).1 (I.ok.bs b o e).2 (I.ok.nofr e) (I.ok.noex b o e), I.base.free b o (I.ok.bs b o e).1 (I.ok.bs b o e).2 (I.ok.noex b o e)⟩
theorem Inv.bk (I : Inv X pins σ H s) : ∀ b o, X.base.get? b = some o → s.heap.get? b = some o := fun b o e => (I.bs b o e).1
theorem Inv.mod (I : Inv X pins σ H s) : Mod X.K X.mg X.base := I.ok.mod
theorem Inv.kIn (I : Inv X pins σ H s) : X.K.In s.heap := I.ok.mod.kin.keeps I.bk
theorem Inv.nolimit (I : Inv X pins σ H s) : s.heap.NoLimit := I.ok.mod.nolimit.keeps I.bk
theorem Inv.fr (I : Inv X pins σ H s) : ∃ m, Fr X.base X.env.locals s.heap m :=
  let ⟨m, hn, _⟩ := I.loc
  ⟨m, hn, I.bk, Nat.le_trans I.ok.bsz I.ok.above⟩
theorem Inv.lt (I : Inv X pins σ H s) : X.env.locals < s.heap.objs.size := let ⟨_, hn, _⟩ := I.loc; hn.lt
theorem Inv.sz (I : Inv X pins σ H s) : X.s₀.heap.objs.size ≤ s.heap.objs.size := Nat.le_trans I.ok.above (Nat.le_of_lt I.lt)
theorem Inv.nofs (I : Inv X pins σ H s) {a : Addr} (h : s.heap.objs.size ≤ a) : a ∉ X.fs := fun hb => by
  obtain ⟨_, o, ho, _⟩ := I.ok.funs.mem hb
  exact absurd (Nat.lt_of_lt_of_le (Heap.lt_size ho) (Nat.le_trans I.sz h)) (Nat.lt_irrefl _)
theorem Inv.cne (I : Inv X pins σ H s) : ∀ x c, X.env.cells.lookup x = some c → c ≠ X.env.locals := fun x c e z => by
  obtain ⟨v, o, ho, hd⟩ := I.cell x c e
  obtain ⟨m, ⟨o', es, ep, ho', hd', _⟩, _⟩ := I.loc
  rw [z, ho'] at ho; cases ho; rw [hd'] at hd; cases hd
theorem Inv.funs (I : Inv X pins σ H s) : s.heap.FunFrames X.base X.outer := by
  have all : ∀ (l : List Env), (∀ b ∈ frs l, b ∈ X.fs) → X.s₀.heap.FunFrames X.base l → s.heap.FunFrames X.base l := by
    intro l
    induction l with
    | nil => intro _ _; trivial
    | cons env r ih =>
      intro hs hl
      obtain ⟨hk, ⟨L, o, hf, hn, ho, hd⟩, hr⟩ := hl
      have hL : L ∈ X.fs := hs L (by unfold frs; rw [List.filterMap_cons, hf]; exact List.mem_cons_self)
      obtain ⟨sl, e⟩ := I.base.slot L o ho (I.ok.frf L hL) hL fun z => I.ok.exfs L z hL
      exact ⟨hk, ⟨L, _, hf, hn, e, hd⟩, ih (fun b hb => hs b (by unfold frs; rw [List.filterMap_cons, hf]; exact List.mem_cons_of_mem _ hb)) hr⟩
  exact all X.outer (fun _ hb => hb) I.ok.funs
theorem Inv.stack (I : Inv X pins σ H s) : s.heap.FunFrames X.base X.stack := by
  rcases I.ok.stk with e | ⟨e, hf⟩
  · rw [e]; exact I.funs
  · rw [e]
    obtain ⟨m, hn, _⟩ := I.loc
    refine .cons (by rw [I.ok.kind]; decide) hf hn ?_ I.funs
    exact Heap.get?_none_of_le (Nat.le_trans I.ok.bsz I.ok.above)
theorem Inv.stkSub (I : Inv X pins σ H s) : ∀ b ∈ frs X.stack, b ∈ X.env.locals :: X.fs := fun b hb => by
  rcases I.ok.stk with e | ⟨e, hf⟩
  · rw [e] at hb; exact List.mem_cons_of_mem _ hb
  · rw [e] at hb
    unfold frs at hb
    rw [List.filterMap_cons, hf] at hb
    exact hb
theorem Inv.stkFree (I : Inv X pins σ H s) : ∀ b ∈ frs X.stack, H b = none := fun b hb => by
  rcases List.mem_cons.mp (I.stkSub b hb) with e | hb
  · rw [e]; exact I.free
  · obtain ⟨_, o, ho, _⟩ := I.ok.funs.mem hb
    exact I.base.free b o ho (I.ok.frf b hb) fun z => I.ok.exfs b z hb
theorem Inv.step {g' : Array GenState} {t' : Nat} {d' : Drawn} {ch : List Addr} (I : Inv X pins σ H s)
    (hch : ∀ b ∈ ch, (b ∈ X.ex ∨ X.s₀.heap.objs.size ≤ b) ∧ b ≠ X.env.locals ∧ (∀ x c, X.env.cells.lookup x = some c → c ≠ b) ∧ ∀ p ∈ X.pn ++ pins, p.1 ≠ b)
    (keep : ∀ b o, b ≠ X.env.locals → b ∉ X.fs → b ∉ ch → s.heap.get? b = some o → H b = none → h'.get? b = some o)
    (slot : ∀ b o, b ≠ X.env.locals → b ∈ X.fs → b ∉ ch → s.heap.get? b = some o → H b = none → ∃ sl, h'.get? b = some { o with slots := sl }) (free : ∀ b o, b ∉ ch → s.heap.get? b = some o → H b = none → H' b = none)
    (there : ∀ b o, b ∉ ch → s.heap.get? b = some o → ∃ o', h'.get? b = some o')
    (tups : ∀ b xs, H b = some (.tup xs) → H' b = some (.tup xs)) (frzs : ∀ b o u, H b = some (.frz o u) → H' b = some (.frz o u)) (tbls : ∀ b ps, H b = some (.tbl ps) → ∃ more, H' b = some (.tbl (ps ++ more)))
    (ns : ∀ m, s.heap.Ns X.env.locals m → h'.Ns X.env.locals m) (hok : HOk X.prog X.w H' h') (hg : AllBare g') :
    Inv X pins σ H' { s with heap := h', gens := g', drawn := d', toks := t' } := by
  have neL : ∀ b o, X.s₀.heap.get? b = some o → b ≠ X.env.locals := fun b o e => Nat.ne_of_lt (Nat.lt_of_lt_of_le (Heap.lt_size e) I.ok.above)
  have neC : ∀ b o, X.s₀.heap.get? b = some o → b ∉ X.ex → b ∉ ch := fun b o e hx hb => by
    rcases (hch b hb).1 with z | z
    · exact hx z
    · exact absurd (Nat.lt_of_lt_of_le (Heap.lt_size e) z) (Nat.lt_irrefl _)
  have cellK : ∀ x c, X.env.cells.lookup x = some c → ∀ v, s.heap.IsCell c v → h'.IsCell c v := fun x c e v ⟨o, ho, hd⟩ => by
    have nch : c ∉ ch := fun z => (hch c z).2.2.1 x c e rfl
    by_cases hc : c ∈ X.fs
    · obtain ⟨sl, q⟩ := slot c o (I.cne x c e) hc nch ho (I.freeC x c e)
      exact ⟨_, q, hd⟩
    · exact ⟨o, keep c o (I.cne x c e) hc nch ho (I.freeC x c e), hd⟩
  refine ⟨I.ok, I.os, hg, ⟨fun b o e n hb hx => ?_, fun b o e n hb hx => ?_, fun b o e n hx => ?_, fun b o e hx => ?_, fun b xs e => tups b xs (I.base.tups b xs e), fun b o xs e => frzs b o xs (I.base.frzs b o xs e), fun b ps e => ?_⟩, ?_, fun x c e => ?_, ?_, fun x c e => ?_, fun p hp => ?_, hok, I.len⟩
  · exact keep b o (neL b o e) hb (neC b o e hx) (I.base.keep b o e n hb hx) (I.base.free b o e n hx)
  · obtain ⟨sl, e1⟩ := I.base.slot b o e n hb hx
    obtain ⟨sl', e2⟩ := slot b _ (neL b o e) hb (neC b o e hx) e1 (I.base.free b o e n hx)
    exact ⟨sl', e2⟩
  · obtain ⟨o', e1⟩ := I.base.there b o e hx
    exact free b o' (neC b o e hx) e1 (I.base.free b o e n hx)
  · obtain ⟨o', e1⟩ := I.base.there b o e hx
    exact there b o' (neC b o e hx) e1
  · obtain ⟨m1, e1⟩ := I.base.tbls b ps e
    obtain ⟨m2, e2⟩ := tbls b _ e1
    exact ⟨m1 ++ m2, by rw [e2, Array.append_assoc]⟩
  · obtain ⟨m, hn, hl⟩ := I.loc
    refine ⟨m, ns m hn, fun i x v e1 e2 e3 => ?_⟩
    obtain ⟨u, r, l⟩ := hl i x v e1 e2 e3
    refine ⟨u, r, ?_⟩
    rcases l with l | ⟨k, c, e, z⟩
    · exact .inl l
    · exact .inr ⟨k, c, e, cellK x c e _ z⟩
  · obtain ⟨v, z⟩ := I.cell x c e
    exact ⟨v, cellK x c e v z⟩
  · obtain ⟨m, ⟨o, _, _, ho, _⟩, _⟩ := I.loc
    exact free _ o (fun z => (hch _ z).2.1 rfl) ho I.free
  · obtain ⟨v, o, ho, hd⟩ := I.cell x c e
    exact free c o (fun z => (hch c z).2.2.1 x c e rfl) ho (I.freeC x c e)
  · obtain ⟨e, n, ne, nf, d⟩ := I.pin p hp
    have nch : p.1 ∉ ch := fun z => (hch p.1 z).2.2.2 p hp rfl
    exact ⟨keep p.1 p.2 ne nf nch e n, free p.1 p.2 nch e n, ne, nf, d⟩
theorem Inv.un {t' : Nat} (I : Inv X pins σ H s) (u : Un X.fs [] H H' s.heap h') (hok : HOk X.prog X.w H' h') : Inv X pins σ H' { s with heap := h', toks := t' } := by
  obtain ⟨m, ⟨o, es, ep, ho, r⟩, _⟩ := id I.loc
  obtain ⟨sl, hL⟩ := u.any ho I.free (by simp)
  exact I.step (g' := s.gens) (d' := s.drawn) (ch := []) (fun _ z => nomatch z) (fun b o _ hb _ e n => u.keep b o e n hb (by simp)) (fun b o _ hb _ e n => u.slot b o e n hb (by simp)) (fun b o _ e n => u.free b o e n (by simp)) (fun b o _ e => u.there b o e (by simp)) u.tups u.frzs u.tbls (fun m' hm => by
    obtain ⟨o', es', ep', ho', r'⟩ := hm
    rw [ho] at ho'; cases ho'
    exact ⟨_, es', ep', hL, r'⟩) hok I.bare
theorem Inv.call {g' : Array GenState} {t' : Nat} {d' : Drawn} {ch : List Addr} (I : Inv X pins σ H s) (u : Un (frs X.stack) ch H H' s.heap h') (hok : HOk X.prog X.w H' h') (hg : AllBare g')
    (hch : ∀ b ∈ ch, (b ∈ X.ex ∨ X.s₀.heap.objs.size ≤ b) ∧ b ≠ X.env.locals ∧ (∀ x c, X.env.cells.lookup x = some c → c ≠ b) ∧ ∀ p ∈ X.pn ++ pins, p.1 ≠ b) :
    Inv X pins σ H' { s with heap := h', gens := g', drawn := d', toks := t' } := by
  obtain ⟨m, ⟨o, es, ep, ho, r⟩, _⟩ := id I.loc
  obtain ⟨sl, hL⟩ := u.any ho I.free fun z => (hch _ z).2.1 rfl
  exact I.step (ch := ch) hch (fun b o hL hb hc e n => u.keep b o e n (fun z => (List.mem_cons.mp (I.stkSub b z)).elim hL hb) hc) (fun b o _ _ hc e n => u.any e n hc) (fun b o hc e n => u.free b o e n hc) (fun b o hc e => u.there b o e hc) u.tups u.frzs u.tbls (fun m' hm => by
    obtain ⟨o', es', ep', ho', r'⟩ := hm
    rw [ho] at ho'; cases ho'
    exact ⟨_, es', ep', hL, r'⟩) hok hg
theorem Inv.turned {t' : Nat} {it : Addr} (I : Inv X pins σ H s) (k : ∀ b o, b ≠ it → s.heap.get? b = some o → h'.get? b = some o) (hn : H it = none) (hL : it ≠ X.env.locals)
    (h1 : it ∈ X.ex ∨ X.s₀.heap.objs.size ≤ it) (h2 : ∀ x c, X.env.cells.lookup x = some c → c ≠ it) (h3 : ∀ p ∈ X.pn ++ pins, p.1 ≠ it) : Inv X pins σ H { s with heap := h', toks := t' } := by
  have nit : ∀ b u, H b = some u → b ≠ it := fun b u e z => by rw [z, hn] at e; cases e
  refine I.step (g' := s.gens) (d' := s.drawn) (ch := [it]) (fun b hb => ?_) (fun b o _ _ hc e _ => k b o (fun z => hc (by simp [z])) e) (fun b o _ _ hc e _ => ⟨o.slots, k b o (fun z => hc (by simp [z])) e⟩) (fun _ _ _ _ n => n)
    (fun b o hc e => ⟨o, k b o (fun z => hc (by simp [z])) e⟩) (fun _ _ e => e) (fun _ _ _ e => e) (fun b ps e => ⟨#[], by rw [e]; simp⟩) (fun m hm => ?_) (fun b u e => ?_) I.bare
  · have e : b = it := by simpa using hb
    subst e
    exact ⟨h1, hL, h2, h3⟩
  · obtain ⟨o, es, ep, ho, r⟩ := hm
    exact ⟨o, es, ep, k _ o (Ne.symm hL) ho, r⟩
  · refine (I.hok b u e).stay (fun c v hc q => k c v ?_ q) (fun _ q => q) fun _ _ q => q
    rcases hc with z | z
    · rw [z]; exact nit b u e
    · exact nit c _ z
theorem Inv.tok (I : Inv X pins σ H s) (t : Nat) : Inv X pins σ H { s with toks := t } := I.un (h' := s.heap) (t' := t) Un.refl I.hok
theorem Inv.kept {t' : Nat} (I : Inv X pins σ H s) (k : ∀ b u, s.heap.get? b = some u → h'.get? b = some u) : Inv X pins σ H { s with heap := h', toks := t' } := I.un (Un.kept k) (I.hok.kept k)
theorem Inv.laid {a : Addr} {o : HO} {t' : Nat} (I : Inv X pins σ H s) (k : ∀ b u, s.heap.get? b = some u → h'.get? b = some u) (hp : s.heap.objs.size ≤ a) (new : ObjOk X.prog X.w (upd H a o) h' a o) :
    Inv X pins σ (upd H a o) { s with heap := h', toks := t' } := I.un (Un.laid k hp (I.hok.fresh hp)) (I.hok.laid k hp new)
theorem Inv.write {x e : Addr} {o : HO} {t' : Nat} (I : Inv X pins σ H s) (mu : Mut (H x)) (he : e = x ∨ H e = some (.own x)) (k : ∀ b u, b ≠ e → s.heap.get? b = some u → h'.get? b = some u) (heo : ∃ u, h'.get? e = some u)
    (new : ObjOk X.prog X.w (upd H x o) h' x o) : Inv X pins σ (upd H x o) { s with heap := h', toks := t' } := I.un (Un.write mu he k heo) (I.hok.write mu he k heo new)
theorem Inv.pins_of {pins' : List (Addr × Obj)} (I : Inv X pins σ H s) (h : ∀ p ∈ pins', s.heap.get? p.1 = some p.2 ∧ H p.1 = none ∧ p.1 ≠ X.env.locals ∧ p.1 ∉ X.fs ∧ ∀ v, p.2.data ≠ .cell v) : Inv X pins' σ H s :=
  ⟨I.ok, I.os, I.bare, I.base, I.loc, I.cell, I.free, I.freeC, fun p hp => (List.mem_append.mp hp).elim (fun z => I.pin p (List.mem_append_left _ z)) (h p), I.hok, I.len⟩
theorem nodup_ix {N : List Str} (hN : N.Nodup) {i j : Nat} {x : Str} (a : N[i]? = some x) (b : N[j]? = some x) : i = j := by
  obtain ⟨h1, e1⟩ := List.getElem?_eq_some_iff.mp a
  obtain ⟨h2, e2⟩ := List.getElem?_eq_some_iff.mp b
  exact (List.getElem_inj hN).mp (e1.trans e2.symm)
theorem store_ok2 {M : Model} {A : Around} {E : Value → Shared → Prop} {i : Nat} {x : Str} {v : V} {u : Value} {Q : Unit → Shared → Prop} (I : Inv X pins σ H s) (hN : X.N.Nodup) (hi : X.N[i]? = some x) (hx : Loc X.env.scope x) (r : RelV v u)
    (h : ∀ s', Inv X pins (σ.set i (some v)) H s' → (∃ a, Heap.SameBut a s.heap s'.heap ∧ (a = X.env.locals ∨ X.env.cells.lookup x = some a)) → Q () s') (hf : X.fn x = true ∨ X.env.scope.names.lookup x = some .local := by first | exact .inl rfl | exact .inr rfl | assumption) : wpAny M A (storeName X.env x u) Q E s := by
  obtain ⟨m, hn, hl⟩ := id I.loc
  have hcls : (X.env.scope.kind == .class || (X.env.scope.kind == .module && X.env.locals != X.env.globals)) = false := by rw [I.ok.kind]; rfl
  have hiσ : i < σ.length := by rw [I.len]; exact (List.getElem?_eq_some_iff.mp hi).1
  have cne := I.cne
  have tracked : ∀ {a : Addr} {h' : Heap}, (∃ o, s.heap.get? a = some o ∧ H a = none) → Heap.SameBut a s.heap h' → HOk X.prog X.w H h' := fun {a h'} ha hs b ob e => by
    obtain ⟨_, _, hfree⟩ := ha
    refine (I.hok b ob e).stay (fun c w' hc q => (hs.2 c ?_).trans q) (fun _ q => q) fun _ _ q => q
    rintro rfl
    rcases hc with rfl | hc
    · rw [hfree] at e; cases e
    · rw [hfree] at hc; cases hc
  rcases hx with hk | hk
  · refine wpAny_storeName_local hk hn (fun h' hn' hs => ?_) hcls
    obtain ⟨oL, _, _, hoL, _⟩ := id hn
    refine h _ ⟨I.ok, I.os, I.bare, ⟨fun b o e n hb hx => ?_, fun b o e n hb hx => ?_, I.base.free, fun b o e hx => ?_, I.base.tups, I.base.frzs, I.base.tbls⟩, ⟨_, hn', fun j y v' e1 e2 e3 => ?_⟩, fun y c e => ?_, I.free, I.freeC, fun p hp => ?_, tracked ⟨oL, hoL, I.free⟩ hs, by simpa using I.len⟩ ⟨_, hs, .inl rfl⟩
    · exact (hs.2 b (Nat.ne_of_lt (Nat.lt_of_lt_of_le (Heap.lt_size e) I.ok.above))).trans (I.base.keep b o e n hb hx)
    · obtain ⟨sl, e1⟩ := I.base.slot b o e n hb hx
      exact ⟨sl, (hs.2 b (Nat.ne_of_lt (Nat.lt_of_lt_of_le (Heap.lt_size e) I.ok.above))).trans e1⟩
    · obtain ⟨o', e1⟩ := I.base.there b o e hx
      exact ⟨o', (hs.2 b (Nat.ne_of_lt (Nat.lt_of_lt_of_le (Heap.lt_size e) I.ok.above))).trans e1⟩
    · by_cases hj : j = i
      · subst hj
        rw [hi] at e1; cases e1
        rw [List.getElem?_set_self hiσ] at e2
        cases e2
        exact ⟨u, r, .inl ⟨hk, by simp⟩⟩
      · rw [List.getElem?_set_ne (Ne.symm hj)] at e2
        obtain ⟨u', r', q⟩ := hl j y v' e1 e2 e3
        refine ⟨u', r', ?_⟩
        rcases q with ⟨k, e⟩ | ⟨k, c, e, z⟩
        · refine .inl ⟨k, ?_⟩
          have : y ≠ x := fun e => hj (nodup_ix hN e1 (e ▸ hi))
          simp [this, e]
        · exact .inr ⟨k, c, e, z.sameBut hs (cne y c e)⟩
    · obtain ⟨w', z⟩ := I.cell y c e
      exact ⟨w', z.sameBut hs (cne y c e)⟩
    · obtain ⟨e, n, ne, nf, d⟩ := I.pin p hp
      exact ⟨(hs.2 p.1 ne).trans e, n, ne, nf, d⟩
  · have hfn : X.fn x = true := by
      rcases hf with z | z
      · exact z
      · rw [z] at hk; cases hk
    obtain ⟨c, hc⟩ := I.ok.has x (.inl hk)
    obtain ⟨w', z⟩ := I.cell x c hc
    refine wpAny_storeName_cell I.ok.kind hk hc z (fun h' hc' hs => ?_)
    obtain ⟨oc, hoc, hocd⟩ := id z
    refine h { s with heap := h' } ⟨I.ok, I.os, I.bare, ⟨fun b o e n hb hx => ?_, fun b o e n hb hx => ?_, I.base.free, fun b o e hx => ?_, I.base.tups, I.base.frzs, I.base.tbls⟩, ⟨m, hn.sameBut hs (Ne.symm (cne x c hc)), fun j y v' e1 e2 e3 => ?_⟩, fun y c' e => ?_, I.free, I.freeC, fun p hp => ?_, tracked ⟨oc, hoc, I.freeC x c hc⟩ hs, by simpa using I.len⟩ ⟨c, hs, .inr hc⟩
    · exact (hs.2 b (Nat.ne_of_lt (Nat.lt_of_lt_of_le (Heap.lt_size e) (I.ok.cab x c hfn hc)))).trans (I.base.keep b o e n hb hx)
    · obtain ⟨sl, e1⟩ := I.base.slot b o e n hb hx
      exact ⟨sl, (hs.2 b (Nat.ne_of_lt (Nat.lt_of_lt_of_le (Heap.lt_size e) (I.ok.cab x c hfn hc)))).trans e1⟩
    · obtain ⟨o', e1⟩ := I.base.there b o e hx
      exact ⟨o', (hs.2 b (Nat.ne_of_lt (Nat.lt_of_lt_of_le (Heap.lt_size e) (I.ok.cab x c hfn hc)))).trans e1⟩
    · by_cases hj : j = i
      · subst hj
        rw [hi] at e1; cases e1
        rw [List.getElem?_set_self hiσ] at e2
        cases e2
        exact ⟨u, r, .inr ⟨.inl hk, c, hc, hc'⟩⟩
      · rw [List.getElem?_set_ne (Ne.symm hj)] at e2
        obtain ⟨u', r', q⟩ := hl j y v' e1 e2 e3
        refine ⟨u', r', ?_⟩
        rcases q with q | ⟨k, c', e, z'⟩
        · exact .inl q
        · refine .inr ⟨k, c', e, z'.sameBut hs ?_⟩
          rintro rfl
          exact hj (nodup_ix hN e1 (I.ok.inj _ _ _ e hc ▸ hi))
    · by_cases hcc : c' = c
      · subst hcc; exact ⟨_, hc'⟩
      · obtain ⟨w2, z2⟩ := I.cell y c' e
        exact ⟨w2, z2.sameBut hs hcc⟩
    · obtain ⟨e, n, ne, nf, d⟩ := I.pin p hp
      refine ⟨(hs.2 p.1 ?_).trans e, n, ne, nf, d⟩
      intro q
      rw [q, hoc] at e
      have q' : oc = p.2 := Option.some.inj e
      exact d w' (by rw [← q']; exact hocd)
theorem store_ok {M : Model} {A : Around} {E : Value → Shared → Prop} {i : Nat} {x : Str} {v : V} {u : Value} {Q : Unit → Shared → Prop} (I : Inv X pins σ H s) (hN : X.N.Nodup) (hi : X.N[i]? = some x) (hx : Loc X.env.scope x) (r : RelV v u)
    (h : ∀ s', Inv X pins (σ.set i (some v)) H s' → Q () s') (hf : X.fn x = true ∨ X.env.scope.names.lookup x = some .local := by first | exact .inl rfl | exact .inr rfl | assumption) : wpAny M A (storeName X.env x u) Q E s :=
  store_ok2 I hN hi hx r (fun s' I' _ => h s' I') hf
theorem Inv.call' {s' : Shared} {ch : List Addr} (I : Inv X pins σ H s) (ho : s'.os = s.os) (u : Un (frs X.stack) ch H H' s.heap s'.heap) (hok : HOk X.prog X.w H' s'.heap) (hg : AllBare s'.gens)
    (hch : ∀ b ∈ ch, (b ∈ X.ex ∨ X.s₀.heap.objs.size ≤ b) ∧ b ≠ X.env.locals ∧ (∀ x c, X.env.cells.lookup x = some c → c ≠ b) ∧ ∀ p ∈ X.pn ++ pins, p.1 ≠ b) : Inv X pins σ H' s' := by
  obtain ⟨h', g', d', t', o'⟩ := s'
  have e : o' = s.os := ho
  subst e
  exact I.call (g' := g') (t' := t') (d' := d') u hok hg hch
end
abbrev XK := Value → Option Addr → Hp → Prop
abbrev St := List (Option V)
abbrev VK := V → Hp → Prop
abbrev TE := St → Hp → VK → Prop
abbrev TT := St → Hp → (Bool → Hp → Prop) → Prop
abbrev TA := St → Hp → (List V → Hp → Prop) → Prop
structure Ends where
  nx : St → Hp → Prop
  rt : VK
  bk : St → Hp → Prop := fun _ _ => False
  ct : St → Hp → Prop := fun _ _ => False
abbrev TS := Ends → St → Hp → Prop
def EP (X : Cx) (pins : List (Addr × Obj)) (σ : St) (Q : VK) (u : Value) (s' : Shared) : Prop := ∃ v H', Inv X pins σ H' s' ∧ RelV v u ∧ Q v H'
def TP (X : Cx) (pins : List (Addr × Obj)) (σ : St) (Q : Bool → Hp → Prop) (b : Bool) (s' : Shared) : Prop := ∃ H', Inv X pins σ H' s' ∧ Q b H'
def AP (X : Cx) (pins : List (Addr × Obj)) (σ : St) (Q : List V → Hp → Prop) (us : List Value) (s' : Shared) : Prop := ∃ vs H', Inv X pins σ H' s' ∧ Vals vs us ∧ Q vs H'
def SP (X : Cx) (pins : List (Addr × Obj)) (D : Ends) (f : Flow) (s' : Shared) : Prop :=
  match f with
  | .next => ∃ σ' H', Inv X pins σ' H' s' ∧ D.nx σ' H'
  | .brk => ∃ σ' H', Inv X pins σ' H' s' ∧ D.bk σ' H'
  | .cont => ∃ σ' H', Inv X pins σ' H' s' ∧ D.ct σ' H'
  | .ret u => ∃ v σ' H', Inv X pins σ' H' s' ∧ RelV v u ∧ D.rt v H'
def PE (X : Cx) (e : Expr) (t : TE) : Prop :=
  ∀ (pins : List (Addr × Obj)) (s : Shared) (σ : St) (H : Hp) (Q : VK), Inv X pins σ H s → t σ H Q → wpAny (model X.prog X.w) X.A (eval e X.env) (EP X pins σ Q) X.xe s
def PT (X : Cx) (e : Expr) (t : TT) : Prop :=
  ∀ (pins : List (Addr × Obj)) (s : Shared) (σ : St) (H : Hp) (Q : Bool → Hp → Prop), Inv X pins σ H s → t σ H Q → wpAny (model X.prog X.w) X.A (isTrue e X.env (eval e X.env)) (TP X pins σ Q) X.xe s
def PW (X : Cx) (e : Expr) (t : TT) : Prop :=
  ∀ (whole : Sem Value) (pins : List (Addr × Obj)) (s : Shared) (σ : St) (H : Hp) (Q : Bool → Hp → Prop), Inv X pins σ H s → t σ H Q → wpAny (model X.prog X.w) X.A (isTrue e X.env whole) (TP X pins σ Q) X.xe s
theorem PW.pt {X : Cx} {e : Expr} {t : TT} (h : PW X e t) : PT X e t := h _
def PA (X : Cx) (es : List Expr) (t : TA) : Prop :=
  ∀ (pos : Pos) (pins : List (Addr × Obj)) (s : Shared) (σ : St) (H : Hp) (Q : List V → Hp → Prop), Inv X pins σ H s → t σ H Q → wpAny (model X.prog X.w) X.A (spliced (backTo pos (starEach es X.env))) (AP X pins σ Q) X.xe s
def PS (X : Cx) (st : Stmt) (t : TS) : Prop :=
  ∀ (pins : List (Addr × Obj)) (s : Shared) (σ : St) (H : Hp) (D : Ends), Inv X pins σ H s → t D σ H → wpAny (model X.prog X.w) X.A (exec st X.env) (SP X pins D) X.xe s
def PSs (X : Cx) (st : List Stmt) (t : TS) : Prop :=
  ∀ (pins : List (Addr × Obj)) (s : Shared) (σ : St) (H : Hp) (D : Ends), Inv X pins σ H s → t D σ H → wpAny (model X.prog X.w) X.A (execs st X.env) (SP X pins D) X.xe s
theorem thn {α : Type} {t : Sem α} {Q Q' : α → Shared → Prop} {M : Model} {A : Around} {E : Value → Shared → Prop} {s : Shared} (h : wpAny M A t Q E s) (hQ : ∀ a s, Q a s → Q' a s) : wpAny M A t Q' E s := wpAny_mono h hQ fun _ _ x => x
end L2
namespace L2
open PySem PySem.Spec PyProof.Rows
section
variable {X : Cx}
def tVar (i : Nat) : TE := fun σ H Q => ∃ v, σ[i]? = some (some v) ∧ Q v H
def tC (v : V) : TE := fun _ H Q => Q v H
theorem pe_var {i : Nat} {x : Str} {pos : Pos} (hN : X.N[i]? = some x) (hv : Vis X.env.scope x) (hd : (x == ("__debug__" : Str)) = false := by decide) (hcd : (x == ("__classdict__" : Str)) = false := by decide) : PE X (.Name x pos) (tVar i) := by
  intro pins s σ H Q I h
  obtain ⟨v, e, h⟩ := h
  obtain ⟨m, hn, hl⟩ := I.loc
  obtain ⟨u, r, l⟩ := hl i x v hN e hv
  have fin : EP X pins σ Q u s := ⟨v, H, I, r, h⟩
  rcases l with ⟨hk, hm⟩ | ⟨hk, c, hc, hcell⟩
  · exact wpAny_Name (wpAny_loadName_local I.ok.kind hk hn hm fin) hd
  · rcases hk with hk | hk
    · exact wpAny_Name (wpAny_loadName_cell I.ok.kind hk hc hcell fin) hd
    · exact wpAny_Name (wpAny_loadName_free I.ok.kind hk hc hcell fin hcd) hd
theorem pe_int {i j pos} : PE X (.Constant (.int i) j pos) (tC (.int i)) := fun _ _ _ H _ I h => wpAny_Constant_int ⟨.int i, H, I.tok _, ⟨_, rfl⟩, h⟩
theorem pe_bl {b j pos} : PE X (.Constant (.bool b) j pos) (tC (.bl b)) := fun _ _ _ H _ I h => Constant_bool ⟨.bl b, H, I, rfl, h⟩
theorem pe_non {j pos} : PE X (.Constant .none j pos) (tC .non) := fun _ _ _ H _ I h => Constant_none ⟨.non, H, I, rfl, h⟩
theorem pe_str {x j pos} : PE X (.Constant (.str x) j pos) (tC (.str x)) := fun _ _ _ H _ I h => Calls.Constant_str ⟨.str x, H, I.tok _, ⟨_, rfl⟩, h⟩
def Gl (X : Cx) (x : Str) : Prop := X.env.kindOf x = some .globalImplicit
theorem ld_glob {E : Value → Shared → Prop} {pins : List (Addr × Obj)} {s : Shared} {σ : St} {H : Hp} {x : Str} {u : Value} {pos : Pos} {Q : Value → Shared → Prop} (I : Inv X pins σ H s) (hg : Gl X x) (hm : X.mg x = some u) (h : Q u s)
    (hd : (x == ("__debug__" : Str)) = false := by decide) : wpAny (model X.prog X.w) X.A (eval (.Name x pos) X.env) Q E s :=
  Calls.Name_function_global I.ok.kind hg (Calls.loadGlobal_global (by rw [I.ok.glob]; exact I.mod.glob.keeps I.bk) hm h) hd
theorem ld_blt {E : Value → Shared → Prop} {pins : List (Addr × Obj)} {s : Shared} {σ : St} {H : Hp} {x : Str} {u : Value} {pos : Pos} {Q : Value → Shared → Prop} (I : Inv X pins σ H s) (hg : Gl X x) (hm : X.mg x = none) (hv : bootBuiltins x = some u) (h : Q u s)
    (hn : x ≠ "__name__" := by decide) (hd : (x == ("__debug__" : Str)) = false := by decide) : wpAny (model X.prog X.w) X.A (eval (.Name x pos) X.env) Q E s := by
  obtain ⟨mb, h1, h2⟩ := I.mod.blt
  exact Calls.Name_function_global I.ok.kind hg (Calls.loadGlobal_builtin (by rw [I.ok.glob]; exact I.mod.glob.keeps I.bk) hm (by rw [I.ok.blt]; exact h1.keeps I.bk) ((h2 x hn).trans hv) h) hd
theorem pe_glob {x : Str} {v : V} {u : Value} {pos : Pos} (hg : Gl X x) (hm : X.mg x = some u) (r : RelV v u) (hd : (x == ("__debug__" : Str)) = false := by decide) : PE X (.Name x pos) (tC v) :=
  fun _ _ _ H _ I h => ld_glob I hg hm ⟨v, H, I, r, h⟩ hd
theorem pe_bltn {x : Str} {v : V} {u : Value} {pos : Pos} (hg : Gl X x) (hm : X.mg x = none) (hv : bootBuiltins x = some u) (r : RelV v u) (hn : x ≠ "__name__" := by decide) (hd : (x == ("__debug__" : Str)) = false := by decide) : PE X (.Name x pos) (tC v) :=
  fun _ _ _ H _ I h => ld_blt I hg hm hv ⟨v, H, I, r, h⟩ hn hd
variable {a b : Expr} {ta tb : TE} {pos : Pos}
def tB (t : TE) : TT := fun σ H Q => t σ H fun x H1 => ∃ c, x = .bl c ∧ Q c H1
theorem pt_val {e : Expr} {t : TE} (h : PE X e t) (he : ∀ whole, isTrue e X.env whole = (do let v ← whole; standAt e.pos; holding [v] (truthy v)) := by intro _; rfl) : PT X e (tB t) := by
  intro pins s σ H Q I hw
  refine isTrue_plain (thn (h pins s σ H _ I hw) fun v s1 ⟨x, H1, I1, r1, q1⟩ => ?_) (he _)
  obtain ⟨d, rfl, q⟩ := q1
  cases r1
  exact wpAny_truthy_bool ⟨H1, I1, q⟩
variable {tA tB' : TT} {rest : List Expr}
def tAnd (t u : TT) : TT := fun σ H Q => t σ H fun c H1 => if c = true then u σ H1 Q else Q false H1
def tOr (t u : TT) : TT := fun σ H Q => t σ H fun c H1 => if c = true then Q true H1 else u σ H1 Q
def tNot (t : TT) : TT := fun σ H Q => t σ H fun c H1 => Q (!c) H1
theorem pw_and1 (ha : PT X a tA) : PW X (.BoolOp .And [a] pos) tA := by
  intro wh pins s σ H Q I h
  refine isTrue_and (thn (ha pins s σ H Q I h) fun c s1 e => ?_)
  cases c with
  | true => exact isTrue_and_nil e
  | false => exact e
theorem pw_or1 (ha : PT X a tA) : PW X (.BoolOp .Or [a] pos) tA := by
  intro wh pins s σ H Q I h
  refine isTrue_or (thn (ha pins s σ H Q I h) fun c s1 e => ?_)
  cases c with
  | false => exact isTrue_or_nil e
  | true => exact e
theorem pw_and (ha : PT X a tA) (hb : PW X (.BoolOp .And (b :: rest) pos) tB') : PW X (.BoolOp .And (a :: b :: rest) pos) (tAnd tA tB') := by
  intro wh pins s σ H Q I h
  refine isTrue_and (thn (ha pins s σ H _ I h) fun c s1 ⟨H1, I1, q1⟩ => ?_)
  cases c with
  | true => exact hb wh pins s1 σ H1 Q I1 q1
  | false => exact ⟨H1, I1, q1⟩
theorem pw_or (ha : PT X a tA) (hb : PW X (.BoolOp .Or (b :: rest) pos) tB') : PW X (.BoolOp .Or (a :: b :: rest) pos) (tOr tA tB') := by
  intro wh pins s σ H Q I h
  refine isTrue_or (thn (ha pins s σ H _ I h) fun c s1 ⟨H1, I1, q1⟩ => ?_)
  cases c with
  | true => exact ⟨H1, I1, q1⟩
  | false => exact hb wh pins s1 σ H1 Q I1 q1
theorem pt_not (ha : PT X a tA) : PT X (.UnaryOp .Not a pos) (tNot tA) := by
  intro pins s σ H Q I h
  exact isTrue_not (ha pins s σ H (fun c H1 => Q (!c) H1) I h)
def tAndV (ta tb : TE) : TE := fun σ H Q => ta σ H fun x H1 => ∃ c, x = .bl c ∧ if c = true then tb σ H1 Q else Q (.bl false) H1
def tOrV (ta tb : TE) : TE := fun σ H Q => ta σ H fun x H1 => ∃ c, x = .bl c ∧ if c = true then Q (.bl true) H1 else tb σ H1 Q
def tNotV (ta : TE) : TE := fun σ H Q => ta σ H fun x H1 => ∃ c, x = .bl c ∧ Q (.bl (!c)) H1
def tIf (t : TT) (ta tb : TE) : TE := fun σ H Q => t σ H fun c H1 => if c = true then ta σ H1 Q else tb σ H1 Q
theorem pe_ifExp {c : Expr} (hc : PT X c tA) (ha : PE X a ta) (hb : PE X b tb) : PE X (.IfExp c a b pos) (tIf tA ta tb) := by
  intro pins s σ H Q I h
  refine wpAny_IfExp (thn (hc pins s σ H _ I h) fun d s1 ⟨H1, I1, q1⟩ => ?_)
  cases d with
  | true => exact ha pins s1 σ H1 Q I1 q1
  | false => exact hb pins s1 σ H1 Q I1 q1
end
end L2
namespace L2
open PySem PySem.Spec PyProof.Rows
def SqL (K : PySem.W.Frag) (H : Hp) (a : Addr) (xs : List V) : Prop :=
  Rd H a (.lst xs) ∨
    ∃ (o : Obj) (its : Array Value) (n : Nat), K.lookup a = some o ∧ o.cls = .type "list" ∧ o.dict = none ∧ o.data = .seq its n ∧ its.size ≤ sizeLine ∧ Vals xs its.toList
def SqT (K : PySem.W.Frag) (H : Hp) (a : Addr) (xs : List V) : Prop :=
  Rd H a (.tup xs) ∨
    ∃ (o : Obj) (its : Array Value) (n : Nat), K.lookup a = some o ∧ o.cls = .type "tuple" ∧ o.data = .seq its n ∧ its.size ≤ sizeLine ∧ Vals xs its.toList
def absV : Value → Option V
  | .none => some .non
  | .bool b => some (.bl b)
  | .int i _ => some (.int i)
  | .str x _ => some (.str x)
  | .bytes b _ => some (.byt b)
  | .float b _ => some (.flt b)
  | .ref a => some (.ref a)
  | .type n => some (.ty n)
  | _ => none
theorem RelV.abs {x : V} {u : Value} (r : RelV x u) : absV u = some x := by
  cases x with
  | non => cases r; rfl
  | bl _ => cases r; rfl
  | int _ => obtain ⟨t, rfl⟩ := r; rfl
  | str _ => obtain ⟨t, rfl⟩ := r; rfl
  | byt _ => obtain ⟨t, rfl⟩ := r; rfl
  | flt _ => obtain ⟨t, rfl⟩ := r; rfl
  | ref _ => cases r; rfl
  | ty _ => cases r; rfl
theorem RelV.inj {x y : V} {u : Value} (r : RelV x u) (q : RelV y u) : x = y := Option.some.inj (r.abs.symm.trans q.abs)
theorem Vals.inj : ∀ {xs ys : List V} {us : List Value}, Vals xs us → Vals ys us → xs = ys
  | _, _, _, .nil, .nil => rfl
  | _, _, _, .cons r t, .cons r' t' => by rw [r.inj r', Vals.inj t t']
section
variable {X : Cx} {pins : List (Addr × Obj)} {σ : St} {H : Hp} {s : Shared} {a : Addr} {xs ys : List V}
theorem SqL.of {K : PySem.W.Frag} (h : H a = some (.lst xs)) : SqL K H a xs := .inl (.inl h)
theorem SqT.of {K : PySem.W.Frag} (h : H a = some (.tup xs)) : SqT K H a xs := .inl (.inl h)
theorem Inv.list (I : Inv X pins σ H s) (h : SqL X.K H a xs) : ∃ its : List Value, Vals xs its ∧ PlainL s.heap a its.toArray ∧ xs.length ≤ sizeLine := by
  rcases h with h | ⟨o, its, n, hk, hc, hd, hs, hz, r⟩
  · obtain ⟨z, its, n, r, e⟩ := h.ok I.hok
    exact ⟨its, r, ⟨_, n, e, rfl, rfl, rfl⟩, z⟩
  · refine ⟨its.toList, r, ⟨o, n, I.kIn a o hk, hc, hd, by simpa using hs⟩, ?_⟩
    have e := r.length
    simp only [Array.length_toList] at e
    omega
theorem Inv.tuple (I : Inv X pins σ H s) (h : SqT X.K H a xs) : ∃ its : List Value, Vals xs its ∧ IsTup s.heap a its.toArray ∧ xs.length ≤ sizeLine := by
  rcases h with h | ⟨o, its, n, hk, hc, hs, hz, r⟩
  · obtain ⟨z, its, r, p⟩ := h.ok I.hok
    exact ⟨its, r, p, z⟩
  · refine ⟨its.toList, r, ⟨o, I.kIn a o hk, hc, n, by simpa using hs⟩, ?_⟩
    have e := r.length
    simp only [Array.length_toList] at e
    omega
theorem Inv.list_inj (I : Inv X pins σ H s) (h : SqL X.K H a xs) (h' : SqL X.K H a ys) : xs = ys := by
  obtain ⟨its, r, ⟨o, n, e, _, _, d⟩, _⟩ := I.list h
  obtain ⟨its', r', ⟨o', n', e', _, _, d'⟩, _⟩ := I.list h'
  rw [e] at e'; cases e'
  rw [d] at d'
  injection d' with d1 _
  have : its = its' := by simpa using congrArg Array.toList d1
  subst this
  exact r.inj r'
theorem Inv.tuple_inj (I : Inv X pins σ H s) (h : SqT X.K H a xs) (h' : SqT X.K H a ys) : xs = ys := by
  obtain ⟨its, r, ⟨o, e, _, n, d⟩, _⟩ := I.tuple h
  obtain ⟨its', r', ⟨o', e', _, n', d'⟩, _⟩ := I.tuple h'
  rw [e] at e'; cases e'
  rw [d] at d'
  injection d' with d1 _
  have : its = its' := by simpa using congrArg Array.toList d1
  subst this
  exact r.inj r'
end
abbrev Cx.wish (X : Cx) (E : Value → Shared → Prop) : Cx := { X with xe := E }
abbrev Cx.nox (X : Cx) : Cx := X.wish fun _ _ => False
theorem Cx.Ok.wish {X : Cx} (ok : X.Ok) (E : Value → Shared → Prop) : (X.wish E).Ok :=
  ⟨ok.mod, ok.kind, ok.glob, ok.blt, ok.above, ok.inj, ok.has, ok.cab, ok.hd, ok.frames, ok.stk, ok.exf, ok.bs, ok.bsz, ok.noex, ok.exfs, ok.funs, ok.frf⟩
theorem Cx.Ok.unwish {X : Cx} {E : Value → Shared → Prop} (ok : (X.wish E).Ok) : X.Ok :=
  ⟨ok.mod, ok.kind, ok.glob, ok.blt, ok.above, ok.inj, ok.has, ok.cab, ok.hd, ok.frames, ok.stk, ok.exf, ok.bs, ok.bsz, ok.noex, ok.exfs, ok.funs, ok.frf⟩
section
variable {X : Cx} {pins : List (Addr × Obj)} {σ : St} {H : Hp} {s : Shared} {E : Value → Shared → Prop}
theorem Inv.wish (I : Inv X pins σ H s) (E : Value → Shared → Prop) : Inv (X.wish E) pins σ H s := ⟨I.ok.wish E, I.os, I.bare, I.base, I.loc, I.cell, I.free, I.freeC, I.pin, I.hok, I.len⟩
theorem Inv.unwish (I : Inv (X.wish E) pins σ H s) : Inv X pins σ H s := ⟨I.ok.unwish, I.os, I.bare, I.base, I.loc, I.cell, I.free, I.freeC, I.pin, I.hok, I.len⟩
theorem SP.unwish {D : Ends} {f : Flow} {s' : Shared} (h : SP (X.wish E) pins D f s') : SP X pins D f s' := by
  cases f with
  | next => obtain ⟨σ', H', I, q⟩ := h; exact ⟨σ', H', I.unwish, q⟩
  | brk => obtain ⟨σ', H', I, q⟩ := h; exact ⟨σ', H', I.unwish, q⟩
  | cont => obtain ⟨σ', H', I, q⟩ := h; exact ⟨σ', H', I.unwish, q⟩
  | ret u => obtain ⟨v, σ', H', I, r, q⟩ := h; exact ⟨v, σ', H', I.unwish, r, q⟩
theorem PE.nox {e : Expr} {t : TE} (h : PE X.nox e t) : PE X e t := fun pins s σ H Q I hw =>
  wpAny_mono (h pins s σ H Q (I.wish _) hw) (fun _ _ ⟨v, H', I', r, q⟩ => ⟨v, H', I'.unwish, r, q⟩) fun _ _ z => False.elim z
theorem PT.nox {e : Expr} {t : TT} (h : PT X.nox e t) : PT X e t := fun pins s σ H Q I hw =>
  wpAny_mono (h pins s σ H Q (I.wish _) hw) (fun _ _ ⟨H', I', q⟩ => ⟨H', I'.unwish, q⟩) fun _ _ z => False.elim z
theorem PSs.nox {st : List Stmt} {t : TS} (h : PSs X.nox st t) : PSs X st t := fun pins s σ H D I hw =>
  wpAny_mono (h pins s σ H D (I.wish _) hw) (fun _ _ q => q.unwish) fun _ _ z => False.elim z
end
section
variable {X : Cx} {st : Stmt} {rest : List Stmt} {t u : TS} {e : Expr} {te : TE} {pos : Pos}
def tNext : TS := fun D σ H => D.nx σ H
def tSeq (t u : TS) : TS := fun D σ H => t { D with nx := u D } σ H
theorem pss_nil : PSs X [] tNext := fun _ _ σ H _ I h => wpAny_execs_nil ⟨σ, H, I, h⟩
theorem pss_cons (h1 : PS X st t) (h2 : PSs X rest u) : PSs X (st :: rest) (tSeq t u) := by
  intro pins s σ H D I h
  refine wpAny_execs_cons (thn (h1 pins s σ H { D with nx := u D } I h) fun f s1 q => ?_)
  cases f with
  | next =>
    obtain ⟨σ', H', I', q⟩ := q
    exact h2 pins s1 σ' H' D I' q
  | ret v => exact q
  | brk => exact q
  | cont => exact q
theorem pss_one (h1 : PS X st t) : PSs X [st] t := by
  intro pins s σ H D I h
  refine wpAny_execs_cons (thn (h1 pins s σ H D I h) fun f s1 q => ?_)
  cases f with
  | next => exact wpAny_execs_nil q
  | ret v => exact q
  | brk => exact q
  | cont => exact q
theorem Inv.quiet {pins : List (Addr × Obj)} {σ : St} {H : Hp} {s : Shared} (I : Inv X pins σ H s) : interactive X.env = false := by simp [interactive, I.ok.kind]
def tDrop (te : TE) : TS := fun D σ H => te σ H fun _ H1 => D.nx σ H1
theorem ps_expr (he : PE X e te) (hs : swapsWith e none pos.line X.env = pure false := by rfl) : PS X (.Expr e pos) (tDrop te) := by
  intro pins s σ H D I h
  exact wpAny_Expr_any (thn (he pins s σ H _ I h) fun v s1 ⟨x, H1, I1, r1, q1⟩ => ⟨σ, H1, I1, q1⟩) I.quiet hs
def tRet (te : TE) : TS := fun D σ H => te σ H D.rt
theorem ps_ret (he : PE X e te) : PS X (.Return (some e) pos) (tRet te) := by
  intro pins s σ H D I h
  exact wpAny_Return_some (thn (he pins s σ H _ I h) fun v s1 ⟨x, H1, I1, r1, q1⟩ => ⟨x, σ, H1, I1, r1, q1⟩)
def tRetN : TS := fun D _ H => D.rt .non H
def tIfS (c : TT) (t u : TS) : TS := fun D σ H => c σ H fun b H1 => if b = true then t D σ H1 else u D σ H1
theorem ps_if {c : Expr} {a b : List Stmt} {tc : TT} (hc : PT X c tc) (ha : PSs X a t) (hb : PSs X b u) : PS X (.If c a b pos) (tIfS tc t u) := by
  intro pins s σ H D I h
  refine wpAny_If (thn (hc pins s σ H _ I h) fun d s1 ⟨H1, I1, q1⟩ => ?_)
  cases d with
  | true => exact ha pins s1 σ H1 D I1 q1
  | false => exact hb pins s1 σ H1 D I1 q1
end
abbrev TG := V → St → Hp → (St → Hp → Prop) → Prop
abbrev TGs := List V → St → Hp → (St → Hp → Prop) → Prop
def PG (X : Cx) (target : Expr) (t : TG) : Prop :=
  ∀ (pins : List (Addr × Obj)) (s : Shared) (σ : St) (H : Hp) (v : V) (u : Value) (Q : St → Hp → Prop), Inv X pins σ H s → RelV v u → t v σ H Q →
    wpAny (model X.prog X.w) X.A (assign target X.env u) (fun _ s' => ∃ σ' H', Inv X pins σ' H' s' ∧ Q σ' H') X.xe s
abbrev TSet := V → V → V → Hp → (Hp → Prop) → Prop
section
variable {X : Cx} {pos : Pos}
def gName (i : Nat) : TG := fun v σ H Q => Q (σ.set i (some v)) H
theorem pg_name {i : Nat} {x : Str} (hN : X.N.Nodup) (hi : X.N[i]? = some x) (hx : Loc X.env.scope x) (hf : X.fn x = true ∨ X.env.scope.names.lookup x = some .local := by first | exact .inl rfl | exact .inr rfl | assumption) : PG X (.Name x pos) (gName i) := by
  intro pins s σ H v u Q I r h
  exact wpAny_assign_Name (store_ok I hN hi hx r (fun s' I' => ⟨_, H, I', h⟩) hf)
def gNil : TGs := fun vs σ H Q => vs = [] ∧ Q σ H
def gCons (t : TG) (u : TGs) : TGs := fun vs σ H Q => ∃ v r, vs = v :: r ∧ t v σ H fun σ' H' => u r σ' H' Q
def gTup (K : PySem.W.Frag) (n : Nat) (t : TGs) : TG := fun v σ H Q => ∃ a xs, v = .ref a ∧ SqT K H a xs ∧ xs.length = n ∧ t xs σ H Q
def gSub (to ti : TE) (t : TSet) : TG := fun v σ H Q => to σ H fun o H1 => ti σ H1 fun i H2 => t o i v H2 fun H3 => Q σ H3
def tAsg (te : TE) (g : TG) : TS := fun D σ H => te σ H fun x H1 => g x σ H1 D.nx
theorem ps_set {i : Nat} {x : Str} {e : Expr} {te : TE} {pos' : Pos} (hN : X.N.Nodup) (hi : X.N[i]? = some x) (hx : Loc X.env.scope x) (he : PE X e te) (hs : swapsWith e (some (.Name x pos')) pos.line X.env = pure false := by rfl) (hf : X.fn x = true ∨ X.env.scope.names.lookup x = some .local := by first | exact .inl rfl | exact .inr rfl | assumption) :
    PS X (.Assign [.Name x pos'] e pos) (tAsg te (gName i)) := by
  intro pins s σ H D I h
  refine wpAny_Assign_Name (thn (he pins s σ H _ I h) fun v s1 ⟨y, H1, I1, r1, q1⟩ => ?_) hs
  exact store_ok I1 hN hi hx r1 (fun s2 I2 => ⟨_, H1, I2, q1⟩) hf
def tPar (i j : Nat) (ta : TA) : TS := fun D σ H => ta σ H fun vs H1 => ∃ v w, vs = [v, w] ∧ D.nx ((σ.set i (some v)).set j (some w)) H1
end
section
variable {X : Cx} {pos : Pos}
def tWhile (c : TT) (tb : TS) : TS := fun D σ H => ∃ W : Nat → St → Hp → Prop, (∃ m, W m σ H) ∧ ∀ m σ H, W m σ H →
  c σ H fun b H1 => if b = true then ∃ N : St → Hp → Prop, (∀ σ' H', N σ' H' → ∃ m', m' < m ∧ W m' σ' H') ∧ tb { D with nx := N, ct := N, bk := D.nx } σ H1 else D.nx σ H1
theorem ps_while {c : Expr} {body : List Stmt} {tc : TT} {tb : TS} (hp : PassesOwn (model X.prog X.w) X.A X.env X.xe) (hc : PT X c tc) (hb : PSs X body tb) : PS X (.While c body [] pos) (tWhile tc tb) := by
  intro pins s σ H D I h
  obtain ⟨W, ⟨m0, w0⟩, turn⟩ := h
  refine wpAny_While (codeAny_whileLoop (fun n s' => ∃ σ' H', Inv X pins σ' H' s' ∧ W n σ' H') ?_ m0 ⟨σ, H, I, w0⟩)
  rintro n s1 ⟨σ1, H1, I1, w1⟩
  refine wpAny_passesOwn hp (thn (hc pins s1 σ1 H1 _ I1 (turn n σ1 H1 w1)) fun b s2 ⟨H2, I2, q2⟩ => ?_)
  cases b with
  | true =>
    obtain ⟨N, hN, q2⟩ := q2
    rw [if_pos rfl]
    refine wpAny_passesOwn hp (thn (hb pins s2 σ1 H2 _ I2 q2) fun f s3 q3 => ?_)
    cases f with
    | next =>
      obtain ⟨σ3, H3, I3, n3⟩ := q3
      obtain ⟨m', hm, w3⟩ := hN σ3 H3 n3
      exact ⟨m', hm, σ3, H3, I3, w3⟩
    | cont =>
      obtain ⟨σ3, H3, I3, n3⟩ := q3
      obtain ⟨m', hm, w3⟩ := hN σ3 H3 n3
      exact ⟨m', hm, σ3, H3, I3, w3⟩
    | brk => exact q3
    | ret v => exact q3
  | false =>
    rw [if_neg Bool.false_ne_true]
    exact wpAny_execs_nil ⟨σ1, H2, I2, q2⟩
end
structure It where
  go : Nat → Hp → Prop
  yld : Nat → Hp → V → Hp → Prop
  stop : Nat → Hp → Prop
def FpOk (X : Cx) (pins : List (Addr × Obj)) (H : Hp) (b : Addr) : Prop :=
  H b = none ∧ b ≠ X.env.locals ∧ b ∉ X.fs ∧ (b ∈ X.ex ∨ X.s₀.heap.objs.size ≤ b) ∧ (∀ x c, X.env.cells.lookup x = some c → c ≠ b) ∧ ∀ p ∈ X.pn ++ pins, p.1 ≠ b
theorem Inv.fpOk {X : Cx} {pins : List (Addr × Obj)} {σ : St} {H H' : Hp} {s : Shared} {b : Addr} (I : Inv X pins σ H s) (hb : s.heap.objs.size ≤ b) (hn : H' b = none) : FpOk X pins H' b := by
  refine ⟨hn, Nat.ne_of_gt (Nat.lt_of_lt_of_le I.lt hb), I.nofs hb, .inr (Nat.le_trans I.sz hb), fun x c e z => ?_, fun p hp z => ?_⟩
  · obtain ⟨v, q⟩ := I.cell x c e
    exact absurd (Nat.lt_of_lt_of_le q.lt (by rw [z]; exact hb)) (Nat.lt_irrefl _)
  · exact absurd (Nat.lt_of_lt_of_le (Heap.lt_size (I.pin p hp).1) (by rw [z]; exact hb)) (Nat.lt_irrefl _)
structure Turn (P : Program) (w : World) (K : PySem.W.Frag) (tg : Expr) (J : It) (fp : List Addr) (it : Addr) (tn : Nat → Heap → Prop) : Prop where
  mem : it ∈ fp
  obj : ∀ i h, tn i h → ∀ b ∈ fp, ∃ o, h.get? b = some o ∧ ∀ v, o.data ≠ .cell v
  keep : ∀ i h h', tn i h → (∀ b ∈ fp, ∀ o, h.get? b = some o → h'.get? b = some o) → tn i h'
  item : ∀ (X : Cx), X.prog = P → X.w = w → X.K = K → X.calm = true → ∀ (i : Nat) (pins : List (Addr × Obj)) (s : Shared) (σ : St) (H : Hp) (E : Value → Shared → Prop), Inv X pins σ H s → (∀ b ∈ fp, FpOk X pins H b) → tn i s.heap → J.go i H →
    wpAny (model P w) X.A (pyNext (.ref it)) (fun r s1 => ∃ u, r = some u ∧
      wpAny (model P w) X.A (letOwnedTupleGo tg (.ref it) u) (fun _ s2 => ∃ x H', Inv X pins σ H' s2 ∧ RelV x u ∧ J.yld i H x H' ∧ tn (i + 1) s2.heap ∧ ∀ b ∈ fp, H' b = none) E s1) E s
  done : ∀ (X : Cx), X.prog = P → X.w = w → X.K = K → X.calm = true → ∀ (i : Nat) (pins : List (Addr × Obj)) (s : Shared) (σ : St) (H : Hp) (E : Value → Shared → Prop), Inv X pins σ H s → (∀ b ∈ fp, FpOk X pins H b) → tn i s.heap → J.stop i H →
    wpAny (model P w) X.A (pyNext (.ref it)) (fun r s1 => r = none ∧ Inv X pins σ H s1) E s
  self : ∀ (A : Around) (i : Nat) (s : Shared) (Q : Value → Shared → Prop) (E : Value → Shared → Prop), tn i s.heap → Q (.ref it) s → wpAny (model P w) A (pyIter (.ref it)) Q E s
abbrev TI := St → Hp → (It → Hp → Prop) → Prop
def PIE (X : Cx) (pins : List (Addr × Obj)) (σ : St) (tg : Expr) (R : It → Hp → Prop) (itv : Value) (s2 : Shared) : Prop :=
  ∃ (it : Addr) (fp : List Addr) (tn : Nat → Heap → Prop) (J : It) (H' : Hp), itv = .ref it ∧ Inv X pins σ H' s2 ∧ Turn X.prog X.w X.K tg J fp it tn ∧ tn 0 s2.heap ∧ (∀ b ∈ fp, FpOk X pins H' b) ∧ R J H'
def PI (X : Cx) (tg iter : Expr) (wi : TI) : Prop :=
  ∀ (pins : List (Addr × Obj)) (s : Shared) (σ : St) (H : Hp) (R : It → Hp → Prop), Inv X pins σ H s → wi σ H R →
    wpAny (model X.prog X.w) X.A (eval iter X.env) (fun v s1 => wpAny (model X.prog X.w) X.A (pyIter v) (PIE X pins σ tg R) X.xe s1) X.xe s
theorem go_of {M : Model} {A : Around} {E : Value → Shared → Prop} {s : Shared} {tg : Expr} {it : Addr} {u : Value} {o : Obj} {n : String} {vs : Array Value} {Q : Unit → Shared → Prop} (ho : s.heap.get? it = some o) (hc : o.cls = .type n) (hd : o.data = .fields vs)
    (hn : ["enumerate", "zip", "dict_itemiterator", "dict_reverseitemiterator", "odict_iterator", "itertools.zip_longest", "itertools.pairwise"].contains n = false) (hQ : Q () s) : wpAny M A (letOwnedTupleGo tg (.ref it) u) Q E s := by
  unfold letOwnedTupleGo
  cases tg <;> first
    | exact wpAny_pure hQ
    | (cases u <;> first
        | exact wpAny_pure hQ
        | (refine wpAny_bind (wpAny_load ho ?_)
           rw [hc, hd]
           show wpAny M A (if (["enumerate", "zip", "dict_itemiterator", "dict_reverseitemiterator", "odict_iterator", "itertools.zip_longest", "itertools.pairwise"].contains n && vs[0]? == some (rawInt _)) = true then _ else _) Q E s
           rw [if_neg (by intro h; rw [hn, Bool.false_and] at h; cases h)]
           exact wpAny_pure hQ))
def Itl (K : PySem.W.Frag) (a : Addr) : It :=
  ⟨fun i H => ∃ xs x, SqL K H a xs ∧ xs[i]? = some x, fun i H x H' => H' = H ∧ ∀ xs, SqL K H a xs → xs[i]? = some x, fun i H => ∃ xs, SqL K H a xs ∧ xs.length ≤ i⟩
def Itt (K : PySem.W.Frag) (a : Addr) : It :=
  ⟨fun i H => ∃ xs x, SqT K H a xs ∧ xs[i]? = some x, fun i H x H' => H' = H ∧ ∀ xs, SqT K H a xs → xs[i]? = some x, fun i H => ∃ xs, SqT K H a xs ∧ xs.length ≤ i⟩
def Itr (lo : Int) (n : Nat) : It := ⟨fun i _ => i < n, fun i H x H' => H' = H ∧ x = .int (lo + i), fun i _ => n ≤ i⟩
theorem turn_list {P : Program} {w : World} {K : PySem.W.Frag} {tg : Expr} (a it : Addr) : Turn P w K tg (Itl K a) [it] it (fun i h => h.IsListIter it a i) where
  mem := by simp
  obj := fun i h st b hb => by
    have e : b = it := by simpa using hb
    subst e
    obtain ⟨o, e, c, d⟩ := st
    exact ⟨o, e, fun v z => by rw [d] at z; cases z⟩
  keep := fun i h h' st k => st.at fun o e => k it (by simp) o e
  item := by
    intro X hP hw hK hc i pins s σ H E I hf st hg
    subst hP hw hK
    obtain ⟨xs, x, hq, hx⟩ := hg
    obtain ⟨its, rv, p, hz⟩ := I.list hq
    obtain ⟨u, hu, ru⟩ := rv.get hx
    obtain ⟨f0, f1, f2, f3, f4, f5⟩ := hf it (by simp)
    refine wpAny_pyNext_list_item st p.isList (x := u) (by simpa using hu) fun h' st' sb => ?_
    have I1 : Inv X pins σ H { s with heap := h' } := I.turned (t' := s.toks) (fun b o hb e => (sb.2 b hb).trans e) f0 f1 f3 f4 f5
    obtain ⟨o, e, c, d⟩ := id st'
    exact ⟨u, rfl, go_of (s := { s with heap := h' }) e c d (by decide) ⟨x, H, I1, ru, ⟨rfl, fun ys hy => by rw [I.list_inj hy hq]; exact hx⟩, st', fun b hb => (hf b hb).1⟩⟩
  done := by
    intro X hP hw hK hc i pins s σ H E I hf st hg
    subst hP hw hK
    obtain ⟨xs, hq, hx⟩ := hg
    obtain ⟨its, rv, p, hz⟩ := I.list hq
    obtain ⟨f0, f1, f2, f3, f4, f5⟩ := hf it (by simp)
    have hl := rv.length
    exact wpAny_pyNext_list_end (I.ok.hd hc) st p.isList (by simp; omega) fun h' eb => ⟨rfl, I.turned (t' := s.toks) (fun b o hb e => eb b o hb e) f0 f1 f3 f4 f5⟩
  self := fun _ _ _ _ _ st h => wpAny_pyIter_listiter st h
theorem turn_tuple {P : Program} {w : World} {K : PySem.W.Frag} {tg : Expr} (a it : Addr) : Turn P w K tg (Itt K a) [it] it (fun i h => h.IsTupleIter it a i) where
  mem := by simp
  obj := fun i h st b hb => by
    have e : b = it := by simpa using hb
    subst e
    obtain ⟨o, e, c, d⟩ := st
    exact ⟨o, e, fun v z => by rw [d] at z; cases z⟩
  keep := fun i h h' st k => st.at fun o e => k it (by simp) o e
  item := by
    intro X hP hw hK hc i pins s σ H E I hf st hg
    subst hP hw hK
    obtain ⟨xs, x, hq, hx⟩ := hg
    obtain ⟨its, rv, p, hz⟩ := I.tuple hq
    obtain ⟨u, hu, ru⟩ := rv.get hx
    obtain ⟨f0, f1, f2, f3, f4, f5⟩ := hf it (by simp)
    refine wpAny_pyNext_tuple_item st (show s.heap.IsTuple a its.toArray from p) (x := u) (by simpa using hu) fun h' st' sb => ?_
    have I1 : Inv X pins σ H { s with heap := h' } := I.turned (t' := s.toks) (fun b o hb e => (sb.2 b hb).trans e) f0 f1 f3 f4 f5
    obtain ⟨o, e, c, d⟩ := id st'
    exact ⟨u, rfl, go_of (s := { s with heap := h' }) e c d (by decide) ⟨x, H, I1, ru, ⟨rfl, fun ys hy => by rw [I.tuple_inj hy hq]; exact hx⟩, st', fun b hb => (hf b hb).1⟩⟩
  done := by
    intro X hP hw hK hc i pins s σ H E I hf st hg
    subst hP hw hK
    obtain ⟨xs, hq, hx⟩ := hg
    obtain ⟨its, rv, p, hz⟩ := I.tuple hq
    obtain ⟨f0, f1, f2, f3, f4, f5⟩ := hf it (by simp)
    have hl := rv.length
    exact wpAny_pyNext_tuple_end (I.ok.hd hc) st (show s.heap.IsTuple a its.toArray from p) (by simp; omega) fun h' eb => ⟨rfl, I.turned (t' := s.toks) (fun b o hb e => eb b o hb e) f0 f1 f3 f4 f5⟩
  self := fun _ _ _ _ _ st h => wpAny_pyIter_tupleiter st h
theorem turn_range {P : Program} {w : World} {K : PySem.W.Frag} {tg : Expr} (it : Addr) (lo : Int) (n : Nat) : Turn P w K tg (Itr lo n) [it] it (fun i h => IsRangeIter h it (lo + (i : Nat) * 1) ((n : Int) - (i : Nat)) 1) where
  mem := by simp
  obj := fun i h st b hb => by
    have e : b = it := by simpa using hb
    subst e
    exact ⟨_, st, fun v z => by
      have z' : Data.fields _ = Data.cell v := z
      cases z'⟩
  keep := fun i h h' st k => k it (by simp) _ st
  item := by
    intro X hP hw hK hc i pins s σ H E I hf st hg
    subst hP hw hK
    obtain ⟨f0, f1, f2, f3, f4, f5⟩ := hf it (by simp)
    have W := Walks.range (prog := X.prog) (w := X.w) (I.ok.hd hc) it lo 1 n
    refine W.item i s _ _ hg st fun v h' tk hv st' kk => ?_
    obtain ⟨t, rfl⟩ := hv
    have I1 : Inv X pins σ H { s with heap := h', toks := tk } := I.turned (fun b o hb e => kk b o (by simpa using hb) e) f0 f1 f3 f4 f5
    refine ⟨_, rfl, go_of (s := { s with heap := h', toks := tk }) (n := "range_iterator") st' rfl rfl (by decide) ⟨.int (lo + i), H, I1, ⟨t, ?_⟩, ⟨rfl, rfl⟩, st', fun b hb => (hf b hb).1⟩⟩
    rw [Int.mul_one]
  done := by
    intro X hP hw hK hc i pins s σ H E I hf st hg
    subst hP hw hK
    obtain ⟨f0, f1, f2, f3, f4, f5⟩ := hf it (by simp)
    exact wpAny_pyNext_range_end (I.ok.hd hc) st (by have : n ≤ i := hg; omega) fun h' eb => ⟨rfl, I.turned (t' := s.toks) (fun b o hb e => eb b o hb e) f0 f1 f3 f4 f5⟩
  self := fun _ _ _ _ _ st h => wpAny_pyIter_rangeiter st h
end L2
namespace L2
open PySem PySem.Spec PyProof.Rows
section
variable {X : Cx} {tg : Expr}
def iList (K : PySem.W.Frag) (tl : TE) : TI := fun σ H R => tl σ H fun x H1 => ∃ a, x = .ref a ∧ (∃ xs, SqL K H1 a xs) ∧ R (Itl K a) H1
def iTup (K : PySem.W.Frag) (tl : TE) : TI := fun σ H R => tl σ H fun x H1 => ∃ a, x = .ref a ∧ (∃ xs, SqT K H1 a xs) ∧ R (Itt K a) H1
theorem pi_list {l : Expr} {tl : TE} (hl : PE X l tl) : PI X tg l (iList X.K tl) := by
  intro pins s σ H R I h
  refine thn (hl pins s σ H _ I h) fun v s1 ⟨x, H1, I1, r1, q1⟩ => ?_
  obtain ⟨a, e, ⟨xs, hq⟩, q⟩ := q1
  subst e
  cases r1
  obtain ⟨its, rv, p, hz⟩ := I1.list hq
  refine wpAny_pyIter_list p.isList ?_
  refine ⟨s1.heap.objs.size, [s1.heap.objs.size], _, _, H1, rfl, I1.kept (t' := s1.toks) fun b o e => Heap.get?_push_of_some _ e, turn_list a _, ⟨_, Heap.get?_push_size _ rfl, rfl, rfl⟩, fun b hb => ?_, q⟩
  have e : b = s1.heap.objs.size := by simpa using hb
  subst e
  exact I1.fpOk (Nat.le_refl _) (I1.hok.fresh (Nat.le_refl _))
theorem pi_tup {l : Expr} {tl : TE} (hl : PE X l tl) : PI X tg l (iTup X.K tl) := by
  intro pins s σ H R I h
  refine thn (hl pins s σ H _ I h) fun v s1 ⟨x, H1, I1, r1, q1⟩ => ?_
  obtain ⟨a, e, ⟨xs, hq⟩, q⟩ := q1
  subst e
  cases r1
  obtain ⟨its, rv, p, hz⟩ := I1.tuple hq
  refine wpAny_pyIter_tuple (show s1.heap.IsTuple a its.toArray from p) ?_
  refine ⟨s1.heap.objs.size, [s1.heap.objs.size], _, _, H1, rfl, I1.kept (t' := s1.toks) fun b o e => Heap.get?_push_of_some _ e, turn_tuple a _, ⟨_, Heap.get?_push_size _ rfl, rfl, rfl⟩, fun b hb => ?_, q⟩
  have e : b = s1.heap.objs.size := by simpa using hb
  subst e
  exact I1.fpOk (Nat.le_refl _) (I1.hok.fresh (Nat.le_refl _))
theorem range_it {pins : List (Addr × Obj)} {σ : St} {H : Hp} {s : Shared} {R : It → Hp → Prop} {E : Value → Shared → Prop} {lo hi : Int} {t u v : Tok} {tk : Nat} (I : Inv X pins σ H s) (h1 : -(2 ^ 62) ≤ lo) (h2 : lo < 2 ^ 62) (h3 : -(2 ^ 62) ≤ hi) (h4 : hi < 2 ^ 62)
    (q : R (Itr lo (hi - lo).toNat) H) : wpAny (model X.prog X.w) X.A (pyIter (.ref s.heap.objs.size)) (PIE X pins σ tg R) E { s with heap := s.heap.push { cls := .type "range", data := .fields #[.int lo t, .int hi u, .int 1 v] }, toks := tk } := by
  refine wpAny_pyIter_range (IsRange.new ..) (small_one h1 h2 h3 h4) ?_
  have I1 : Inv X pins σ H { s with heap := s.heap.push { cls := .type "range", data := .fields #[.int lo t, .int hi u, .int 1 v] }, toks := tk } := I.kept fun b o e => Heap.get?_push_of_some _ e
  refine ⟨(s.heap.push { cls := .type "range", data := .fields #[.int lo t, .int hi u, .int 1 v] }).objs.size, [(s.heap.push { cls := .type "range", data := .fields #[.int lo t, .int hi u, .int 1 v] }).objs.size], _, _, H, rfl,
    I1.kept (t' := tk) fun b o e => Heap.get?_push_of_some _ e, turn_range _ lo (hi - lo).toNat, ?_, fun b hb => ?_, q⟩
  · have e1 : lo + ((0 : Nat) : Int) * 1 = lo := by simp
    have e2 : (((hi - lo).toNat : Nat) : Int) - ((0 : Nat) : Int) = Builtin.Range.rangeSize lo hi 1 := by rw [rangeSize_one]; split <;> omega
    show IsRangeIter _ _ (lo + ((0 : Nat) : Int) * 1) ((((hi - lo).toNat : Nat) : Int) - ((0 : Nat) : Int)) 1
    rw [e1, e2]
    exact Heap.get?_push_size _ rfl
  · have e : b = (s.heap.push { cls := .type "range", data := .fields #[.int lo t, .int hi u, .int 1 v] }).objs.size := by simpa using hb
    subst e
    exact I1.fpOk (Nat.le_refl _) (I1.hok.fresh (Nat.le_refl _))
def iRng1 (ta : TA) : TI := fun σ H R => ta σ H fun vs H1 => ∃ j : Int, vs = [.int j] ∧ -(2 ^ 62) ≤ j ∧ j < 2 ^ 62 ∧ R (Itr 0 j.toNat) H1
theorem pi_range1 {a : Expr} {ta : TA} {p pos : Pos} (hg : Gl X "range") (hm : X.mg "range" = none) (ha : PA X [a] ta) (hs : starEach [a] X.env = [(false, eval a X.env)] := by rfl) : PI X tg (.Call (.Name "range" p) [a] [] pos) (iRng1 ta) := by
  intro pins s σ H R I h
  refine Call_ (ld_blt I hg hm boot_range (PyProof.Rows.callWith_type1 (thn (ha pos pins s σ H _ I h) fun us s1 ⟨vs, H1, I1, r1, q1⟩ => ?_) hs rfl))
  obtain ⟨j, e, q1, q2, q⟩ := q1
  subst e
  cases r1 with
  | cons r rr =>
    cases rr
    obtain ⟨t, rfl⟩ := r
    exact call_range_1 (range_it I1 (by omega) (by omega) q1 q2 (by simpa using q))
def tFor (wi : TI) (g : TG) (tb : TS) : TS := fun D σ H => wi σ H fun J H1 => ∃ W : Nat → Nat → St → Hp → Prop, (∃ m, W 0 m σ H1) ∧ ∀ i m σ H, W i m σ H →
  (J.stop i H ∧ D.nx σ H) ∨ (J.go i H ∧ ∃ N : St → Hp → Prop, (∀ σ' H', N σ' H' → ∃ m', m' < m ∧ W (i + 1) m' σ' H') ∧ ∀ x H', J.yld i H x H' → g x σ H' fun σ2 H2 => tb { D with nx := N, ct := N, bk := D.nx } σ2 H2)
def pinsAt (fp : List Addr) (h : Heap) : List (Addr × Obj) := fp.filterMap fun b => (h.get? b).map fun o => (b, o)
theorem mem_pinsAt {fp : List Addr} {h : Heap} {b : Addr} {o : Obj} (hb : b ∈ fp) (e : h.get? b = some o) : (b, o) ∈ pinsAt fp h := List.mem_filterMap.mpr ⟨b, hb, by rw [e]; rfl⟩
theorem of_pinsAt {fp : List Addr} {h : Heap} {p : Addr × Obj} (hp : p ∈ pinsAt fp h) : p.1 ∈ fp ∧ h.get? p.1 = some p.2 := by
  obtain ⟨b, hb, e⟩ := List.mem_filterMap.mp hp
  cases q : h.get? b with
  | none => rw [q] at e; cases e
  | some o =>
    rw [q] at e
    have e' : (b, o) = p := Option.some.inj e
    subst e'
    exact ⟨hb, q⟩
theorem Inv.pinned {pins : List (Addr × Obj)} {σ : St} {H : Hp} {s : Shared} {fp : List Addr} (I : Inv X pins σ H s) (hf : ∀ b ∈ fp, FpOk X pins H b) (ho : ∀ b ∈ fp, ∃ o, s.heap.get? b = some o ∧ ∀ v, o.data ≠ .cell v) : Inv X (pins ++ pinsAt fp s.heap) σ H s :=
  I.pins_of fun p hp => (List.mem_append.mp hp).elim (fun z => I.pin p (List.mem_append_right _ z)) fun z => by
    obtain ⟨hb, e⟩ := of_pinsAt z
    obtain ⟨f0, f1, f2, _⟩ := hf p.1 hb
    obtain ⟨o, e', d⟩ := ho p.1 hb
    rw [e] at e'; cases e'
    exact ⟨e, f0, f1, f2, d⟩
theorem Inv.unpinned {pins pl : List (Addr × Obj)} {σ : St} {H : Hp} {s : Shared} (I : Inv X (pins ++ pl) σ H s) : Inv X pins σ H s := I.pins_of fun p hp => I.pin p (List.mem_append_right _ (List.mem_append_left _ hp))
theorem ps_for {iter : Expr} {body : List Stmt} {wi : TI} {g : TG} {tb : TS} {pos : Pos} (hp : PassesOwn (model X.prog X.w) X.A X.env X.xe) (hc : X.calm = true) (hi : PI X tg iter wi) (hg : PG X tg g) (hb : PSs X body tb)
    (hs : ∀ x, foldedSetIterable iter X.env x = pure x := by intro _; rfl) : PS X (.For tg iter body [] pos) (tFor wi g tb) := by
  intro pins s σ H D I h
  refine wpAny_For (thn (hi pins s σ H _ I h) fun v s1 h1 => thn h1 fun itv s2 h2 => ?_) hs
  obtain ⟨it, fp, tn, J, H2, e, I2, T, st2, f2, W, ⟨m0, w0⟩, turn⟩ := h2
  subst e
  -- what stays true of the iterator's objects through the loop
  have stat : ∀ {H' : Hp}, (∀ b ∈ fp, H' b = none) → ∀ b ∈ fp, FpOk X pins H' b := fun hn b hb => ⟨hn b hb, (f2 b hb).2⟩
  refine codeAny_forLoop_any (fun n s' => ∃ i σ' H', Inv X pins σ' H' s' ∧ tn i s'.heap ∧ (∀ b ∈ fp, H' b = none) ∧ W i n σ' H') ?_ m0 ⟨0, σ, H2, I2, st2, fun b hb => (f2 b hb).1, w0⟩
  rintro n s3 ⟨i, σ3, H3, I3, st3, fr3, w3⟩
  rcases turn i n σ3 H3 w3 with ⟨stop, qn⟩ | ⟨go, N, hN, step⟩
  · refine wpAny_passesOwn hp (thn (T.done X rfl rfl rfl hc i pins s3 σ3 H3 X.xe I3 (stat fr3) st3 stop) fun r s4 ⟨hr, I4⟩ => ?_)
    subst hr
    exact wpAny_execs_nil ⟨σ3, H3, I4, qn⟩
  · refine wpAny_passesOwn hp (thn (T.item X rfl rfl rfl hc i pins s3 σ3 H3 X.xe I3 (stat fr3) st3 go) fun r s4 ⟨u, hr, h4⟩ => ?_)
    subst hr
    refine wpAny_passesOwn hp (thn h4 fun _ s5 ⟨x, H5, I5, r5, y5, st5, fr5⟩ => ?_)
    have I5' := I5.pinned (stat fr5) (T.obj _ _ st5)
    refine wpAny_passesOwn hp (thn (hg _ s5 σ3 H5 x u _ I5' r5 (step x H5 y5)) fun _ s6 ⟨σ6, H6, I6, q6⟩ => ?_)
    refine wpAny_passesOwn hp (thn (hb _ s6 σ6 H6 _ I6 q6) fun f s7 q7 => ?_)
    have again : ∀ {σ7 : St} {H7 : Hp}, Inv X (pins ++ pinsAt fp s5.heap) σ7 H7 s7 → N σ7 H7 → ∃ m, m < n ∧ ∃ i σ' H', Inv X pins σ' H' s7 ∧ tn i s7.heap ∧ (∀ b ∈ fp, H' b = none) ∧ W i m σ' H' := fun {σ7 H7} I7 n7 => by
      obtain ⟨m', hm, w7⟩ := hN σ7 H7 n7
      refine ⟨m', hm, i + 1, σ7, H7, I7.unpinned, T.keep _ _ _ st5 fun b hb o e => (I7.pin (b, o) (List.mem_append_right _ (List.mem_append_right _ (mem_pinsAt hb e)))).1, fun b hb => ?_, w7⟩
      obtain ⟨o, e, d⟩ := T.obj _ _ st5 b hb
      exact (I7.pin (b, o) (List.mem_append_right _ (List.mem_append_right _ (mem_pinsAt hb e)))).2.1
    cases f with
    | next => obtain ⟨σ7, H7, I7, n7⟩ := q7; exact again I7 n7
    | cont => obtain ⟨σ7, H7, I7, n7⟩ := q7; exact again I7 n7
    | brk => obtain ⟨σ7, H7, I7, q7⟩ := q7; exact ⟨σ7, H7, I7.unpinned, q7⟩
    | ret v => obtain ⟨x7, σ7, H7, I7, r7, q7⟩ := q7; exact ⟨x7, σ7, H7, I7.unpinned, r7, q7⟩
end
theorem for_list {K : PySem.W.Frag} {a : Addr} {xs : List V} {g : TG} {tb : TS} {D : Ends} {σ : St} {H : Hp} (Pv : Nat → St → Hp → Prop) (h0 : Pv 0 σ H) (hl : ∀ i σ H, i ≤ xs.length → Pv i σ H → SqL K H a xs)
    (hs : ∀ i x σ H, xs[i]? = some x → Pv i σ H → g x σ H fun σ2 H2 => tb { D with nx := Pv (i + 1), ct := Pv (i + 1), bk := D.nx } σ2 H2) (hd : ∀ σ H, Pv xs.length σ H → D.nx σ H) :
    ∃ W : Nat → Nat → St → Hp → Prop, (∃ m, W 0 m σ H) ∧ ∀ i m σ H, W i m σ H →
      ((Itl K a).stop i H ∧ D.nx σ H) ∨ ((Itl K a).go i H ∧ ∃ N : St → Hp → Prop, (∀ σ' H', N σ' H' → ∃ m', m' < m ∧ W (i + 1) m' σ' H') ∧ ∀ x H', (Itl K a).yld i H x H' → g x σ H' fun σ2 H2 => tb { D with nx := N, ct := N, bk := D.nx } σ2 H2) := by
  refine ⟨fun i m σ H => m = xs.length - i ∧ i ≤ xs.length ∧ Pv i σ H, ⟨xs.length, by simp, Nat.zero_le _, h0⟩, ?_⟩
  rintro i m σ H ⟨rfl, hi, p⟩
  have q := hl i σ H hi p
  by_cases hlt : i < xs.length
  · refine .inr ⟨⟨xs, xs[i], q, by simp [hlt]⟩, Pv (i + 1), fun σ' H' p' => ⟨xs.length - (i + 1), by omega, rfl, hlt, p'⟩, fun x H' y => ?_⟩
    obtain ⟨e, y⟩ := y
    subst e
    exact hs i x σ _ (y xs q) p
  · have e : i = xs.length := by omega
    subst e
    exact .inl ⟨⟨xs, q, Nat.le_refl _⟩, hd σ H p⟩
theorem for_tup {K : PySem.W.Frag} {a : Addr} {xs : List V} {g : TG} {tb : TS} {D : Ends} {σ : St} {H : Hp} (Pv : Nat → St → Hp → Prop) (h0 : Pv 0 σ H) (hl : ∀ i σ H, i ≤ xs.length → Pv i σ H → SqT K H a xs)
    (hs : ∀ i x σ H, xs[i]? = some x → Pv i σ H → g x σ H fun σ2 H2 => tb { D with nx := Pv (i + 1), ct := Pv (i + 1), bk := D.nx } σ2 H2) (hd : ∀ σ H, Pv xs.length σ H → D.nx σ H) :
    ∃ W : Nat → Nat → St → Hp → Prop, (∃ m, W 0 m σ H) ∧ ∀ i m σ H, W i m σ H →
      ((Itt K a).stop i H ∧ D.nx σ H) ∨ ((Itt K a).go i H ∧ ∃ N : St → Hp → Prop, (∀ σ' H', N σ' H' → ∃ m', m' < m ∧ W (i + 1) m' σ' H') ∧ ∀ x H', (Itt K a).yld i H x H' → g x σ H' fun σ2 H2 => tb { D with nx := N, ct := N, bk := D.nx } σ2 H2) := by
  refine ⟨fun i m σ H => m = xs.length - i ∧ i ≤ xs.length ∧ Pv i σ H, ⟨xs.length, by simp, Nat.zero_le _, h0⟩, ?_⟩
  rintro i m σ H ⟨rfl, hi, p⟩
  have q := hl i σ H hi p
  by_cases hlt : i < xs.length
  · refine .inr ⟨⟨xs, xs[i], q, by simp [hlt]⟩, Pv (i + 1), fun σ' H' p' => ⟨xs.length - (i + 1), by omega, rfl, hlt, p'⟩, fun x H' y => ?_⟩
    obtain ⟨e, y⟩ := y
    subst e
    exact hs i x σ _ (y xs q) p
  · have e : i = xs.length := by omega
    subst e
    exact .inl ⟨⟨xs, q, Nat.le_refl _⟩, hd σ H p⟩
theorem for_range {lo : Int} {n : Nat} {g : TG} {tb : TS} {D : Ends} {σ : St} {H : Hp} (Pv : Nat → St → Hp → Prop) (h0 : Pv 0 σ H)
    (hs : ∀ i σ H, i < n → Pv i σ H → g (.int (lo + i)) σ H fun σ2 H2 => tb { D with nx := Pv (i + 1), ct := Pv (i + 1), bk := D.nx } σ2 H2) (hd : ∀ σ H, Pv n σ H → D.nx σ H) :
    ∃ W : Nat → Nat → St → Hp → Prop, (∃ m, W 0 m σ H) ∧ ∀ i m σ H, W i m σ H →
      ((Itr lo n).stop i H ∧ D.nx σ H) ∨ ((Itr lo n).go i H ∧ ∃ N : St → Hp → Prop, (∀ σ' H', N σ' H' → ∃ m', m' < m ∧ W (i + 1) m' σ' H') ∧ ∀ x H', (Itr lo n).yld i H x H' → g x σ H' fun σ2 H2 => tb { D with nx := N, ct := N, bk := D.nx } σ2 H2) := by
  refine ⟨fun i m σ H => m = n - i ∧ i ≤ n ∧ Pv i σ H, ⟨n, by simp, Nat.zero_le _, h0⟩, ?_⟩
  rintro i m σ H ⟨rfl, hi, p⟩
  by_cases hlt : i < n
  · refine .inr ⟨hlt, Pv (i + 1), fun σ' H' p' => ⟨n - (i + 1), by omega, rfl, hlt, p'⟩, fun x H' y => ?_⟩
    obtain ⟨e, y⟩ := y
    subst e y
    exact hs i σ _ hlt p
  · have e : i = n := by omega
    subst e
    exact .inl ⟨Nat.le_refl _, hd σ H p⟩
theorem while_by {c : TT} {tb : TS} {D : Ends} {σ : St} {H : Hp} (Pv : St → Hp → Prop) (μ : St → Hp → Nat) (h0 : Pv σ H)
    (hs : ∀ σ H, Pv σ H → c σ H fun b H1 => if b = true then tb { D with nx := fun σ' H' => Pv σ' H' ∧ μ σ' H' < μ σ H, ct := fun σ' H' => Pv σ' H' ∧ μ σ' H' < μ σ H, bk := D.nx } σ H1 else D.nx σ H1)
    (mono : ∀ σ H Q Q', (∀ b H1, Q b H1 → Q' b H1) → c σ H Q → c σ H Q') : tWhile c tb D σ H := by
  refine ⟨fun m σ H => m = μ σ H ∧ Pv σ H, ⟨_, rfl, h0⟩, ?_⟩
  rintro m σ H ⟨rfl, p⟩
  refine mono σ H _ _ (fun b H1 q => ?_) (hs σ H p)
  cases b with
  | true => exact ⟨_, fun σ' H' ⟨p', l⟩ => ⟨_, l, rfl, p'⟩, q⟩
  | false => exact q
end L2
namespace L2
open PySem PySem.Spec PyProof.Rows
abbrev R2 := V → V → Hp → VK → Prop
def OpR (X : Cx) (f : Value → Value → Sem Value) (r : R2) : Prop :=
  ∀ (pins : List (Addr × Obj)) (s : Shared) (σ : St) (H : Hp) (x y : V) (v u : Value) (Q : VK), Inv X pins σ H s → RelV x v → RelV y u → r x y H Q →
    wpAny (model X.prog X.w) X.A (f v u) (EP X pins σ Q) X.xe s
def UnR (X : Cx) (f : Value → Sem Value) (r : V → Hp → VK → Prop) : Prop :=
  ∀ (pins : List (Addr × Obj)) (s : Shared) (σ : St) (H : Hp) (x : V) (v : Value) (Q : VK), Inv X pins σ H s → RelV x v → r x H Q →
    wpAny (model X.prog X.w) X.A (f v) (EP X pins σ Q) X.xe s
def CallR (X : Cx) (f : Value) (r : List V → Hp → VK → Prop) : Prop :=
  ∀ (pins : List (Addr × Obj)) (s : Shared) (σ : St) (H : Hp) (xs : List V) (us : List Value) (Q : VK), Inv X pins σ H s → Vals xs us → r xs H Q →
    wpAny (model X.prog X.w) X.A (call f us) (EP X pins σ Q) X.xe s
def tOp (r : R2) (ta tb : TE) : TE := fun σ H Q => ta σ H fun x H1 => tb σ H1 fun y H2 => r x y H2 Q
def tUn (r : V → Hp → VK → Prop) (ta : TE) : TE := fun σ H Q => ta σ H fun x H1 => r x H1 Q
def rI (C : Int → Int → Prop) (g : Int → Int → V) : R2 := fun x y H Q => ∃ i j, x = .int i ∧ y = .int j ∧ C i j ∧ Q (g i j) H
def rI0 (g : Int → Int → V) : R2 := fun x y H Q => ∃ i j, x = .int i ∧ y = .int j ∧ Q (g i j) H
def rU (g : Int → V) : V → Hp → VK → Prop := fun x H Q => ∃ i, x = .int i ∧ Q (g i) H
section
variable {X : Cx} {a b c : Expr} {ta tb tc : TE} {pos : Pos}
theorem binT (ha : PE X a ta) (hb : PE X b tb) {pins : List (Addr × Obj)} {s : Shared} {σ : St} {H : Hp} {R : V → V → Hp → Prop} (I : Inv X pins σ H s)
    (h : ta σ H fun x H1 => tb σ H1 fun y H2 => R x y H2) {Q : Value → Shared → Prop} {f : Value → Value → Sem Value}
    (hf : ∀ v u s2 x y H2, Inv X pins σ H2 s2 → RelV x v → RelV y u → R x y H2 → wpAny (model X.prog X.w) X.A (f v u) Q X.xe s2) :
    wpAny (model X.prog X.w) X.A (eval a X.env) (fun v s₁ => wpAny (model X.prog X.w) X.A (eval b X.env) (fun u s₂ => wpAny (model X.prog X.w) X.A (f v u) Q X.xe s₂) X.xe s₁) X.xe s := by
  refine thn (ha pins s σ H _ I h) fun v s1 ⟨x, H1, I1, r1, q1⟩ => ?_
  refine thn (hb pins s1 σ H1 _ I1 q1) fun u s2 ⟨y, H2, I2, r2, q2⟩ => ?_
  exact hf v u s2 x y H2 I2 r1 r2 q2
theorem pe_op {op : Operator} {r : R2} (ho : OpR X (binaryOp op) r) (ha : PE X a ta) (hb : PE X b tb) : PE X (.BinOp a op b pos) (tOp r ta tb) := by
  intro pins s σ H Q I h
  exact wpAny_BinOp (binT ha hb I h fun v u s2 x y H2 I2 rx ry q => ho pins s2 σ H2 x y v u Q I2 rx ry q)
theorem pe_un {op : UnaryOp} {r : V → Hp → VK → Prop} (ho : UnR X (unaryOp op) r) (ha : PE X a ta) : PE X (.UnaryOp op a pos) (tUn r ta) := by
  intro pins s σ H Q I h
  exact UnaryOp_ (thn (ha pins s σ H _ I h) fun v s1 ⟨x, H1, I1, r1, q1⟩ => ho pins s1 σ H1 x v Q I1 r1 q1)
theorem opI {f : Value → Value → Sem Value} {C : Int → Int → Prop} {g : Int → Int → Int}
    (rule : ∀ (i j : Int) (t u : Tok) (s : Shared) (Q : Value → Shared → Prop) (E : Value → Shared → Prop), C i j → Q (.int (g i j) s.toks) { s with toks := s.toks + 1 } → wpAny (model X.prog X.w) X.A (f (.int i t) (.int j u)) Q E s) :
    OpR X f (rI C fun i j => .int (g i j)) := by
  intro pins s σ H x y v u Q I rx ry h
  obtain ⟨i, j, rfl, rfl, hc, q⟩ := h
  obtain ⟨t, rfl⟩ := rx
  obtain ⟨t', rfl⟩ := ry
  exact rule i j t t' s _ _ hc ⟨.int (g i j), H, I.tok _, ⟨_, rfl⟩, q⟩
theorem opI0 {f : Value → Value → Sem Value} {g : Int → Int → Int}
    (rule : ∀ (i j : Int) (t u : Tok) (s : Shared) (Q : Value → Shared → Prop) (E : Value → Shared → Prop), Q (.int (g i j) s.toks) { s with toks := s.toks + 1 } → wpAny (model X.prog X.w) X.A (f (.int i t) (.int j u)) Q E s) :
    OpR X f (rI0 fun i j => .int (g i j)) := by
  intro pins s σ H x y v u Q I rx ry h
  obtain ⟨i, j, rfl, rfl, q⟩ := h
  obtain ⟨t, rfl⟩ := rx
  obtain ⟨t', rfl⟩ := ry
  exact rule i j t t' s _ _ ⟨.int (g i j), H, I.tok _, ⟨_, rfl⟩, q⟩
theorem opB0 {f : Value → Value → Sem Value} {g : Int → Int → Bool}
    (rule : ∀ (i j : Int) (t u : Tok) (s : Shared) (Q : Value → Shared → Prop) (E : Value → Shared → Prop), Q (.bool (g i j)) s → wpAny (model X.prog X.w) X.A (f (.int i t) (.int j u)) Q E s) :
    OpR X f (rI0 fun i j => .bl (g i j)) := by
  intro pins s σ H x y v u Q I rx ry h
  obtain ⟨i, j, rfl, rfl, q⟩ := h
  obtain ⟨t, rfl⟩ := rx
  obtain ⟨t', rfl⟩ := ry
  exact rule i j t t' s _ _ ⟨.bl (g i j), H, I, rfl, q⟩
def CPow (i j : Int) : Prop := 0 ≤ j ∧ j ≤ 1000000 ∧ i.natAbs < 2 ^ 64
def CMul (i j : Int) : Prop := (-(2 ^ 64) < i ∧ i < 2 ^ 64) ∨ (-(2 ^ 64) < j ∧ j < 2 ^ 64)
theorem CMul.ok {i j : Int} (h : CMul i j) : IntMulOk i j := by
  rcases h with ⟨h1, h2⟩ | ⟨h1, h2⟩
  · exact .of_left (intBits_le_64 h1 h2)
  · exact .of_right (intBits_le_64 h1 h2)
theorem op_add : OpR X (binaryOp .Add) (rI0 fun i j => .int (i + j)) := opI0 fun _ _ _ _ _ _ _ q => add_int q
theorem op_sub : OpR X (binaryOp .Sub) (rI0 fun i j => .int (i - j)) := opI0 fun _ _ _ _ _ _ _ q => sub_int q
theorem op_mul : OpR X (binaryOp .Mult) (rI CMul fun i j => .int (i * j)) := opI fun _ _ _ _ _ _ _ hc q => mul_int q hc.ok
theorem op_mod : OpR X (binaryOp .Mod) (rI (fun _ j => 0 < j) fun i j => .int (i % j)) := opI fun i j _ _ _ _ _ hc q => by
  have h1 : (0 : Int) < j := hc
  exact mod_int' (by omega) (by rw [Int.fmod_eq_emod_of_nonneg i (by omega)]; exact q)
theorem op_pow : OpR X (binaryOp .Pow) (rI CPow fun i j => .int (i ^ j.toNat)) := opI fun _ _ _ _ _ _ _ hc q => pow_int_small hc.1 hc.2.1 hc.2.2 q
theorem unI {f : Value → Sem Value} {g : Int → Int}
    (rule : ∀ (i : Int) (t : Tok) (s : Shared) (Q : Value → Shared → Prop) (E : Value → Shared → Prop), Q (.int (g i) s.toks) { s with toks := s.toks + 1 } → wpAny (model X.prog X.w) X.A (f (.int i t)) Q E s) :
    UnR X f (rU fun i => .int (g i)) := by
  intro pins s σ H x v Q I rx h
  obtain ⟨i, rfl, q⟩ := h
  obtain ⟨t, rfl⟩ := rx
  exact rule i t s _ _ ⟨.int (g i), H, I.tok _, ⟨_, rfl⟩, q⟩
theorem un_neg : UnR X (unaryOp .USub) (rU fun i => .int (-i)) := unI fun _ _ _ _ _ q => neg_int q
end
def scal : V → V → Bool
  | .non, .non => true | .non, .int _ => true | .int _, .non => true | .non, .bl _ => true | .bl _, .non => true | .non, .str _ => true | .str _, .non => true
  | .int _, .int _ => true | .bl _, .bl _ => true | .str _, .str _ => true | .byt _, .byt _ => true
  | .int _, .str _ => true | .str _, .int _ => true | .bl _, .str _ => true | .str _, .bl _ => true
  | _, _ => false
def rEq : R2 := fun x y H Q => scal x y = true ∧ Q (.bl (decide (x = y))) H
def rNe : R2 := fun x y H Q => scal x y = true ∧ Q (.bl (!decide (x = y))) H
theorem dec_int {i j : Int} : decide (V.int i = V.int j) = (i == j) := by
  rw [Bool.eq_iff_iff]
  simp
theorem dec_bl {i j : Bool} : decide (V.bl i = V.bl j) = (i == j) := by
  rw [Bool.eq_iff_iff]
  simp
theorem dec_str {i j : Str} : decide (V.str i = V.str j) = (i == j) := by
  rw [Bool.eq_iff_iff]
  simp
theorem dec_byt {i j : Array UInt8} : decide (V.byt i = V.byt j) = (i.toList == j.toList) := by
  rw [Bool.eq_iff_iff]
  cases i
  cases j
  simp
section
variable {X : Cx} {a b c : Expr} {ta tb tc : TE} {pos : Pos}
theorem fin_bl {pins : List (Addr × Obj)} {σ : St} {H : Hp} {s : Shared} {Q : VK} {k k' : Bool} (I : Inv X pins σ H s) (q : Q (.bl k) H) (e : k = k') : EP X pins σ Q (.bool k') s := by
  subst e
  exact ⟨.bl k, H, I, rfl, q⟩
theorem op_eq : OpR X (compareOp .Eq) rEq := by
  intro pins s σ H x y v u Q I rx ry h
  obtain ⟨hs, q⟩ := h
  cases x with
  | non =>
    cases rx
    cases y with
    | non => cases ry; exact PySem.EqNone.eq_none_none (fin_bl I q (by simp))
    | bl j => cases ry; exact PySem.EqNone.eq_none_bool (fin_bl I q (by simp))
    | int j => obtain ⟨t', rfl⟩ := ry; exact PySem.EqNone.eq_none_int (fin_bl I q (by simp))
    | str j => obtain ⟨t', rfl⟩ := ry; exact PySem.EqNone.eq_none_str (fin_bl I q (by simp))
    | _ => exact absurd (show false = true from hs) Bool.false_ne_true
  | bl i =>
    cases rx
    cases y with
    | non => cases ry; exact PySem.EqNone.eq_bool_none (fin_bl I q (by simp))
    | bl j => cases ry; exact eq_bool (fin_bl I q dec_bl)
    | str j => obtain ⟨t', rfl⟩ := ry; exact PySem.EqMixed.eq_bool_str (fin_bl I q (by simp))
    | _ => exact absurd (show false = true from hs) Bool.false_ne_true
  | int i =>
    obtain ⟨t, rfl⟩ := rx
    cases y with
    | non => cases ry; exact PySem.EqNone.eq_int_none (fin_bl I q (by simp))
    | int j => obtain ⟨t', rfl⟩ := ry; exact eq_int (fin_bl I q dec_int)
    | str j => obtain ⟨t', rfl⟩ := ry; exact PySem.EqMixed.eq_int_str (fin_bl I q (by simp))
    | _ => exact absurd (show false = true from hs) Bool.false_ne_true
  | str i =>
    obtain ⟨t, rfl⟩ := rx
    cases y with
    | non => cases ry; exact PySem.EqNone.eq_str_none (fin_bl I q (by simp))
    | bl j => cases ry; exact PySem.EqMixed.eq_str_bool (fin_bl I q (by simp))
    | int j => obtain ⟨t', rfl⟩ := ry; exact PySem.EqMixed.eq_str_int (fin_bl I q (by simp))
    | str j => obtain ⟨t', rfl⟩ := ry; exact eq_str (fin_bl I q dec_str)
    | _ => exact absurd (show false = true from hs) Bool.false_ne_true
  | byt i =>
    obtain ⟨t, rfl⟩ := rx
    cases y with
    | byt j => obtain ⟨t', rfl⟩ := ry; exact PySem.W.eq_bytes (fin_bl I q dec_byt)
    | _ => exact absurd (show false = true from hs) Bool.false_ne_true
  | _ => cases y <;> exact absurd (show false = true from hs) Bool.false_ne_true
theorem op_lt : OpR X (compareOp .Lt) (rI0 fun i j => .bl (decide (i < j))) := opB0 fun _ _ _ _ _ _ _ q => lt_int q
theorem op_le : OpR X (compareOp .LtE) (rI0 fun i j => .bl (decide (i ≤ j))) := opB0 fun _ _ _ _ _ _ _ q => le_int q
theorem op_gt : OpR X (compareOp .Gt) (rI0 fun i j => .bl (decide (j < i))) := opB0 fun _ _ _ _ _ _ _ q => gt_int q
theorem op_ge : OpR X (compareOp .GtE) (rI0 fun i j => .bl (decide (j ≤ i))) := opB0 fun _ _ _ _ _ _ _ q => ge_int q
theorem op_isN : OpR X (compareOp .Is) (fun x y H Q => y = .non ∧ Q (.bl (decide (x = .non))) H) := by
  intro pins s σ H x y v u Q I rx ry h
  obtain ⟨rfl, q⟩ := h
  cases ry
  refine is_none_gen (fin_bl I q ?_)
  cases x <;> first
    | (cases rx; rfl)
    | (obtain ⟨t, rfl⟩ := rx; rfl)
theorem op_notN : OpR X (compareOp .IsNot) (fun x y H Q => y = .non ∧ Q (.bl (!decide (x = .non))) H) := by
  intro pins s σ H x y v u Q I rx ry h
  obtain ⟨rfl, q⟩ := h
  cases ry
  refine isnot_none_gen (fin_bl I q ?_)
  cases x <;> first
    | (cases rx; rfl)
    | (obtain ⟨t, rfl⟩ := rx; rfl)
theorem OpR.or {f : Value → Value → Sem Value} {r r' : R2} (h : OpR X f r) (h' : OpR X f r') : OpR X f (fun x y H Q => r x y H Q ∨ r' x y H Q) := by
  intro pins s σ H x y v u Q I rx ry q
  rcases q with q | q
  · exact h pins s σ H x y v u Q I rx ry q
  · exact h' pins s σ H x y v u Q I rx ry q
theorem nomark (b : Expr) {op : CmpOp} (h : op ≠ .In := by decide) (h2 : op ≠ .NotIn := by decide) : behindInMarks op b = false := by
  have e1 : (op == CmpOp.In) = false := by cases op <;> first | rfl | exact absurd rfl h
  have e2 : (op == CmpOp.NotIn) = false := by cases op <;> first | rfl | exact absurd rfl h2
  cases b <;> simp [behindInMarks, e1, e2]
theorem pe_cmpR {op : CmpOp} {r : R2} (ho : OpR X (compareOp op) r) (ha : PE X a ta) (hb : PE X b tb) (hm : behindInMarks op b = false) : PE X (.Compare a [op] [b] pos) (tOp r ta tb) := by
  intro pins s σ H Q I h
  exact wpAny_Compare1 (binT ha hb I h fun v u s2 x y H2 I2 rx ry q => ho pins s2 σ H2 x y v u Q I2 rx ry q) hm
def tTest (t : TE) : TT := fun σ H Q => t σ H fun x H' => ∃ k, x = .bl k ∧ Q k H'
theorem pt_cmpR {op : CmpOp} {r : R2} (ho : OpR X (compareOp op) r) (ha : PE X a ta) (hb : PE X b tb) (hm : behindInMarks op b = false) : PT X (.Compare a [op] [b] pos) (tTest (tOp r ta tb)) := by
  intro pins s σ H Q I h
  refine wpAny_isTrue_Compare1 (thn (ha pins s σ H _ I h) fun v s1 ⟨x, H1, I1, r1, q1⟩ => thn (hb pins s1 σ H1 _ I1 q1) fun u s2 ⟨y, H2, I2, r2, q2⟩ =>
    thn (ho pins s2 σ H2 x y v u _ I2 r1 r2 q2) fun c s3 ⟨z, H3, I3, r3, k, e, q3⟩ => ?_) hm
  subst e
  cases r3
  exact wpAny_truthy_bool ⟨H3, I3, q3⟩
def tChain (r r' : R2) (ta tb tc : TE) : TE := fun σ H Q => ta σ H fun x H1 => tb σ H1 fun y H2 => r x y H2 fun z H3 => ∃ k, z = .bl k ∧
  (if k = true then tc σ H3 fun w' H4 => r' y w' H4 Q else Q (.bl false) H3)
theorem line63 : (sizeLine : Nat) < 2 ^ 63 := by rw [sizeLine_eq]; decide
theorem vals1 {x : V} {us : List Value} (r : Vals [x] us) : ∃ u, us = [u] ∧ RelV x u := by
  cases r with
  | cons r1 r2 => cases r2; exact ⟨_, rfl, r1⟩
theorem vals2 {x y : V} {us : List Value} (r : Vals [x, y] us) : ∃ u w', us = [u, w'] ∧ RelV x u ∧ RelV y w' := by
  cases r with
  | cons r1 r2 =>
    cases r2 with
    | cons r3 r4 => cases r4; exact ⟨_, _, rfl, r1, r3⟩
theorem call_abs : CallR X (.builtin "abs") (fun xs H Q => ∃ i, xs = [.int i] ∧ Q (.int (if i < 0 then -i else i)) H) := by
  intro pins s σ H xs us Q I r h
  obtain ⟨i, rfl, q⟩ := h
  obtain ⟨u, rfl, t, rfl⟩ := vals1 r
  exact call_abs_int fun u tk => ⟨.int (if i < 0 then -i else i), H, I.tok _, ⟨_, rfl⟩, q⟩
theorem call_max2 (hc : X.calm = true) : CallR X (.builtin "max") (fun xs H Q => ∃ i j, xs = [.int i, .int j] ∧ Q (.int (if j > i then j else i)) H) := by
  intro pins s σ H xs us Q I r h
  obtain ⟨i, j, rfl, q⟩ := h
  obtain ⟨u, w', rfl, ⟨t, rfl⟩, ⟨t', rfl⟩⟩ := vals2 r
  refine max_two_ints (I.ok.hd hc) fun h' tk k => ⟨_, H, I.kept k, ?_, q⟩
  by_cases hj : j > i
  · rw [if_pos hj, if_pos hj]; exact ⟨_, rfl⟩
  · rw [if_neg hj, if_neg hj]; exact ⟨_, rfl⟩
end
end L2
namespace L2
open PySem PySem.Spec PyProof.Rows
structure ObjM (h : Heap) (x dx C : Addr) (mA : Str → Option Value) : Prop where
  obj : h.get? x = some (PySem.W.instObj C dx)
  ns : h.Ns1 dx mA
  ne : dx ≠ x
theorem lookIn_ns {h : Heap} {dx : Addr} {mA : Str → Option Value} (n : h.Ns1 dx mA) : ∃ od, h.get? dx = some od ∧ ∀ name, PySem.W.lookIn name od = some (mA name) := by
  obtain ⟨o, es, ep, ho, hd, hk, _, hm⟩ := n
  refine ⟨o, ho, fun name => ?_⟩
  have e := hm name
  unfold nsFind findBy at e
  rw [← Array.find?_toList] at e
  unfold PySem.W.lookIn
  rw [hd]
  dsimp only
  split
  · rename_i y q
    rw [q] at e
    exact congrArg some e
  · rename_i q
    rw [q] at e
    have a : es.toList.any (·.refKey) = false := by
      rw [List.any_eq_false]
      intro y hy
      obtain ⟨z, t, hkey⟩ := hk y (Array.mem_toList_iff.mp hy)
      simp [DictEntry.refKey, hkey]
    have a' : ¬ es.toList.any (·.refKey) = true := by rw [a]; exact Bool.false_ne_true
    rw [if_neg a']
    exact congrArg some e
theorem ObjM.look {h : Heap} {x dx C : Addr} {mA : Str → Option Value} (I : ObjM h x dx C mA) : ∃ od, PySem.W.InstAt h x (PySem.W.instObj C dx) C (some od) ∧ ∀ name, PySem.W.lookIn name od = some (mA name) :=
  let ⟨od, ho, hl⟩ := lookIn_ns I.ns
  ⟨od, ⟨I.obj, rfl, rfl, ho⟩, hl⟩
section
variable {prog : Program} {w : World} {A : Around} {E : Value → Shared → Prop} {s : Shared} {K : PySem.W.Frag} {x dx C f : Addr} {mA : Str → Option Value} {name : Str} {v : Value}
end
section
variable {P : Program} {w : World} {H H' : Hp} {h h' : Heap} {a C dx : Addr} {fs fs' : List (Str × V)}
theorem ins_get (hok : HOk P w H h) (e : H a = some (.ins C dx fs)) : ∃ mA, ObjM h a dx C mA ∧ (∀ f, RelO (fs.lookup f) (mA f)) ∧ PySem.Within mA (fs.map (·.1)) ∧ fs.length ≤ 1000 ∧ H dx = some (.own a) := by
  obtain ⟨d, z, ne, ob, mA, n, r, q⟩ := (show ObjOk P w H h a (.ins C dx fs) from hok a _ e)
  exact ⟨mA, ⟨ob, n, ne⟩, r, q, z, d⟩
end
structure Cls (K : PySem.W.Frag) (C : Addr) : Prop where
  pg : PySem.W.plainGet K C Str.empty = true
  hd : PySem.W.hasDictIn K C = true
  po : PySem.W.plainOver K C = true
  sa : PySem.W.findIn K (.ref C) "__setattr__" = some (some (.builtin "object.__setattr__"))
theorem Cls.get {K : PySem.W.Frag} {C : Addr} (c : Cls K C) (f : Str) : PySem.W.plainGet K C f = true := c.pg
section
variable {X : Cx} {pins : List (Addr × Obj)} {σ : St} {H : Hp} {s : Shared} {a C dx : Addr} {fs : List (Str × V)} {f : Str} {v : V} {A : Around} {E : Value → Shared → Prop}
theorem Inv.made (I : Inv X pins σ H s) : Inv X pins σ (upd (upd H s.heap.objs.size (.own (s.heap.objs.size + 1))) (s.heap.objs.size + 1) (.ins C s.heap.objs.size []))
    { s with heap := (s.heap.push PySem.W.emptyDict).push (PySem.W.instObj C s.heap.objs.size) } := by
  have e1 : (s.heap.push PySem.W.emptyDict).get? s.heap.objs.size = some PySem.W.emptyDict := Heap.get?_push_size s.heap rfl
  have e2 : ((s.heap.push PySem.W.emptyDict).push (PySem.W.instObj C s.heap.objs.size)).get? (s.heap.objs.size + 1) = some (PySem.W.instObj C s.heap.objs.size) := by
    have := Heap.get?_push_size (s.heap.push PySem.W.emptyDict) (o := PySem.W.instObj C s.heap.objs.size) rfl
    rwa [Heap.size_push] at this
  have e3 : (s.heap.push PySem.W.emptyDict).Ns s.heap.objs.size (fun _ => none) := ⟨PySem.W.emptyDict, #[], _, e1, rfl, (fun e he => absurd he (by simp)), fun _ => rfl⟩
  have I1 := I.laid (a := s.heap.objs.size) (o := .own (s.heap.objs.size + 1)) (h' := s.heap.push PySem.W.emptyDict) (t' := s.toks) (fun b u q => Heap.get?_push_of_some _ q) (Nat.le_refl _) ⟨_, e1⟩
  refine I1.laid (a := s.heap.objs.size + 1) (o := .ins C s.heap.objs.size []) (t' := s.toks) (fun b u q => Heap.get?_push_of_some _ q) (Nat.le_of_eq (Heap.size_push _ _)) ?_
  have ne : s.heap.objs.size ≠ s.heap.objs.size + 1 := Nat.ne_of_lt (Nat.lt_succ_self _)
  refine ⟨by rw [upd_ne ne, upd_same], Nat.zero_le _, ne, e2, fun _ => none, (Heap.Ns1.of_empty e3).at fun o q => Heap.get?_push_of_some _ q, fun _ => True.intro, fun y hy => absurd rfl hy⟩
end
section
variable {X : Cx} {o e value : Expr} {f : Str} {pos pos' tpos : Pos} {ta tv : TE}
end
section
variable {X : Cx} {pins : List (Addr × Obj)} {σ : St} {H : Hp} {s : Shared} {A : Around} {E : Value → Shared → Prop} {Q : Value → Shared → Prop} {c : Value} {b : Bool}
inductive TyOf (K : PySem.W.Frag) (H : Hp) : V → Value → Prop where
  | non : TyOf K H .non (.type "NoneType")
  | bl (x : Bool) : TyOf K H (.bl x) (.type "bool")
  | int (i : Int) : TyOf K H (.int i) (.type "int")
  | str (x : Str) : TyOf K H (.str x) (.type "str")
  | flt (x : UInt64) : TyOf K H (.flt x) (.type "float")
  | lst {a : Addr} {xs : List V} (e : H a = some (.lst xs)) : TyOf K H (.ref a) (.type "list")
  | frz {a : Addr} {o : Obj} {xs : List V} (e : H a = some (.frz o (.lst xs))) : TyOf K H (.ref a) (.type "list")
  | tup {a : Addr} {xs : List V} (e : H a = some (.tup xs)) : TyOf K H (.ref a) (.type "tuple")
  | dK {a : Addr} {kvs : List (Key × V)} (e : H a = some (.dK kvs)) : TyOf K H (.ref a) (.type "dict")
  | dT {a : Addr} {kvs : List (List Key × V)} (e : H a = some (.dT kvs)) : TyOf K H (.ref a) (.type "dict")
  | ins {a C dx : Addr} {fs : List (Str × V)} (e : H a = some (.ins C dx fs)) (cl : Cls K C) (ha : PySem.W.findIn K (.ref C) "__class__" = some (some (.builtin "object.__class__")))
      (hn : PySem.W.specialIn K (.builtin "object.__class__") "__get__" = some (some (.builtin "getset_descriptor.__get__"))) (htk : PySem.W.takesIn K (.builtin "object.__class__") = some true)
      (hm : PySem.W.mroIn K C (.type "object") = some true) : TyOf K H (.ref a) (.ref C)
theorem isinst_ok {x : V} {u t : Value} (I : Inv X pins σ H s) (rx : RelV x u) (ty : TyOf X.K H x t) (e : PySem.W.kitOne X.K t c = some b) (h : ∀ tk, Q (.bool b) { s with toks := tk }) :
    wpAny (model X.prog X.w) A (call (.builtin "isinstance") [u, c]) Q E s := by
  cases ty with
  | non => cases (show u = Value.none from rx); exact PySem.W.kia_one PySem.W.kitx_none I.kIn True.intro e (fun z => nomatch z) h
  | bl y => cases (show u = Value.bool y from rx); exact PySem.W.kia_one PySem.W.kitx_bool I.kIn True.intro e (fun z => nomatch z) h
  | int i => obtain ⟨t, q⟩ := (show ∃ t, u = Value.int i t from rx); cases q; exact PySem.W.kia_one PySem.W.kitx_int I.kIn True.intro e (fun z => nomatch z) h
  | str y => obtain ⟨t, q⟩ := (show ∃ t, u = Value.str y t from rx); cases q; exact PySem.W.kia_one PySem.W.kitx_str I.kIn True.intro e (fun z => nomatch z) h
  | flt y => obtain ⟨t, q⟩ := (show ∃ t, u = Value.float y t from rx); cases q; exact PySem.W.kia_one PySem.W.kitx_float I.kIn True.intro e (fun z => nomatch z) h
  | @lst a xs ea =>
    cases (show u = Value.ref a from rx)
    obtain ⟨_, _, n, _, h1⟩ := (show ObjOk X.prog X.w H s.heap a (.lst xs) from I.hok a _ ea)
    exact PySem.W.kia_one PySem.W.kitx_list I.kIn ⟨_, h1, rfl⟩ e (fun z => nomatch z) h
  | @frz a ob xs ea =>
    cases (show u = Value.ref a from rx)
    obtain ⟨_, _, _, n, _, h1⟩ := (show ObjOk X.prog X.w H s.heap a (.frz ob (.lst xs)) from I.hok a _ ea)
    exact PySem.W.kia_one PySem.W.kitx_list I.kIn ⟨_, h1, rfl⟩ e (fun z => nomatch z) h
  | @tup a xs ea =>
    cases (show u = Value.ref a from rx)
    obtain ⟨_, _, _, p⟩ := (show ObjOk X.prog X.w H s.heap a (.tup xs) from I.hok a _ ea)
    obtain ⟨o, h1, h2, _⟩ := p
    exact PySem.W.kia_one PySem.W.kitx_tuple I.kIn ⟨o, h1, h2⟩ e (fun z => nomatch z) h
  | @dK a kvs ea =>
    cases (show u = Value.ref a from rx)
    obtain ⟨_, _, vs, _, p⟩ := (show ObjOk X.prog X.w H s.heap a (.dK kvs) from I.hok a _ ea)
    obtain ⟨o, es, ep, h1, h2, _⟩ := p
    exact PySem.W.kia_one PySem.W.kitx_dict I.kIn ⟨o, h1, h2.1⟩ e (fun z => nomatch z) h
  | @dT a kvs ea =>
    cases (show u = Value.ref a from rx)
    obtain ⟨_, _, xs, _, o, es, ep, h1, h2, _⟩ := (show ObjOk X.prog X.w H s.heap a (.dT kvs) from I.hok a _ ea)
    exact PySem.W.kia_one PySem.W.kitx_dict I.kIn ⟨o, h1, h2.1⟩ e (fun z => nomatch z) h
  | @ins a C dx fs ea cl ha hn htk hm =>
    cases (show u = Value.ref a from rx)
    obtain ⟨mA, O, _⟩ := ins_get I.hok ea
    obtain ⟨od, J, _⟩ := O.look
    exact PySem.W.kia_one (PySem.W.kitx_own (cl.get _) cl.hd ha hn htk hm) I.kIn J e (fun z => nomatch z) h
end
end L2
namespace L2
open PySem PySem.Spec PyProof.Rows
structure Room (k : Nat) (A : Around) : Prop where
  hd : A.handled = none
  dp : A.depth + 3 * k + 5 < recursionLimit
  un : A.units + 16 * k + 200 < cLine
theorem Room.mono {j k : Nat} {A : Around} (r : Room k A) (h : j ≤ k) : Room j A := ⟨r.hd, by have := r.dp; omega, by have := r.un; omega⟩
theorem Room.deeper {k : Nat} {A : Around} (r : Room (k + 1) A) (env : Env) : Room k (A.deeper env) :=
  ⟨r.hd, by have := r.dp; show A.depth + 1 + 3 * k + 5 < _; omega, by have := r.un; show A.units + 3 + 16 * k + 200 < _; omega⟩
theorem Room.in1 {k : Nat} {A : Around} (r : Room (k + 1) A) : Room k A.in1 :=
  ⟨r.hd, by have := r.dp; show A.depth + 3 * k + 5 < _; omega, by have := r.un; show A.units + 1 + 16 * k + 200 < _; omega⟩
theorem Room.depth {k : Nat} {A : Around} (r : Room k A) : A.depth < recursionLimit := by have := r.dp; omega
theorem Room.units {k : Nat} {A : Around} (r : Room k A) : A.units + 64 < cLine := by have := r.un; omega
def tNil : TA := fun _ H Q => Q [] H
def tCons (ta : TE) (tr : TA) : TA := fun σ H Q => ta σ H fun x H1 => tr σ H1 fun xs H2 => Q (x :: xs) H2
section
variable {X : Cx} {e : Expr} {es : List Expr} {te : TE} {t : TA} {pos : Pos}
theorem pa_nil : PA X [] tNil := fun _ _ _ _ H Q I h => Calls.spliced_nil ⟨[], H, I, .nil, h⟩
theorem pa_cons (ha : PE X e te) (hr : PA X es t) (hs : starEach (e :: es) X.env = (false, eval e X.env) :: starEach es X.env := by rfl) : PA X (e :: es) (tCons te t) := by
  intro pos pins s σ H Q I h
  rw [hs]
  show wpAny _ _ (spliced ((false, eval e X.env) :: backTo pos (starEach es X.env))) _ _ s
  refine Calls.spliced_cons (thn (ha pins s σ H _ I h) fun u s1 ⟨x, H1, I1, r1, q1⟩ => ?_)
  exact thn (hr pos pins s1 σ H1 _ I1 q1) fun us s2 ⟨xs, H2, I2, r2, q2⟩ => ⟨x :: xs, H2, I2, .cons r1 r2, q2⟩
def tTup (t : TA) : TE := fun σ H Q => t σ H fun xs H1 => xs.length ≤ sizeLine ∧ ∀ p, H1 p = none → Q (.ref p) (upd H1 p (.tup xs))
def tLst (t : TA) : TE := fun σ H Q => t σ H fun xs H1 => xs.length ≤ sizeLine ∧ ∀ p, H1 p = none → Q (.ref p) (upd H1 p (.lst xs))
theorem pe_tup {x1} (h : PA X es t) : PE X (.Tuple es x1 pos) (tTup t) := by
  intro pins s σ H Q I hq
  refine wpAny_Tuple_spliced (thn (h pos pins s σ H _ I hq) fun us s1 ⟨xs, H1, I1, r, z, q⟩ => ⟨by rw [← r.length]; exact z, ?_⟩)
  have hf : H1 s1.heap.objs.size = none := I1.hok.fresh (Nat.le_refl _)
  refine ⟨.ref s1.heap.objs.size, upd H1 s1.heap.objs.size (.tup xs), I1.laid (t' := s1.toks) (fun b u e => Heap.get?_push_of_some _ e) (Nat.le_refl _) ?_, rfl, q _ hf⟩
  exact ⟨z, us, r, ⟨_, Heap.get?_push_size _ rfl, rfl, _, rfl⟩⟩
theorem pe_lst (h : PA X es t) : PE X (.List es pos) (tLst t) := by
  intro pins s σ H Q I hq
  refine wpAny_List_spliced (thn (h pos pins s σ H _ I hq) fun us s1 ⟨xs, H1, I1, r, z, q⟩ => ⟨by rw [← r.length]; exact z, ?_⟩)
  have hf : H1 s1.heap.objs.size = none := I1.hok.fresh (Nat.le_refl _)
  refine ⟨.ref s1.heap.objs.size, upd H1 s1.heap.objs.size (.lst xs), I1.laid (t' := s1.toks) (fun b u e => Heap.get?_push_of_some _ e) (Nat.le_refl _) ?_, rfl, q _ hf⟩
  exact ⟨z, us, 0, r, Heap.get?_push_size _ rfl⟩
end
abbrev Sp := List V → Hp → VK → XK → Prop
abbrev CXT := List Env → Hp → Shared → XK → Value → Shared → Prop
structure Env0 (P : Program) (w : World) (K : PySem.W.Frag) (mg : Str → Option Value) (base : Heap) (A : Around) (outer : List Env) (s : Shared) (H : Hp) : Prop where
  frames : A.frames = some outer
  mod : Mod K mg base
  bs : ∀ b o, base.get? b = some o → s.heap.get? b = some o ∧ H b = none
  bsz : base.objs.size ≤ s.heap.objs.size
  funs : s.heap.FunFrames base outer
  frf : ∀ b ∈ frs outer, H b = none
  hok : HOk P w H s.heap
  bare : AllBare s.gens
def CE (outer : List Env) (P : Program) (w : World) (H : Hp) (s : Shared) (Q : VK) (u : Value) (s' : Shared) : Prop :=
  ∃ v H', s'.os = s.os ∧ AllBare s'.gens ∧ Un (frs outer) [] H H' s.heap s'.heap ∧ HOk P w H' s'.heap ∧ RelV v u ∧ Q v H'
def CR (CX : CXT) (outer : List Env) (P : Program) (w : World) (H : Hp) (s : Shared) (Q : VK) (E : XK) (r : Result) (s' : Shared) : Prop :=
  match r with
  | .ok (.ret u) => CE outer P w H s Q u s'
  | .ok _ => False
  | .error e => CX outer H s E e s'
structure FnOk (P : Program) (w : World) (K : PySem.W.Frag) (mg : Str → Option Value) (base : Heap) (CX : CXT) (k : Nat) (f : Addr) (fd : FuncData) (ps : List Str) (sp : Sp) : Prop where
  len : ∀ vs H Q E, sp vs H Q E → vs.length = ps.length
  run : ∀ (A : Around) (outer : List Env) (s : Shared) (H : Hp) (args : Args) (us : List Value) (vs : List V) (Q : VK) (E : XK), Room k A → Env0 P w K mg base A outer s H → BindsTo s fd args (ps.zip us) → Vals vs us → sp vs H Q E →
    codeAny (model P w) A (.call (.ref f) args) (CR CX outer P w H s Q E) s
theorem FnOk.mono {P : Program} {w : World} {K : PySem.W.Frag} {mg : Str → Option Value} {base : Heap} {CX : CXT} {j k : Nat} {f : Addr} {fd : FuncData} {ps : List Str} {sp : Sp} (F : FnOk P w K mg base CX j f fd ps sp) (h : j ≤ k) :
    FnOk P w K mg base CX k f fd ps sp := ⟨F.len, fun A outer s H args us vs Q E hr => F.run A outer s H args us vs Q E (hr.mono h)⟩
theorem Env0.in1 {P : Program} {w : World} {K : PySem.W.Frag} {mg : Str → Option Value} {base : Heap} {A : Around} {outer : List Env} {s : Shared} {H : Hp} (e : Env0 P w K mg base A outer s H) :
    Env0 P w K mg base A.in1 outer s H := ⟨e.frames, e.mod, e.bs, e.bsz, e.funs, e.frf, e.hok, e.bare⟩
section
variable {X : Cx} {pins : List (Addr × Obj)} {σ : St} {H : Hp} {s s' : Shared}
theorem Inv.env0 (I : Inv X pins σ H s) : Env0 X.prog X.w X.K X.mg X.base X.A X.stack s H :=
  ⟨I.ok.frames, I.ok.mod, I.bs, Nat.le_trans I.ok.bsz I.sz, I.stack, I.stkFree, I.hok, I.bare⟩
theorem Inv.after {Q : VK} {u : Value} (I : Inv X pins σ H s) (h : CE X.stack X.prog X.w H s Q u s') : EP X pins σ Q u s' := by
  obtain ⟨v, H', os, bare, un, hok, r, q⟩ := h
  obtain ⟨hh, g, d, t, os'⟩ := s'
  obtain rfl : os' = s.os := os
  exact ⟨v, H', I.call (h' := hh) (g' := g) (d' := d) (t' := t) (ch := []) un hok bare (fun b z => absurd z (by simp)), r, q⟩
end
def tCall (sp : Sp) (dvs : List V) (E : XK) (t : TA) : TE := fun σ H Q => t σ H fun vs H1 => sp (vs ++ dvs) H1 Q E
def Binds (K : PySem.W.Frag) (fd : FuncData) (ps : List Str) (ds : List Value) : Prop :=
  ∀ (s : Shared) (us : List Value), K.In s.heap → (us ++ ds).length = ps.length → BindsTo s fd ⟨us, []⟩ (ps.zip (us ++ ds))
theorem Binds.all {K : PySem.W.Frag} {fd : FuncData} {ps : List Str} (h : ∀ us : List Value, us.length = ps.length → bindArgs fd ⟨us, []⟩ = pure (ps.zip us)) : Binds K fd ps [] := fun s us _ hl => by
  rw [List.append_nil] at hl ⊢
  exact .of_eq (h us hl)
def Passes (CX : CXT) (X : Cx) (E : XK) : Prop := ∀ (pins : List (Addr × Obj)) (σ : St) (H : Hp) (s : Shared) (e : Value) (s' : Shared), Inv X pins σ H s → CX X.stack H s E e s' → X.xe e s'
section
variable {X : Cx} {CX : CXT} {k : Nat} {f C : Addr} {fd : FuncData} {ps : List Str} {sp : Sp} {dvs : List V} {ds : List Value} {E : XK} {x m : Str} {p pos apos : Pos} {e o : Expr} {es : List Expr} {ta : TE} {t : TA}
theorem run_fn {pins : List (Addr × Obj)} {σ : St} {H : Hp} {s : Shared} {Q : VK} {us : List Value} {vs : List V} (F : FnOk X.prog X.w X.K X.mg X.base CX k f fd ps sp) (hr : Room k X.A) (hb : Binds X.K fd ps ds) (hd : Vals dvs ds) (hx : Passes CX X E)
    (I : Inv X pins σ H s) (r : Vals vs us) (h : sp (vs ++ dvs) H Q E) : wpAny (model X.prog X.w) X.A (call (.ref f) us) (EP X pins σ Q) X.xe s := by
  have r2 : Vals (vs ++ dvs) (us ++ ds) := r.append hd
  have hl : (us ++ ds).length = ps.length := by rw [← r2.length]; exact F.len _ _ _ _ h
  refine wpAny_call (codeAny_mono (F.run X.A X.stack s H ⟨us, []⟩ (us ++ ds) (vs ++ dvs) Q E hr I.env0 (hb s us I.kIn hl) r2 h) fun r s' hq => ?_)
  cases r with
  | error e => exact hx pins σ H s e s' I hq
  | ok fl =>
    cases fl with
    | ret u => exact I.after hq
    | next => exact False.elim hq
    | brk => exact False.elim hq
    | cont => exact False.elim hq
theorem pe_call (F : FnOk X.prog X.w X.K X.mg X.base CX k f fd ps sp) (hr : Room k X.A) (hg : Gl X x) (hm : X.mg x = some (.ref f)) (hk : PySem.W.keepIn X.K (.ref f) = true) (hb : Binds X.K fd ps ds) (hd : Vals dvs ds) (hx : Passes CX X E)
    (ha : PA X (e :: es) t) (hdb : (x == ("__debug__" : Str)) = false := by decide) (he : starEach (e :: es) X.env = (false, eval e X.env) :: starEach es X.env := by rfl) (hpl : (backTo pos (starEach es X.env)).any (·.1) = false := by rfl) :
    PE X (.Call (.Name x p) (e :: es) [] pos) (tCall sp dvs E t) := by
  intro pins s σ H Q I h
  refine wpAny_Call_Name_kw (ld_glob I hg hm ?_ hdb)
  refine PySem.W.callWith_K (h₀ := X.base) I.ok.mod.kin hk (thn (ha pos pins s σ H _ I h) fun us s1 ⟨vs, H1, I1, r, q⟩ => ⟨I1.kIn, ?_⟩) he hpl
  exact run_fn F hr hb hd hx I1 r q
end
section
variable {X : Cx} {CX : CXT} {k : Nat} {f C : Addr} {fd : FuncData} {ps ks : List Str} {sp : Sp} {E : XK} {x m : Str} {p pos apos kpos : Pos} {e o : Expr} {es : List Expr} {kws : List Keyword} {te ta : TE} {t tk : TA} {nm : Option Str}
variable {g : List Value → List Value → List Value} {gV : List V → List V → List V}
end
structure FnScope (N P : List Str) (sc : Scope) : Prop where
  kind : sc.kind = .function
  co : sc.isCoroutine = false
  gen : sc.isGenerator = false
  nd : N.Nodup
  pre : N.take P.length = P
  par : ∀ x ∈ P, sc.names.lookup x = some .local ∨ sc.names.lookup x = some .cell
  nofree : ∀ y ∈ sc.names, y.2 ≠ .free
theorem bindL_out {kindOf : Str → Option NameKind} {x : Str} : ∀ {binds : List (Str × Value)} {m : Str → Option Value}, (∀ v, (x, v) ∉ binds) → bindL kindOf binds m x = m x
  | [], _, _ => rfl
  | (n, v) :: r, m, h => by
    unfold bindL
    rw [bindL_out fun w hw => h w (List.mem_cons_of_mem _ hw)]
    split
    · have : x ≠ n := by rintro rfl; exact h v List.mem_cons_self
      simp [this]
    · rfl
theorem bindC_out {kindOf : Str → Option NameKind} {x : Str} : ∀ {binds : List (Str × Value)} {m : Str → Option Value}, (∀ v, (x, v) ∉ binds) → bindC kindOf binds m x = m x
  | [], _, _ => rfl
  | (n, v) :: r, m, h => by
    unfold bindC
    rw [bindC_out fun w hw => h w (List.mem_cons_of_mem _ hw)]
    split
    · rfl
    · have : x ≠ n := by rintro rfl; exact h v List.mem_cons_self
      simp [this]
theorem bindL_get {kindOf : Str → Option NameKind} {x : Str} {v : Value} : ∀ {P : List Str} {vs : List Value} {i : Nat} {m : Str → Option Value}, P.Nodup → P[i]? = some x → vs[i]? = some v → kindOf x = some .local →
    bindL kindOf (P.zip vs) m x = some v
  | [], _, _, _, _, h, _, _ => by simp at h
  | _ :: _, [], _, _, _, _, h, _ => by simp at h
  | p :: P, w :: vs, 0, m, nd, h1, h2, hk => by
    simp at h1 h2; subst h1; subst h2
    show bindL kindOf ((p, w) :: P.zip vs) m p = _
    unfold bindL
    rw [bindL_out fun v hv => (List.nodup_cons.mp nd).1 (List.of_mem_zip hv).1, if_pos hk]
    simp
  | p :: P, w :: vs, i + 1, m, nd, h1, h2, hk => by
    show bindL kindOf ((p, w) :: P.zip vs) m x = _
    unfold bindL
    exact bindL_get (i := i) (List.nodup_cons.mp nd).2 (by simpa using h1) (by simpa using h2) hk
theorem bindC_get {kindOf : Str → Option NameKind} {x : Str} {v : Value} : ∀ {P : List Str} {vs : List Value} {i : Nat} {m : Str → Option Value}, P.Nodup → P[i]? = some x → vs[i]? = some v → kindOf x ≠ some .local →
    bindC kindOf (P.zip vs) m x = some v
  | [], _, _, _, _, h, _, _ => by simp at h
  | _ :: _, [], _, _, _, _, h, _ => by simp at h
  | p :: P, w :: vs, 0, m, nd, h1, h2, hk => by
    simp at h1 h2; subst h1; subst h2
    show bindC kindOf ((p, w) :: P.zip vs) m p = _
    unfold bindC
    rw [bindC_out fun v hv => (List.nodup_cons.mp nd).1 (List.of_mem_zip hv).1, if_neg hk]
    simp
  | p :: P, w :: vs, i + 1, m, nd, h1, h2, hk => by
    show bindC kindOf ((p, w) :: P.zip vs) m x = _
    unfold bindC
    exact bindC_get (i := i) (List.nodup_cons.mp nd).2 (by simpa using h1) (by simpa using h2) hk
def start (N : List Str) (vs : List V) : St := vs.map some ++ List.replicate (N.length - vs.length) none
def cxOf (CX : CXT) (P : Program) (w : World) (K : PySem.W.Frag) (mg : Str → Option Value) (base : Heap) (N : List Str) (qual : Str) (scope : Scope) (f : Addr) (cd : Value) (A : Around) (outer : List Env) (s : Shared) (H : Hp) (E : XK) : Cx where
  prog := P
  w := w
  K := K
  mg := mg
  base := base
  A := A.deeper (envOfC qual scope s.heap.objs.size f cd)
  N := N
  s₀ := s
  H₀ := H
  env := envOfC qual scope s.heap.objs.size f cd
  outer := outer
  stack := envOfC qual scope s.heap.objs.size f cd :: outer
  ex := []
  calm := true
  fn := fun _ => true
  pn := []
  xe := fun e s' => wpAny (model P w) (A.deeper (envOfC qual scope s.heap.objs.size f cd)) (leaving (envOfC qual scope s.heap.objs.size f cd) e) (fun _ s'' => CX outer H s E e s'') (fun e' s'' => CX outer H s E e' s'') s'
theorem cell_has {sc : Scope} {n : Nat} {x : Str} (h : sc.names.lookup x = some .cell) : ∃ c, (cellsFrom n sc.names []).lookup x = some c := by
  have q := PySem.W.cellsFrom_some sc.names n [] (.inl h)
  exact Option.isSome_iff_exists.mp q
theorem inv_start {CX : CXT} {P : Program} {w : World} {K : PySem.W.Frag} {mg : Str → Option Value} {base : Heap} {N ps : List Str} {qual : Str} {scope : Scope} {f : Addr} {cd : Value} {A : Around} {outer : List Env} {s s1 : Shared} {H : Hp} {E : XK} {us : List Value} {vs : List V}
    (S : FnScope N ps scope) (hd : A.handled = none) (e0 : Env0 P w K mg base A outer s H) (hl : vs.length = ps.length) (r : Vals vs us)
    (x : InCallC s s.heap.objs.size (bindL (envOfC qual scope s.heap.objs.size f cd).kindOf (ps.zip us) fun _ => none) (cellsFrom (s.heap.objs.size + 1) scope.names []) (bindC (envOfC qual scope s.heap.objs.size f cd).kindOf (ps.zip us) fun _ => none) s1) :
    Inv (cxOf CX P w K mg base N qual scope f cd A outer s H E) [] (start N vs) H s1 := by
  have hpl : ps.length ≤ N.length := by have := congrArg List.length S.pre; rw [List.length_take] at this; omega
  obtain ⟨h1, tk, rfl, hk⟩ := x.done
  have noA : ∀ b : Addr, b ∉ (cxOf CX P w K mg base N qual scope f cd A outer s H E).ex := fun b z => absurd (show b ∈ ([] : List Addr) from z) (by simp)
  refine ⟨⟨e0.mod, S.kind, rfl, rfl, Nat.le_refl _, fun y z c h1 h2 => ?_, fun y hy => ?_, fun y c _ h => ?_, fun _ => hd, Around.frames_deeper e0.frames, .inr ⟨rfl, rfl⟩, fun b z => absurd z (noA b), e0.bs, e0.bsz, fun b _ _ => noA b, fun b z => absurd z (noA b), e0.funs, e0.frf⟩,
    rfl, e0.bare, Un.kept hk, ⟨_, x.toInCall.ns, fun i y v h1 h2 h3 => ?_⟩, fun y c h => ⟨_, x.cell y c h⟩, e0.hok.fresh (Nat.le_refl _), fun y c h => ?_, fun p hp => absurd (show p ∈ ([] : List (Addr × Obj)) from hp) (by simp), e0.hok.kept hk, ?_⟩
  · exact name_of_addr x.apart (PySem.mem_of_lookup h1) (PySem.mem_of_lookup h2)
  · have hy : scope.names.lookup y = some .cell ∨ scope.names.lookup y = some .free := hy
    rcases hy with hy | hy
    · exact cell_has hy
    · exact absurd rfl (S.nofree _ (PySem.mem_of_lookup hy))
  · exact Nat.le_of_lt (x.above y c (PySem.mem_of_lookup h))
  · have hi : i < vs.length := by
      unfold start at h2
      by_cases hi : i < vs.length
      · exact hi
      · rw [List.getElem?_append_right (by simpa using hi)] at h2
        rw [List.getElem?_replicate] at h2
        split at h2 <;> cases h2
    have ha : vs[i]? = some v := by
      unfold start at h2
      rw [List.getElem?_append_left (by simpa using hi), List.getElem?_map] at h2
      cases e : vs[i]? with
      | none => rw [e] at h2; cases h2
      | some a => rw [e] at h2; cases h2; rfl
    obtain ⟨u, hu, rv⟩ := r.get ha
    have hp : ps[i]? = some y := by
      rw [← S.pre, List.getElem?_take_of_lt (by omega)]; exact h1
    have ndP : ps.Nodup := by rw [← S.pre]; exact S.nd.sublist (List.take_sublist _ _)
    refine ⟨u, rv, ?_⟩
    rcases S.par y (List.mem_of_getElem? hp) with k | k
    · exact .inl ⟨k, bindL_get ndP hp hu k⟩
    · obtain ⟨c, e⟩ := cell_has (n := s.heap.objs.size + 1) k
      refine .inr ⟨.inl k, c, e, ?_⟩
      have q := x.cell y c e
      rw [bindC_get ndP hp hu (by show scope.names.lookup y ≠ _; rw [k]; decide)] at q
      exact q
  · exact e0.hok.fresh (Nat.le_of_lt (x.above y c (PySem.mem_of_lookup h)))
  · unfold start
    show _ = N.length
    rw [List.length_append, List.length_map, List.length_replicate]
    omega
theorem fn_of {CX : CXT} {P : Program} {w : World} {K : PySem.W.Frag} {mg : Str → Option Value} {base : Heap} {k : Nat} {f : Addr} {name qual : Str} {params : Arguments} {body : List Stmt} {scope : Scope} {dV kV doc pm cdv ct oc : Value} {an od : Option Addr}
    {osl : Array (Option Value)} {N ps : List Str} {sp : Sp} (lk : K.lookup f = some ⟨oc, od, .func (PySem.W.fnOf name qual params body scope dV kV doc pm an cdv ct), osl⟩) (hcd : PySem.W.codeIn K cdv qual = true) (S : FnScope N ps scope)
    (len : ∀ vs H Q E, sp vs H Q E → vs.length = ps.length)
    (hbody : ∀ (A : Around) (outer : List Env) (s : Shared) (H : Hp) (vs : List V) (Q : VK) (E : XK), Room k (A.deeper (envOfC qual scope s.heap.objs.size f cdv)) → sp vs H Q E →
      ∃ t, PSs (cxOf CX P w K mg base N qual scope f cdv A outer s H E) body t ∧ t { nx := fun _ H' => Q .non H', rt := Q } (start N vs) H) :
    FnOk P w K mg base CX (k + 1) f (PySem.W.fnOf name qual params body scope dV kV doc pm an cdv ct) ps sp := by
  refine ⟨len, fun A outer s H args us vs Q E hr e0 hb r hsp => ?_⟩
  have hl := len _ _ _ _ hsp
  have KX : K.In s.heap := e0.mod.kin.keeps fun b o e => (e0.bs b o e).1
  have lim : s.heap.NoLimit := e0.mod.nolimit.keeps fun b o e => (e0.bs b o e).1
  have hkind : ∀ y ∈ ps.zip us, scope.names.lookup y.1 = some .local ∨ (scope.names.lookup y.1 = some .cell ∧ ((cellsFrom (s.heap.objs.size + 1) scope.names []).lookup y.1).isSome = true) := fun ⟨n, v⟩ hy => by
    rcases S.par n (List.of_mem_zip hy).1 with q | q
    · exact .inl q
    · exact .inr ⟨q, PySem.W.cellsFrom_some _ _ _ (.inl q)⟩
  refine codeAny_call_function hr.depth (KX _ _ lk) rfl S.co S.gen rfl (PySem.W.codeRec_of KX hcd) (hb _ _ _ _ ?_)
  refine wpAny_newFunctionEnv_cells S.kind hkind fun env he s1 x => ?_
  subst he
  refine ⟨lim.keeps x.toInCall.keep, codeAny_func ?_⟩
  obtain ⟨t, ht, hq⟩ := hbody A outer s H vs Q E (hr.deeper _) hsp
  have I : Inv (cxOf CX P w K mg base N qual scope f cdv A outer s H E) [] (start N vs) H s1 := inv_start S hr.hd e0 hl r x
  refine wpAny_mono (ht [] s1 (start N vs) H _ I hq) (fun fl s' hs => ?_) fun e s' hs => hs
  have fin : ∀ {σ' : St} {H' : Hp} {v : V} {u : Value}, Inv (cxOf CX P w K mg base N qual scope f cdv A outer s H E) [] σ' H' s' → RelV v u → Q v H' → CE outer P w H s Q u s' :=
    fun {σ' H' v u} J rv q => ⟨v, H', J.os, J.bare, J.base, J.hok, rv, q⟩
  cases fl with
  | ret u =>
    obtain ⟨v, σ', H', J, rv, q⟩ := hs
    exact fin J rv q
  | next =>
    obtain ⟨σ', H', J, q⟩ := hs
    exact fin (v := V.non) (u := Value.none) J rfl q
  | brk =>
    obtain ⟨_, _, _, q⟩ := hs
    exact False.elim q
  | cont =>
    obtain ⟨_, _, _, q⟩ := hs
    exact False.elim q
end L2
namespace L2
open PySem PySem.Spec PyProof.Rows
section
variable {X : Cx} {x : Str} {p pos : Pos} {e : Expr} {es : List Expr} {t : TA} {id T : String} {r : List V → Hp → VK → Prop}
def tCB (r : List V → Hp → VK → Prop) (t : TA) : TE := fun σ H Q => t σ H fun vs H1 => r vs H1 Q
theorem pe_callB (hc : CallR X (.builtin id) r) (hg : Gl X x) (hm : X.mg x = none) (hv : bootBuiltins x = some (.builtin id)) (ha : PA X (e :: es) t) (hn : x ≠ "__name__" := by decide) (hdb : (x == ("__debug__" : Str)) = false := by decide)
    (he : starEach (e :: es) X.env = (false, eval e X.env) :: starEach es X.env := by rfl) (hpl : (backTo pos (starEach es X.env)).any (·.1) = false := by rfl) : PE X (.Call (.Name x p) (e :: es) [] pos) (tCB r t) := by
  intro pins s σ H Q I h
  refine wpAny_Call_Name_kw (ld_blt I hg hm hv ?_ hn hdb)
  exact PyProof.Rows.callWith_builtin1 (thn (ha pos pins s σ H _ I h) fun us s1 ⟨vs, H1, I1, r1, q1⟩ => hc pins s1 σ H1 vs us Q I1 r1 q1) he hpl
theorem pe_callTy (hc : CallR X (.type T) r) (hg : Gl X x) (hm : X.mg x = none) (hv : bootBuiltins x = some (.type T)) (ha : PA X (e :: es) t) (hn : x ≠ "__name__" := by decide) (hdb : (x == ("__debug__" : Str)) = false := by decide)
    (he : starEach (e :: es) X.env = (false, eval e X.env) :: starEach es X.env := by rfl) (hpl : (backTo pos (starEach es X.env)).any (·.1) = false := by rfl) : PE X (.Call (.Name x p) (e :: es) [] pos) (tCB r t) := by
  intro pins s σ H Q I h
  refine wpAny_Call_Name_kw (ld_blt I hg hm hv ?_ hn hdb)
  exact PyProof.Rows.callWith_type1 (thn (ha pos pins s σ H _ I h) fun us s1 ⟨vs, H1, I1, r1, q1⟩ => hc pins s1 σ H1 vs us Q I1 r1 q1) he hpl
end
end L2
namespace HT
open PySem PyProof.Rows
section
open PySem.SeqAt
open PySem.AutoSeq1 (wpAny_loadPart')
open PySem.MeetsSeq PySem.MeetsSeq2 PySem.MeetsSeq3
end
section
variable {prog : Program} {w : World} {A : Around} {E : Value → Shared → Prop} {s : Shared}
def sIx (n d : Nat) : Option Int → Nat
  | none => d
  | some v => if v < 0 then (v + (n : Int)).toNat else min v.toNat n
theorem sIx_nat (n d k : Nat) : sIx n d (some (k : Int)) = min k n := by
  show (if (k : Int) < 0 then ((k : Int) + (n : Int)).toNat else min (k : Int).toNat n) = min k n
  rw [if_neg (by omega), Int.toNat_natCast]
end
end HT
namespace L2
open PySem PySem.Spec PyProof.Rows
abbrev TO := St → Hp → (Option Int → Hp → Prop) → Prop
def PO (X : Cx) (e : Option Expr) (t : TO) : Prop :=
  ∀ (pins : List (Addr × Obj)) (s : Shared) (σ : St) (H : Hp) (Q : Option Int → Hp → Prop), Inv X pins σ H s → t σ H Q →
    wpAny (model X.prog X.w) X.A (evalPart e X.env) (fun u s' => ∃ o H', Inv X pins σ H' s' ∧ IsPart u o ∧ Q o H') X.xe s
def tNoPart : TO := fun _ H Q => Q none H
def tPart (t : TE) : TO := fun σ H Q => t σ H fun x H1 => ∃ i, x = .int i ∧ Q (some i) H1
section
variable {X : Cx} {e : Expr} {te : TE} {lo hi : Option Expr} {tl th : TO} {pos p2 : Pos}
theorem po_some (h : PE X e te) : PO X (some e) (tPart te) := by
  intro pins s σ H Q I hw
  rw [evalPart_some]
  refine thn (h pins s σ H _ I hw) fun u s1 ⟨x, H1, I1, r1, q1⟩ => ?_
  obtain ⟨i, rfl, q⟩ := q1
  obtain ⟨t, rfl⟩ := r1
  exact ⟨some i, H1, I1, .int i t, q⟩
def SlR (X : Cx) (r : V → Option Int → Option Int → Hp → VK → Prop) : Prop :=
  ∀ (pins : List (Addr × Obj)) (s : Shared) (σ : St) (H : Hp) (x : V) (v vl vu : Value) (lo hi : Option Int) (sl : Addr) (Q : VK), Inv X pins σ H s → RelV x v → s.heap.IsSliceOf sl vl vu .none → IsPart vl lo → IsPart vu hi → r x lo hi H Q →
    ∃ T id, typeLookup (.type T) "__getitem__" = pure (some (.builtin id)) ∧ s.TypeIs v T ∧ wpAny (model X.prog X.w) X.A (getItem v (.ref sl)) (EP X pins σ Q) X.xe s
theorem SlR.or {r r' : V → Option Int → Option Int → Hp → VK → Prop} (h : SlR X r) (h' : SlR X r') : SlR X (fun x lo hi H Q => r x lo hi H Q ∨ r' x lo hi H Q) := by
  intro pins s σ H x v vl vu lo hi sl Q I rx hs pl pu q
  rcases q with q | q
  · exact h pins s σ H x v vl vu lo hi sl Q I rx hs pl pu q
  · exact h' pins s σ H x v vl vu lo hi sl Q I rx hs pl pu q
def tSl (r : V → Option Int → Option Int → Hp → VK → Prop) (te : TE) (tl th : TO) : TE := fun σ H Q => te σ H fun x H1 => tl σ H1 fun l H2 => th σ H2 fun u H3 => r x l u H3 Q
theorem pe_slice {r : V → Option Int → Option Int → Hp → VK → Prop} (hr : SlR X r) (he : PE X e te) (hl : PO X lo tl) (hu : PO X hi th) : PE X (.Subscript e (.Slice lo hi none p2) pos) (tSl r te tl th) := by
  intro pins s σ H Q I h
  refine Subscript_ (thn (he pins s σ H _ I h) fun v s1 ⟨x, H1, I1, r1, q1⟩ => ?_)
  refine wpAny_Slice (thn (hl pins s1 σ H1 _ I1 q1) fun vl s2 ⟨l, H2, I2, pl, q2⟩ => thn (hu pins s2 σ H2 _ I2 q2) fun vu s3 ⟨u, H3, I3, pu, q3⟩ => ?_)
  rw [evalPart_none]
  refine wpAny_pure ?_
  have I4 : Inv X pins σ H3 { s3 with heap := s3.heap.push { cls := .type "slice", data := .fields #[vl, vu, .none] } } := I3.kept (t' := s3.toks) fun b ob q => Heap.get?_push_of_some _ q
  obtain ⟨T, id, hT, ht, hg⟩ := hr pins { s3 with heap := s3.heap.push { cls := .type "slice", data := .fields #[vl, vu, .none] } } σ H3 x v vl vu l u s3.heap.objs.size Q I4 r1 (Heap.IsSliceOf.new ..) pl pu q3
  show wpAny (model X.prog X.w) X.A (subscriptTail e (.Slice lo hi none p2) v (.ref s3.heap.objs.size)) (EP X pins σ Q) X.xe { s3 with heap := s3.heap.push { cls := .type "slice", data := .fields #[vl, vu, .none] } }
  exact tail_any (ops := [.ref s3.heap.objs.size, v]) ht hT hg (by with_unfolding_all rfl)
def cutV (xs : List V) (lo hi : Option Int) : List V := (xs.drop (HT.sIx xs.length 0 lo)).take (HT.sIx xs.length xs.length hi - HT.sIx xs.length 0 lo)
theorem cutV_length (xs : List V) (lo hi : Option Int) : (cutV xs lo hi).length ≤ xs.length := by
  unfold cutV
  rw [List.length_take, List.length_drop]
  omega
end
end L2
namespace L2
open PySem PySem.Spec PyProof.Rows
def ixN (n : Nat) (i : Int) : Option Nat := if 0 ≤ i then (if i < n then some i.toNat else none) else if -(n : Int) ≤ i then some (i + n).toNat else none
def atI {α : Type} (xs : List α) (i : Int) : Option α := (ixN xs.length i).bind fun j => xs[j]?
theorem ixN_seq {n : Nat} {i : Int} {j : Nat} (h : ixN n i = some j) : seqIndex? i n = some j ∧ j < n ∧ -(n : Int) ≤ i ∧ i < n := by
  unfold ixN at h
  by_cases h0 : 0 ≤ i
  · rw [if_pos h0] at h
    by_cases h1 : i < n
    · rw [if_pos h1] at h
      have e : i.toNat = j := Option.some.inj h
      exact ⟨by rw [seqIndex_of h0 h1, e], by omega, by omega, h1⟩
    · rw [if_neg h1] at h; cases h
  · rw [if_neg h0] at h
    by_cases h1 : -(n : Int) ≤ i
    · rw [if_pos h1] at h
      have e : (i + n).toNat = j := Option.some.inj h
      exact ⟨by rw [seqIndex_neg (by omega) h1, e], by omega, h1, by omega⟩
    · rw [if_neg h1] at h; cases h
theorem atI_get {α : Type} {xs : List α} {i : Int} {v : α} (h : atI xs i = some v) : ∃ j, seqIndex? i xs.length = some j ∧ xs[j]? = some v ∧ j < xs.length ∧ -(xs.length : Int) ≤ i ∧ i < xs.length := by
  unfold atI at h
  cases e : ixN xs.length i with
  | none => rw [e] at h; cases h
  | some j =>
    rw [e] at h
    obtain ⟨h1, h2, h3, h4⟩ := ixN_seq e
    exact ⟨j, h1, h, h2, h3, h4⟩
theorem atI_nat {α : Type} {xs : List α} {j : Nat} {v : α} (h : xs[j]? = some v) : atI xs (j : Int) = some v := by
  have hj : j < xs.length := (List.getElem?_eq_some_iff.mp h).1
  have e : ixN xs.length (j : Int) = some j := by
    unfold ixN
    rw [if_pos (by omega), if_pos (by omega)]; simp
  unfold atI; rw [e]; exact h
def PlainIx (b : Expr) : Prop := ∀ o i, subscripted b false o i = operate [o, i] (getItem o i)
def IxR (X : Cx) (r : R2) : Prop :=
  ∀ (value slice : Expr) (pins : List (Addr × Obj)) (s : Shared) (σ : St) (H : Hp) (x y : V) (v u : Value) (Q : VK), Inv X pins σ H s → RelV x v → RelV y u → r x y H Q →
    subscripted slice false v u = operate [v, u] (getItem v u) → wpAny (model X.prog X.w) X.A (subscriptTail value slice v u) (EP X pins σ Q) X.xe s
def MtR (X : Cx) (id : String) (r : V → List V → Hp → VK → Prop) : Prop :=
  ∀ (pins : List (Addr × Obj)) (s : Shared) (σ : St) (H : Hp) (x : V) (xs : List V) (v : Value) (us : List Value) (Q : VK), Inv X pins σ H s → RelV x v → Vals xs us → r x xs H Q →
    wpAny (model X.prog X.w) X.A (call (.builtin id) (v :: us)) (EP X pins σ Q) X.xe s
section
variable {X : Cx} {a b : Expr} {ta tb : TE} {pos : Pos}
theorem IxR.or {r r' : R2} (h : IxR X r) (h' : IxR X r') : IxR X (fun x y H Q => r x y H Q ∨ r' x y H Q) := by
  intro value slice pins s σ H x y v u Q I rx ry q hs
  rcases q with q | q
  · exact h value slice pins s σ H x y v u Q I rx ry q hs
  · exact h' value slice pins s σ H x y v u Q I rx ry q hs
theorem MtR.or {id : String} {r r' : V → List V → Hp → VK → Prop} (h : MtR X id r) (h' : MtR X id r') : MtR X id (fun x xs H Q => r x xs H Q ∨ r' x xs H Q) := by
  intro pins s σ H x xs v us Q I rx rs q
  rcases q with q | q
  · exact h pins s σ H x xs v us Q I rx rs q
  · exact h' pins s σ H x xs v us Q I rx rs q
theorem pe_ix {r : R2} (hr : IxR X r) (ha : PE X a ta) (hb : PE X b tb) (hs : PlainIx b) : PE X (.Subscript a b pos) (tOp r ta tb) := by
  intro pins s σ H Q I h
  exact Subscript_ (binT ha hb I h fun v u s2 x y H2 I2 rx ry q => hr a b pins s2 σ H2 x y v u Q I2 rx ry q (hs _ _))
def rIxL (K : PySem.W.Frag) : R2 := fun x y H Q => ∃ p xs i v, x = .ref p ∧ y = .int i ∧ SqL K H p xs ∧ atI xs i = some v ∧ Q v H
def rIxT (K : PySem.W.Frag) : R2 := fun x y H Q => ∃ p xs i v, x = .ref p ∧ y = .int i ∧ SqT K H p xs ∧ atI xs i = some v ∧ Q v H
theorem ix_list : IxR X (rIxL X.K) := by
  intro value slice pins s σ H x y v u Q I rx ry h hs
  obtain ⟨p, xs, i, z, rfl, rfl, hq, he, q⟩ := h
  cases rx
  obtain ⟨t, rfl⟩ := ry
  obtain ⟨its, r, pl, hz⟩ := I.list hq
  obtain ⟨j, h1, h2, h3, h4, h5⟩ := atI_get he
  obtain ⟨w, ew, rw'⟩ := r.get h2
  have hl := r.length
  have hn := line63
  have fin : EP X pins σ Q w s := ⟨z, H, I, rw', q⟩
  by_cases h0 : 0 ≤ i
  · have hj : i.toNat = j := by
      rw [seqIndex_of h0 h5] at h1
      exact Option.some.inj h1
    exact item_listR pl.isList h0 (by omega) (by rw [hj]; simpa using ew) fin hs
  · have hj : (i + (its.toArray.size : Int)).toNat = j := by
      rw [seqIndex_neg (by omega) h4] at h1
      rw [List.size_toArray, ← hl]
      exact Option.some.inj h1
    exact subscriptTail_builtinR (x := w) pl.isList.typeIs slot_list_getitem.lookup
      (wpAny_getItem_list_neg (Q := fun r s' => r = w ∧ EP X pins σ Q r s') pl.isList (by omega) (by rw [List.size_toArray] <;> omega) (by omega) (by rw [hj]; simpa using ew) ⟨rfl, fin⟩) hs
theorem Inv.lst {pins : List (Addr × Obj)} {σ : St} {H : Hp} {s : Shared} {p : Addr} {xs : List V} (I : Inv X pins σ H s) (h : H p = some (.lst xs)) :
    ∃ (its : List Value) (n : Nat), Vals xs its ∧ s.heap.get? p = some { cls := .type "list", data := .seq its.toArray n } ∧ xs.length ≤ sizeLine := by
  obtain ⟨z, its, n, r, e⟩ := I.hok p _ h
  exact ⟨its, n, r, e, z⟩
def rSetL : V → V → V → Hp → (Hp → Prop) → Prop := fun o i v H Q => ∃ p xs k j, o = .ref p ∧ i = .int k ∧ H p = some (.lst xs) ∧ ixN xs.length k = some j ∧ Q (upd H p (.lst (xs.set j v)))
theorem slice_bounds (lo hi : Option Int) (n : Nat) : (sliceBounds lo hi none n).1 = ((HT.sIx n 0 lo : Nat) : Int) ∧ (sliceBounds lo hi none n).2.1 = ((HT.sIx n n hi : Nat) : Int) ∧ (sliceBounds lo hi none n).2.2 = 1 := by
  refine ⟨?_, ?_, rfl⟩
  · cases lo with
    | none => simp [sliceBounds, HT.sIx]
    | some i =>
      simp only [sliceBounds, HT.sIx, Option.getD_none, show (1 : Int) > 0 by decide, if_true]
      by_cases h : i < 0
      · simp only [h, if_true] <;> omega
      · simp only [h, if_false] <;> omega
  · cases hi with
    | none => simp [sliceBounds, HT.sIx]
    | some i =>
      simp only [sliceBounds, HT.sIx, Option.getD_none, show (1 : Int) > 0 by decide, if_true]
      by_cases h : i < 0
      · simp only [h, if_true] <;> omega
      · simp only [h, if_false] <;> omega
theorem slicePick_cut (its : List Value) (lo hi : Option Int) : slicePick its.toArray lo hi none = ((its.drop (HT.sIx its.length 0 lo)).take (HT.sIx its.length its.length hi - HT.sIx its.length 0 lo)).toArray := by
  obtain ⟨h1, h2, h3⟩ := slice_bounds lo hi its.toArray.size
  unfold slicePick
  rw [h1, h2, h3]
  simp only [sliceRange_one, pick_run, List.size_toArray] <;> rfl
def rSlL (K : PySem.W.Frag) : V → Option Int → Option Int → Hp → VK → Prop := fun x lo hi H Q => ∃ a xs, x = .ref a ∧ SqL K H a xs ∧ ∀ p, H p = none → Q (.ref p) (upd H p (.lst (cutV xs lo hi)))
theorem sl_list : SlR X (rSlL X.K) := by
  intro pins s σ H x v vl vu lo hi sl Q I rx hs pl pu h
  obtain ⟨a, xs, rfl, hx, q⟩ := h
  cases rx
  obtain ⟨its, r, ht, hz⟩ := I.list hx
  have hlen := r.length
  refine ⟨"list", _, slot_list_getitem.lookup, ht.isList.typeIs, ?_⟩
  refine wpAny_getItem_list_slice ht.isList hs pl pu .none (by simp) ?_ (by rw [List.size_toArray] <;> omega)
  rw [slicePick_cut, ← hlen]
  refine ⟨.ref s.heap.objs.size, _, I.laid (t' := s.toks) (o := .lst (cutV xs lo hi)) (fun b ob q => Heap.get?_push_of_some _ q) (Nat.le_refl _) ?_, rfl, q _ (I.hok.fresh (Nat.le_refl _))⟩
  exact ⟨Nat.le_trans (cutV_length xs lo hi) hz, _, 0, (r.drop (HT.sIx xs.length 0 lo)).take (HT.sIx xs.length xs.length hi - HT.sIx xs.length 0 lo), Heap.get?_push_size _ rfl⟩
def flatV : V → Bool
  | .non => true
  | .bl _ => true
  | .int _ => true
  | .str _ => true
  | _ => false
def eqV : V → V → Bool
  | .non, .non => true
  | .bl a, .bl b => a == b
  | .bl a, .int b => (if a then 1 else 0) == b
  | .int a, .bl b => a == (if b then 1 else 0)
  | .int a, .int b => a == b
  | .str a, .str b => a == b
  | _, _ => false
theorem eqAt_V {A : Around} {s : Shared} {y x : V} {u v : Value} (ry : RelV y u) (rx : RelV x v) (fy : flatV y = true) (fx : flatV x = true) : SeqAt.EqAt A s u v (eqV y x) := by
  cases y with
  | non =>
    cases ry
    cases x with
    | non => cases rx; exact SeqAt.EqAt.same _
    | bl b => cases rx; exact SeqAt.EqAt.none_bool b
    | int b => obtain ⟨t, rfl⟩ := rx; exact SeqAt.EqAt.none_int b t
    | str b => obtain ⟨t, rfl⟩ := rx; exact SeqAt.EqAt.none_str b t
    | _ => exact absurd (show false = true from fx) Bool.false_ne_true
  | bl a =>
    cases ry
    cases x with
    | non => cases rx; exact SeqAt.EqAt.bool_none a
    | bl b => cases rx; exact SeqAt.EqAt.bool_bool a b
    | int b => obtain ⟨t, rfl⟩ := rx; exact SeqAt.EqAt.bool_int a b t
    | str b => obtain ⟨t, rfl⟩ := rx; exact SeqAt.EqAt.bool_str a b t
    | _ => exact absurd (show false = true from fx) Bool.false_ne_true
  | int a =>
    obtain ⟨t', rfl⟩ := ry
    cases x with
    | non => cases rx; exact SeqAt.EqAt.int_none a t'
    | bl b => cases rx; exact SeqAt.EqAt.int_bool a t' b
    | int b => obtain ⟨t, rfl⟩ := rx; exact SeqAt.EqAt.int_int a t' b t
    | str b => obtain ⟨t, rfl⟩ := rx; exact SeqAt.EqAt.int_str a t' b t
    | _ => exact absurd (show false = true from fx) Bool.false_ne_true
  | str a =>
    obtain ⟨t', rfl⟩ := ry
    cases x with
    | non => cases rx; exact SeqAt.EqAt.str_none a t'
    | bl b => cases rx; exact SeqAt.EqAt.str_bool a t' b
    | int b => obtain ⟨t, rfl⟩ := rx; exact SeqAt.EqAt.str_int a t' b t
    | str b => obtain ⟨t, rfl⟩ := rx; exact SeqAt.EqAt.str_str a t' b t
    | _ => exact absurd (show false = true from fx) Bool.false_ne_true
  | _ => exact absurd (show false = true from fy) Bool.false_ne_true
def eqU (x : V) (u : Value) : Bool := match u with
  | .none => eqV .non x
  | .bool b => eqV (.bl b) x
  | .int i _ => eqV (.int i) x
  | .str z _ => eqV (.str z) x
  | _ => false
theorem eqU_of {x y : V} {u : Value} (r : RelV y u) (f : flatV y = true) : eqU x u = eqV y x := by
  cases y with
  | non => cases r; rfl
  | bl b => cases r; rfl
  | int i => obtain ⟨t, rfl⟩ := r; rfl
  | str z => obtain ⟨t, rfl⟩ := r; rfl
  | _ => exact absurd (show false = true from f) Bool.false_ne_true
theorem any_eqU {x : V} : ∀ {xs : List V} {us : List Value}, Vals xs us → xs.all flatV = true → us.any (eqU x) = xs.any fun y => eqV y x
  | _, _, .nil, _ => rfl
  | y :: xs, u :: us, .cons r t, f => by
    rw [List.all_cons, Bool.and_eq_true] at f
    rw [List.any_cons, List.any_cons, eqU_of r f.1, any_eqU t f.2]
theorem mem_eqAt {A : Around} {s : Shared} {x : V} {v : Value} (rx : RelV x v) (fx : flatV x = true) : ∀ {xs : List V} {us : List Value}, Vals xs us → xs.all flatV = true → ∀ u ∈ us, SeqAt.EqAt A s u v (eqU x u)
  | _, _, .nil, _ => fun u hu => by cases hu
  | y :: xs, u :: us, .cons r t, f => fun u' hu => by
    rw [List.all_cons, Bool.and_eq_true] at f
    rcases List.mem_cons.mp hu with rfl | hu
    · rw [eqU_of r f.1]; exact eqAt_V r rx f.1 fx
    · exact mem_eqAt rx fx t f.2 u' hu
def inV (x : V) (xs : List V) : Bool := xs.any fun y => eqV y x
def rIn (K : PySem.W.Frag) (neg : Bool) : R2 := fun x y H Q => ∃ p xs, y = .ref p ∧ (SqL K H p xs ∨ SqT K H p xs) ∧ flatV x = true ∧ xs.all flatV = true ∧ Q (.bl (if neg then !inV x xs else inV x xs)) H
theorem op_in_seq : OpR X (compareOp .In) (rIn X.K false) := by
  intro pins s σ H x y v u Q I rx ry h
  obtain ⟨p, xs, rfl, hq, fx, fs, q⟩ := h
  cases ry
  rcases hq with hq | hq
  · obtain ⟨its, r, pl, hz⟩ := I.list hq
    refine SeqAt.in_listAt (eqU x) pl.isList (fun w hw => mem_eqAt rx fx r fs w (by simpa using hw)) ⟨.bl _, H, I, rfl, ?_⟩
    rw [show its.toArray.any (eqU x) = its.any (eqU x) by simp, any_eqU r fs]
    exact q
  · obtain ⟨its, r, pl, hz⟩ := I.tuple hq
    refine SeqAt.in_tupleAt (eqU x) pl (fun w hw => mem_eqAt rx fx r fs w (by simpa using hw)) ⟨.bl _, H, I, rfl, ?_⟩
    rw [show its.toArray.any (eqU x) = its.any (eqU x) by simp, any_eqU r fs]
    exact q
theorem call_len_seq : CallR X (.builtin "len") (fun xs H Q => ∃ p ys, xs = [.ref p] ∧ (SqL X.K H p ys ∨ SqT X.K H p ys) ∧ Q (.int ys.length) H) := by
  intro pins s σ H xs us Q I r h
  obtain ⟨p, ys, rfl, hq, q⟩ := h
  obtain ⟨u, rfl, rx⟩ := vals1 r
  cases rx
  have hn := line63
  rcases hq with hq | hq
  · obtain ⟨its, r', pl, hz⟩ := I.list hq
    have hlen := r'.length
    exact Calls.call_len_list pl.isList (by simp only [List.size_toArray] <;> omega) ⟨.int ys.length, H, I.tok _, ⟨s.toks + 1, by rw [List.size_toArray, hlen]⟩, q⟩
  · obtain ⟨its, r', pl, hz⟩ := I.tuple hq
    have hlen := r'.length
    exact len_tuple pl (by simp only [List.size_toArray] <;> omega) ⟨.int ys.length, H, I.tok _, ⟨s.toks + 1, by rw [List.size_toArray, hlen]⟩, q⟩
theorem CallR.or {f : Value} {r r' : List V → Hp → VK → Prop} (h : CallR X f r) (h' : CallR X f r') : CallR X f (fun xs H Q => r xs H Q ∨ r' xs H Q) := by
  intro pins s σ H xs us Q I rs q
  rcases q with q | q
  · exact h pins s σ H xs us Q I rs q
  · exact h' pins s σ H xs us Q I rs q
theorem call_list_of : CallR X (.type "list") (fun xs H Q => ∃ p ys, xs = [.ref p] ∧ (SqL X.K H p ys ∨ SqT X.K H p ys) ∧ ∀ l, H l = none → Q (.ref l) (upd H l (.lst ys))) := by
  intro pins s σ H xs us Q I r h
  obtain ⟨p, ys, rfl, hq, q⟩ := h
  obtain ⟨u, rfl, rx⟩ := vals1 r
  cases rx
  have fin : ∀ (its : List Value), Vals ys its → ys.length ≤ sizeLine → ∀ (h' : Heap) (c' : Nat), (∀ b o', s.heap.get? b = some o' → h'.get? b = some o') →
      h'.get? s.heap.objs.size = some { cls := .type "list", dict := none, data := .seq its.toArray c', slots := #[] } → EP X pins σ Q (.ref s.heap.objs.size) { s with heap := h' } := fun its r' hz h' c' kp e =>
    ⟨.ref s.heap.objs.size, _, I.laid (t' := s.toks) kp (Nat.le_refl _) (show ObjOk X.prog X.w _ h' _ (.lst ys) from ⟨hz, its, c', r', e⟩), rfl, q _ (I.hok.fresh (Nat.le_refl _))⟩
  rcases hq with hq | hq
  · obtain ⟨its, r', pl, hz⟩ := I.list hq
    have hlen := r'.length
    obtain ⟨o, ho, hc, n, hd⟩ := pl.isList
    exact call_list_seq p (.inl rfl) ho hc hd (fun h' c' kp e => fin its r' hz h' c' kp e) (by simp only [List.size_toArray] <;> omega)
  · obtain ⟨its, r', pl, hz⟩ := I.tuple hq
    have hlen := r'.length
    obtain ⟨o, ho, hc, n, hd⟩ := pl
    exact call_list_seq p (.inr rfl) ho hc hd (fun h' c' kp e => fin its r' hz h' c' kp e) (by simp only [List.size_toArray] <;> omega)
def tyV (K : PySem.W.Frag) (T : String) (x : V) (H : Hp) : Prop := match x with
  | .str _ => T = "str"
  | .int _ => T = "int"
  | .ref p => (T = "list" ∧ ∃ xs, SqL K H p xs) ∨ (T = "tuple" ∧ ∃ o, K.lookup p = some o ∧ o.cls = .type "tuple" ∧ o.dict = none) ∨
      (T = "dict" ∧ ((∃ kvs, H p = some (.dK kvs)) ∨ ∃ kvs, H p = some (.dT kvs))) ∨ (T = "set" ∧ ∃ S n, H p = some (.set S n))
  | _ => False
theorem tyV_is {pins : List (Addr × Obj)} {σ : St} {H : Hp} {s : Shared} {T : String} {x : V} {v : Value} (I : Inv X pins σ H s) (r : RelV x v) (ty : tyV X.K T x H) :
    s.TypeIs v T ∧ ∀ a, v = .ref a → ∃ ob, s.heap.get? a = some ob ∧ ob.dict = none := by
  cases x with
  | str z =>
    obtain ⟨t, rfl⟩ := r
    cases (show T = "str" from ty)
    exact ⟨typeIs_str s z t, fun _ e => nomatch e⟩
  | int i =>
    obtain ⟨t, rfl⟩ := r
    cases (show T = "int" from ty)
    exact ⟨typeIs_int s i t, fun _ e => nomatch e⟩
  | ref p =>
    cases r
    rcases ty with ⟨rfl, xs, hq⟩ | ⟨rfl, o, hk, hc, hd⟩ | ⟨rfl, hk⟩ | ⟨rfl, S, n, hk⟩
    · obtain ⟨its, _, pl, _⟩ := I.list hq
      refine ⟨pl.isList.typeIs, fun a e => ?_⟩
      cases e
      obtain ⟨o, n, e, c, hd, _⟩ := pl
      exact ⟨o, e, hd⟩
    · refine ⟨⟨o, I.kIn p o hk, hc⟩, fun a e => ?_⟩
      cases e
      exact ⟨o, I.kIn _ o hk, hd⟩
    · have z : ∃ o, s.heap.get? p = some o ∧ o.ExactDict := by
        rcases hk with ⟨kvs, hk⟩ | ⟨kvs, hk⟩
        · obtain ⟨_, _, _, _, o, _, _, e, ex, _⟩ := I.hok p _ hk
          exact ⟨o, e, ex⟩
        · obtain ⟨_, _, _, _, o, _, _, e, ex, _⟩ := I.hok p _ hk
          exact ⟨o, e, ex⟩
      obtain ⟨o, e, ex⟩ := z
      refine ⟨⟨o, e, ex.1⟩, fun a e2 => ?_⟩
      cases e2
      exact ⟨o, e, ex.2.1⟩
    · obtain ⟨o, _, _, _, e, ex, _⟩ := I.hok p _ hk
      refine ⟨⟨o, e, ex.1⟩, fun a e2 => ?_⟩
      cases e2
      exact ⟨o, e, ex.2.1⟩
  | _ => exact False.elim ty
def tBM0 (K : PySem.W.Frag) (T : String) (r : V → List V → Hp → VK → Prop) (to : TE) : TE := fun σ H Q => to σ H fun x H1 => tyV K T x H1 ∧ r x [] H1 Q
def tBM (K : PySem.W.Frag) (T : String) (r : V → List V → Hp → VK → Prop) (to : TE) (t : TA) : TE := fun σ H Q => to σ H fun x H1 => tyV K T x H1 ∧ t σ H1 fun xs H2 => r x xs H2 Q
variable {o e : Expr} {es : List Expr} {to : TE} {t : TA} {name : Str} {apos cpos : Pos} {T id : String} {r : V → List V → Hp → VK → Prop}
theorem pe_bm (pa : PlainAttrs T) (slot : Slot T name id) (hty : typeOf (.builtin id) = pure (.type "method_descriptor")) (hm : MtR X id r) (ho : PE X o to) (ha : PA X (e :: es) t)
    (hbase : attributeBase o name X.env (eval o X.env) = eval o X.env := by rfl)
    (hfew : ((backTo cpos (starEach (e :: es) X.env)).all (fun x => !x.1) && (backToKw cpos (keywordEach [] X.env)).all (fun x => x.1.isSome)
      && decide ((e :: es).length + ([] : List Keyword).length + (if ([] : List Keyword).isEmpty then 0 else 1) < 30)) = true := by rfl)
    (hline : (apos.endLine == cpos.line) = true := by rfl) (hs : starEach (e :: es) X.env = (false, eval e X.env) :: starEach es X.env := by rfl) (hplain : (backTo cpos (starEach es X.env)).any (·.1) = false := by rfl) :
    PE X (.Call (.Attribute o name apos) (e :: es) [] cpos) (tBM X.K T r to t) := by
  intro pins s σ H Q I h
  refine wpAny_Call_method_late hbase hfew hline rfl (thn (ho pins s σ H _ I h) fun v s1 ⟨x, H1, I1, r1, ty, q1⟩ => ?_)
  obtain ⟨h1, h2⟩ := tyV_is I1 r1 ty
  refine ⟨T, id, pa, slot, hty, h1, h2, ?_⟩
  have hA := ha cpos pins s1 σ H1 _ I1 q1
  rw [hs] at hA ⊢
  refine Calls.callWith_builtin (by show (false || (backTo cpos (starEach es X.env)).any (·.1)) = false; rw [hplain] <;> rfl) (Calls.evalArgs_plain ?_)
  exact thn hA fun us s2 ⟨vs, H2, I2, r2, q2⟩ => hm pins s2 σ H2 x vs v us Q I2 r1 r2 q2
/- xs.append(e), list.index on a module's tuple .. are MtR facts of 06m -/
end
end L2
namespace L2
open PySem PySem.Spec PyProof.Rows
def MtM (X : Cx) (id : String) (r : V → List V → Hp → VK → Prop) : Prop :=
  ∀ (pins : List (Addr × Obj)) (s : Shared) (σ : St) (H : Hp) (x : V) (xs : List V) (v : Value) (us : List Value) (Q : VK), Inv X pins σ H s → RelV x v → Vals xs us → r x xs H Q →
    wpAny (model X.prog X.w) X.A (call (.builtin id) (v :: us)) (EP X pins σ Q) X.xe s
theorem Vals.one : ∀ {x : V} {us : List Value}, Vals [x] us → ∃ u, us = [u] ∧ RelV x u
  | _, _, .cons r .nil => ⟨_, rfl, r⟩
theorem Vals.zero : ∀ {us : List Value}, Vals [] us → us = []
  | _, .nil => rfl
theorem Vals.reverse {xs : List V} {us : List Value} (h : Vals xs us) : Vals xs.reverse us.reverse := by
  induction h with
  | nil => exact .nil
  | cons r t ih => rw [List.reverse_cons, List.reverse_cons]; exact Vals.append ih (.cons r .nil)
theorem Vals.rep {xs : List V} {us : List Value} (h : Vals xs us) : ∀ k : Nat, Vals (List.replicate k xs).flatten (List.replicate k us).flatten
  | 0 => .nil
  | k + 1 => by
    rw [List.replicate_succ, List.replicate_succ, List.flatten_cons, List.flatten_cons]
    exact Vals.append h (Vals.rep h k)
section
variable {X : Cx} {pins : List (Addr × Obj)} {σ : St} {H : Hp} {s : Shared} {l b : Addr} {xs ys zs : List V}
theorem Inv.lset {its its' : List Value} {n : Nat} {f : Array Value → Array Value} {t' : Nat} (I : Inv X pins σ H s) (hH : H l = some (.lst xs))
    (e : s.heap.get? l = some { cls := .type "list", data := .seq its.toArray n }) (hf : f its.toArray = its'.toArray) (hv : Vals ys its') (hz : ys.length ≤ sizeLine) :
    Inv X pins σ (upd H l (.lst ys)) { s with heap := s.heap.update l (Obj.mapSeq f), toks := t' } := by
  have q := PySem.IsL.update e f
  rw [hf] at q
  refine I.write (x := l) (e := l) (by rw [hH]; exact trivial) (.inl rfl) (fun b' u hb hu => (Heap.get?_update_other s.heap (Obj.mapSeq f) (Ne.symm hb)).trans hu) ⟨_, q⟩ ?_
  exact ⟨hz, its', _, hv, q⟩
theorem Inv.lnew {its : List Value} {t' : Nat} (I : Inv X pins σ H s) (hv : Vals ys its) (hz : ys.length ≤ sizeLine) :
    Inv X pins σ (upd H s.heap.objs.size (.lst ys)) { s with heap := s.heap.push { cls := .type "list", data := .seq its.toArray }, toks := t' } :=
  I.laid (fun _ _ q => Heap.get?_push_of_some _ q) (Nat.le_refl _) ⟨hz, its, 0, hv, Heap.get?_push_size _ rfl⟩
theorem Inv.fresh (I : Inv X pins σ H s) : H s.heap.objs.size = none := I.hok.fresh (Nat.le_refl _)
theorem Inv.lstM (I : Inv X pins σ H s) (hH : H l = some (.lst xs)) : xs.length ≤ sizeLine ∧ ∃ (its : List Value) (n : Nat), Vals xs its ∧ xs.length = its.length ∧ s.heap.get? l = some { cls := .type "list", data := .seq its.toArray n } := by
  obtain ⟨z, its, n, r, e⟩ := I.hok l _ hH
  exact ⟨z, its, n, r, r.length, e⟩
end
section
variable {X : Cx}
def rAppend : V → List V → Hp → VK → Prop := fun x vs H Q => ∃ l xs y, x = .ref l ∧ vs = [y] ∧ H l = some (.lst xs) ∧ xs.length < sizeLine ∧ Q .non (upd H l (.lst (xs ++ [y])))
theorem mt_append : MtM X "list.append" rAppend := by
  intro pins s σ H x vs v us Q I rx rv h
  obtain ⟨l, xs, y, rfl, rfl, hH, hz, q⟩ := h
  cases rx
  obtain ⟨u, rfl, ru⟩ := rv.one
  obtain ⟨z, its, n, r, hl, e⟩ := I.lstM hH
  refine call_meets F.slot_list_append ⟨_, e, rfl⟩ F.entry_list_append (F.args_list_append_2 _ _) (PySem.list_append l its.toArray n u (by rw [List.size_toArray]; omega)) ⟨e, ?_⟩
  refine ⟨.non, _, I.lset (its' := its ++ [u]) hH e (by simp) (r.append (.cons ru .nil)) ?_, rfl, q⟩
  rw [List.length_append, List.length_singleton]
  omega
def rReverse : V → List V → Hp → VK → Prop := fun x vs H Q => ∃ l xs, x = .ref l ∧ vs = [] ∧ H l = some (.lst xs) ∧ Q .non (upd H l (.lst xs.reverse))
def rClear : V → List V → Hp → VK → Prop := fun x vs H Q => ∃ l xs, x = .ref l ∧ vs = [] ∧ H l = some (.lst xs) ∧ Q .non (upd H l (.lst []))
def rCat : R2 := fun x y H Q => ∃ l b xs zs, x = .ref l ∧ y = .ref b ∧ H l = some (.lst xs) ∧ H b = some (.lst zs) ∧ xs.length + zs.length ≤ sizeLine ∧ ∀ p, H p = none → Q (.ref p) (upd H p (.lst (xs ++ zs)))
theorem op_cat : OpR X (binaryOp .Add) rCat := by
  intro pins s σ H x y v u Q I rx ry h
  obtain ⟨l, b, xs, zs, rfl, rfl, hH, hB, hz, q⟩ := h
  cases rx
  cases ry
  obtain ⟨z, its, n, r, hl, e⟩ := I.lstM hH
  obtain ⟨z2, its2, n2, r2, hl2, e2⟩ := I.lstM hB
  refine PySem.P.add_list e e2 ?_ (by rw [List.size_toArray, List.size_toArray]; omega)
  have ea : its.toArray ++ its2.toArray = (its ++ its2).toArray := by simp
  rw [ea]
  exact ⟨.ref _, _, I.lnew (t' := s.toks) (r.append r2) (by rw [List.length_append]; omega), rfl, q _ I.fresh⟩
end
section
variable {prog : Program} {w : World} {A : Around} {E : Value → Shared → Prop} {s : Shared}
end
section
variable {X : Cx}
end
end L2
namespace Att
open PySem PySem.W PySem.Calls PyProof.Rows
theorem ints_of_wellAll {P : Params} {h : Heap} : ∀ (ns : List Int) (vs : List Value), WellAll P h vs (ns.map WData.int) → IntsAre vs ns := by
  intro ns
  induction ns with
  | nil =>
    intro vs w
    rw [List.map_nil] at w
    cases w
    exact .nil
  | cons n ns ih =>
    intro vs w
    rw [List.map_cons] at w
    cases w with
    | cons a b =>
      cases a
      exact .cons _ _ (ih _ b)
theorem script_of {l : OpenLaw} {n : Nat} (hn : l.most = some n) {P : Params} {h : Heap} {args : List WData} {vals : List Value}
    (hpre : l.row.toRowW.claim.pre args = true) (hwl : WellAll P h vals args) :
    ∃ a vs ns, vals = [Value.ref a] ∧ args = [WData.list (ns.map WData.int)] ∧ h.get? a = some { cls := .type "list", data := .seq vs.toArray } ∧ IntsAre vs ns ∧ ns.length ≤ n := by
  have hsh : WShape.hasAll [] args [.list .int] = true := (pre_splitW hpre).1
  have hc : l.pre.holds [] { args := args } = true := (pre_splitW hpre).2
  obtain ⟨d, r, rfl, h1, h2⟩ := hasAllW_cons hsh
  obtain rfl := hasAllW_nil h2
  obtain ⟨xs, rfl, h3⟩ := hasW_list h1
  obtain ⟨ns, rfl⟩ := items_int h3
  have hlen : ns.length ≤ n := by
    unfold OpenLaw.pre at hc
    have h4 : (WTm.not (.lt (.lit (.int (n : Int))) (.len (.arg 0)))).holds [] { args := [.list (ns.map .int)] } = true := by
      have h4 := (holds_andW hc).1
      rw [hn] at h4
      exact h4
    have h5 := condW_of h4 (w_not (w_lt w_lit (w_len_list (w_arg rfl))))
    rw [List.length_map] at h5
    refine Nat.le_of_not_lt fun q => ?_
    have q' : (n : Int) < ((ns.length : Nat) : Int) := by omega
    first
      | (rw [decide_eq_true q'] at h5; exact absurd h5 (by decide))
      | (simp at h5; omega)
  cases hwl with
  | cons w1 w2 =>
    cases w2
    cases w1 with
    | list ho hall => exact ⟨_, _, ns, rfl, rfl, ho, ints_of_wellAll ns _ hall, hlen⟩
theorem post_true (l : OpenLaw) (args : List WData) : l.row.toRowW.claim.post args (.bool true) args = true :=
  postW_of (r := l.row.toRowW) (X := (true == true))
    (show WShape.has [] (.bool true) .bool = true by first | rfl | decide | simp [WShape.has, WShape.arms, WShape.armsAll])
    (show (WTm.eq .res (.lit (.bool true))).value [] { args := args, res := some (.bool true), after := args } = some (.bool (true == true)) from w_eq_bool (w_res rfl) w_lit) rfl
theorem attach_call {l : OpenLaw} {n : Nat} {q : Program} {loose : List Str} {XP : (Str → Option Value) → Heap → Prop} {YP : World → Heap → Prop} {d : DefRec}
    (hn : l.most = some n) (hdf : d.params.defaults = [])
    (call : ∀ (w : World) (s₀ s₁ : Shared) (mg mb : Str → Option Value) (fa : Addr) (o : Obj) (pm cd doc : Value) (a : Addr) (vs : List Value) (ns : List Int),
      Ground q loose [] XP w s₀ mg mb s₁.heap → YP w s₁.heap →
      s₁.heap.get? fa = some o → o.data = .func (docDef d.name d.params d.body d.scope pm cd doc) → s₁.heap.CodeRec cd d.name → mg d.name = some (.ref fa) →
      s₁.heap.get? a = some { cls := .type "list", data := .seq vs.toArray } → IntsAre vs ns → ns.length ≤ n → s₁.gens = #[] →
      codeAny (model l.prog w) callerA (.call (.ref fa) ⟨[.ref a], []⟩) (fun r s' => r = .ok (.ret (.bool true)) ∧ OldK s₁.heap s'.heap ∧ s'.os = s₁.os ∧ AllBare s'.gens) s₁) :
    WalkO q loose XP YP l.row.toRowW d [] (fun f vs => PySem.call f vs) := by
  intro w s₀ s₁ mg mb G Y fa o pm cd doc dV kV ho hd hcd hD hmg hg args vals as hpre hlay hrd hwl hlo
  obtain rfl : dV = .none := Dflts.none hD hdf
  obtain rfl : kV = .none := Dflts.noKw hD
  obtain ⟨a, vs, ns, rfl, rfl, hobj, hints, hlen⟩ := script_of hn hpre hwl
  refine enter_call (codeAny_mono (call w s₀ s₁ mg mb fa o pm cd doc a vs ns G Y ho (fd_plain hd) hcd hmg hobj hints hlen hg) fun r s' hq => ?_)
  obtain ⟨rfl, h2, h3, h4⟩ := hq
  exact ⟨.inl ⟨.bool true, .bool true, [], rfl, fun _ => rfl, .bool true, post_true l _, fun _ => ⟨List.Pairwise.nil, fun _ hm => (nomatch hm)⟩⟩, h2, h3, h4⟩
section
variable {prog : Program} {w : World} {A : Around} {E : Value → Shared → Prop} {s : Shared} {K : Frag}
end
end Att
namespace L2
open PySem PySem.Spec PyProof.Rows
theorem vals_ints : ∀ {vs : List Value} {ns : List Int}, IntsAre vs ns → Vals (ns.map V.int) vs
  | _, _, .nil => .nil
  | _, _, .cons n t h => .cons ⟨t, rfl⟩ (vals_ints h)
def Only (H : Hp) : Prop := ∀ b, H b = none ∨ ∃ o xs, H b = some (.frz o (.lst xs))
theorem law_call {P : Program} {w : World} {K : PySem.W.Frag} {mg mb : Str → Option Value} {CX : CXT} {k : Nat} {fa a : Addr} {fd : FuncData} {x : Str} {sp : Sp} {s₁ : Shared} {vs : List Value} {ns : List Int}
    (KX : K.In s₁.heap) (hns : s₁.heap.Ns mainGlobals mg) (hb : s₁.heap.Ns builtinsNs mb) (hbb : ∀ x : Str, x ≠ "__name__" → mb x = bootBuiltins x) (hlim : s₁.heap.NoLimit) (hg : s₁.gens = #[])
    (ha : s₁.heap.get? a = some { cls := .type "list", data := .seq vs.toArray }) (hi : IntsAre vs ns) (hl : ns.length ≤ sizeLine) (hr : Room k callerA)
    (F : ∀ base : Heap, K.In base → base.Ns mainGlobals mg → FnOk P w K mg base CX k fa fd [x] sp) (hbind : ∀ (s : Shared) (u : Value), BindsTo s fd ⟨[u], []⟩ [(x, u)])
    (hsp : ∀ H : Hp, Only H → SqL K H a (ns.map V.int) → sp [.ref a] H (fun v _ => v = .bl true) fun _ _ _ => False)
    (hCX : ∀ H e s', CX [] H s₁ (fun _ _ _ => False) e s' → False) :
    codeAny (model P w) callerA (.call (.ref fa) ⟨[.ref a], []⟩) (fun r s' => r = .ok (.ret (.bool true)) ∧ OldK s₁.heap s'.heap ∧ s'.os = s₁.os ∧ AllBare s'.gens) s₁ := by
  have rv := vals_ints hi
  have lenV := hi.length
  -- from an abstract heap in which nothing but the script may be tracked
  have core : ∀ H : Hp, Only H → SqL K H a (ns.map V.int) → HOk P w H s₁.heap → (∀ b, H b ≠ none → b = a) → (H a ≠ none → K.lookup a = none) →
      codeAny (model P w) callerA (.call (.ref fa) ⟨[.ref a], []⟩) (fun r s' => r = .ok (.ret (.bool true)) ∧ OldK s₁.heap s'.heap ∧ s'.os = s₁.os ∧ AllBare s'.gens) s₁ := by
    intro H hO hS hok hA hK
    have base_of : ∀ {b : Addr} {o : Obj}, s₁.heap.get? b = some o → H b = none → (hidT s₁.heap H).get? b = some o := fun e n => hidT_get e n
    have noA : ∀ {b : Addr} {o : Obj} {es : Array DictEntry} {ep : Nat}, s₁.heap.get? b = some o → o.data = .dict es ep → H b = none := fun {b o es ep} e d => by
      cases q : H b with
      | none => rfl
      | some u =>
        have e' : b = a := hA b (by rw [q]; simp)
        subst e'
        rw [ha] at e; cases e
        have d' : Data.seq vs.toArray _ = Data.dict es ep := d
        cases d'
    have nsK : ∀ {b : Addr} {m : Str → Option Value}, s₁.heap.Ns b m → (hidT s₁.heap H).Ns b m := fun {b m} ⟨o, es, ep, e, d, r⟩ => ⟨o, es, ep, base_of e (noA e d), d, r⟩
    have hKb : K.In (hidT s₁.heap H) := fun b o e => base_of (KX b o e) (by
      cases q : H b with
      | none => rfl
      | some u =>
        have e' : b = a := hA b (by rw [q]; simp)
        subst e'
        rw [hK (by rw [q]; simp)] at e; cases e)
    have hM : Mod K mg (hidT s₁.heap H) := ⟨hKb, nsK hns, ⟨mb, nsK hb, hbb⟩, let ⟨mc, h1, h2⟩ := hlim; ⟨mc, nsK h1, h2⟩⟩
    have e0 : Env0 P w K mg (hidT s₁.heap H) callerA [] s₁ H := ⟨rfl, hM, fun b o e => of_hidT e, Nat.le_of_eq (hidT_size _ _), trivial, fun b hb => absurd (show b ∈ ([] : List Addr) from hb) (by simp), hok, .of_eq hg⟩
    refine codeAny_mono ((F _ hKb (nsK hns)).run callerA [] s₁ H ⟨[.ref a], []⟩ [.ref a] [.ref a] _ _ hr e0 (hbind s₁ (.ref a)) (.cons rfl .nil) (hsp H hO hS)) fun r s' h => ?_
    cases r with
    | error e => exact (hCX H e s' h).elim
    | ok fl =>
      cases fl with
      | next => exact False.elim h
      | brk => exact False.elim h
      | cont => exact False.elim h
      | ret u =>
        obtain ⟨v, H', os, bare, un, hok', r', q⟩ := h
        have q' : v = .bl true := q
        subst q'
        obtain rfl : u = Value.bool true := r'
        refine ⟨rfl, OldK.of_keep fun b o e => ?_, os, bare⟩
        cases q : H b with
        | none => exact un.keep b o e q (by intro z; exact absurd (show b ∈ ([] : List Addr) from z) (by simp)) (by simp)
        | some u =>
          rcases hO b with z | ⟨ob, xs, z⟩
          · rw [q] at z; cases z
          · have z2 := un.frzs b ob _ z
            obtain ⟨e1, _⟩ := hok b _ z
            obtain ⟨e2, _⟩ := hok' b _ z2
            rw [e] at e1; cases e1
            exact e2
  cases hk : K.lookup a with
  | some o =>
    -- the script is one of the module's own objects
    have e := KX a o hk
    rw [ha] at e
    cases e
    refine core (fun _ => none) (fun _ => .inl rfl) (.inr ⟨_, vs.toArray, _, hk, rfl, rfl, rfl, by rw [List.size_toArray, lenV]; exact hl, by simpa using rv⟩) (fun b u z => by have z' : (none : Option HO) = some u := z; cases z') (fun b z => absurd rfl z) fun z => absurd rfl z
  | none =>
    refine core (fun b => if b = a then some (.frz { cls := .type "list", data := .seq vs.toArray } (.lst (ns.map V.int))) else none) (fun b => ?_) (.inl (.inr ⟨{ cls := .type "list", data := .seq vs.toArray }, if_pos rfl⟩)) (fun b u z => ?_) (fun b z => ?_) fun _ => hk
    · by_cases hb : b = a
      · exact .inr ⟨_, _, if_pos hb⟩
      · exact .inl (if_neg hb)
    · by_cases hb : b = a
      · have z' := (if_pos hb).symm.trans z
        cases z'
        subst hb
        exact ⟨ha, by rw [List.length_map]; exact hl, vs, _, rv, ha⟩
      · have z' := (if_neg hb).symm.trans z
        cases z'
    · by_cases hb : b = a
      · exact hb
      · exact absurd (if_neg hb) z
end L2
namespace L2
open PySem PySem.Spec PyProof.Rows
abbrev KOf {K : PySem.W.Frag} {h : Heap} (_ : K.In h) : PySem.W.Frag := K
theorem walk_of {l : PySem.W.OpenLaw} {n k : Nat} {q : Program} {loose : List Str} {XP : (Str → Option Value) → Heap → Prop} {YP : World → Heap → Prop} {d : DefRec} {K : Params → PySem.W.Frag} {CX : World → CXT} {sp : World → Sp} {x : Str}
    (hn : l.most = some n) (hn2 : n ≤ sizeLine) (hdf : d.params.defaults = []) (hr : Room k callerA)
    (hY : ∀ (w : World) (h : Heap), YP w h → (K w.params).In h)
    (F : ∀ (w : World) (mg : Str → Option Value) (fa : Addr) (h : Heap), (K w.params).In h → h.Ns mainGlobals mg → mg d.name = some (.ref fa) →
      ∃ fd : FuncData, (∀ (s : Shared) (u : Value), BindsTo s fd ⟨[u], []⟩ [(x, u)]) ∧
        ∀ base : Heap, (K w.params).In base → base.Ns mainGlobals mg → FnOk l.prog w (K w.params) mg base (CX w) k fa fd [x] (sp w))
    (hsp : ∀ (w : World) (H : Hp) (a : Addr) (ns : List Int), ns.length ≤ n → Only H → SqL (K w.params) H a (ns.map V.int) → sp w [.ref a] H (fun v _ => v = .bl true) fun _ _ _ => False)
    (hCX : ∀ (w : World) (H : Hp) (s : Shared) (e : Value) (s' : Shared), CX w [] H s (fun _ _ _ => False) e s' → False) :
    PySem.W.WalkO q loose XP YP l.row.toRowW d [] (fun f vs => PySem.call f vs) := by
  refine Att.attach_call hn hdf fun w s₀ s₁ mg mb fa o pm cd doc a vs ns G Y ho hd hcd hmg hobj hints hlen hg => ?_
  have KX := hY w _ Y
  obtain ⟨fd, hb, hF⟩ := F w mg fa _ KX G.T.g hmg
  exact law_call KX G.T.g G.T.b G.T.builtins G.T.nolimit hg hobj hints (Nat.le_trans hlen hn2) hr hF hb (fun H hO hS => hsp w H a ns hlen hO hS) fun H e s' => hCX w H s₁ e s'
end L2
/- THE LAST THEOREM (shape; LID, My.* are yours):
   My.Adr: a structure of the addresses that your layer names (classes, functions); My.Txt K t: a structure (Prop) of the equations over K;
   My.txt_mk : {K} {implicit addresses ..} (e1 : nsIn K mainGlobals "law" = some (some (.ref f))) (e2 : K.lookup f = some ⟨oc, od, .func (fnOf "law" "law" params body scope dV kV doc pm an cdv ct), sl⟩) (e3 : codeIn K cdv "law" = true) .. : ∃ t, My.Txt K t
set_option maxRecDepth 100000 in
set_option maxHeartbeats 0 in
theorem PySem.Challenge.cw_LID_holds : PySem.Challenge.rw_LID.Holds := by
  w_on; o_law; k_head; (case hw => w_witness2)
  k_fill
  refine L2.walk_of (l := PySem.Challenge.rw_LID) (n := 63) (k := 40) (x := "script") (CX := fun w => ..) (sp := fun _ => My.sp_law) rfl (by decide) rfl ⟨rfl, by decide, by decide⟩ (fun w h Y => PySem.W.kIn_of Y) ?F ?S ?C
  case F =>
    intro w mg fa h KX G hmg
    have T : ∃ t, My.Txt (L2.KOf KX) t := by
      dsimp only [L2.KOf]                          -- K must stand as «<heap const> w.params» for k_is
      refine' My.txt_mk ?e1 ?e2 ?e3 ..
      (case e1 => PySem.W.k_is)                    -- in the order: a name -> its address -> its object -> its parts
      (case e2 => PySem.W.k_is)
      ..
    obtain ⟨t, T⟩ := T
    have e0 := hmg.symm.trans (PySem.W.mg_of KX G T.law)
    cases e0                                       -- fa is the law's own address
    exact ⟨_, fun s u => .of_eq rfl, fun base kb nb => My.law_fn T kb nb⟩     -- if «.of_eq rfl» comes too early: refine' ⟨_, ?b, fun base kb nb => My.law_fn T kb nb⟩; exact fun s u => .of_eq rfl
  case S => exact fun w H a ns hl hO hS => ..
  case C => exact ..
(the tactic k_is has no namespace: write k_is) -/
namespace L2
open PySem PySem.Spec PyProof.Rows
def defArgs (s : Stmt) : Arguments := match s with
  | .FunctionDef _ a _ _ _ _ _ _ _ _ => a
  | _ => { posonlyargs := [], args := [], vararg := none, kwonlyargs := [], kw_defaults := [], kwarg := none, defaults := [] }
def defBody (s : Stmt) : List Stmt := match s with
  | .FunctionDef _ _ b _ _ _ _ _ _ _ => b
  | _ => []
def defScope (s : Stmt) : Scope := match s with
  | .FunctionDef _ _ _ _ _ _ sc _ _ _ => sc
  | _ => { kind := .function, names := [], isGenerator := false, isCoroutine := false }
abbrev CX0 : CXT := fun _ _ _ _ _ _ => False
abbrev E0 : XK := fun _ _ _ => False
structure Fun (K : PySem.W.Frag) (x qual : Str) (st : Stmt) (f : Addr) (fd : FuncData) : Prop where
  ex : ∃ (oc : Value) (od : Option Addr) (kV doc pm : Value) (an : Option Addr) (cdv ct : Value) (osl : Array (Option Value)),
    fd = PySem.W.fnOf x qual (defArgs st) (defBody st) (defScope st) .none kV doc pm an cdv ct ∧ K.lookup f = some ⟨oc, od, .func fd, osl⟩ ∧ PySem.W.codeIn K cdv qual = true
  kp : PySem.W.keepIn K (.ref f) = true
section
variable {P : Program} {w : World} {K : PySem.W.Frag} {mg : Str → Option Value} {base : Heap}
theorem Fun.ok {x qual : Str} {st : Stmt} {f : Addr} {fd : FuncData} {N ps : List Str} {k : Nat} {sp : Sp} (F : Fun K x qual st f fd) (S : FnScope N ps (defScope st)) (len : ∀ vs H Q E, sp vs H Q E → vs.length = ps.length)
    (hbody : ∀ (cdv : Value) (A : Around) (outer : List Env) (s : Shared) (H : Hp) (vs : List V) (Q : VK) (E : XK), Room k (A.deeper (envOfC qual (defScope st) s.heap.objs.size f cdv)) → sp vs H Q E →
      ∃ t, PSs (cxOf CX0 P w K mg base N qual (defScope st) f cdv A outer s H E).nox (defBody st) t ∧ t { nx := fun _ H' => Q .non H', rt := Q } (start N vs) H) : FnOk P w K mg base CX0 (k + 1) f fd ps sp := by
  obtain ⟨oc, od, kV, doc, pm, an, cdv, ct, osl, rfl, lk, hcd⟩ := F.ex
  refine fn_of lk hcd S len fun A outer s H vs Q E hr hsp => ?_
  obtain ⟨t, h, q⟩ := hbody cdv A outer s H vs Q E hr hsp
  exact ⟨t, h.nox, q⟩
theorem Fun.binds {x qual : Str} {st : Stmt} {f : Addr} {fd : FuncData} {ps : List Str} (F : Fun K x qual st f fd)
    (h : ∀ (kV doc pm : Value) (an : Option Addr) (cdv ct : Value) (us : List Value), us.length = ps.length → bindArgs (PySem.W.fnOf x qual (defArgs st) (defBody st) (defScope st) .none kV doc pm an cdv ct) ⟨us, []⟩ = pure (ps.zip us)) : Binds K fd ps [] := by
  obtain ⟨oc, od, kV, doc, pm, an, cdv, ct, osl, rfl, lk, hcd⟩ := F.ex
  exact .all (h kV doc pm an cdv ct)
theorem fun_mk {x qual : Str} {st : Stmt} {f : Addr} {oc : Value} {od an : Option Addr} {osl : Array (Option Value)} {kV doc pm cdv ct : Value} (l : K.lookup f = some ⟨oc, od, .func (PySem.W.fnOf x qual (defArgs st) (defBody st) (defScope st) .none kV doc pm an cdv ct), osl⟩)
    (c : PySem.W.codeIn K cdv qual = true) (k : PySem.W.keepIn K (.ref f) = true) : Fun K x qual st f (PySem.W.fnOf x qual (defArgs st) (defBody st) (defScope st) .none kV doc pm an cdv ct) := ⟨⟨oc, od, kV, doc, pm, an, cdv, ct, osl, rfl, l, c⟩, k⟩
end
theorem small1000 {n : Nat} (h : n ≤ 1000) : n < sizeLine := Nat.lt_of_le_of_lt h (by decide)
section
variable {X : Cx}
theorem pv (i : Nat) {x : Str} {pos : Pos} (hN : X.N[i]? = some x := by rfl) (hv : Vis X.env.scope x := by first | exact Or.inl rfl | exact Or.inr (Or.inl rfl) | exact Or.inr (Or.inr rfl)) (hd : (x == ("__debug__" : Str)) = false := by decide)
    (hcd : (x == ("__classdict__" : Str)) = false := by decide) : PE X (.Name x pos) (tVar i) := pe_var hN hv hd hcd
end
def Same (H H' : Hp) : Prop := ∀ b o, H b = some o → H' b = some o
theorem Same.refl (H : Hp) : Same H H := fun _ _ h => h
theorem Same.trans {H H1 H2 : Hp} (a : Same H H1) (b : Same H1 H2) : Same H H2 := fun c o h => b c o (a c o h)
theorem Same.free {H H' : Hp} (e : Same H H') {l : Addr} (h : H' l = Option.none) : H l = Option.none := by
  cases q : H l with
  | none => rfl
  | some o =>
    rw [e l o q] at h
    cases h
theorem Same.seq {K : PySem.W.Frag} {H H' : Hp} {a : Addr} {xs : List V} (e : Same H H') (h : SqL K H a xs) : SqL K H' a xs := by
  rcases h with (h | ⟨o, h⟩) | h
  · exact .inl (.inl (e _ _ h))
  · exact .inl (.inr ⟨o, e _ _ h⟩)
  · exact .inr h
end L2
namespace L2
open PySem PySem.Spec PyProof.Rows
def Dic (h : Heap) (e : Addr) (dv : Option Addr) : Prop := ∃ ob ws, h.get? e = some ob ∧ ob.dict = dv ∧ ob.data = .fields ws ∧ ws[2]? = some Value.none
structure Rest (fs : List Addr) (x : Addr) (ex : Option Addr) (h h' : Heap) : Prop where
  out : ∀ b o, h.get? b = some o → b ≠ x → some b ≠ ex → b ∉ fs → h'.get? b = some o
  sl : ∀ b o, h.get? b = some o → b ≠ x → some b ≠ ex → ∃ z, h'.get? b = some { o with slots := z }
section
variable {M : Model} {A : Around} {E : Value → Shared → Prop} {s : Shared} {B : Heap} {env : Env} {outer : List Env} {L e : Addr}
theorem dict_mapF (f : Array Value → Array Value) (o : Obj) : (Obj.mapFields f o).dict = o.dict := by
  obtain ⟨c, d, dt, sl⟩ := o
  cases dt <;> rfl
theorem entry_made {ob : Obj} {ws : Array Value} {hd : Value} {had : Bool} {Q : Unit → Shared → Prop} (gf : A.frames = some (env :: outer)) (ff : s.heap.FunFrames B (env :: outer)) (ge : env.frame = some L)
    (o1 : s.heap.get? e = some ob) (o2 : ob.data = .fields ws) (o3 : 1 < ws.size)
    (k : ∀ (h' : Heap) (T : Addr) (oT : Obj) (ts : Array Value), h'.get? e = some (Obj.mapFields (·.setIfInBounds 1 (.ref T)) ob) → T ≠ e → s.heap.get? T = none → h'.get? T = some oT → oT.data = .fields ts → ts[3]? = some (rawInt L) →
      Rest (frs (env :: outer)) e none s.heap h' → Q () { s with heap := h' }) :
    wpAny M A (do let a ← frameOf env; let pl ← entryPlaceOf L had; let b ← EntryCells.newEntry hd a .none (rawInt L) .none pl; setField (.ref e) 1 b) Q E s := by
  have en : e ∉ frs (env :: outer) := fun m => by
    obtain ⟨_, o, q, n⟩ := ff.mem m
    rw [o1] at q; cases q
    exact n ws o2
  refine wpAny_bind (wpAny_frameOf_fun gf ff ge fun h1 so => wpAny_bind (wpAny_entryPlaceOf fun pl place => ?_))
  unfold EntryCells.newEntry newFields
  refine wpAny_bind (wpAny_newObj_type ?_ (place.sizeOk5 _ _ _ _ _))
  have q1 : h1.get? e = some ob := (so.2.1 e en).trans o1
  have q2 := fun oT => Heap.get?_push_of_some (h := h1) oT q1
  refine wpAny_setField (q2 _) o2 o3 ?_
  refine k _ h1.objs.size _ _ ?_ (Nat.ne_of_gt (Heap.lt_size q1)) (Heap.get?_none_of_le (by rw [so.1]; exact Nat.le_refl _)) ((Heap.get?_update_other _ _ (Nat.ne_of_lt (Heap.lt_size q1))).trans (Heap.get?_push_size h1 rfl)) rfl ?_ ?_
  · exact Heap.get?_update_self _ (q2 _) (Obj.isFreed_of_fields (Obj.data_mapFields o2 _))
  · rcases place with rfl | ⟨_, _, _, _, _, _, _, rfl⟩ <;> simp
  · refine ⟨fun b o q n _ nf => ?_, fun b o q n _ => ?_⟩
    · exact (Heap.get?_update_other _ _ (Ne.symm n)).trans (Heap.get?_push_of_some _ ((so.2.1 b nf).trans q))
    · obtain ⟨z, y⟩ := so.2.2 b o q
      exact ⟨z, (Heap.get?_update_other _ _ (Ne.symm n)).trans (Heap.get?_push_of_some _ y)⟩
theorem rest_fly {h h' : Heap} {ex : Option Addr} {l : List Env} (st : B.StaysIn h) (be : B.get? e = none) (bx : ∀ t, ex = some t → B.get? t = none) (ff : h.FunFrames B l) (hx : ∀ t o, ex = some t → h.get? t = some o → ∃ ts, o.data = .fields ts)
    (he : ∀ o, h.get? e = some o → ∃ ts, o.data = .fields ts) (r : Rest (frs l) e ex h h') : B.StaysIn h' ∧ h'.FunFrames B l ∧ h.UpToSlots h' := by
  have up : h.UpToSlots h' := fun b o q nd => r.sl b o q (fun z => by subst z; obtain ⟨ts, y⟩ := he o q; exact nd ts y) fun z => by obtain ⟨ts, y⟩ := hx b o z.symm q; exact nd ts y
  refine ⟨fun b o q => r.out b o (st b o q) (fun z => by rw [z, be] at q; cases q) (fun z => by rw [bx b z.symm] at q; cases q) (fun m => by rw [(ff.mem m).1] at q; cases q), ff.of_keeps fun b o q nd => ?_, up⟩
  obtain ⟨z, y⟩ := up b o q nd
  exact ⟨_, y, rfl⟩
theorem note_first {ob : Obj} {ws : Array Value} {a0 : Value} {Q : Unit → Shared → Prop} (gf : A.frames = some (env :: outer)) (ge : env.frame = some L) (ff : s.heap.FunFrames B (env :: outer)) (st : B.StaysIn s.heap) (be : B.get? e = none)
    (o1 : s.heap.get? e = some ob) (o2 : ob.data = .fields ws) (o3 : ws[1]? = some .none) (o4 : ws[0]? = some a0) (o5 : ws[2]? = some Value.none)
    (k : ∀ h', Heap.HeldW B (env :: outer) e ob.cls a0 L h' → Dic h' e ob.dict → s.heap.UpToSlots h' → Q () { s with heap := h' }) : wpAny M A (noteFrame (.ref e) env) Q E s := by
  have z1 : 1 < ws.size := (Array.getElem?_eq_some_iff.mp o3).1
  unfold noteFrame
  simp only [ge]
  refine wpAny_bind (wpAny_field o1 o2 o3 ?_)
  rw [if_neg (by decide)]
  refine entry_made gf ff ge o1 o2 z1 fun h' T oT ts e1 e2 e3 e4 e5 e6 r => ?_
  obtain ⟨k1, k2, k3⟩ := rest_fly (ex := none) st be (by intro _ z; cases z) ff (by intro _ _ z; cases z) (fun o q => by rw [o1] at q; cases q; exact ⟨ws, o2⟩) r
  refine k h' ⟨k1, be, k2, _, _, T, oT, ts, e1, ⟨Obj.cls_mapFields _ _, ?_⟩, Obj.data_mapFields o2 _, by simp [z1], ?_, e2, e4, e5, e6⟩ ⟨_, _, e1, dict_mapF _ _, Obj.data_mapFields o2 _, by rw [Array.getElem?_setIfInBounds_ne (by decide)]; exact o5⟩ k3
  · rw [Array.getElem?_setIfInBounds_ne (by decide)]; exact o4
  · cases q : B.get? T with
    | none => rfl
    | some o => rw [st T o q] at e3; cases e3
theorem note_next {cls a0 : Value} {dv : Option Addr} {Q : Unit → Shared → Prop} (gf : A.frames = some (env :: outer)) (ge : env.frame = some L) (fl : Heap.FlyingW B (env :: outer) e cls a0 s.heap) (dc : Dic s.heap e dv)
    (k : ∀ h', Heap.HeldW B (env :: outer) e cls a0 L h' → Dic h' e dv → s.heap.UpToSlots h' → Q () { s with heap := h' }) : wpAny M A (noteFrame (.ref e) env) Q E s := by
  obtain ⟨st, be, ff, ob, ws, T, oT, ts, o1, ⟨rfl, o4⟩, o2, o3, bT, nT, t1, t2, t3⟩ := fl
  obtain ⟨ob', ws', q, rfl, d5, o5⟩ := dc
  rw [o1] at q; cases q
  rw [o2] at d5; cases d5
  have z1 : 1 < ws.size := (Array.getElem?_eq_some_iff.mp o3).1
  unfold noteFrame
  simp only [ge]
  refine wpAny_bind (wpAny_field o1 o2 o3 ?_)
  rw [if_pos (by simp)]
  refine wpAny_bind (wpAny_field t1 t2 t3 ?_)
  rw [if_neg (by simp [rawInt])]
  refine wpAny_bind (wpAny_setField t1 t2 (Array.getElem?_eq_some_iff.mp t3).1 ?_)
  have r0 : Rest (frs (env :: outer)) e (some T) s.heap (s.heap.update T (Obj.mapFields (·.setIfInBounds 3 Value.none))) :=
    ⟨fun b o q _ n _ => (Heap.get?_update_other _ _ fun z => n (by rw [z])).trans q, fun b o q _ n => ⟨o.slots, (Heap.get?_update_other _ _ fun z => n (by rw [z])).trans q⟩⟩
  obtain ⟨s1, s2, s3⟩ := rest_fly st be (fun t z => by cases z; exact bT) ff (fun t o z q => by cases z; rw [t1] at q; cases q; exact ⟨ts, t2⟩) (fun o q => by rw [o1] at q; cases q; exact ⟨ws, o2⟩) r0
  have o1' : (s.heap.update T (Obj.mapFields (·.setIfInBounds 3 Value.none))).get? e = some ob := (Heap.get?_update_other _ _ nT).trans o1
  refine entry_made (s := { s with heap := _ }) gf s2 ge o1' o2 z1 fun h' T' oT' ts' e1 e2 e3 e4 e5 e6 r => ?_
  obtain ⟨k1, k2, k3⟩ := rest_fly (ex := none) s1 be (by intro _ z; cases z) s2 (by intro _ _ z; cases z) (fun o q => by have := o1'.symm.trans q; cases this; exact ⟨ws, o2⟩) r
  refine k h' ⟨k1, be, k2, _, _, T', oT', ts', e1, ⟨Obj.cls_mapFields _ _, ?_⟩, Obj.data_mapFields o2 _, by simp [z1], ?_, e2, e4, e5, e6⟩ ⟨_, _, e1, dict_mapF _ _, Obj.data_mapFields o2 _, by rw [Array.getElem?_setIfInBounds_ne (by decide)]; exact o5⟩ (s3.trans k3)
  · rw [Array.getElem?_setIfInBounds_ne (by decide)]; exact o4
  · cases q : B.get? T' with
    | none => rfl
    | some o => have := (s1 T' o q).symm.trans e3; cases this
theorem lands_dic {l : List Env} {cls a0 v : Value} {dv : Option Addr} {Q : Unit → Shared → Prop} (fl : B.StaysIn s.heap ∧ B.get? e = none ∧ s.heap.FunFrames B l ∧ s.heap.TracedAtW B e cls a0 v) (dc : Dic s.heap e dv)
    (k : ∀ h', Heap.FlyingW B l e cls a0 h' → Dic h' e dv → s.heap.UpToSlots h' → Q () { s with heap := h' }) : wpAny M A (setFlight (.ref e) none) Q E s := by
  obtain ⟨st, be, ff, ob, ws, T, oT, ts, o1, oc, o2, o3, bT, nT, t1, t2, t3⟩ := fl
  have z3 : 3 < ts.size := (Array.getElem?_eq_some_iff.mp t3).1
  unfold setFlight
  refine wpAny_bind (wpAny_field o1 o2 o3 ?_)
  rw [if_pos (by simp)]
  refine wpAny_setField t1 t2 z3 ?_
  have r0 : Rest (frs l) e (some T) s.heap (s.heap.update T (Obj.mapFields (·.setIfInBounds 3 ((none : Option Addr).elim Value.none fun f => rawInt f)))) :=
    ⟨fun b o q _ n _ => (Heap.get?_update_other _ _ fun z => n (by rw [z])).trans q, fun b o q _ n => ⟨o.slots, (Heap.get?_update_other _ _ fun z => n (by rw [z])).trans q⟩⟩
  obtain ⟨s1, s2, s3⟩ := rest_fly st be (fun t z => by cases z; exact bT) ff (fun t o z q => by cases z; rw [t1] at q; cases q; exact ⟨ts, t2⟩) (fun o q => by rw [o1] at q; cases q; exact ⟨ws, o2⟩) r0
  have o1' := (Heap.get?_update_other s.heap (Obj.mapFields (·.setIfInBounds 3 ((none : Option Addr).elim Value.none fun f => rawInt f))) nT).trans o1
  refine k _ ⟨s1, be, s2, ob, ws, T, _, _, o1', oc, o2, o3, bT, nT, Heap.get?_update_self _ t1 (Obj.isFreed_of_fields (Obj.data_mapFields t2 _)), Obj.data_mapFields t2 _, by simp [z3]⟩ ?_ s3
  obtain ⟨ob', ws', q, d, d5, o5⟩ := dc
  rw [o1] at q; cases q
  exact ⟨ob, ws', o1', d, d5, o5⟩
theorem leaves_first {ob : Obj} {ws : Array Value} {a0 : Value} {Q : Unit → Shared → Prop} (gf : A.frames = some (env :: outer)) (ge : env.frame = some L) (ff : s.heap.FunFrames B (env :: outer)) (st : B.StaysIn s.heap) (be : B.get? e = none)
    (o1 : s.heap.get? e = some ob) (o2 : ob.data = .fields ws) (o3 : ws[1]? = some .none) (o4 : ws[0]? = some a0) (o5 : ws[2]? = some Value.none)
    (k : ∀ h', Heap.FlyingW B outer e ob.cls a0 h' → Dic h' e ob.dict → s.heap.UpToSlots h' → Q () { s with heap := h' }) : wpAny M A (leaving env (.ref e)) Q E s := by
  unfold leaving
  refine wpAny_bind (note_first gf ge ff st be o1 o2 o3 o4 o5 fun h1 x1 d1 u1 => lands_dic x1 d1 fun h2 x2 d2 u2 => ?_)
  obtain ⟨y1, y2, ⟨_, _, y3⟩, y4⟩ := x2
  exact k h2 ⟨y1, y2, y3, y4⟩ d2 (u1.trans u2)
theorem lands_againD {l : List Env} {cls a0 : Value} {dv : Option Addr} {Q : Unit → Shared → Prop} (fl : Heap.FlyingW B l e cls a0 s.heap) (dc : Dic s.heap e dv)
    (k : ∀ h', Heap.FlyingW B l e cls a0 h' → Dic h' e dv → s.heap.UpToSlots h' → Q () { s with heap := h' }) : wpAny M A (setFlight (.ref e) none) Q E s := lands_dic (v := .none) fl dc k
end
end L2
namespace L2
open PySem PySem.Spec PyProof.Rows
theorem ObjOk.there {P : Program} {w : World} {H : Hp} {h : Heap} {a : Addr} {o : HO} (x : ObjOk P w H h a o) : ∃ ob, h.get? a = some ob := by
  cases o with
  | lst xs => obtain ⟨_, _, _, _, q⟩ := x; exact ⟨_, q⟩
  | tup xs => obtain ⟨_, _, _, ob, q, _⟩ := x; exact ⟨ob, q⟩
  | dK kvs => obtain ⟨_, _, _, _, ob, _, _, q, _⟩ := x; exact ⟨ob, q⟩
  | dT kvs => obtain ⟨_, _, _, _, ob, _, _, q, _⟩ := x; exact ⟨ob, q⟩
  | set S n => obtain ⟨ob, _, _, _, q, _⟩ := x; exact ⟨ob, q⟩
  | ins C dx fs => obtain ⟨_, _, _, q, _⟩ := x; exact ⟨_, q⟩
  | own y => exact x
  | xd fs => obtain ⟨_, ⟨ob, _, _, q, _⟩, _⟩ := x; exact ⟨ob, q⟩
  | rng lo hi => obtain ⟨_, _, _, q⟩ := x; exact ⟨_, q⟩
  | frz ob u => obtain ⟨q, _⟩ := x; exact ⟨_, q⟩
  | tbl ps => exact ⟨_, x⟩
  | met f y => exact ⟨_, x⟩
  | ext φ => obtain ⟨_, q, _⟩ := x; exact q
theorem HOk.there {P : Program} {w : World} {H : Hp} {h : Heap} {a : Addr} (k : HOk P w H h) (n : H a ≠ none) : ∃ ob, h.get? a = some ob := by
  cases e : H a with
  | none => exact absurd e n
  | some o => exact (k a o e).there
structure Flown (P : Program) (w : World) (outer : List Env) (H : Hp) (s : Shared) (H' : Hp) (s' : Shared) (B : Heap) (e : Addr) (cls a0 : Value) (dv : Option Addr) : Prop where
  os : s'.os = s.os
  bare : AllBare s'.gens
  un : Un (frs outer) [] H H' s.heap s'.heap
  hok : HOk P w H' s'.heap
  fly : Heap.FlyingW B outer e cls a0 s'.heap
  cond : ∀ b o, s'.heap.get? b = some o → b ∉ frs outer → ((∃ o', s.heap.get? b = some o') ∨ H' b ≠ none) → B.get? b = some o
  frf : ∀ b ∈ frs outer, H' b = none
  dic : Dic s'.heap e dv
def CXe (P : Program) (w : World) : CXT := fun outer H s E ev s' => ∃ (e : Addr) (cls a0 : Value) (dv : Option Addr) (H' : Hp) (B : Heap), ev = .ref e ∧ Flown P w outer H s H' s' B e cls a0 dv ∧ E cls dv H'
theorem fly_notframe {B : Heap} {l : List Env} {e : Addr} {cls a0 : Value} {h : Heap} (x : Heap.FlyingW B l e cls a0 h) : e ∉ frs l := fun hm => by
  obtain ⟨_, _, f3, oe, vs, T, oT, ts, he, _, hd, _⟩ := x
  obtain ⟨_, o, ho, hn⟩ := f3.mem hm
  rw [he] at ho; cases ho
  exact hn vs hd
section
variable {P : Program} {w : World} {outer : List Env} {H H' : Hp} {s s' : Shared} {B : Heap} {e : Addr} {cls a0 : Value} {dv : Option Addr} {h' : Heap}
theorem Flown.unh (F : Flown P w outer H s H' s' B e cls a0 dv) (k : B.StaysIn h') (u : s'.heap.UpToSlots h') : Un (frs outer) [] H H' s.heap h' where
  keep := fun b o q n hb hx => k b o (F.cond b o (F.un.keep b o q n hb hx) hb (.inl ⟨o, q⟩))
  slot := fun b o q n hb hx => by
    obtain ⟨sl, q1⟩ := F.un.slot b o q n hb hx
    obtain ⟨_, o2, q2, nd⟩ := F.fly.2.2.1.mem hb
    rw [q1] at q2; cases q2
    obtain ⟨sl', q3⟩ := u b _ q1 nd
    exact ⟨sl', q3⟩
  free := F.un.free
  there := fun b o q hx => by
    obtain ⟨o1, q1⟩ := F.un.there b o q hx
    by_cases hb : b ∈ frs outer
    · obtain ⟨_, o2, q2, nd⟩ := F.fly.2.2.1.mem hb
      rw [q1] at q2; cases q2
      obtain ⟨sl', q3⟩ := u b _ q1 nd
      exact ⟨_, q3⟩
    · exact ⟨o1, k b o1 (F.cond b o1 q1 hb (.inl ⟨o, q⟩))⟩
  tups := F.un.tups
  frzs := F.un.frzs
  tbls := F.un.tbls
theorem Flown.trk (F : Flown P w outer H s H' s' B e cls a0 dv) (k : B.StaysIn h') : ∀ b o, H' b ≠ none → s'.heap.get? b = some o → h'.get? b = some o := fun b o n q =>
  k b o (F.cond b o q (fun hb => n (F.frf b hb)) (.inr n))
theorem Flown.hokh (F : Flown P w outer H s H' s' B e cls a0 dv) (k : B.StaysIn h') : HOk P w H' h' := fun a o q =>
  (F.hok a o q).stay (fun b u hb z => F.trk k b u (by
    rcases hb with rfl | hb
    · rw [q]; exact fun z => nomatch z
    · rw [hb]; exact fun z => nomatch z) z) (fun _ z => z) fun _ _ z => z
theorem Flown.go (F : Flown P w outer H s H' s' B e cls a0 dv) (x : Heap.FlyingW B outer e cls a0 h') (u : s'.heap.UpToSlots h') (dc : Dic h' e dv) : Flown P w outer H s H' { s' with heap := h' } B e cls a0 dv where
  os := F.os
  bare := F.bare
  un := F.unh x.1 u
  hok := F.hokh x.1
  fly := x
  cond := fun b o q hb hc => by
    have back : ∀ o', s'.heap.get? b = some o' → B.get? b = some o := fun o' q' => by
      have z := F.cond b o' q' hb hc
      have z' := x.1 b o' z
      have q2 : h'.get? b = some o := q
      rw [z'] at q2; cases q2
      exact z
    rcases id hc with ⟨o1, q1⟩ | n
    · obtain ⟨o2, q2⟩ := F.un.there b o1 q1 (by simp)
      exact back o2 q2
    · obtain ⟨o2, q2⟩ := F.hok.there n
      exact back o2 q2
  frf := F.frf
  dic := dc
theorem Flown.enew (F : Flown P w outer H s H' s' B e cls a0 dv) : s.heap.get? e = none ∧ H' e = none := by
  have ne := fly_notframe F.fly
  obtain ⟨oe, q, _⟩ := F.fly.there
  constructor
  · cases z : s.heap.get? e with
    | none => rfl
    | some o => have := F.cond e oe q ne (.inl ⟨o, z⟩); rw [F.fly.2.1] at this; cases this
  · cases z : H' e with
    | none => rfl
    | some o => have := F.cond e oe q ne (.inr (by rw [z]; exact fun z => nomatch z)); rw [F.fly.2.1] at this; cases this
end
def excD (e : Addr) (cls : Value) (dv : Option Addr) : HO := .ext fun h => ∃ oe ws, h.get? e = some oe ∧ oe.cls = cls ∧ oe.data = .fields ws ∧ oe.dict = dv ∧ ws[2]? = some Value.none
theorem excD_ok {P : Program} {w : World} {H : Hp} {h : Heap} {e : Addr} {cls : Value} {dv : Option Addr} {oe : Obj} {ws : Array Value} (q : h.get? e = some oe) (c : oe.cls = cls) (d : oe.data = .fields ws) (y : oe.dict = dv) (cx : ws[2]? = some Value.none) : ObjOk P w H h e (excD e cls dv) :=
  ⟨⟨oe, ws, q, c, d, y, cx⟩, ⟨oe, q⟩, fun _ _ ⟨o, v, q, c, d, y, cx⟩ k => ⟨o, v, k o q, c, d, y, cx⟩⟩
section
variable {X : Cx} {pins : List (Addr × Obj)} {σ : St} {H H' : Hp} {s s' : Shared} {B : Heap} {e : Addr} {cls a0 : Value} {dv : Option Addr}
theorem Flown.inv (F : Flown X.prog X.w X.stack H s H' s' B e cls a0 dv) (I : Inv X pins σ H s) : Inv X pins σ (upd H' e (excD e cls dv)) s' := by
  obtain ⟨n1, n2⟩ := F.enew
  obtain ⟨oe, ws, he, hc, hd, _⟩ := F.fly.first
  obtain ⟨oe', ws', he', hdv, hd', hcx⟩ := F.dic
  rw [he] at he'; cases he'
  rw [hd] at hd'; cases hd'
  refine I.call' (ch := []) F.os ⟨F.un.keep, F.un.slot, fun b o q n hx => ?_, F.un.there, fun b xs q => ?_, fun b o u q => ?_, fun b ps q => ?_⟩ (fun b u q => ?_) F.bare (fun b z => absurd z (by simp))
  · rw [upd_ne (by rintro rfl; rw [n1] at q; cases q)]
    exact F.un.free b o q n hx
  · rw [upd_ne (by rintro rfl; have := F.un.tups _ _ q; rw [n2] at this; cases this)]
    exact F.un.tups b xs q
  · rw [upd_ne (by rintro rfl; have := F.un.frzs _ _ _ q; rw [n2] at this; cases this)]
    exact F.un.frzs b o u q
  · obtain ⟨m, z⟩ := F.un.tbls b ps q
    exact ⟨m, by rw [upd_ne (by rintro rfl; rw [n2] at z; cases z)]; exact z⟩
  · by_cases hb : b = e
    · subst hb
      rw [upd_same] at q; cases q
      exact excD_ok he hc hd hdv hcx
    · rw [upd_ne hb] at q
      exact (F.hok b u q).stay (fun _ _ _ z => z) (fun c z => by rw [upd_ne (ne_of_none z n2)]; exact z) fun c xs z => by rw [upd_ne (ne_of_none z n2)]; exact z
end
section
variable {P : Program} {w : World} {K : PySem.W.Frag} {mg : Str → Option Value} {base : Heap} {N : List Str} {qual : Str} {scope : Scope} {f : Addr} {cd : Value} {A : Around} {outer : List Env} {s : Shared} {H : Hp} {E : XK}
  {pins : List (Addr × Obj)} {σ : St} {H1 : Hp} {s1 : Shared}
theorem cx_frames (I : Inv (cxOf (CXe P w) P w K mg base N qual scope f cd A outer s H E) pins σ H1 s1) : (A.deeper (envOfC qual scope s.heap.objs.size f cd)).frames = some (envOfC qual scope s.heap.objs.size f cd :: outer) := I.ok.frames
theorem xe_core {e : Addr} {ob : Obj} {ws : Array Value} {a0 : Value} (gf : (A.deeper (envOfC qual scope s.heap.objs.size f cd)).frames = some (envOfC qual scope s.heap.objs.size f cd :: outer)) (os : s1.os = s.os) (bare : AllBare s1.gens) (un1 : Un (frs outer) [] H H1 s.heap s1.heap) (hok : HOk P w H1 s1.heap)
    (fr0 : s1.heap.FunFrames base (envOfC qual scope s.heap.objs.size f cd :: outer)) (free1 : ∀ b ∈ frs (envOfC qual scope s.heap.objs.size f cd :: outer), H1 b = none) (ge : s1.heap.get? e = some ob) (od : ob.data = .fields ws) (w1 : ws[1]? = some .none) (w0 : ws[0]? = some a0) (w2 : ws[2]? = some Value.none)
    (en : s.heap.get? e = none) (eH : H1 e = none) (q : E ob.cls ob.dict H1) :
    wpAny (model P w) (A.deeper (envOfC qual scope s.heap.objs.size f cd)) (leaving (envOfC qual scope s.heap.objs.size f cd) (.ref e)) (fun _ s'' => CXe P w outer H s E (.ref e) s'') (fun e' s'' => CXe P w outer H s E e' s'') s1 := by
  have fsE : frs (envOfC qual scope s.heap.objs.size f cd :: outer) = s.heap.objs.size :: frs outer := rfl
  have hin : ∀ env ∈ (envOfC qual scope s.heap.objs.size f cd :: outer), ∀ b, env.frame = some b → b ∈ e :: frs (envOfC qual scope s.heap.objs.size f cd :: outer) := fun env he b hb => List.mem_cons_of_mem _ (List.mem_filterMap.mpr ⟨env, he, hb⟩)
  refine leaves_first (B := PySem.W.hideAll s1.heap (e :: frs (envOfC qual scope s.heap.objs.size f cd :: outer))) (L := s.heap.objs.size) gf rfl (PySem.W.funFrames_hide fr0 hin) (fun b o z => PySem.W.of_hideAll _ z) (PySem.W.hideAll_none _ List.mem_cons_self) ge od w1 w0 w2 fun h2 fl dc up => ?_
  have inB : ∀ b o, s1.heap.get? b = some o → b ≠ e → b ∉ frs (envOfC qual scope s.heap.objs.size f cd :: outer) → (PySem.W.hideAll s1.heap (e :: frs (envOfC qual scope s.heap.objs.size f cd :: outer))).get? b = some o := fun b o z n1 n => PySem.W.hideAll_get _ z fun m => by
    rcases List.mem_cons.mp m with y | y
    · exact n1 y
    · exact n y
  have olde : ∀ b o, s.heap.get? b = some o → b ≠ e := fun b o z y => by rw [y, en] at z; cases z
  have old : ∀ b o, s.heap.get? b = some o → b ∉ frs outer → b ∉ frs (envOfC qual scope s.heap.objs.size f cd :: outer) := fun b o z n hm => by
    rw [fsE] at hm
    rcases List.mem_cons.mp hm with rfl | hm
    · exact absurd (Heap.lt_size z) (Nat.lt_irrefl _)
    · exact n hm
  have slots : ∀ b o, s1.heap.get? b = some o → b ∈ frs outer → ∃ sl, h2.get? b = some { o with slots := sl } := fun b o z hb => by
    obtain ⟨_, o2, q2, nd⟩ := fr0.mem (b := b) (by show b ∈ frs _; rw [fsE]; exact List.mem_cons_of_mem _ hb)
    rw [z] at q2; cases q2
    exact up b o z nd
  have keepT : ∀ b o, H1 b ≠ none → s1.heap.get? b = some o → h2.get? b = some o := fun b o n z => fl.1 b o (inB b o z (fun y => n (y ▸ eH)) fun hm => n (free1 b hm))
  refine ⟨e, ob.cls, a0, ob.dict, H1, _, rfl, ⟨os, bare, ⟨fun b o z n hb hx' => ?_, fun b o z n hb hx' => ?_, un1.free, fun b o z hx' => ?_, un1.tups, un1.frzs, un1.tbls⟩, fun a o z => ?_, fl, fun b o z hb hc => ?_, fun b hb => ?_, dc⟩, q⟩
  · exact fl.1 b o (inB b o (un1.keep b o z n hb hx') (olde b o z) (old b o z hb))
  · obtain ⟨sl, z1⟩ := un1.slot b o z n hb hx'
    obtain ⟨sl', z2⟩ := slots b _ z1 hb
    exact ⟨sl', z2⟩
  · obtain ⟨o1, z1⟩ := un1.there b o z hx'
    by_cases hb : b ∈ frs outer
    · obtain ⟨sl', z2⟩ := slots b _ z1 hb
      exact ⟨_, z2⟩
    · exact ⟨o1, fl.1 b o1 (inB b o1 z1 (olde b o z) (old b o z hb))⟩
  · refine (hok a o z).stay (fun b u hb y => keepT b u ?_ y) (fun _ y => y) fun _ _ y => y
    rcases hb with rfl | hb
    · rw [z]; exact fun y => nomatch y
    · rw [hb]; exact fun y => nomatch y
  · have back : ∀ o', s1.heap.get? b = some o' → b ≠ e → b ∉ frs (envOfC qual scope s.heap.objs.size f cd :: outer) → (PySem.W.hideAll s1.heap (e :: frs (envOfC qual scope s.heap.objs.size f cd :: outer))).get? b = some o := fun o' y ne nb => by
      have y1 := inB b o' y ne nb
      have y2 := fl.1 b o' y1
      have z2 : h2.get? b = some o := z
      rw [y2] at z2; cases z2
      exact y1
    rcases hc with ⟨o1, z1⟩ | n
    · obtain ⟨o2, z2⟩ := un1.there b o1 z1 (by simp)
      exact back o2 z2 (olde b o1 z1) (old b o1 z1 hb)
    · obtain ⟨o2, z2⟩ := hok.there n
      exact back o2 z2 (fun y => n (y ▸ eH)) fun hm => n (free1 b hm)
  · exact free1 b (by rw [fsE]; exact List.mem_cons_of_mem _ hb)
theorem xe_raise {h' : Heap} {e : Addr} {cls : Value} {vs : List Value} (I : Inv (cxOf (CXe P w) P w K mg base N qual scope f cd A outer s H E) pins σ H1 s1) (hx : Heap.MadeExcOf s1.heap h' e cls vs) (q : E cls none H1) :
    (cxOf (CXe P w) P w K mg base N qual scope f cd A outer s H E).xe (.ref e) { s1 with heap := h' } := by
  have un1 : Un (frs outer) [] H H1 s.heap s1.heap := I.base
  obtain ⟨t, ge, _, _⟩ := hx.there
  have new : ∀ b o, s1.heap.get? b = some o → b ≠ e := fun b o z y => by rw [y, hx.new] at z; cases z
  have eH : H1 e = none := by
    cases z : H1 e with
    | none => rfl
    | some o => obtain ⟨u, y⟩ := I.hok.there (a := e) (by rw [z]; exact fun y => nomatch y); rw [hx.new] at y; cases y
  refine xe_core (s1 := { s1 with heap := h' }) (w0 := rfl) (cx_frames I) I.os I.bare ⟨fun b o z n hb hx' => hx.keeps _ _ (un1.keep b o z n hb hx'), fun b o z n hb hx' => ?_, un1.free, fun b o z hx' => ?_, un1.tups, un1.frzs, un1.tbls⟩ (I.hok.kept hx.keeps)
    ((show s1.heap.FunFrames base (envOfC qual scope s.heap.objs.size f cd :: outer) from I.stack).of_keeps fun b o z _ => ⟨o, hx.keeps b o z, rfl⟩) I.stkFree ge rfl rfl (w2 := rfl) ?_ eH q
  · obtain ⟨sl, y⟩ := un1.slot b o z n hb hx'
    exact ⟨sl, hx.keeps _ _ y⟩
  · obtain ⟨o1, y⟩ := un1.there b o z hx'
    exact ⟨o1, hx.keeps _ _ y⟩
  · cases z : s.heap.get? e with
    | none => rfl
    | some o => obtain ⟨o1, y⟩ := un1.there e o z (by simp); rw [hx.new] at y; cases y
end
theorem passE0 {P : Program} {w : World} {X : Cx} : Passes (CXe P w) X E0 := fun _ _ _ _ _ _ _ ⟨_, _, _, _, _, _, _, _, h⟩ => h.elim
end L2
namespace L2
open PySem PySem.Spec PyProof.Rows
theorem exc_obj {K : PySem.W.Frag} {h : Heap} {C : Addr} {bmB : List Value} {newId : String} (kin : K.In h) (yes : PySem.W.excIn K C bmB newId = true) :
    ∃ bm N nm q bs hdct sn sub ab col dd k0 k1 k2 k3 k5 mN, h.get? C = some (excClassObj nm q C N bs bm hdct sn sub ab col dd k0 k1 k2 k3 k5 newId) ∧ h.Ns N mN ∧ mN "__init__" = none ∧ OwnTail h bmB bm := by
  unfold PySem.W.excIn at yes
  split at yes
  case h_2 => cases yes
  case h_1 dict cdat slots found =>
    split at yes
    case h_2 => cases yes
    case h_1 C0 bm0 a0 a1 a2 a3 nid a5 em eslots =>
      simp only [Bool.and_eq_true, beq_iff_eq, Bool.not_eq_true'] at yes
      obtain ⟨⟨⟨⟨⟨y1, y2⟩, y3⟩, y4⟩, y5⟩, y6⟩ := yes
      subst y1 y2
      obtain ⟨f1, f2, f3, f4, f5, f6, f7, f8, f9, f10, f11⟩ := cdat
      dsimp only at em y3 y5 y6
      subst em y3
      obtain ⟨sl⟩ := slots
      dsimp only at eslots
      subst eslots
      have Nn := Heap.Ns.of_isNs (PySem.W.isNs_of_in kin y5)
      exact ⟨bm0, f4, f1, f5, f2, f6, f7, f8, f9, f10, dict, a0, a1, a2, a3, a5, _, kin _ _ found, Nn, PySem.W.ns_none_of kin Nn y6, PySem.W.tail_of_in kin y4⟩
def Raises (X : Cx) (E : XK) : Prop := ∀ (pins : List (Addr × Obj)) (σ : St) (H1 : Hp) (s1 : Shared) (h' : Heap) (e : Addr) (cls : Value) (vs : List Value), Inv X pins σ H1 s1 → Heap.MadeExcOf s1.heap h' e cls vs → E cls none H1 → X.xe (.ref e) { s1 with heap := h' }
theorem raises_cx {P : Program} {w : World} {K : PySem.W.Frag} {mg : Str → Option Value} {base : Heap} {N : List Str} {qual : Str} {scope : Scope} {f : Addr} {cd : Value} {A : Around} {outer : List Env} {s : Shared} {H : Hp} {E : XK} :
    Raises (cxOf (CXe P w) P w K mg base N qual scope f cd A outer s H E) E := fun _ _ _ _ _ _ _ _ I hx q => xe_raise I hx q
def vmro : List Value := [.type "ValueError", .type "Exception", .type "BaseException", .type "object"]
def ExcC (K : PySem.W.Frag) (C : Addr) : Prop := PySem.W.excIn K C vmro "ValueError.__new__" = true
def tRaise (C : Addr) (E : XK) (t : TA) : TS := fun _ σ H => t σ H fun vs H1 => vs.length ≤ sizeLine ∧ E (.ref C) none H1
theorem ps_raise {X : Cx} {E : XK} {x : Str} {C : Addr} {e : Expr} {es : List Expr} {t : TA} {np cpos pos : Pos} (hr : Raises X E) (hc : X.calm = true) (hg : Gl X x) (hm : X.mg x = some (.ref C)) (hC : ExcC X.K C) (ha : PA X (e :: es) t)
    (hdb : (x == ("__debug__" : Str)) = false := by decide) (he : starEach (e :: es) X.env = (false, eval e X.env) :: starEach es X.env := by rfl) (hpl : (backTo cpos (starEach es X.env)).any (·.1) = false := by rfl) :
    PS X (.Raise (some (.Call (.Name x np) (e :: es) [] cpos)) none pos) (tRaise C E t) := by
  intro pins s σ H D I h
  obtain ⟨bm, N, nm, q, bs, hdct, sn, sub, ab, col, dd, k0, k1, k2, k3, k5, mN, gC, gN, gi, gT⟩ := exc_obj I.mod.kin hC
  refine wpAny_Raise_call_subU (C := C) (nm := nm) (q := q) (N := N) (bs := bs) (bm := bm) (hdct := hdct) (sn := sn) (sub := sub) (ab := ab) (col := col) (dd := dd) (k0 := k0) (k1 := k1) (k2 := k2) (k3 := k3) (k5 := k5)
    PySem.F.excBase_ValueError (by decide +kernel) PySem.F.excBase_ValueError (mN := mN) (gT.hasType PySem.F.excBase_ValueError.hasBase) (I.ok.hd hc)
    (by rw [he]; show (false || (backTo cpos (starEach es X.env)).any (·.1)) = false; rw [hpl]; rfl) gi (ld_glob I hg hm ⟨rfl, ?_⟩ hdb)
  have hq := ha cpos pins s σ H _ I h
  rw [he] at hq ⊢
  refine Calls.evalArgs_plain (thn hq fun us s1 ⟨vs, H1, I1, r, z, y⟩ => ⟨rfl, by rw [← r.length]; exact z, I1.bk _ _ gC, gN.keeps I1.bk, gT.keeps I1.bk, fun h' e' hx => ?_⟩)
  exact hr pins σ H1 s1 h' e' _ us I1 hx y
def PassesS (CX : CXT) (X : Cx) (E : St → XK) : Prop := ∀ (pins : List (Addr × Obj)) (σ : St) (H : Hp) (s : Shared) (e : Value) (s' : Shared), Inv X pins σ H s → CX X.stack H s (E σ) e s' → X.xe e s'
def tCallS (sp : Sp) (dvs : List V) (E : St → XK) (t : TA) : TE := fun σ H Q => t σ H fun vs H1 => sp (vs ++ dvs) H1 Q (E σ)
section
variable {X : Cx} {CX : CXT} {k : Nat} {f : Addr} {fd : FuncData} {ps : List Str} {sp : Sp} {dvs : List V} {ds : List Value} {E : St → XK} {x : Str} {p pos : Pos} {e : Expr} {es : List Expr} {t : TA}
theorem pe_callS (F : FnOk X.prog X.w X.K X.mg X.base CX k f fd ps sp) (hr : Room k X.A) (hg : Gl X x) (hm : X.mg x = some (.ref f)) (hk : PySem.W.keepIn X.K (.ref f) = true) (hb : Binds X.K fd ps ds) (hd : Vals dvs ds) (hx : PassesS CX X E)
    (ha : PA X (e :: es) t) (hdb : (x == ("__debug__" : Str)) = false := by decide) (he : starEach (e :: es) X.env = (false, eval e X.env) :: starEach es X.env := by rfl) (hpl : (backTo pos (starEach es X.env)).any (·.1) = false := by rfl) :
    PE X (.Call (.Name x p) (e :: es) [] pos) (tCallS sp dvs E t) := by
  intro pins s σ H Q I h
  refine wpAny_Call_Name_kw (ld_glob I hg hm ?_ hdb)
  refine PySem.W.callWith_K (h₀ := X.base) I.ok.mod.kin hk (thn (ha pos pins s σ H _ I h) fun us s1 ⟨vs, H1, I1, r, q⟩ => ⟨I1.kIn, ?_⟩) he hpl
  have r2 : Vals (vs ++ dvs) (us ++ ds) := r.append hd
  have hl : (us ++ ds).length = ps.length := by rw [← r2.length]; exact F.len _ _ _ _ q
  refine wpAny_call (codeAny_mono (F.run X.A X.stack s1 H1 ⟨us, []⟩ (us ++ ds) (vs ++ dvs) Q (E σ) hr I1.env0 (hb s1 us I1.kIn hl) r2 q) fun r s' hq => ?_)
  cases r with
  | error ev => exact hx pins σ H1 s1 ev s' I1 hq
  | ok fl =>
    cases fl with
    | ret u => exact I1.after hq
    | next => exact False.elim hq
    | brk => exact False.elim hq
    | cont => exact False.elim hq
end
abbrev Cx.tr (X : Cx) (pins : List (Addr × Obj)) (xe : Value → Shared → Prop) : Cx := { X with pn := X.pn ++ pins, xe := xe }
abbrev Cx.su (X : Cx) (e : Addr) : Cx := { X with A := X.A.mark (some (.ref e)), calm := false, xe := fun _ _ => False }
section
variable {X : Cx} {pins pins' : List (Addr × Obj)} {σ : St} {H : Hp} {s : Shared} {xe : Value → Shared → Prop} {e : Addr}
theorem Cx.Ok.tr (ok : X.Ok) : (X.tr pins xe).Ok :=
  ⟨ok.mod, ok.kind, ok.glob, ok.blt, ok.above, ok.inj, ok.has, ok.cab, ok.hd, ok.frames, ok.stk, ok.exf, ok.bs, ok.bsz, ok.noex, ok.exfs, ok.funs, ok.frf⟩
theorem Inv.tr (I : Inv X pins σ H s) : Inv (X.tr pins xe) [] σ H s := ⟨I.ok.tr, I.os, I.bare, I.base, I.loc, I.cell, I.free, I.freeC, fun p hp => I.pin p (by
    have z : p ∈ (X.pn ++ pins) ++ [] := hp
    rw [List.append_nil] at z
    exact z), I.hok, I.len⟩
theorem Inv.untr (ok : X.Ok) (I : Inv (X.tr pins xe) pins' σ H s) : Inv X pins σ H s := ⟨ok, I.os, I.bare, I.base, I.loc, I.cell, I.free, I.freeC, fun p hp => I.pin p (List.mem_append_left _ hp), I.hok, I.len⟩
theorem Cx.Ok.su (ok : X.Ok) : (X.su e).Ok :=
  ⟨ok.mod, ok.kind, ok.glob, ok.blt, ok.above, ok.inj, ok.has, ok.cab, fun z => absurd z Bool.false_ne_true, ok.frames, ok.stk, ok.exf, ok.bs, ok.bsz, ok.noex, ok.exfs, ok.funs, ok.frf⟩
theorem Inv.su (I : Inv X pins σ H s) : Inv (X.su e) pins σ H s := ⟨I.ok.su, I.os, I.bare, I.base, I.loc, I.cell, I.free, I.freeC, I.pin, I.hok, I.len⟩
theorem Inv.unsu (ok : X.Ok) (I : Inv (X.su e) pins σ H s) : Inv X pins σ H s := ⟨ok, I.os, I.bare, I.base, I.loc, I.cell, I.free, I.freeC, I.pin, I.hok, I.len⟩
end
abbrev TH := Value → Option Addr → Ends → St → Hp → Prop
def PH (X : Cx) (hs : List ExceptHandler) (t : TH) : Prop := ∀ (pins : List (Addr × Obj)) (s1 s : Shared) (σ : St) (H1 H : Hp) (D : Ends) (B : Heap) (e : Addr) (cls a0 : Value) (dv : Option Addr), Inv X pins σ H1 s1 → Flown X.prog X.w X.stack H1 s1 H s B e cls a0 dv → t cls dv D σ H →
  wpAny (model X.prog X.w) X.A (handleBy (.ref e) X.env hs) (SP X pins D) X.xe s
def Ends.gone (D : Ends) (i : Nat) : Ends := ⟨fun σ H => D.nx (σ.set i none) H, D.rt, fun σ H => D.bk (σ.set i none) H, fun σ H => D.ct (σ.set i none) H⟩
theorem gone_ok {X : Cx} {pins : List (Addr × Obj)} {σ : St} {H : Hp} {s : Shared} {i : Nat} {n : Str} {pos : Pos} {E : Value → Shared → Prop} {Q : Unit → Shared → Prop} (I : Inv X pins σ H s) (hN : X.N.Nodup) (hi : X.N[i]? = some n) (hl : X.env.kindOf n = some .local)
    (h : ∀ s', Inv X pins (σ.set i none) H s' → Q () s') : wpAny (model X.prog X.w) X.A (do bindName X.env n .none; unbindBehindTheSuite X.env n pos) Q E s := by
  obtain ⟨m, hn, hv⟩ := id I.loc
  have hiσ : i < σ.length := by rw [I.len]; exact (List.getElem?_eq_some_iff.mp hi).1
  refine wpAny_nameGoes_keeps hl hn (by rw [I.ok.kind]; rfl) fun h' v hn' hs => h _ ?_
  have nL : ∀ b o, X.s₀.heap.get? b = some o → b ≠ X.env.locals := fun b o z => Nat.ne_of_lt (Nat.lt_of_lt_of_le (Heap.lt_size z) I.ok.above)
  refine ⟨I.ok, I.os, I.bare, ⟨fun b o z nn hb hx => ?_, fun b o z nn hb hx => ?_, I.base.free, fun b o z hx => ?_, I.base.tups, I.base.frzs, I.base.tbls⟩, ⟨_, hn', fun j y v' e1 e2 e3 => ?_⟩, fun y c z => ?_, I.free, I.freeC, fun p hp => ?_, fun b ob z => ?_, by simpa using I.len⟩
  · exact (hs.2 b (nL b o z)).trans (I.base.keep b o z nn hb hx)
  · obtain ⟨sl, q⟩ := I.base.slot b o z nn hb hx
    exact ⟨sl, (hs.2 b (nL b o z)).trans q⟩
  · obtain ⟨o', q⟩ := I.base.there b o z hx
    exact ⟨o', (hs.2 b (nL b o z)).trans q⟩
  · by_cases hj : j = i
    · subst hj
      rw [List.getElem?_set_self hiσ] at e2
      cases e2
    · rw [List.getElem?_set_ne (Ne.symm hj)] at e2
      obtain ⟨u', r', q⟩ := hv j y v' e1 e2 e3
      refine ⟨u', r', ?_⟩
      rcases q with ⟨k, z⟩ | ⟨k, c, z, y2⟩
      · have ny : y ≠ n := fun z => hj (nodup_ix hN e1 (z ▸ hi))
        exact .inl ⟨k, by simp [ny, z]⟩
      · exact .inr ⟨k, c, z, y2.sameBut hs (I.cne y c z)⟩
  · obtain ⟨w', y2⟩ := I.cell y c z
    exact ⟨w', y2.sameBut hs (I.cne y c z)⟩
  · obtain ⟨z, nn, ne, nf, d⟩ := I.pin p hp
    exact ⟨(hs.2 p.1 ne).trans z, nn, ne, nf, d⟩
  · refine (I.hok b ob z).stay (fun c w' hc q => (hs.2 c ?_).trans q) (fun _ q => q) fun _ _ q => q
    have fr := I.free
    rintro rfl
    rcases hc with rfl | hc
    · rw [fr] at z; cases z
    · rw [fr] at hc; cases hc
theorem exc_ty {X : Cx} {H H1 : Hp} {s s1 : Shared} {B : Heap} {e : Addr} {cls a0 : Value} {dv : Option Addr} (F : Flown X.prog X.w X.stack H1 s1 H s B e cls a0 dv) : PySem.W.Looks (model X.prog X.w) s.heap (typeOf (.ref e)) cls := by
  obtain ⟨oe, q, hc⟩ := F.fly.there
  subst hc
  exact (PySem.W.Looks.ld q).andThen .now
def tH (K : PySem.W.Frag) (c : Value) (i : Nat) (ts : TS) (th : TH) : TH := fun cls dv D σ H =>
  (PySem.W.exmOne K cls c = some true ∧ ∀ e, H e = none → ts (D.gone i) (σ.set i (some (.ref e))) (upd H e (excD e cls dv))) ∨ (PySem.W.exmOne K cls c = some false ∧ th cls dv D σ H)
theorem ph_as {X : Cx} {x n : Str} {c : Value} {i : Nat} {b₀ : Stmt} {suite : List Stmt} {rest : List ExceptHandler} {ts : TS} {th : TH} {np pos : Pos} (hN : X.N.Nodup) (hi : X.N[i]? = some n) (hl : X.env.scope.names.lookup n = some .local)
    (hc : ∀ (A : Around) (E : Value → Shared → Prop) (Q : Value → Shared → Prop) (pins : List (Addr × Obj)) (σ : St) (H : Hp) (s : Shared), Inv X pins σ H s → Q c s → wpAny (model X.prog X.w) A (eval (.Name x np) X.env) Q E s)
    (hsu : ∀ e, PSs (X.su e) (b₀ :: suite) ts) (hr : PH X rest th) : PH X (.ExceptHandler (some (.Name x np)) (some n) (b₀ :: suite) pos :: rest) (tH X.K c i ts th) := by
  intro pins s1 s σ H1 H D B e cls a0 dv I F h
  have I2 := F.inv I
  refine wpAny_handleBy_cons (codeAny_handlers_test (hc _ _ _ pins σ _ s I2 ?_)) (by intro q; cases q)
  rcases h with ⟨yes, hs⟩ | ⟨no, hs⟩
  · refine (PySem.W.exm_one I2.kIn (exc_ty F) yes).here ?_
    refine codeAny_handlers_suite_as ?_
    refine lands_againD F.fly F.dic fun h2 fl dc up => ?_
    have F3 := F.go fl up dc
    have I3 := F3.inv I
    refine store_ok (X := X.su e) (v := .ref e) I3.su hN hi (.inl hl) rfl (fun s4 I4 => ?_) (.inr hl)
    refine wpAny_mono (hsu e pins s4 _ _ _ I4 (hs e F.enew.2)) (fun f s5 q5 => ?_) fun _ _ z => False.elim z
    cases f with
    | next =>
      obtain ⟨σ5, H5, I5, q5⟩ := q5
      exact gone_ok (I5.unsu I.ok) hN hi hl fun s6 I6 => ⟨_, H5, I6, q5⟩
    | brk =>
      obtain ⟨σ5, H5, I5, q5⟩ := q5
      exact gone_ok (I5.unsu I.ok) hN hi hl fun s6 I6 => ⟨_, H5, I6, q5⟩
    | cont =>
      obtain ⟨σ5, H5, I5, q5⟩ := q5
      exact gone_ok (I5.unsu I.ok) hN hi hl fun s6 I6 => ⟨_, H5, I6, q5⟩
    | ret u =>
      obtain ⟨v5, σ5, H5, I5, r5, q5⟩ := q5
      exact gone_ok (I5.unsu I.ok) hN hi hl fun s6 I6 => ⟨v5, _, H5, I6, r5, q5⟩
  · refine (PySem.W.exm_one I2.kIn (exc_ty F) no).here ?_
    exact hr pins s1 s σ H1 H D B e cls a0 dv I F hs
def tHno : TH := fun _ _ _ _ _ => False
theorem ph_no {X : Cx} {hs : List ExceptHandler} : PH X hs tHno := fun _ _ _ _ _ _ _ _ _ _ _ _ _ _ h => h.elim
def tTry (tb : (St → XK) → TS) (th : TH) : TS := fun D σ H => tb (fun σ' cls dv H' => th cls dv D σ' H') D σ H
theorem ps_try {X : Cx} {body : List Stmt} {h0 : ExceptHandler} {hs : List ExceptHandler} {tb : (St → XK) → TS} {th : TH} {pos : Pos} (hst : X.stack = X.env :: X.outer) (hfr : X.env.frame = some X.env.locals)
    (hb : ∀ (pins : List (Addr × Obj)) (xe : Value → Shared → Prop) (E : St → XK), PassesS (CXe X.prog X.w) (X.tr pins xe) E → PSs (X.tr pins xe) body (tb E)) (hh : PH X (h0 :: hs) th) : PS X (.Try body (h0 :: hs) [] [] pos) (tTry tb th) := by
  intro pins s σ H D I h
  have pass : PassesS (CXe X.prog X.w) (X.tr pins fun ev s1 => wpAny (model X.prog X.w) X.A (noteFrame ev X.env) (fun _ s2 => wpAny (model X.prog X.w) X.A (setFlight ev none) (fun _ s3 => wpAny (model X.prog X.w) X.A (handleBy ev X.env (h0 :: hs)) (SP X pins D) X.xe s3) X.xe s2) X.xe s1)
      (fun σ' cls dv H' => th cls dv D σ' H') := by
    intro pins' σ' H' s' ev s'' I' hx
    obtain ⟨e, cls, a0, dv, H2, B, rfl, F, q⟩ := hx
    have F : Flown X.prog X.w X.stack H' s' H2 s'' B e cls a0 dv := F
    have fl0 := F.fly
    rw [hst] at fl0
    refine note_next (by rw [I.ok.frames, hst]) hfr fl0 F.dic fun h4 held dc4 up4 => ?_
    refine lands_dic held dc4 fun h5 fl5 dc5 up5 => ?_
    rw [← hst] at fl5
    exact hh pins s' _ σ' H' H2 D B e cls a0 dv (I'.untr I.ok) (F.go fl5 (up4.trans up5) dc5) q
  refine wpAny_Try_except (wpAny_mono (hb pins _ _ pass [] s σ H D I.tr h) (fun f s1 q1 => ?_) fun _ _ z => z)
  cases f with
  | next =>
    obtain ⟨σ1, H1, I1, q1⟩ := q1
    exact wpAny_execs_nil ⟨σ1, H1, I1.untr I.ok, q1⟩
  | brk => obtain ⟨σ1, H1, I1, q1⟩ := q1; exact ⟨σ1, H1, I1.untr I.ok, q1⟩
  | cont => obtain ⟨σ1, H1, I1, q1⟩ := q1; exact ⟨σ1, H1, I1.untr I.ok, q1⟩
  | ret u => obtain ⟨v1, σ1, H1, I1, r1, q1⟩ := q1; exact ⟨v1, σ1, H1, I1.untr I.ok, r1, q1⟩
end L2
namespace L2
open PySem PySem.Spec PyProof.Rows PySem.Builtin PySem.Builtin.ObjectAttr PySem.Builtin.Getset_descriptor PySem.W
structure XCls (K : Frag) (C : Addr) : Prop where
  ga : findIn K (.ref C) "__getattribute__" = some (some (.builtin "BaseException.__getattribute__"))
  gt : findIn K (.ref C) "__getattr__" = some none
  be : mroIn K C (.type "BaseException") = some true
  ob : mroIn K C (.type "object") = some true
  cl : findIn K (.ref C) "__class__" = some (some (.builtin "object.__class__"))
  gs : specialIn K (.builtin "object.__class__") "__get__" = some (some (.builtin "getset_descriptor.__get__"))
  tk : takesIn K (.builtin "object.__class__") = some true
  is : (clsIn K C).isSome = true
section
variable {prog : Program} {w : World} {A : Around} {E : Value → Shared → Prop} {s : Shared} {K : Frag} {x C : Addr} {ox : Obj} {od : Option Obj} {name : Str}
theorem exc_check {nameV : Value} {Q : Unit → Shared → Prop} (kin : K.In s.heap) (L : ∀ M : Model, Looks M s.heap (typeOf (.ref x)) (.ref C)) (c : XCls K C) (h : Q () s) : wpAny (model prog w) A (checkBuiltinCall "BaseException.__getattribute__" ⟨[.ref x, nameV], []⟩) Q E s := by
  obtain ⟨hh, g, d, t, os⟩ := s
  have hk : builtinKind "BaseException.__getattribute__" = some .slot := by decide +kernel
  have hsplit : splitId "BaseException.__getattribute__" = some ("BaseException", "__getattribute__") := by decide +kernel
  have ha := F.args_bexc_ga (.ref x) nameV
  have L0 := L (model prog w)
  have L1 : Looks (model prog w) hh (isInstance (.ref x) (.type "BaseException")) true := L0.andThen (looks_mroIn kin c.be)
  simp only [checkBuiltinCall, hk, hsplit]
  refine wpAny_bind (L1.at ?_)
  rw [if_neg (by decide)]
  exact wpAny_of_eq ha h
theorem exc_by {tk : Tok} {fill expr : Bool} {Q : Value → Shared → Prop} (kin : K.In s.heap) (L : ∀ M : Model, Looks M s.heap (typeOf (.ref x)) (.ref C)) (c : XCls K C)
    (h : wpAny (model prog w) A.in1 (Builtin.«object.__getattribute__» ⟨[.ref x, .str name tk], []⟩) (fun fin s' => match fin with | .done (.ret v) => handedIn v = true ∧ Q v s' | _ => False) (fun _ _ => False) s) :
    wpAny (model prog w) A (getAttrBy (.ref x) (.str name tk) fill expr) Q E s := by
  obtain ⟨hh, g, d, t, os⟩ := s
  have L0 := L (model prog w)
  have L1 := looks_findIn (M := model prog w) kin c.ga
  have L2 := looks_findIn (M := model prog w) kin c.gt
  unfold getAttrBy
  refine wpAny_holding (wpAny_bind (L0.at (wpAny_bind (L1.at ?_))))
  show wpAny _ _ (getAttrByItsOwn _ _ _ _ _ _) _ _ _
  unfold getAttrByItsOwn
  refine wpAny_bind ?_
  show wpAny _ _ (typeLookup (.ref C) "__getattr__") _ _ _
  refine L2.at ?_
  refine wpAny_bind (wpAny_attempt (wpAny_holding ?_))
  have e1 : callGetattribute (.ref x) (.str name tk) (.builtin "BaseException.__getattribute__") expr = boundAndCalled (.builtin "BaseException.__getattribute__") (.ref x) (.str name tk) := by
    unfold callGetattribute
    cases expr <;> rfl
  rw [e1]
  unfold boundAndCalled
  refine wpAny_bind (wpAny_of_eq (PySem.F.attr_ValueError.ga.bind _) ?_)
  refine wpAny_call (codeAny_call_builtin PySem.F.attr_ValueError.ga.plain F.entry_bexc_ga (exc_check (nameV := .str name tk) kin L c ?_))
  refine wpAny_mono h (fun fin s' z => ?_) fun _ _ z => False.elim z
  rcases fin with (_ | _ | _ | _) | _ <;> first | exact z.elim | skip
  exact handed_on z.1 z.2
theorem exc_find_cls {M : Model} {h : Heap} (kin : K.In h) (c : XCls K C) : Looks M h (find (.ref x) (.ref C) "__class__") (.bind (.builtin "getset_descriptor.__get__") (.builtin "object.__class__")) :=
  (looks_findIn kin c.cl).andThen ((show Looks M h (getOf (some (.builtin "object.__class__"))) (some (.builtin "getset_descriptor.__get__")) from looks_specialIn kin c.gs).andThen
    ((show Looks M h (dataDescriptor? (some (.builtin "object.__class__")) (some (.builtin "getset_descriptor.__get__"))) (some (_, _)) from (looks_takesIn kin c.tk).andThen .now).andThen (Looks.tag .now)))
theorem exc_cls_get {tp : Value} {R : Result → Shared → Prop} (kin : K.In s.heap) (L : ∀ M : Model, Looks M s.heap (typeOf (.ref x)) (.ref C)) (c : XCls K C) (q : R (.ok (.ret (.ref C))) s) :
    codeAny (model prog w) A (.call (.builtin "getset_descriptor.__get__") ⟨[.builtin "object.__class__", .ref x, tp], []⟩) R s := by
  obtain ⟨hh, g, dr, t, os⟩ := s
  have T0 := L (model prog w)
  have T1 := looks_mroIn (M := model prog w) kin c.ob
  refine codeAny_call_builtin KF.slot_gs.plain KF.entry_gs (KF.slot_gs.check _ _ _ _ _ _ _ _ KF.type_class (KF.args_gs _ _ _) ?_)
  unfold Builtin.«getset_descriptor.__get__» descrGet
  rw [dga_obj]
  refine wpAny_bind (wpAny_pure ?_)
  unfold descrGetter
  unfold descrCheckInstance descrNameAndClass isInstance
  simp only [KF.owner_class]
  repeat lk
  refine And.intro (Code.quiet_builtin _ (by decide +kernel)) (codeAny_builtin KF.entry_class ?_)
  unfold Builtin.«object.__class__»
  unfold shownTypeOf
  repeat lk
  exact q
theorem exc_ca {Q : Option Value → Shared → Prop} (kin : K.In s.heap) (L : ∀ M : Model, Looks M s.heap (typeOf (.ref x)) (.ref C)) (c : XCls K C) (q : Q (some (.ref C)) { s with toks := s.toks + 1 }) :
    wpAny (model prog w) A (getAttr? (.ref x) "__class__") Q E s := by
  unfold getAttr? getAttrBy?
  refine wpAny_bind (wpAny_mkText (wpAny_bind (wpAny_attempt ?_)))
  refine exc_by (s := { s with toks := s.toks + 1 }) kin L c ?_
  obtain ⟨hh, g, dr, t, os⟩ := s
  have T0 := L (model prog w)
  have T1 := exc_find_cls (x := x) (M := model prog w) kin c
  unfold Builtin.«object.__getattribute__»
  refine wpAny_bind (wpAny_pure (wpAny_bind (wpAny_pure (wpAny_bind (T0.at (wpAny_bind (T1.at ?_)))))))
  show wpAny _ _ (bindTo _ _ _ _) _ _ _
  unfold bindTo
  dsimp only
  refine wpAny_bind (wpAny_holding (wpAny_call (exc_cls_get (s := ⟨hh, g, dr, t + 1, os⟩) kin L c ?_)))
  exact wpAny_pure ⟨rfl, wpAny_pure q⟩
end
def excIs (e : Addr) (cls : Value) (h : Heap) : Prop := ∃ oe ws, h.get? e = some oe ∧ oe.cls = cls ∧ oe.data = .fields ws
theorem excIs.ty {M : Model} {e : Addr} {cls : Value} {h : Heap} (p : excIs e cls h) : Looks M h (typeOf (.ref e)) cls := by
  obtain ⟨oe, ws, q, hc, _⟩ := p
  subst hc
  exact (Looks.ld q).andThen .now
theorem kitx_exc {K : Frag} {e C : Addr} (c : XCls K C) : KitX K (.ref e) (.ref C) (excIs e (.ref C)) where
  ty := fun _ _ _ p => p.ty
  it := fun _ _ kin _ => by
    have z := c.is
    unfold clsIn at z
    split at z
    · rename_i ho
      intro A' Q' E' s' k q
      unfold isType loadHead
      exact wpAny_bind (wpAny_loadPart (k _ _ (kin _ _ ho)) (wpAny_pure q))
    · cases z
  ne := fun h tp dd its n sl kin htp => by
    refine Bool.eq_false_iff.mpr fun q => ?_
    have z := c.is
    cases Value.ref.inj (beq_iff_eq.mp q)
    unfold clsIn at z
    split at z
    · rename_i ho
      cases (kin _ _ ho).symm.trans htp
    · cases z
  ca := fun kin p k => exc_ca kin (fun M => p.ty) c k
inductive TyX (K : Frag) (H : Hp) : V → Value → Prop where
  | of {x : V} {t : Value} (h : TyOf K H x t) : TyX K H x t
  | exc {a C : Addr} {dv : Option Addr} (e : H a = some (excD a (.ref C) dv)) (c : XCls K C) : TyX K H (.ref a) (.ref C)
def clsV : V → Option Value
  | .ref C => some (.ref C)
  | .ty n => some (.type n)
  | _ => none
def rIsi (K : Frag) : List V → Hp → VK → Prop := fun xs H Q => ∃ x c cv t b, xs = [x, c] ∧ clsV c = some cv ∧ TyX K H x t ∧ kitOne K t cv = some b ∧ Q (.bl b) H
theorem call_isi {X : Cx} : CallR X (.builtin "isinstance") (rIsi X.K) := by
  intro pins s σ H xs us Q I r h
  obtain ⟨x, c, cv, t, b, rfl, hc, ty, hk, q⟩ := h
  obtain ⟨u, u', rfl, r1, r2⟩ := vals2 r
  have e2 : u' = cv := by
    cases c with
    | ref C => cases hc; exact r2
    | ty n => cases hc; exact r2
    | _ => cases hc
  subst e2
  have fin : ∀ tk, EP X pins σ Q (.bool b) { s with toks := tk } := fun tk => ⟨.bl b, H, I.tok tk, rfl, q⟩
  cases ty with
  | of z => exact isinst_ok I r1 z hk fin
  | @exc a C dv ea c =>
    cases (show u = Value.ref a from r1)
    obtain ⟨⟨oe, ws, p1, p2, p3, _⟩, _, _⟩ := (show ObjOk X.prog X.w H s.heap a (excD a (.ref C) dv) from I.hok a _ ea)
    exact kia_one (kitx_exc c) I.kIn ⟨oe, ws, p1, p2, p3⟩ hk (fun z => nomatch z) fin
end L2
namespace L2
open PySem PySem.Spec PyProof.Rows
structure RoomU (k : Nat) (A : Around) : Prop where
  dp : A.depth + 3 * k + 5 < recursionLimit
  un : A.units + 16 * k + 200 < cLine
theorem RoomU.mono {j k : Nat} {A : Around} (r : RoomU k A) (h : j ≤ k) : RoomU j A := ⟨by have := r.dp; omega, by have := r.un; omega⟩
theorem RoomU.deeper {k : Nat} {A : Around} (r : RoomU (k + 1) A) (env : Env) : RoomU k (A.deeper env) :=
  ⟨by have := r.dp; show A.depth + 1 + 3 * k + 5 < _; omega, by have := r.un; show A.units + 3 + 16 * k + 200 < _; omega⟩
theorem RoomU.depth {k : Nat} {A : Around} (r : RoomU k A) : A.depth < recursionLimit := by have := r.dp; omega
theorem Room.su {k : Nat} {X : Cx} {e : Addr} (r : Room k X.A) : RoomU k (X.su e).A := ⟨r.dp, r.un⟩
structure FnOkU (P : Program) (w : World) (K : PySem.W.Frag) (mg : Str → Option Value) (base : Heap) (CX : CXT) (k : Nat) (f : Addr) (fd : FuncData) (ps : List Str) (sp : Sp) : Prop where
  len : ∀ vs H Q E, sp vs H Q E → vs.length = ps.length
  run : ∀ (A : Around) (outer : List Env) (s : Shared) (H : Hp) (args : Args) (us : List Value) (vs : List V) (Q : VK) (E : XK), RoomU k A → Env0 P w K mg base A outer s H → BindsTo s fd args (ps.zip us) → Vals vs us → sp vs H Q E →
    codeAny (model P w) A (.call (.ref f) args) (CR CX outer P w H s Q E) s
def cxU (CX : CXT) (P : Program) (w : World) (K : PySem.W.Frag) (mg : Str → Option Value) (base : Heap) (N : List Str) (qual : Str) (scope : Scope) (f : Addr) (cd : Value) (A : Around) (outer : List Env) (s : Shared) (H : Hp) (E : XK) : Cx :=
  { cxOf CX P w K mg base N qual scope f cd A outer s H E with calm := false }
theorem inv_startU {CX : CXT} {P : Program} {w : World} {K : PySem.W.Frag} {mg : Str → Option Value} {base : Heap} {N ps : List Str} {qual : Str} {scope : Scope} {f : Addr} {cd : Value} {A : Around} {outer : List Env} {s s1 : Shared} {H : Hp} {E : XK} {us : List Value} {vs : List V}
    (S : FnScope N ps scope) (e0 : Env0 P w K mg base A outer s H) (hl : vs.length = ps.length) (r : Vals vs us)
    (x : InCallC s s.heap.objs.size (bindL (envOfC qual scope s.heap.objs.size f cd).kindOf (ps.zip us) fun _ => none) (cellsFrom (s.heap.objs.size + 1) scope.names []) (bindC (envOfC qual scope s.heap.objs.size f cd).kindOf (ps.zip us) fun _ => none) s1) :
    Inv (cxU CX P w K mg base N qual scope f cd A outer s H E) [] (start N vs) H s1 := by
  have hpl : ps.length ≤ N.length := by have := congrArg List.length S.pre; rw [List.length_take] at this; omega
  obtain ⟨h1, tk, rfl, hk⟩ := x.done
  have noA : ∀ b : Addr, b ∉ (cxU CX P w K mg base N qual scope f cd A outer s H E).ex := fun b z => absurd (show b ∈ ([] : List Addr) from z) (by simp)
  refine ⟨⟨e0.mod, S.kind, rfl, rfl, Nat.le_refl _, fun y z c h1 h2 => ?_, fun y hy => ?_, fun y c _ h => ?_, fun z => absurd z Bool.false_ne_true, Around.frames_deeper e0.frames, .inr ⟨rfl, rfl⟩, fun b z => absurd z (noA b), e0.bs, e0.bsz, fun b _ _ => noA b, fun b z => absurd z (noA b), e0.funs, e0.frf⟩,
    rfl, e0.bare, Un.kept hk, ⟨_, x.toInCall.ns, fun i y v h1 h2 h3 => ?_⟩, fun y c h => ⟨_, x.cell y c h⟩, e0.hok.fresh (Nat.le_refl _), fun y c h => ?_, fun p hp => absurd (show p ∈ ([] : List (Addr × Obj)) from hp) (by simp), e0.hok.kept hk, ?_⟩
  · exact name_of_addr x.apart (PySem.mem_of_lookup h1) (PySem.mem_of_lookup h2)
  · have hy : scope.names.lookup y = some .cell ∨ scope.names.lookup y = some .free := hy
    rcases hy with hy | hy
    · exact cell_has hy
    · exact absurd rfl (S.nofree _ (PySem.mem_of_lookup hy))
  · exact Nat.le_of_lt (x.above y c (PySem.mem_of_lookup h))
  · have hi : i < vs.length := by
      unfold start at h2
      by_cases hi : i < vs.length
      · exact hi
      · rw [List.getElem?_append_right (by simpa using hi)] at h2
        rw [List.getElem?_replicate] at h2
        split at h2 <;> cases h2
    have ha : vs[i]? = some v := by
      unfold start at h2
      rw [List.getElem?_append_left (by simpa using hi), List.getElem?_map] at h2
      cases e : vs[i]? with
      | none => rw [e] at h2; cases h2
      | some a => rw [e] at h2; cases h2; rfl
    obtain ⟨u, hu, rv⟩ := r.get ha
    have hp : ps[i]? = some y := by
      rw [← S.pre, List.getElem?_take_of_lt (by omega)]; exact h1
    have ndP : ps.Nodup := by rw [← S.pre]; exact S.nd.sublist (List.take_sublist _ _)
    refine ⟨u, rv, ?_⟩
    rcases S.par y (List.mem_of_getElem? hp) with k | k
    · exact .inl ⟨k, bindL_get ndP hp hu k⟩
    · obtain ⟨c, e⟩ := cell_has (n := s.heap.objs.size + 1) k
      refine .inr ⟨.inl k, c, e, ?_⟩
      have q := x.cell y c e
      rw [bindC_get ndP hp hu (by show scope.names.lookup y ≠ _; rw [k]; decide)] at q
      exact q
  · exact e0.hok.fresh (Nat.le_of_lt (x.above y c (PySem.mem_of_lookup h)))
  · unfold start
    show _ = N.length
    rw [List.length_append, List.length_map, List.length_replicate]
    omega
theorem fn_ofU {CX : CXT} {P : Program} {w : World} {K : PySem.W.Frag} {mg : Str → Option Value} {base : Heap} {k : Nat} {f : Addr} {name qual : Str} {params : Arguments} {body : List Stmt} {scope : Scope} {dV kV doc pm cdv ct oc : Value} {an od : Option Addr}
    {osl : Array (Option Value)} {N ps : List Str} {sp : Sp} (lk : K.lookup f = some ⟨oc, od, .func (PySem.W.fnOf name qual params body scope dV kV doc pm an cdv ct), osl⟩) (hcd : PySem.W.codeIn K cdv qual = true) (S : FnScope N ps scope)
    (len : ∀ vs H Q E, sp vs H Q E → vs.length = ps.length)
    (hbody : ∀ (A : Around) (outer : List Env) (s : Shared) (H : Hp) (vs : List V) (Q : VK) (E : XK), RoomU k (A.deeper (envOfC qual scope s.heap.objs.size f cdv)) → sp vs H Q E →
      ∃ t, PSs (cxU CX P w K mg base N qual scope f cdv A outer s H E) body t ∧ t { nx := fun _ H' => Q .non H', rt := Q } (start N vs) H) :
    FnOkU P w K mg base CX (k + 1) f (PySem.W.fnOf name qual params body scope dV kV doc pm an cdv ct) ps sp := by
  refine ⟨len, fun A outer s H args us vs Q E hr e0 hb r hsp => ?_⟩
  have hl := len _ _ _ _ hsp
  have KX : K.In s.heap := e0.mod.kin.keeps fun b o e => (e0.bs b o e).1
  have lim : s.heap.NoLimit := e0.mod.nolimit.keeps fun b o e => (e0.bs b o e).1
  have hkind : ∀ y ∈ ps.zip us, scope.names.lookup y.1 = some .local ∨ (scope.names.lookup y.1 = some .cell ∧ ((cellsFrom (s.heap.objs.size + 1) scope.names []).lookup y.1).isSome = true) := fun ⟨n, v⟩ hy => by
    rcases S.par n (List.of_mem_zip hy).1 with q | q
    · exact .inl q
    · exact .inr ⟨q, PySem.W.cellsFrom_some _ _ _ (.inl q)⟩
  refine codeAny_call_function hr.depth (KX _ _ lk) rfl S.co S.gen rfl (PySem.W.codeRec_of KX hcd) (hb _ _ _ _ ?_)
  refine wpAny_newFunctionEnv_cells S.kind hkind fun env he s1 x => ?_
  subst he
  refine ⟨lim.keeps x.toInCall.keep, codeAny_func ?_⟩
  obtain ⟨t, ht, hq⟩ := hbody A outer s H vs Q E (hr.deeper _) hsp
  have I : Inv (cxU CX P w K mg base N qual scope f cdv A outer s H E) [] (start N vs) H s1 := inv_startU S e0 hl r x
  refine wpAny_mono (ht [] s1 (start N vs) H _ I hq) (fun fl s' hs => ?_) fun e s' hs => hs
  have fin : ∀ {σ' : St} {H' : Hp} {v : V} {u : Value}, Inv (cxU CX P w K mg base N qual scope f cdv A outer s H E) [] σ' H' s' → RelV v u → Q v H' → CE outer P w H s Q u s' :=
    fun {σ' H' v u} J rv q => ⟨v, H', J.os, J.bare, J.base, J.hok, rv, q⟩
  cases fl with
  | ret u =>
    obtain ⟨v, σ', H', J, rv, q⟩ := hs
    exact fin J rv q
  | next =>
    obtain ⟨σ', H', J, q⟩ := hs
    exact fin (v := V.non) (u := Value.none) J rfl q
  | brk =>
    obtain ⟨_, _, _, q⟩ := hs
    exact False.elim q
  | cont =>
    obtain ⟨_, _, _, q⟩ := hs
    exact False.elim q
section
variable {X : Cx} {CX : CXT} {k : Nat} {f : Addr} {fd : FuncData} {ps : List Str} {sp : Sp} {dvs : List V} {ds : List Value} {E : XK} {x : Str} {p pos : Pos} {e : Expr} {es : List Expr} {t : TA}
theorem pe_callU (F : FnOkU X.prog X.w X.K X.mg X.base CX k f fd ps sp) (hr : RoomU k X.A) (hg : Gl X x) (hm : X.mg x = some (.ref f)) (hk : PySem.W.keepIn X.K (.ref f) = true) (hb : Binds X.K fd ps ds) (hd : Vals dvs ds) (hx : Passes CX X E)
    (ha : PA X (e :: es) t) (hdb : (x == ("__debug__" : Str)) = false := by decide) (he : starEach (e :: es) X.env = (false, eval e X.env) :: starEach es X.env := by rfl) (hpl : (backTo pos (starEach es X.env)).any (·.1) = false := by rfl) :
    PE X (.Call (.Name x p) (e :: es) [] pos) (tCall sp dvs E t) := by
  intro pins s σ H Q I h
  refine wpAny_Call_Name_kw (ld_glob I hg hm ?_ hdb)
  refine PySem.W.callWith_K (h₀ := X.base) I.ok.mod.kin hk (thn (ha pos pins s σ H _ I h) fun us s1 ⟨vs, H1, I1, r, q⟩ => ⟨I1.kIn, ?_⟩) he hpl
  have r2 : Vals (vs ++ dvs) (us ++ ds) := r.append hd
  have hl : (us ++ ds).length = ps.length := by rw [← r2.length]; exact F.len _ _ _ _ q
  refine wpAny_call (codeAny_mono (F.run X.A X.stack s1 H1 ⟨us, []⟩ (us ++ ds) (vs ++ dvs) Q E hr I1.env0 (hb s1 us I1.kIn hl) r2 q) fun r s' hq => ?_)
  cases r with
  | error ev => exact hx pins σ H1 s1 ev s' I1 hq
  | ok fl =>
    cases fl with
    | ret u => exact I1.after hq
    | next => exact False.elim hq
    | brk => exact False.elim hq
    | cont => exact False.elim hq
end
section
variable {P : Program} {w : World} {K : PySem.W.Frag} {mg : Str → Option Value} {base : Heap} {x qual : Str} {st : Stmt} {f : Addr} {fd : FuncData} {N ps : List Str} {k : Nat} {sp : Sp}
theorem Fun.okE (F : Fun K x qual st f fd) (S : FnScope N ps (defScope st)) (len : ∀ vs H Q E, sp vs H Q E → vs.length = ps.length)
    (hbody : ∀ (cdv : Value) (A : Around) (outer : List Env) (s : Shared) (H : Hp) (vs : List V) (Q : VK) (E : XK), Room k (A.deeper (envOfC qual (defScope st) s.heap.objs.size f cdv)) → sp vs H Q E →
      ∃ t, PSs (cxOf (CXe P w) P w K mg base N qual (defScope st) f cdv A outer s H E).nox (defBody st) t ∧ t { nx := fun _ H' => Q .non H', rt := Q } (start N vs) H) : FnOk P w K mg base (CXe P w) (k + 1) f fd ps sp := by
  obtain ⟨oc, od, kV, doc, pm, an, cdv, ct, osl, rfl, lk, hcd⟩ := F.ex
  refine fn_of lk hcd S len fun A outer s H vs Q E hr hsp => ?_
  obtain ⟨t, h, q⟩ := hbody cdv A outer s H vs Q E hr hsp
  exact ⟨t, h.nox, q⟩
theorem Fun.okX (F : Fun K x qual st f fd) (S : FnScope N ps (defScope st)) (len : ∀ vs H Q E, sp vs H Q E → vs.length = ps.length)
    (hbody : ∀ (cdv : Value) (A : Around) (outer : List Env) (s : Shared) (H : Hp) (vs : List V) (Q : VK) (E : XK), Room k (A.deeper (envOfC qual (defScope st) s.heap.objs.size f cdv)) → sp vs H Q E →
      ∃ t, PSs (cxOf (CXe P w) P w K mg base N qual (defScope st) f cdv A outer s H E) (defBody st) t ∧ t { nx := fun _ H' => Q .non H', rt := Q } (start N vs) H) : FnOk P w K mg base (CXe P w) (k + 1) f fd ps sp := by
  obtain ⟨oc, od, kV, doc, pm, an, cdv, ct, osl, rfl, lk, hcd⟩ := F.ex
  exact fn_of lk hcd S len fun A outer s H vs Q E hr hsp => hbody cdv A outer s H vs Q E hr hsp
theorem Fun.okU (F : Fun K x qual st f fd) (S : FnScope N ps (defScope st)) (len : ∀ vs H Q E, sp vs H Q E → vs.length = ps.length)
    (hbody : ∀ (cdv : Value) (A : Around) (outer : List Env) (s : Shared) (H : Hp) (vs : List V) (Q : VK) (E : XK), RoomU k (A.deeper (envOfC qual (defScope st) s.heap.objs.size f cdv)) → sp vs H Q E →
      ∃ t, PSs (cxU (CXe P w) P w K mg base N qual (defScope st) f cdv A outer s H E).nox (defBody st) t ∧ t { nx := fun _ H' => Q .non H', rt := Q } (start N vs) H) : FnOkU P w K mg base (CXe P w) (k + 1) f fd ps sp := by
  obtain ⟨oc, od, kV, doc, pm, an, cdv, ct, osl, rfl, lk, hcd⟩ := F.ex
  refine fn_ofU lk hcd S len fun A outer s H vs Q E hr hsp => ?_
  obtain ⟨t, h, q⟩ := hbody cdv A outer s H vs Q E hr hsp
  exact ⟨t, h.nox, q⟩
end
def Bd (n : Nat) (i : Int) : Prop := i.natAbs < 2 ^ n
theorem Bd.mono {m n : Nat} {i : Int} (h : Bd m i) (l : m ≤ n) : Bd n i := Nat.lt_of_lt_of_le h (Nat.pow_le_pow_right (by decide) l)
theorem Bd.mul {m n : Nat} {i j : Int} (h : Bd m i) (k : Bd n j) : Bd (m + n) (i * j) := by
  unfold Bd at *
  rw [Int.natAbs_mul, Nat.pow_add]
  exact Nat.mul_lt_mul'' h k
theorem Bd.add {n : Nat} {i j : Int} (h : Bd n i) (k : Bd n j) : Bd (n + 1) (i + j) := by
  unfold Bd at *
  have := Int.natAbs_add_le i j
  rw [Nat.pow_succ]
  omega
theorem Bd.neg {n : Nat} {i : Int} (h : Bd n i) : Bd n (-i) := by unfold Bd at *; rw [Int.natAbs_neg]; exact h
theorem Bd.sub {n : Nat} {i j : Int} (h : Bd n i) (k : Bd n j) : Bd (n + 1) (i - j) := by rw [Int.sub_eq_add_neg]; exact h.add k.neg
theorem Bd.le {n : Nat} {i j : Int} (h : Bd n i) (k : j.natAbs ≤ i.natAbs) : Bd n j := Nat.lt_of_le_of_lt k h
theorem Bd.log {n : Nat} {i : Int} (h : Bd n i) (z : i ≠ 0) : i.natAbs.log2 < n := (Nat.log2_lt (by omega)).mpr h
theorem Bd.bits {n : Nat} {i : Int} (h : Bd n i) : Builtin.Int.intBits i ≤ n := PySem.intBits_le_iff.mpr h
def CDivB (_ j : Int) : Prop := j ≠ 0 ∧ Bd 9000 j
def CMulB (i j : Int) : Prop := Bd 100000 i ∧ Bd 100000 j
theorem op_fdivB {X : Cx} : OpR X (binaryOp .FloorDiv) (rI CDivB fun i j => .int (i.fdiv j)) := opI fun _ _ _ _ _ _ _ hc q => floordiv_int hc.1 q (.inl (PyProof.noPylong_of_log2 (hc.2.log hc.1)))
end L2
namespace L2
open PySem PySem.Spec PyProof.Rows
section
variable {prog : Program} {w : World} {A : Around} {R : Result → Shared → Prop} {s : Shared}
theorem comp_loop {elt target iter : Expr} {scope : Scope} {pos : Pos} {it acc : Value} {env : Env} (J : Nat → Shared → Prop)
    (turn : ∀ n s, J n s → wpAny (model prog w) A (pyNext it) (fun r s1 => match r with
      | none => R (.ok .next) s1
      | some v => wpAny (model prog w) A (letOwnedTupleGo target it v) (fun _ s2 => wpAny (model prog w) A (assign target env v) (fun _ s3 => wpAny (model prog w) A (eval elt env) (fun x s4 =>
          wpAny (model prog w) A (call (.builtin "list.append") [acc, x]) (fun _ s5 => ∃ m, m < n ∧ J m s5) (fun _ _ => False) s4) (fun _ _ => False) s3) (fun _ _ => False) s2) (fun _ _ => False) s1) (fun _ _ => False) s)
    (n : Nat) (h : J n s) : codeAny (model prog w) A (.compLoop (.ListComp elt [⟨target, iter, [], 0⟩] scope pos) 0 it acc env) R s := by
  refine codeAny_loop rfl J (fun n s hJ => ?_) n h
  show wpAny _ A ((compTurn (.ListComp elt [⟨target, iter, [], 0⟩] scope pos) 0 it acc env).onRaise (fun x => do noteFrame x env; theTreesLotGoes x)) _ _ s
  refine wpAny_noted ?_
  rw [compTurn_list1]
  have no : ∀ {P : Value → Shared → Prop} (a : Value) (b : Shared), (fun _ _ => False : Value → Shared → Prop) a b → P a b := fun _ _ z => False.elim z
  refine wpAny_bind (wpAny_standAt (wpAny_bind (wpAny_mono (turn n s hJ) (fun r s1 h1 => ?_) no)))
  cases r with
  | none => exact wpAny_pure h1
  | some v =>
    refine wpAny_bind (wpAny_mono h1 (fun _ s2 h2 => wpAny_bind (wpAny_mono h2 (fun _ s3 h3 => ?_) no)) no)
    exact wpAny_bind (wpAny_bind (wpAny_mono h3 (fun x s4 h4 => wpAny_bind (wpAny_mono h4 (fun _ s5 h5 => wpAny_pure (wpAny_pure ⟨rfl, h5⟩)) no)) no))
end
abbrev Cx.cp (X : Cx) (Nc : List Str) (scope : Scope) (cl : List (Str × Addr)) (C : Addr) (s₀ : Shared) (H₀ : Hp) (ex : List Addr) (pn : List (Addr × Obj)) : Cx :=
  { X with N := Nc, s₀ := s₀, H₀ := H₀, env := compEnvC scope cl C X.env, outer := X.stack, ex := ex, fn := fun _ => false, pn := pn, xe := fun _ _ => False }
def cσ (js : List (Option Nat)) (σ : St) : St := js.map fun o => o.bind fun j => (σ[j]?).join
def tComp (js : List (Option Nat)) (wi : TI) (g : TG) (te : TE) : TE := fun σ H Q => wi σ H fun J H1 => ∀ D, H1 D = none → ∃ W : Nat → Nat → List V → St → Hp → Prop, (∃ m, W 0 m [] (cσ js σ) (upd H1 D (.lst []))) ∧
  ∀ i m ys σc H, W i m ys σc H → (H D = some (.lst ys) ∧ J.stop i H ∧ Q (.ref D) H) ∨ (J.go i H ∧ ∀ x H', J.yld i H x H' → g x σc H' fun σ2 H2 => te σ2 H2 fun y H3 => H3 D = some (.lst ys) ∧ ys.length < sizeLine ∧ ∃ m', m' < m ∧ W (i + 1) m' (ys ++ [y]) σ2 (upd H3 D (.lst (ys ++ [y]))))
def PCo (X : Cx) (e : Expr) (scope : Scope) (iter : Expr) (t : TE) : Prop :=
  ∀ (pos : Pos) (use : Option (Value → Sem Unit)) (QQ : Value → Shared → Prop) (pins : List (Addr × Obj)) (s : Shared) (σ : St) (H : Hp) (Q : VK), Inv X pins σ H s → t σ H Q →
    (∀ (D C : Addr) (H5 : Hp) (s6 : Shared) (mC : Str → Option Value), Inv X pins σ H5 s6 → s6.heap.Ns C mC → FpOk X pins H5 C → Q (.ref D) H5 → compPost (model X.prog X.w) X.A X.xe use QQ (.ref D) C (.ok .next) s6) →
    wpAny (model X.prog X.w) X.A (comprehension e scope X.env pos (newList []) false (eval iter X.env) use) QQ X.xe s
theorem PCo.of {X : Cx} {e : Expr} {scope : Scope} {iter : Expr} {t t' : TE} (h : PCo X e scope iter t') (k : ∀ σ H Q, t σ H Q → t' σ H Q) : PCo X e scope iter t := fun pos use QQ pins s σ H Q I q fin => h pos use QQ pins s σ H Q I (k σ H Q q) fin
theorem PCo.pe {X : Cx} {elt iter tg : Expr} {scope : Scope} {pos : Pos} {t : TE} (h : PCo X (.ListComp elt [⟨tg, iter, [], 0⟩] scope pos) scope iter t) : PE X (.ListComp elt [⟨tg, iter, [], 0⟩] scope pos) t := by
  intro pins s σ H Q I q
  rw [eval_ListComp]
  exact h _ none (EP X pins σ Q) pins s σ H Q I q fun D C H5 s6 mC I7 hn fp qn => ⟨mC, hn, fun h8 sb => ⟨.ref D, H5, I7.turned (t' := s6.toks) (fun b o hb z => (sb.2 b hb).trans z) fp.1 fp.2.1 fp.2.2.2.1 fp.2.2.2.2.1 fp.2.2.2.2.2, rfl, qn⟩⟩
theorem PCo.ps {X : Cx} {elt iter tg : Expr} {scope : Scope} {cpos pos pos' : Pos} {t : TE} {i : Nat} {x : Str} (h : PCo X (.ListComp elt [⟨tg, iter, [], 0⟩] scope cpos) scope iter t) (hN : X.N.Nodup) (hi : X.N[i]? = some x) (hx : Loc X.env.scope x)
    (hsw : swapsWith (.ListComp elt [⟨tg, iter, [], 0⟩] scope cpos) (some (.Name x pos')) pos.line X.env = pure true := by rfl)
    (hf : X.fn x = true ∨ X.env.scope.names.lookup x = some .local := by first | exact .inl rfl | exact .inr rfl | assumption) : PS X (.Assign [.Name x pos'] (.ListComp elt [⟨tg, iter, [], 0⟩] scope cpos) pos) (tAsg t (gName i)) := by
  intro pins s σ H D0 I q
  rw [exec_Assign_Name_used _ _ _ _ hsw]
  refine wpAny_bind (wpAny_standAt (wpAny_bind ?_))
  show wpAny _ X.A (do let _ ← comprehension (.ListComp elt [⟨tg, iter, [], 0⟩] scope cpos) scope X.env _ (newList []) false (eval iter X.env) (some (assign (.Name x pos') X.env))) _ _ s
  refine wpAny_bind (wpAny_mono (h _ (some (assign (.Name x pos') X.env)) (fun _ s' => SP X pins D0 .next s') pins s σ H _ I q ?_) (fun _ s' hq => wpAny_pure (wpAny_pure hq)) fun _ _ e => e)
  intro D C H5 s6 mC I7 hn fp qn
  refine wpAny_assign_Name (store_ok2 (v := .ref D) I7 hN hi hx rfl (fun s8 I8 sb8 => ?_) hf)
  obtain ⟨a, sb, ha⟩ := sb8
  have hne : C ≠ a := by
    rcases ha with rfl | ha
    · exact fp.2.1
    · exact fun z => fp.2.2.2.2.1 _ _ ha z.symm
  refine ⟨mC, hn.sameBut sb hne, fun h9 sb9 => ⟨_, H5, ?_, qn⟩⟩
  exact I8.turned (t' := s8.toks) (fun b o hb z => (sb9.2 b hb).trans z) fp.1 fp.2.1 fp.2.2.2.1 fp.2.2.2.2.1 fp.2.2.2.2.2
theorem pe_comp {X : Cx} {elt iter tg : Expr} {scope : Scope} {cl : List (Str × Addr)} {Nc : List Str} {js : List (Option Nat)} {wi : TI} {g : TG} {te : TE} {pos : Pos} (hc : X.calm = true) (hi : PI X tg iter wi)
    (hg : ∀ C s₀ H₀ ex pn, PG (X.cp Nc scope cl C s₀ H₀ ex pn) tg g) (he : ∀ C s₀ H₀ ex pn, PE (X.cp Nc scope cl C s₀ H₀ ex pn) elt te)
    (hlen : js.length = Nc.length) (hcl1 : ∀ y c, cl.lookup y = some c → X.env.cells.lookup y = some c) (hcl2 : ∀ y, ((relabel scope X.env).names.lookup y = some .cell ∨ (relabel scope X.env).names.lookup y = some .free) → ∃ c, cl.lookup y = some c)
    (hjs : ∀ (i : Nat) (y : Str) (j : Nat), Nc[i]? = some y → js[i]? = some (some j) → X.N[j]? = some y ∧ Vis X.env.scope y ∧ X.env.kindOf y ≠ some .local ∧ ((relabel scope X.env).names.lookup y = some .cell ∨ (relabel scope X.env).names.lookup y = some .free) ∧ ∀ c, X.env.cells.lookup y = some c → cl.lookup y = some c)
    (hclos : closureFor scope X.env = pure cl) (hcell : ∀ y ∈ scope.names, y.2 ≠ .cell) (hkind : scope.kind = .function) (hnames : ∀ y ∈ scope.names, y.2 = .local → scope.names.lookup y.1 = some .local)
    (hs : ∀ x, foldedSetIterable iter X.env x = pure x := by intro _; rfl) : PCo X (.ListComp elt [⟨tg, iter, [], 0⟩] scope pos) scope iter (tComp js wi g te) := by
  intro pos0 use QQ pins s σ H Q I h fin
  refine wpAny_comprehension_free (use := use) rfl hs hclos hkind hnames (thn (hi pins s σ H _ I h) fun v s1 h1 => thn h1 fun itv s2 h2 => ?_)
  obtain ⟨it, fp, tn, J, H2, rfl, I2, T, st2, f2, R⟩ := h2
  refine wpAny_newObj_type (wpAny_newFunctionEnv hcell (by intro y hy; simp at hy) (fun h1 hns hsb => ?_) hkind)
  dsimp only at hns hsb ⊢
  have hf : H2 s2.heap.objs.size = none := I2.hok.fresh (Nat.le_refl _)
  obtain ⟨W, ⟨m0, w0⟩, turn⟩ := R s2.heap.objs.size hf
  -- D: the list; C: the block's names
  generalize eD : s2.heap.objs.size = D at *
  have I3 : Inv X pins σ (upd H2 D (.lst [])) { s2 with heap := s2.heap.push { cls := .type "list", dict := none, data := .seq ([] : List Value).toArray } } :=
    I2.laid (t' := s2.toks) (fun b u e => Heap.get?_push_of_some _ e) (by rw [eD]; exact Nat.le_refl _) ⟨Nat.zero_le _, [], 0, .nil, by rw [← eD]; exact Heap.get?_push_size _ rfl⟩
  generalize e3 : ({ s2 with heap := s2.heap.push { cls := .type "list", dict := none, data := .seq ([] : List Value).toArray } } : Shared) = s3 at I3
  have hp3 : s2.heap.push { cls := .type "list", dict := none, data := .seq ([] : List Value).toArray } = s3.heap := by rw [← e3]
  rw [hp3] at hns hsb ⊢
  generalize eC : s3.heap.objs.size = C at *
  have old : ∀ b o, s3.heap.get? b = some o → h1.get? b = some o := fun b o z => hsb.extBut b o (by rw [← eC]; exact Nat.ne_of_lt (Heap.lt_size z)) (Heap.get?_push_of_some _ z)
  have fpo : ∀ b ∈ fp, b < D := fun b hb => by
    obtain ⟨o, z, _⟩ := T.obj _ _ st2 b hb
    rw [← eD]; exact Heap.lt_size z
  have eCD : C = D + 1 := by rw [← eC, ← hp3, Heap.size_push, eD]
  have f3 : ∀ b ∈ fp, FpOk X pins (upd H2 D (.lst [])) b := fun b hb => ⟨by rw [upd_ne (Nat.ne_of_lt (fpo b hb))]; exact (f2 b hb).1, (f2 b hb).2⟩
  have okC : (X.cp Nc scope cl C s3 (upd H2 D (.lst [])) fp (X.pn ++ pins)).Ok := by
    have ok := I3.ok
    refine ⟨ok.mod, hkind, ok.glob, ok.blt, by rw [eC]; exact Nat.le_refl _, fun x y c a b => ok.inj x y c (hcl1 x c a) (hcl1 y c b), fun x hx => hcl2 x hx, fun x c z => absurd z Bool.false_ne_true, ok.hd, ok.frames, .inl rfl, fun b hb => ?_, fun b o z => I3.bs b o z, Nat.le_trans ok.bsz I3.sz, fun b o z hb => ?_, fun b hb hm => ?_, I3.stack, I3.stkFree⟩
    · exact ⟨by rw [eCD]; exact Nat.ne_of_lt (Nat.lt_succ_of_lt (fpo b hb)), fun x c z => (f3 b hb).2.2.2.2.1 x c (hcl1 x c z)⟩
    · rcases (f3 b hb).2.2.2.1 with y | y
      · exact ok.noex b o z y
      · exact absurd (Nat.lt_of_lt_of_le (Heap.lt_size z) (Nat.le_trans ok.bsz y)) (Nat.lt_irrefl _)
    · rcases List.mem_cons.mp (I3.stkSub b hm) with y | y
      · exact (f3 b hb).2.1 y
      · exact (f3 b hb).2.2.1 y
  have I4 : Inv (X.cp Nc scope cl C s3 (upd H2 D (.lst [])) fp (X.pn ++ pins)) [] (cσ js σ) (upd H2 D (.lst [])) { s2 with heap := h1, toks := s2.toks + ([] : List (Str × Value)).length } := by
    have os3 : s2.os = s3.os := by rw [← e3]
    have fC : upd H2 D (.lst []) C = none := I3.hok.fresh (by rw [eC]; exact Nat.le_refl _)
    refine ⟨okC, os3, I2.bare, Un.kept old, ⟨_, hns, fun i y v e1 e2 e3' => ?_⟩, fun y c z => ?_, fC, fun y c z => I3.freeC y c (hcl1 y c z), fun p hp => ?_, I3.hok.kept old, by rw [cσ, List.length_map]; exact hlen⟩
    · unfold cσ at e2
      rw [List.getElem?_map] at e2
      cases ej : js[i]? with
      | none => rw [ej] at e2; cases e2
      | some oj =>
        rw [ej] at e2
        cases oj with
        | none => cases e2
        | some j =>
          obtain ⟨a1, a2, a3, a4, a5⟩ := hjs i y j e1 ej
          have e2' : (σ[j]?).join = some v := Option.some.inj e2
          have e4 : σ[j]? = some (some v) := by
            cases q : σ[j]? with
            | none => rw [q] at e2'; cases e2'
            | some o => rw [q] at e2'; exact congrArg some e2'
          obtain ⟨m, hn, hl⟩ := I3.loc
          obtain ⟨u, r, l⟩ := hl j y v a1 e4 a2
          refine ⟨u, r, .inr ⟨a4, ?_⟩⟩
          rcases l with ⟨k, _⟩ | ⟨k, c, z, ⟨o, ho, hd⟩⟩
          · exact absurd k a3
          · exact ⟨c, a5 c z, o, old _ _ ho, hd⟩
    · obtain ⟨w', o, ho, hd⟩ := I3.cell y c (hcl1 y c z)
      exact ⟨w', o, old _ _ ho, hd⟩
    · have hp' : p ∈ X.pn ++ pins := by
        have z : p ∈ (X.pn ++ pins) ++ [] := hp
        rw [List.append_nil] at z; exact z
      obtain ⟨z, n, ne, nf, d⟩ := I3.pin p hp'
      refine ⟨old _ _ z, n, by rw [← eC]; exact Nat.ne_of_lt (Heap.lt_size z), fun hm => ?_, d⟩
      rcases List.mem_cons.mp (I3.stkSub p.1 hm) with y | y
      · exact ne y
      · exact nf y
  have st4 : tn 0 h1 := T.keep _ _ _ st2 fun b hb o z => old b o (by rw [← hp3]; exact Heap.get?_push_of_some _ z)
  have stat : ∀ {H' : Hp}, (∀ b ∈ fp, H' b = none) → ∀ b ∈ fp, FpOk (X.cp Nc scope cl C s3 (upd H2 D (.lst [])) fp (X.pn ++ pins)) [] H' b := fun hn b hb =>
    ⟨hn b hb, (okC.exf b hb).1, okC.exfs b hb, .inl hb, (okC.exf b hb).2 |> fun q x c z => q x c z, fun p hp => (f3 b hb).2.2.2.2.2 p (by
      have z : p ∈ (X.pn ++ pins) ++ [] := hp
      rw [List.append_nil] at z; exact z)⟩
  have loop : codeAny (model X.prog X.w) X.A (.compLoop (.ListComp elt [⟨tg, iter, [], 0⟩] scope pos) 0 (.ref it) (.ref D) (compEnvC scope cl C X.env)) (compPost (model X.prog X.w) X.A X.xe use QQ (.ref D) C) { s2 with heap := h1, toks := s2.toks + ([] : List (Str × Value)).length } := by
    refine comp_loop (fun n s' => ∃ i ys σc H', Inv (X.cp Nc scope cl C s3 (upd H2 D (.lst [])) fp (X.pn ++ pins)) [] σc H' s' ∧ tn i s'.heap ∧ (∀ b ∈ fp, H' b = none) ∧ W i n ys σc H') ?_ m0 ⟨0, [], _, _, I4, st4, fun b hb => (f3 b hb).1, w0⟩
    rintro n s5 ⟨i, ys, σ5, H5, I5, st5, fr5, w5⟩
    rcases turn i n ys σ5 H5 w5 with ⟨hD, stop, qn⟩ | ⟨go, step⟩
    · refine thn (T.done (X.cp Nc scope cl C s3 (upd H2 D (.lst [])) fp (X.pn ++ pins)) rfl rfl rfl hc i [] s5 σ5 H5 _ I5 (stat fr5) st5 stop) fun r s6 ⟨hr, I6⟩ => ?_
      subst hr
      obtain ⟨mC, hnC, _⟩ := id I6.loc
      have I7 : Inv X pins σ H5 s6 := I3.call' (ch := fp) I6.os I6.base I6.hok I6.bare fun b hb => ⟨(f3 b hb).2.2.2.1, (f3 b hb).2.1, (f3 b hb).2.2.2.2.1, (f3 b hb).2.2.2.2.2⟩
      have nC : s3.heap.objs.size ≤ C := by rw [eC]; exact Nat.le_refl _
      exact fin D C H5 s6 mC I7 hnC (I3.fpOk nC I6.free) qn
    · refine thn (T.item (X.cp Nc scope cl C s3 (upd H2 D (.lst [])) fp (X.pn ++ pins)) rfl rfl rfl hc i [] s5 σ5 H5 _ I5 (stat fr5) st5 go) fun r s6 ⟨u, hr, h6⟩ => ?_
      subst hr
      refine thn h6 fun _ s7 ⟨x, H7, I7, r7, y7, st7, fr7⟩ => ?_
      have I7' := I7.pinned (stat fr7) (T.obj _ _ st7)
      refine thn (hg C s3 _ fp _ _ s7 σ5 H7 x u _ I7' r7 (step x H7 y7)) fun _ s8 ⟨σ8, H8, I8, q8⟩ => ?_
      refine thn (he C s3 _ fp _ _ s8 σ8 H8 _ I8 q8) fun v9 s9 ⟨y9, H9, I9, r9, hD9, hz9, m9, lt9, w9⟩ => ?_
      refine thn (mt_append (X := X.cp Nc scope cl C s3 (upd H2 D (.lst [])) fp (X.pn ++ pins)) _ s9 σ8 H9 (.ref D) [y9] (.ref D) [v9] (fun _ H10 => H10 = upd H9 D (.lst (ys ++ [y9]))) I9 rfl (.cons r9 .nil) ⟨D, ys, y9, rfl, rfl, hD9, hz9, rfl⟩) fun v10 s10 ⟨_, H10, I10, _, e10⟩ => ?_
      subst e10
      refine ⟨m9, lt9, i + 1, ys ++ [y9], σ8, _, I10.unpinned, T.keep _ _ _ st7 fun b hb o z => (I10.pin (b, o) (List.mem_append_right _ (List.mem_append_right _ (mem_pinsAt hb z)))).1, fun b hb => ?_, w9⟩
      obtain ⟨o, z, d⟩ := T.obj _ _ st7 b hb
      exact (I10.pin (b, o) (List.mem_append_right _ (List.mem_append_right _ (mem_pinsAt hb z)))).2.1
  exact codeAny_compStart_list loop (T.self X.A 0 _ _ _ st4 loop)
end L2
namespace L2
open PySem PySem.Spec PyProof.Rows
inductive Dt where
  | non | bl (b : Bool) | int (i : Int) | str (x : Str) | tup (l : List Dt) | lst (l : List Dt)
mutual
def Rep (K : PySem.W.Frag) (H : Hp) : Dt → V → Prop
  | .non, v => v = .non
  | .bl b, v => v = .bl b
  | .int i, v => v = .int i
  | .str x, v => v = .str x
  | .tup l, v => ∃ a xs, v = .ref a ∧ SqT K H a xs ∧ Reps K H l xs
  | .lst l, v => ∃ a xs, v = .ref a ∧ SqL K H a xs ∧ Reps K H l xs
def Reps (K : PySem.W.Frag) (H : Hp) : List Dt → List V → Prop
  | [], xs => xs = []
  | d :: l, xs => ∃ x r, xs = x :: r ∧ Rep K H d x ∧ Reps K H l r
end
mutual
def Dt.sim : Dt → Dt → Bool
  | .non, .non => true
  | .bl _, .bl _ => true
  | .int _, .int _ => true
  | .str _, .str _ => true
  | .tup l, .tup m => Dt.sims l m
  | .lst l, .lst m => Dt.sims l m
  | _, _ => false
def Dt.sims : List Dt → List Dt → Bool
  | d :: l, e :: m => Dt.sim d e && Dt.sims l m
  | _, _ => true
end
mutual
def Dt.eqb : Dt → Dt → Bool
  | .non, .non => true
  | .bl a, .bl b => a == b
  | .int a, .int b => a == b
  | .str a, .str b => a == b
  | .tup l, .tup m => Dt.eqbs l m
  | .lst l, .lst m => Dt.eqbs l m
  | _, _ => false
def Dt.eqbs : List Dt → List Dt → Bool
  | [], [] => true
  | d :: l, e :: m => Dt.eqb d e && Dt.eqbs l m
  | _, _ => false
end
mutual
def Dt.dep : Dt → Nat
  | .tup l => Dt.deps l + 1
  | .lst l => Dt.deps l + 1
  | _ => 0
def Dt.deps : List Dt → Nat
  | [] => 0
  | d :: l => max (Dt.dep d) (Dt.deps l)
end
mutual
theorem Dt.eqb_refl : ∀ d : Dt, Dt.eqb d d = true
  | .non => rfl
  | .bl b => by simp [Dt.eqb]
  | .int i => by simp [Dt.eqb]
  | .str x => by simp [Dt.eqb]
  | .tup l => by rw [Dt.eqb]; exact Dt.eqbs_refl l
  | .lst l => by rw [Dt.eqb]; exact Dt.eqbs_refl l
theorem Dt.eqbs_refl : ∀ l : List Dt, Dt.eqbs l l = true
  | [] => rfl
  | d :: l => by rw [Dt.eqbs, Dt.eqb_refl d, Dt.eqbs_refl l]; rfl
end
mutual
theorem Dt.sim_refl : ∀ d : Dt, Dt.sim d d = true
  | .non => rfl
  | .bl b => rfl
  | .int i => rfl
  | .str x => rfl
  | .tup l => by rw [Dt.sim]; exact Dt.sims_refl l
  | .lst l => by rw [Dt.sim]; exact Dt.sims_refl l
theorem Dt.sims_refl : ∀ l : List Dt, Dt.sims l l = true
  | [] => rfl
  | d :: l => by rw [Dt.sims, Dt.sim_refl d, Dt.sims_refl l]; rfl
end
section
variable {X : Cx} {pins : List (Addr × Obj)} {σ : St} {H : Hp} {s : Shared}
theorem Inv.lt_inj (I : Inv X pins σ H s) {a : Addr} {xs ys : List V} (h : SqL X.K H a xs) (h' : SqT X.K H a ys) : False := by
  obtain ⟨its, _, ⟨ob, n, p, c', _⟩, _⟩ := I.list h
  obtain ⟨its', _, ⟨o, q, c, _⟩, _⟩ := I.tuple h'
  rw [p] at q
  cases q
  rw [c'] at c
  exact absurd c (by decide)
mutual
theorem Rep.inj (I : Inv X pins σ H s) : ∀ (d e : Dt) (v : V), Rep X.K H d v → Rep X.K H e v → d = e := by
  intro d e v h k
  match d, e with
  | .non, .non => rfl
  | .bl a, .bl b => simp only [Rep] at h k; subst h; cases k; rfl
  | .int a, .int b => simp only [Rep] at h k; subst h; cases k; rfl
  | .str a, .str b => simp only [Rep] at h k; subst h; cases k; rfl
  | .tup l, .tup m =>
    simp only [Rep] at h k
    obtain ⟨a, xs, rfl, s1, r1⟩ := h
    obtain ⟨b, ys, e, s2, r2⟩ := k
    cases e
    rw [I.tuple_inj s2 s1] at r2
    rw [Reps.inj I l m xs r1 r2]
  | .lst l, .lst m =>
    simp only [Rep] at h k
    obtain ⟨a, xs, rfl, s1, r1⟩ := h
    obtain ⟨b, ys, e, s2, r2⟩ := k
    cases e
    rw [I.list_inj s2 s1] at r2
    rw [Reps.inj I l m xs r1 r2]
  | .tup l, .lst m =>
    simp only [Rep] at h k
    obtain ⟨a, xs, rfl, s1, r1⟩ := h
    obtain ⟨b, ys, e, s2, r2⟩ := k
    cases e
    exact (I.lt_inj s2 s1).elim
  | .lst l, .tup m =>
    simp only [Rep] at h k
    obtain ⟨a, xs, rfl, s1, r1⟩ := h
    obtain ⟨b, ys, e, s2, r2⟩ := k
    cases e
    exact (I.lt_inj s1 s2).elim
  | .non, .bl _ | .non, .int _ | .non, .str _ | .bl _, .non | .bl _, .int _ | .bl _, .str _ | .int _, .non | .int _, .bl _ | .int _, .str _ | .str _, .non | .str _, .bl _ | .str _, .int _ => simp only [Rep] at h k; subst h; cases k
  | .non, .tup _ | .bl _, .tup _ | .int _, .tup _ | .str _, .tup _ | .non, .lst _ | .bl _, .lst _ | .int _, .lst _ | .str _, .lst _ => simp only [Rep] at h k; subst h; obtain ⟨b, ys, e, _⟩ := k; cases e
  | .tup _, .non | .tup _, .bl _ | .tup _, .int _ | .tup _, .str _ | .lst _, .non | .lst _, .bl _ | .lst _, .int _ | .lst _, .str _ => simp only [Rep] at h k; subst k; obtain ⟨b, ys, e, _⟩ := h; cases e
theorem Reps.inj (I : Inv X pins σ H s) : ∀ (l m : List Dt) (xs : List V), Reps X.K H l xs → Reps X.K H m xs → l = m := by
  intro l m xs h k
  match l, m with
  | [], [] => rfl
  | [], e :: m => simp only [Reps] at h k; subst h; obtain ⟨x, r, z, _⟩ := k; cases z
  | d :: l, [] => simp only [Reps] at h k; subst k; obtain ⟨x, r, z, _⟩ := h; cases z
  | d :: l, e :: m =>
    simp only [Reps] at h k
    obtain ⟨x, r, rfl, h1, h2⟩ := h
    obtain ⟨y, q, z, k1, k2⟩ := k
    cases z
    rw [Rep.inj I d e x h1 k1, Reps.inj I l m r h2 k2]
end
theorem Reps.len {K : PySem.W.Frag} {H : Hp} : ∀ {l : List Dt} {xs : List V}, Reps K H l xs → l.length = xs.length
  | [], xs, h => by simp only [Reps] at h; rw [h]; rfl
  | d :: l, xs, h => by
    simp only [Reps] at h
    obtain ⟨x, r, rfl, _, h2⟩ := h
    simp [Reps.len h2]
theorem Reps.at {K : PySem.W.Frag} {H : Hp} : ∀ {l : List Dt} {xs : List V} {j : Nat} {d : Dt}, Reps K H l xs → l[j]? = some d → ∃ x, xs[j]? = some x ∧ Rep K H d x
  | [], _, _, _, _, e => by simp at e
  | d0 :: l, xs, 0, d, h, e => by
    simp only [Reps] at h
    obtain ⟨x, r, rfl, h1, _⟩ := h
    simp at e; subst e
    exact ⟨x, rfl, h1⟩
  | d0 :: l, xs, j + 1, d, h, e => by
    simp only [Reps] at h
    obtain ⟨x, r, rfl, _, h2⟩ := h
    obtain ⟨y, e1, e2⟩ := Reps.at (j := j) h2 (by simpa using e)
    exact ⟨y, by simpa using e1, e2⟩
theorem Dt.deps_at : ∀ {l : List Dt} {j : Nat} {d : Dt}, l[j]? = some d → d.dep ≤ Dt.deps l
  | [], _, _, e => by simp at e
  | d0 :: l, 0, d, e => by simp at e; subst e; rw [Dt.deps]; exact Nat.le_max_left _ _
  | d0 :: l, j + 1, d, e => by rw [Dt.deps]; exact Nat.le_trans (Dt.deps_at (j := j) (by simpa using e)) (Nat.le_max_right _ _)
theorem Dt.sims_at : ∀ {l m : List Dt} {j : Nat} {d e : Dt}, Dt.sims l m = true → l[j]? = some d → m[j]? = some e → d.sim e = true
  | [], _, _, _, _, _, z, _ => by simp at z
  | _ :: _, [], _, _, _, _, _, z => by simp at z
  | d0 :: l, e0 :: m, 0, d, e, h, z1, z2 => by
    rw [Dt.sims] at h
    simp at z1 z2; subst z1 z2
    exact (Bool.and_eq_true_iff.mp h).1
  | d0 :: l, e0 :: m, j + 1, d, e, h, z1, z2 => by
    rw [Dt.sims] at h
    exact Dt.sims_at (j := j) (Bool.and_eq_true_iff.mp h).2 (by simpa using z1) (by simpa using z2)
theorem Dt.eqbs_all : ∀ {l m : List Dt}, l.length = m.length → Dt.eqbs l m = (List.range l.length).all fun j => match l[j]?, m[j]? with | some d, some e => d.eqb e | _, _ => true
  | [], [], _ => rfl
  | d :: l, e :: m, h => by
    have h' : l.length = m.length := by simpa using h
    rw [Dt.eqbs, Dt.eqbs_all h', List.length_cons, List.range_succ_eq_map, List.all_cons, List.all_map]
    rfl
theorem Dt.eqbs_len : ∀ {l m : List Dt}, l.length ≠ m.length → Dt.eqbs l m = false
  | [], [], h => absurd rfl h
  | [], _ :: _, _ => rfl
  | _ :: _, [], _ => rfl
  | d :: l, e :: m, h => by rw [Dt.eqbs, Dt.eqbs_len (by simpa using h), Bool.and_false]
def pairE (l m : List Dt) (j : Nat) : Bool := match l[j]?, m[j]? with | some d, some e => d.eqb e | _, _ => true
theorem items_at (I : Inv X pins σ H s) {k : Nat} {A : Around} {l m : List Dt} {xs ys : List V} {us vs : List Value}
    (ih : ∀ (A : Around) (d e : Dt) (x y : V) (u v : Value), d.dep ≤ k → A.units + k < cLine → d.sim e = true → Rep X.K H d x → Rep X.K H e y → RelV x u → RelV y v → SeqAt.EqAt A s u v (d.eqb e))
    (hd : Dt.deps l ≤ k) (hu : A.units + (k + 1) < cLine) (hs : Dt.sims l m = true) (r1 : Reps X.K H l xs) (r2 : Reps X.K H m ys) (v1 : Vals xs us) (v2 : Vals ys vs) :
    ∀ j (h1 : j < us.toArray.size) (h2 : j < vs.toArray.size), SeqAt.EqAt A.in1 s us.toArray[j] vs.toArray[j] (pairE l m j) := by
  intro j h1 h2
  have l1 : j < us.length := by simpa using h1
  have l2 : j < vs.length := by simpa using h2
  have n1 : l.length = us.length := r1.len.trans v1.length
  have n2 : m.length = vs.length := r2.len.trans v2.length
  obtain ⟨d, ed⟩ : ∃ d, l[j]? = some d := ⟨l[j], List.getElem?_eq_getElem (by omega)⟩
  obtain ⟨e, ee⟩ : ∃ e, m[j]? = some e := ⟨m[j], List.getElem?_eq_getElem (by omega)⟩
  obtain ⟨x, ex, rx⟩ := r1.at ed
  obtain ⟨y, ey, ry⟩ := r2.at ee
  obtain ⟨u, eu, ru⟩ := v1.get ex
  obtain ⟨v, ev, rv⟩ := v2.get ey
  have e1 : us.toArray[j] = u := by
    have := List.getElem?_eq_getElem l1
    rw [eu] at this
    simpa using (Option.some.inj this).symm
  have e2 : vs.toArray[j] = v := by
    have := List.getElem?_eq_getElem l2
    rw [ev] at this
    simpa using (Option.some.inj this).symm
  have ep : pairE l m j = d.eqb e := by unfold pairE; rw [ed, ee]
  rw [e1, e2, ep]
  exact ih A.in1 d e x y u v (Nat.le_trans (Dt.deps_at ed) hd) (by show A.units + 1 + k < cLine; omega) (Dt.sims_at hs ed ee) rx ry ru rv
theorem tup_b {l m : List Dt} {us vs : List Value} (n1 : l.length = us.length) (n2 : m.length = vs.length) : ((List.range (min us.toArray.size vs.toArray.size)).all (pairE l m) && us.toArray.size == vs.toArray.size) = Dt.eqbs l m := by
  have a1 : us.toArray.size = l.length := by simp [n1]
  have a2 : vs.toArray.size = m.length := by simp [n2]
  rw [a1, a2]
  by_cases h : l.length = m.length
  · rw [Dt.eqbs_all h, h, Nat.min_self]
    simp [pairE]
    rfl
  · rw [Dt.eqbs_len h, (beq_eq_false_iff_ne).mpr h, Bool.and_false]
theorem lst_b {l m : List Dt} {us vs : List Value} (n1 : l.length = us.length) (n2 : m.length = vs.length) (h : us.toArray.size = vs.toArray.size) : (List.range us.toArray.size).all (pairE l m) = Dt.eqbs l m := by
  have a1 : us.toArray.size = l.length := by simp [n1]
  have a2 : vs.toArray.size = m.length := by simp [n2]
  rw [Dt.eqbs_all (by omega), a1]
  rfl
theorem rc_tup (I : Inv X pins σ H s) {k : Nat} {A : Around} {l m : List Dt} {a b : Addr} {xs ys : List V}
    (ih : ∀ (A : Around) (d e : Dt) (x y : V) (u v : Value), d.dep ≤ k → A.units + k < cLine → d.sim e = true → Rep X.K H d x → Rep X.K H e y → RelV x u → RelV y v → SeqAt.EqAt A s u v (d.eqb e))
    (hd : Dt.deps l ≤ k) (hu : A.units + (k + 1) < cLine) (hs : Dt.sims l m = true) (q1 : SqT X.K H a xs) (q2 : SqT X.K H b ys) (r1 : Reps X.K H l xs) (r2 : Reps X.K H m ys) :
    SeqAt.RcAt A s (.ref a) (.ref b) (Dt.eqbs l m) ∧ SeqAt.RcNeAt A s (.ref a) (.ref b) (!Dt.eqbs l m) := by
  obtain ⟨us, v1, p1, _⟩ := I.tuple q1
  obtain ⟨vs, v2, p2, _⟩ := I.tuple q2
  have he := items_at I ih hd hu hs r1 r2 v1 v2
  rw [← tup_b (l := l) (m := m) (us := us) (vs := vs) (r1.len.trans v1.length) (r2.len.trans v2.length)]
  exact ⟨SeqAt.RcAt.tuples (show s.heap.IsTuple a us.toArray from p1) (show s.heap.IsTuple b vs.toArray from p2) (by omega) he, SeqAt.RcNeAt.tuples (show s.heap.IsTuple a us.toArray from p1) (show s.heap.IsTuple b vs.toArray from p2) (by omega) he⟩
theorem rc_lst (I : Inv X pins σ H s) {k : Nat} {A : Around} {l m : List Dt} {a b : Addr} {xs ys : List V}
    (ih : ∀ (A : Around) (d e : Dt) (x y : V) (u v : Value), d.dep ≤ k → A.units + k < cLine → d.sim e = true → Rep X.K H d x → Rep X.K H e y → RelV x u → RelV y v → SeqAt.EqAt A s u v (d.eqb e))
    (hd : Dt.deps l ≤ k) (hu : A.units + (k + 1) < cLine) (hs : Dt.sims l m = true) (q1 : SqL X.K H a xs) (q2 : SqL X.K H b ys) (r1 : Reps X.K H l xs) (r2 : Reps X.K H m ys) :
    SeqAt.RcAt A s (.ref a) (.ref b) (Dt.eqbs l m) ∧ SeqAt.RcNeAt A s (.ref a) (.ref b) (!Dt.eqbs l m) := by
  obtain ⟨us, v1, p1, _⟩ := I.list q1
  obtain ⟨vs, v2, p2, _⟩ := I.list q2
  have he := items_at I ih hd hu hs r1 r2 v1 v2
  by_cases hsz : us.toArray.size = vs.toArray.size
  · rw [← lst_b (l := l) (m := m) (us := us) (vs := vs) (r1.len.trans v1.length) (r2.len.trans v2.length) hsz]
    exact ⟨SeqAt.RcAt.lists p1.isList p2.isList hsz (by omega) he, SeqAt.RcNeAt.lists p1.isList p2.isList hsz (by omega) he⟩
  · have hl : l.length ≠ m.length := fun z => hsz (by
      have a1 := r1.len.trans v1.length
      have a2 := r2.len.trans v2.length
      simp; omega)
    rw [Dt.eqbs_len hl]
    exact ⟨SeqAt.RcAt.lists_lengths p1.isList p2.isList (by simpa using hsz) (by omega), SeqAt.RcNeAt.lists_lengths p1.isList p2.isList (by simpa using hsz) (by omega)⟩
theorem eq_at (I : Inv X pins σ H s) : ∀ (k : Nat) (A : Around) (d e : Dt) (x y : V) (u v : Value), d.dep ≤ k → A.units + k < cLine → d.sim e = true → Rep X.K H d x → Rep X.K H e y → RelV x u → RelV y v → SeqAt.EqAt A s u v (d.eqb e) := by
  intro k
  induction k with
  | zero =>
    intro A d e x y u v hd hu hs h1 h2 r1 r2
    match d, e with
    | .non, .non => simp only [Rep] at h1 h2; subst h1 h2; cases r1; cases r2; exact SeqAt.EqAt.same _
    | .bl a, .bl b => simp only [Rep] at h1 h2; subst h1 h2; cases r1; cases r2; exact SeqAt.EqAt.bool_bool a b
    | .int a, .int b => simp only [Rep] at h1 h2; subst h1 h2; obtain ⟨t, rfl⟩ := r1; obtain ⟨t', rfl⟩ := r2; exact SeqAt.EqAt.int_int a t b t'
    | .str a, .str b => simp only [Rep] at h1 h2; subst h1 h2; obtain ⟨t, rfl⟩ := r1; obtain ⟨t', rfl⟩ := r2; exact SeqAt.EqAt.str_str a t b t'
    | .tup l, _ => rw [Dt.dep] at hd; omega
    | .lst l, _ => rw [Dt.dep] at hd; omega
  | succ k ih =>
    intro A d e x y u v hd hu hs h1 h2 r1 r2
    match d, e with
    | .non, .non => simp only [Rep] at h1 h2; subst h1 h2; cases r1; cases r2; exact SeqAt.EqAt.same _
    | .bl a, .bl b => simp only [Rep] at h1 h2; subst h1 h2; cases r1; cases r2; exact SeqAt.EqAt.bool_bool a b
    | .int a, .int b => simp only [Rep] at h1 h2; subst h1 h2; obtain ⟨t, rfl⟩ := r1; obtain ⟨t', rfl⟩ := r2; exact SeqAt.EqAt.int_int a t b t'
    | .str a, .str b => simp only [Rep] at h1 h2; subst h1 h2; obtain ⟨t, rfl⟩ := r1; obtain ⟨t', rfl⟩ := r2; exact SeqAt.EqAt.str_str a t b t'
    | .tup l, .tup m =>
      have g1 := h1
      have g2 := h2
      simp only [Rep] at h1 h2
      obtain ⟨a, xs, rfl, q1, p1⟩ := h1
      obtain ⟨b, ys, rfl, q2, p2⟩ := h2
      cases r1; cases r2
      by_cases hab : a = b
      · subst hab
        rw [← Rep.inj I _ _ _ g1 g2, Dt.eqb_refl]
        exact SeqAt.EqAt.same _
      · rw [Dt.eqb]
        exact SeqAt.EqAt.of_refs hab (rc_tup I ih (by rw [Dt.dep] at hd; omega) hu (by rw [Dt.sim] at hs; exact hs) q1 q2 p1 p2).1
    | .lst l, .lst m =>
      have g1 := h1
      have g2 := h2
      simp only [Rep] at h1 h2
      obtain ⟨a, xs, rfl, q1, p1⟩ := h1
      obtain ⟨b, ys, rfl, q2, p2⟩ := h2
      cases r1; cases r2
      by_cases hab : a = b
      · subst hab
        rw [← Rep.inj I _ _ _ g1 g2, Dt.eqb_refl]
        exact SeqAt.EqAt.same _
      · rw [Dt.eqb]
        exact SeqAt.EqAt.of_refs hab (rc_lst I ih (by rw [Dt.dep] at hd; omega) hu (by rw [Dt.sim] at hs; exact hs) q1 q2 p1 p2).1
end
def rEqD (K : PySem.W.Frag) (ne : Bool) : R2 := fun x y H Q => ∃ d e, Rep K H d x ∧ Rep K H e y ∧ d.sim e = true ∧ 1 ≤ d.dep ∧ d.dep ≤ 60 ∧ Q (.bl (if ne then !d.eqb e else d.eqb e)) H
theorem eqD_at {X : Cx} {pins : List (Addr × Obj)} {σ : St} {H : Hp} {s : Shared} (I : Inv X pins σ H s) (hu : X.A.units + 64 < cLine) {d e : Dt} {x y : V} {u v : Value} (h1 : Rep X.K H d x) (h2 : Rep X.K H e y) (hs : d.sim e = true) (hd : 1 ≤ d.dep) (hd2 : d.dep ≤ 60) (r1 : RelV x u) (r2 : RelV y v) :
    SeqAt.RcAt X.A s u v (d.eqb e) ∧ SeqAt.RcNeAt X.A s u v (!d.eqb e) := by
  cases d with
  | tup l =>
    cases e with
    | tup m =>
      simp only [Rep] at h1 h2
      obtain ⟨a, xs, rfl, q1, p1⟩ := h1
      obtain ⟨b, ys, rfl, q2, p2⟩ := h2
      cases r1; cases r2
      rw [show Dt.eqb (.tup l) (.tup m) = Dt.eqbs l m from by rw [Dt.eqb]]
      have hd3 : Dt.deps l + 1 ≤ 60 := by rw [Dt.dep] at hd2; exact hd2
      exact rc_tup I (eq_at I (Dt.deps l)) (Nat.le_refl _) (by omega) (by rw [Dt.sim] at hs; exact hs) q1 q2 p1 p2
    | _ => exact absurd hs (by rw [Dt.sim] <;> simp)
  | lst l =>
    cases e with
    | lst m =>
      simp only [Rep] at h1 h2
      obtain ⟨a, xs, rfl, q1, p1⟩ := h1
      obtain ⟨b, ys, rfl, q2, p2⟩ := h2
      cases r1; cases r2
      rw [show Dt.eqb (.lst l) (.lst m) = Dt.eqbs l m from by rw [Dt.eqb]]
      have hd3 : Dt.deps l + 1 ≤ 60 := by rw [Dt.dep] at hd2; exact hd2
      exact rc_lst I (eq_at I (Dt.deps l)) (Nat.le_refl _) (by omega) (by rw [Dt.sim] at hs; exact hs) q1 q2 p1 p2
    | _ => exact absurd hs (by rw [Dt.sim] <;> simp)
  | non => exact absurd (show 1 ≤ 0 from hd) (by decide)
  | bl b => exact absurd (show 1 ≤ 0 from hd) (by decide)
  | int b => exact absurd (show 1 ≤ 0 from hd) (by decide)
  | str b => exact absurd (show 1 ≤ 0 from hd) (by decide)
theorem op_eqD {X : Cx} (hu : X.A.units + 64 < cLine) : OpR X (compareOp .Eq) (rEqD X.K false) := by
  intro pins s σ H x y v u Q I rx ry h
  obtain ⟨d, e, h1, h2, hs, hd, hd2, q⟩ := h
  exact (eqD_at I hu h1 h2 hs hd hd2 rx ry).1 _ _ _ _ ⟨.bl (d.eqb e), H, I, rfl, q⟩
theorem op_neD {X : Cx} (hu : X.A.units + 64 < cLine) : OpR X (compareOp .NotEq) (rEqD X.K true) := by
  intro pins s σ H x y v u Q I rx ry h
  obtain ⟨d, e, h1, h2, hs, hd, hd2, q⟩ := h
  exact (eqD_at I hu h1 h2 hs hd hd2 rx ry).2 _ _ _ _ ⟨.bl (!d.eqb e), H, I, rfl, q⟩
end L2
namespace L2
open PySem PySem.Spec PyProof.Rows
theorem rel_mem {scope : Scope} {env : Env} {y : Str} {k : NameKind} (h : (relabel scope env).names.lookup y = some k) (hk : k = .cell ∨ k = .free) (hc : ∀ p ∈ scope.names, p.2 ≠ .cell) : (y, NameKind.free) ∈ scope.names := by
  have m := PySem.mem_of_lookup h
  obtain ⟨⟨n, k'⟩, hm, e⟩ := List.mem_map.mp (show (y, k) ∈ scope.names.map _ from m)
  dsimp only at e
  split at e
  · rename_i q
    cases e
    have z : (k' == NameKind.free) = true := (Bool.and_eq_true_iff.mp (Bool.and_eq_true_iff.mp q).1).1
    rw [beq_iff_eq.mp z] at hm
    exact hm
  · cases e
    rcases hk with rfl | rfl
    · exact absurd rfl (hc _ hm)
    · exact hm
theorem pe_comp1 {X : Cx} {elt iter tg : Expr} {scope : Scope} (Nl : List Str) (y : Str) (j : Nat) {c : Addr} {wi : TI} {g : TG} {te : TE} {pos : Pos} (hc : X.calm = true) (hi : PI X tg iter wi)
    (hg : ∀ C s₀ H₀ ex pn, PG (X.cp (Nl ++ [y]) scope [(y, c)] C s₀ H₀ ex pn) tg g) (he : ∀ C s₀ H₀ ex pn, PE (X.cp (Nl ++ [y]) scope [(y, c)] C s₀ H₀ ex pn) elt te)
    (hclos : closureFor scope X.env = pure [(y, c)]) (hy : X.env.cells.lookup y = some c) (hN : X.N[j]? = some y) (hk : X.env.kindOf y = some .cell) (hb : (relabel scope X.env).names.lookup y = some .cell)
    (h1 : ∀ p ∈ scope.names, p.2 = .free → p.1 = y := by decide +kernel) (hcell : ∀ y ∈ scope.names, y.2 ≠ .cell := by decide +kernel) (hkind : scope.kind = .function := by rfl) (hnames : ∀ y ∈ scope.names, y.2 = .local → scope.names.lookup y.1 = some .local := by decide +kernel)
    (hs : ∀ x, foldedSetIterable iter X.env x = pure x := by intro _; rfl) : PCo X (.ListComp elt [⟨tg, iter, [], 0⟩] scope pos) scope iter (tComp ((Nl.map fun _ => none) ++ [some j]) wi g te) := by
  have look : ∀ z d, List.lookup z [(y, c)] = some d → z = y ∧ d = c := fun z d h => by
    have m := PySem.mem_of_lookup h
    cases List.mem_singleton.mp m
    exact ⟨rfl, rfl⟩
  have self : List.lookup y [(y, c)] = some c := by simp
  refine pe_comp (cl := [(y, c)]) (Nc := Nl ++ [y]) hc hi hg he (by simp) (fun z d h => ?_) (fun z h => ?_) (fun i z j' e1 e2 => ?_) hclos hcell hkind hnames hs
  · obtain ⟨rfl, rfl⟩ := look z d h
    exact hy
  · have m := h.elim (fun q => rel_mem q (.inl rfl) hcell) fun q => rel_mem q (.inr rfl) hcell
    have e : z = y := h1 _ m rfl
    subst e
    exact ⟨c, self⟩
  · have hi : i = Nl.length := by
      by_cases hlt : i < Nl.length
      · rw [List.getElem?_append_left (by simpa using hlt), List.getElem?_map] at e2
        cases q : Nl[i]? with
        | none => rw [q] at e2; cases e2
        | some z => rw [q] at e2; cases e2
      · have := (List.getElem?_eq_some_iff.mp e1).1
        simp at this
        omega
    subst hi
    have a1 : (Nl ++ [y])[Nl.length]? = some y := by simp
    have a2 : ((Nl.map fun _ => (none : Option Nat)) ++ [some j])[Nl.length]? = some (some j) := by
      rw [List.getElem?_append_right (by simp)]
      simp
    rw [a1] at e1; cases e1
    rw [a2] at e2; cases e2
    exact ⟨hN, .inr (.inl hk), by rw [hk]; exact (fun q => nomatch q), .inl hb, fun d h => by rw [hy] at h; cases h; exact self⟩
structure Callee (P : Program) (w : World) (K : PySem.W.Frag) (mg : Str → Option Value) (base : Heap) (k : Nat) (x : Str) (ps : List Str) (sp : Sp) : Prop where
  ex : ∃ f fd, FnOk P w K mg base (CXe P w) k f fd ps sp ∧ mg x = some (.ref f) ∧ PySem.W.keepIn K (.ref f) = true ∧ Binds K fd ps []
structure CalleeU (P : Program) (w : World) (K : PySem.W.Frag) (mg : Str → Option Value) (base : Heap) (k : Nat) (x : Str) (ps : List Str) (sp : Sp) : Prop where
  ex : ∃ f fd, FnOkU P w K mg base (CXe P w) k f fd ps sp ∧ mg x = some (.ref f) ∧ PySem.W.keepIn K (.ref f) = true ∧ Binds K fd ps []
section
variable {X : Cx} {k : Nat} {sp : Sp} {ps : List Str} {x : Str} {p pos : Pos} {e : Expr} {es : List Expr} {t : TA}
theorem pe_c {E : XK} (G : Callee X.prog X.w X.K X.mg X.base k x ps sp) (hr : Room k X.A) (hx : Passes (CXe X.prog X.w) X E) (ha : PA X (e :: es) t) (hg : Gl X x := by rfl)
    (hdb : (x == ("__debug__" : Str)) = false := by decide) (he : starEach (e :: es) X.env = (false, eval e X.env) :: starEach es X.env := by rfl) (hpl : (backTo pos (starEach es X.env)).any (·.1) = false := by rfl) :
    PE X (.Call (.Name x p) (e :: es) [] pos) (tCall sp [] E t) := by
  obtain ⟨f, fd, F, m, kp, b⟩ := G.ex
  exact pe_call F hr hg m kp b .nil hx ha hdb he hpl
theorem pe_cU {E : XK} (G : CalleeU X.prog X.w X.K X.mg X.base k x ps sp) (hr : RoomU k X.A) (hx : Passes (CXe X.prog X.w) X E) (ha : PA X (e :: es) t) (hg : Gl X x := by rfl)
    (hdb : (x == ("__debug__" : Str)) = false := by decide) (he : starEach (e :: es) X.env = (false, eval e X.env) :: starEach es X.env := by rfl) (hpl : (backTo pos (starEach es X.env)).any (·.1) = false := by rfl) :
    PE X (.Call (.Name x p) (e :: es) [] pos) (tCall sp [] E t) := by
  obtain ⟨f, fd, F, m, kp, b⟩ := G.ex
  exact pe_callU F hr hg m kp b .nil hx ha hdb he hpl
end
theorem np {P : Program} {w : World} {X : Cx} : Passes (CXe P w) X E0 := passE0
end L2
namespace L2
open PySem PySem.Spec PyProof.Rows
def tMo (t : TE) : TE := fun σ H Q => ∃ Q0 : VK, t σ H Q0 ∧ ∀ v H', Q0 v H' → Q v H'
theorem PE.mo {X : Cx} {e : Expr} {t : TE} (h : PE X e t) : PE X e (tMo t) := fun pins s σ H Q I ⟨Q0, h0, k⟩ =>
  thn (h pins s σ H Q0 I h0) fun u s1 ⟨v, H1, I1, r, q⟩ => ⟨v, H1, I1, r, k v H1 q⟩
def FR (n : Nat) (g : TG) (tb : TS) (D : Ends) (σ : St) (H : Hp) : Prop := ∃ Pv : Nat → St → Hp → Prop, Pv 0 σ H ∧ (∀ i σ H, i < n → Pv i σ H → g (.int i) σ H fun σ2 H2 => tb { D with nx := Pv (i + 1), ct := Pv (i + 1), bk := D.nx } σ2 H2) ∧ ∀ σ H, Pv n σ H → D.nx σ H
def tForR (te : TE) (g : TG) (tb : TS) : TS := fun D σ H => te σ H fun v H1 => ∃ j : Int, v = .int j ∧ -(2 ^ 62) ≤ j ∧ j < 2 ^ 62 ∧ FR j.toNat g tb D σ H1
section
variable {X : Cx} {tg a : Expr} {body : List Stmt} {te : TE} {g : TG} {tb : TS} {p pos pos' : Pos}
theorem pi_rangeM (hg : Gl X "range") (hm : X.mg "range" = none) (ha : PE X a te) (hs : starEach [a] X.env = [(false, eval a X.env)]) : PI X tg (.Call (.Name "range" p) [a] [] pos) (iRng1 (tCons (tMo te) tNil)) := pi_range1 hg hm (pa_cons ha.mo pa_nil (by rw [hs]; rfl)) hs
theorem ps_forR (hc : X.calm = true) (hp : PassesOwn (model X.prog X.w) X.A X.env X.xe) (hm : X.mg "range" = none) (ha : PE X a te) (hgt : PG X tg g) (hb : PSs X body tb) (hg : Gl X "range" := by rfl) (hs : starEach [a] X.env = [(false, eval a X.env)] := by rfl) :
    PS X (.For tg (.Call (.Name "range" p) [a] [] pos') body [] pos) (tForR te g tb) := by
  intro pins s σ H D I h
  refine ps_for hp hc (pi_rangeM hg hm ha hs) hgt hb (by intro _; rfl) pins s σ H D I ?_
  refine ⟨_, h, fun v H1 ⟨j, e, b1, b2, Pv, p0, pt, pd⟩ => ⟨j, by rw [e], b1, b2, ?_⟩⟩
  exact for_range (lo := 0) (n := j.toNat) Pv p0 (fun i σ' H' hi q => by rw [show (0 : Int) + (i : Int) = (i : Int) from Int.zero_add _]; exact pt i σ' H' hi q) pd
end
def FL (xs : List V) (at_ : Hp → Prop) (g : TG) (tb : TS) (D : Ends) (σ : St) (H : Hp) : Prop := ∃ Pv : Nat → St → Hp → Prop, Pv 0 σ H ∧ (∀ i σ H, i ≤ xs.length → Pv i σ H → at_ H) ∧ (∀ i x σ H, xs[i]? = some x → Pv i σ H → g x σ H fun σ2 H2 => tb { D with nx := Pv (i + 1), ct := Pv (i + 1), bk := D.nx } σ2 H2) ∧ ∀ σ H, Pv xs.length σ H → D.nx σ H
def tForL (K : PySem.W.Frag) (te : TE) (g : TG) (tb : TS) : TS := fun D σ H => te σ H fun v H1 => ∃ a xs, v = .ref a ∧ SqL K H1 a xs ∧ FL xs (fun H => SqL K H a xs) g tb D σ H1
def tForT (K : PySem.W.Frag) (te : TE) (g : TG) (tb : TS) : TS := fun D σ H => te σ H fun v H1 => ∃ a xs, v = .ref a ∧ SqT K H1 a xs ∧ FL xs (fun H => SqT K H a xs) g tb D σ H1
section
variable {X : Cx} {tg l : Expr} {body : List Stmt} {te : TE} {g : TG} {tb : TS} {p pos pos' : Pos}
theorem ps_forL (hc : X.calm = true) (hp : PassesOwn (model X.prog X.w) X.A X.env X.xe) (hl : PE X l te) (hgt : PG X tg g) (hb : PSs X body tb) (hs : ∀ x, foldedSetIterable l X.env x = pure x := by intro _; rfl) :
    PS X (.For tg l body [] pos) (tForL X.K te g tb) := by
  intro pins s σ H D I h
  refine ps_for hp hc (pi_list hl.mo) hgt hb hs pins s σ H D I ?_
  refine ⟨_, h, fun v H1 ⟨a, xs, e, q, Pv, p0, pl, pt, pd⟩ => ⟨a, e, ⟨xs, q⟩, ?_⟩⟩
  exact for_list (xs := xs) Pv p0 pl pt pd
theorem ps_forT (hc : X.calm = true) (hp : PassesOwn (model X.prog X.w) X.A X.env X.xe) (hl : PE X l te) (hgt : PG X tg g) (hb : PSs X body tb) (hs : ∀ x, foldedSetIterable l X.env x = pure x := by intro _; rfl) :
    PS X (.For tg l body [] pos) (tForT X.K te g tb) := by
  intro pins s σ H D I h
  refine ps_for hp hc (pi_tup hl.mo) hgt hb hs pins s σ H D I ?_
  refine ⟨_, h, fun v H1 ⟨a, xs, e, q, Pv, p0, pl, pt, pd⟩ => ⟨a, e, ⟨xs, q⟩, ?_⟩⟩
  exact for_tup (xs := xs) Pv p0 pl pt pd
end
def CO (n : Nat) (src : Nat → Hp → V → Prop) (st : Hp → Prop) (js : List (Option Nat)) (g : TG) (tl : TE) (σ : St) (H1 : Hp) (Q : VK) : Prop := ∀ D, H1 D = none → ∃ Pv : Nat → List V → St → Hp → Prop, Pv 0 [] (cσ js σ) (upd H1 D (.lst [])) ∧ (∀ i ys σc H, i ≤ n → Pv i ys σc H → st H) ∧
  (∀ i ys σc H x, i < n → Pv i ys σc H → src i H x → g x σc H fun σ2 H2 => tl σ2 H2 fun y H3 => H3 D = some (.lst ys) ∧ ys.length < sizeLine ∧ Pv (i + 1) (ys ++ [y]) σ2 (upd H3 D (.lst (ys ++ [y])))) ∧ ∀ ys σc H, Pv n ys σc H → H D = some (.lst ys) ∧ Q (.ref D) H
def tMoG (g : TG) : TG := fun v σ H Q => ∃ Q0 : St → Hp → Prop, g v σ H Q0 ∧ ∀ σ' H', Q0 σ' H' → Q σ' H'
theorem CO.run {n : Nat} {src : Nat → Hp → V → Prop} {st : Hp → Prop} {js : List (Option Nat)} {g : TG} {tl : TE} {σ : St} {H1 : Hp} {Q : VK} {J : It} (h : CO n src st js g tl σ H1 Q) (hgo : ∀ i H, i < n → st H → J.go i H) (hst : ∀ H, st H → J.stop n H) (hy : ∀ i H x H', i < n → st H → J.yld i H x H' → H' = H ∧ src i H x) :
    ∀ D, H1 D = none → ∃ W : Nat → Nat → List V → St → Hp → Prop, (∃ m, W 0 m [] (cσ js σ) (upd H1 D (.lst []))) ∧
    ∀ i m ys σc H, W i m ys σc H → (H D = some (.lst ys) ∧ J.stop i H ∧ Q (.ref D) H) ∨ (J.go i H ∧ ∀ x H', J.yld i H x H' → tMoG g x σc H' fun σ2 H2 => tMo tl σ2 H2 fun y H3 => H3 D = some (.lst ys) ∧ ys.length < sizeLine ∧ ∃ m', m' < m ∧ W (i + 1) m' (ys ++ [y]) σ2 (upd H3 D (.lst (ys ++ [y])))) := by
  intro D hD
  obtain ⟨Pv, p0, ps, pt, pd⟩ := h D hD
  refine ⟨fun i m ys σc H => m = n - i ∧ i ≤ n ∧ Pv i ys σc H, ⟨n, by simp, Nat.zero_le _, p0⟩, ?_⟩
  rintro i m ys σc H ⟨rfl, hi, p⟩
  have s0 := ps i ys σc H hi p
  by_cases hlt : i < n
  · refine .inr ⟨hgo i H hlt s0, fun x H' y => ?_⟩
    obtain ⟨rfl, hx⟩ := hy i H x H' hlt s0 y
    have z := pt i ys σc H' x hlt p hx
    exact ⟨_, z, fun σ2 H2 z2 => ⟨_, z2, fun y3 H3 ⟨a1, a2, a3⟩ => ⟨a1, a2, n - (i + 1), by omega, rfl, hlt, a3⟩⟩⟩
  · have e : i = n := by omega
    subst e
    obtain ⟨a1, a2⟩ := pd ys σc H p
    exact .inl ⟨a1, hst H s0, a2⟩
def tCoR (js : List (Option Nat)) (te : TE) (g : TG) (tl : TE) : TE := fun σ H Q => te σ H fun v H1 => ∃ j : Int, v = .int j ∧ -(2 ^ 62) ≤ j ∧ j < 2 ^ 62 ∧ CO j.toNat (fun i _ x => x = .int i) (fun _ => True) js g tl σ H1 Q
def tCoL (K : PySem.W.Frag) (js : List (Option Nat)) (te : TE) (g : TG) (tl : TE) : TE := fun σ H Q => te σ H fun v H1 => ∃ a xs, v = .ref a ∧ SqL K H1 a xs ∧ CO xs.length (fun i _ x => xs[i]? = some x) (fun H => SqL K H a xs) js g tl σ H1 Q
def tCoT (K : PySem.W.Frag) (js : List (Option Nat)) (te : TE) (g : TG) (tl : TE) : TE := fun σ H Q => te σ H fun v H1 => ∃ a xs, v = .ref a ∧ SqT K H1 a xs ∧ CO xs.length (fun i _ x => xs[i]? = some x) (fun H => SqT K H a xs) js g tl σ H1 Q
theorem PG.mo {X : Cx} {tg : Expr} {g : TG} (h : PG X tg g) : PG X tg (tMoG g) := fun pins s σ H v u Q I r ⟨Q0, h0, k⟩ =>
  thn (h pins s σ H v u Q0 I r h0) fun _ s1 ⟨σ1, H1, I1, q⟩ => ⟨σ1, H1, I1, k σ1 H1 q⟩
theorem PE.of {X : Cx} {e : Expr} {t t' : TE} (h : PE X e t') (k : ∀ σ H Q, t σ H Q → t' σ H Q) : PE X e t := fun pins s σ H Q I q => h pins s σ H Q I (k σ H Q q)
section
variable {X : Cx} {tg a elt : Expr} {te tl : TE} {g : TG} {p pos pos' : Pos} {scope : Scope} {cl : List (Str × Addr)} {Nc : List Str} {js : List (Option Nat)}
theorem coR (hm : X.mg "range" = none) (ha : PE X a te) (hp : ∀ (wi : TI), PI X tg (.Call (.Name "range" p) [a] [] pos') wi → PCo X (.ListComp elt [⟨tg, .Call (.Name "range" p) [a] [] pos', [], 0⟩] scope pos) scope (.Call (.Name "range" p) [a] [] pos') (tComp js wi (tMoG g) (tMo tl)))
    (hg : Gl X "range" := by rfl) (hs : starEach [a] X.env = [(false, eval a X.env)] := by rfl) : PCo X (.ListComp elt [⟨tg, .Call (.Name "range" p) [a] [] pos', [], 0⟩] scope pos) scope (.Call (.Name "range" p) [a] [] pos') (tCoR js te g tl) := by
  refine (hp _ (pi_rangeM hg hm ha hs)).of fun σ H Q h => ?_
  refine ⟨_, h, fun v H1 ⟨j, e, b1, b2, c⟩ => ⟨j, by rw [e], b1, b2, ?_⟩⟩
  refine CO.run (J := Itr 0 j.toNat) c (fun _ _ h _ => h) (fun _ _ => Nat.le_refl _) fun i H x H' _ _ y => ⟨y.1, ?_⟩
  rw [y.2, Int.zero_add]
end
def WH (c : TT) (tb : TS) (D : Ends) (σ : St) (H : Hp) : Prop := ∃ (Pv : St → Hp → Prop) (μ : St → Hp → Nat), Pv σ H ∧ ∀ σ H, Pv σ H → c σ H fun b H1 => if b = true then tb { D with nx := fun σ' H' => Pv σ' H' ∧ μ σ' H' < μ σ H, ct := fun σ' H' => Pv σ' H' ∧ μ σ' H' < μ σ H, bk := D.nx } σ H1 else D.nx σ H1
def tMoT (t : TT) : TT := fun σ H Q => ∃ Q0 : Bool → Hp → Prop, t σ H Q0 ∧ ∀ v H', Q0 v H' → Q v H'
theorem PT.mo {X : Cx} {e : Expr} {t : TT} (h : PT X e t) : PT X e (tMoT t) := fun pins s σ H Q I ⟨Q0, h0, k⟩ => thn (h pins s σ H Q0 I h0) fun u s1 ⟨H1, I1, q⟩ => ⟨H1, I1, k u H1 q⟩
theorem ps_wh {X : Cx} {c : Expr} {body : List Stmt} {tc : TT} {tb : TS} {pos : Pos} (hp : PassesOwn (model X.prog X.w) X.A X.env X.xe) (hc : PT X c tc) (hb : PSs X body tb) : PS X (.While c body [] pos) (WH tc tb) := by
  intro pins s σ H D I ⟨Pv, μ, h0, hs⟩
  refine ps_while hp hc.mo hb pins s σ H D I (while_by Pv μ h0 (fun σ H q => ⟨_, hs σ H q, fun _ _ z => z⟩) fun σ H Q Q' k ⟨Q0, h0, k0⟩ => ⟨Q0, h0, fun b H1 z => k b H1 (k0 b H1 z)⟩)
end L2
namespace L2
open PySem PySem.Spec PyProof.Rows
section
variable {K : PySem.W.Frag} {H : Hp} {Q : VK}
theorem isi_x {a C : Addr} {c : V} {cv : Value} {b : Bool} {dv : Option Addr} (e : H a = some (excD a (.ref C) dv)) (x : XCls K C) (hc : clsV c = some cv) (k : PySem.W.kitOne K (.ref C) cv = some b) (q : Q (.bl b) H) : rIsi K [.ref a, c] H Q := ⟨_, _, _, _, _, rfl, hc, .exc e x, k, q⟩
end
theorem gcd_step {x y : Int} (hx : 0 ≤ x) (hy : 0 < y) : Int.gcd y (x % y) = Int.gcd x y := by
  obtain ⟨m, rfl⟩ := Int.eq_ofNat_of_zero_le hx
  obtain ⟨n, rfl⟩ := Int.eq_ofNat_of_zero_le (Int.le_of_lt hy)
  rw [← Int.natCast_emod]
  show Nat.gcd n (m % n) = Nat.gcd m n
  rw [Nat.gcd_comm n, ← Nat.gcd_rec, Nat.gcd_comm]
theorem gcd_end {x : Int} (hx : 0 ≤ x) : ((Int.gcd x 0 : Nat) : Int) = x := by
  rw [Int.gcd_zero_right]
  omega
theorem sz_le (n : Nat) (h : n ≤ 1000) : n ≤ sizeLine := Nat.le_of_lt (small1000 h)
theorem same_upd {H : Hp} {p : Addr} {o : HO} (h : H p = none) : Same H (upd H p o) := fun b u e => by rw [upd_ne (ne_of_none e h)]; exact e
theorem CO.pure1 {n : Nat} {src : Nat → Hp → V → Prop} {st : Hp → Prop} {js : List (Option Nat)} {tl : TE} {σ : St} {H1 : Hp} {Q : VK} (f : Nat → V) (hn : n ≤ 1000) (hst : ∀ H, Same H1 H → st H)
    (hel : ∀ i H x (R : VK), i < n → Same H1 H → src i H x → (∀ y H3, y = f i → Same H H3 → R y H3) → tl (some x :: cσ js σ) H R)
    (hq : ∀ D H, Same H1 H → H1 D = none → H D = some (.lst ((List.range n).map f)) → Q (.ref D) H) : CO n src st (none :: js) (gName 0) tl σ H1 Q := by
  intro D hD
  refine ⟨fun i ys σc H => (∃ r, σc = r :: cσ js σ) ∧ Same H1 H ∧ H D = some (.lst ys) ∧ ys = (List.range i).map f, ⟨⟨none, rfl⟩, same_upd hD, upd_same, rfl⟩, fun i ys σc H _ h => hst H h.2.1, ?_, ?_⟩
  · rintro i ys σc H x hi ⟨⟨r, rfl⟩, sm, hd, rfl⟩ hx
    refine hel i H x _ hi sm hx fun y H3 hy s3 => ?_
    refine ⟨s3 _ _ hd, small1000 (by simp; omega), ⟨_, rfl⟩, ?_, upd_same, ?_⟩
    · intro b o z
      rw [upd_ne (ne_of_none z hD)]
      exact s3 _ _ (sm _ _ z)
    · rw [hy, List.range_succ, List.map_append]
      rfl
  · rintro ys σc H ⟨_, sm, hd, rfl⟩
    exact ⟨hd, hq D H sm hD hd⟩
theorem neD_same {K : PySem.W.Frag} {H : Hp} {x y : V} {Q : VK} (d : Dt) (h1 : Rep K H d x) (h2 : Rep K H d y) (a : 1 ≤ d.dep) (b : d.dep ≤ 60) (q : Q (.bl false) H) : rEqD K true x y H Q := ⟨d, d, h1, h2, d.sim_refl, a, b, by rw [d.eqb_refl]; exact q⟩
theorem eqD_same {K : PySem.W.Frag} {H : Hp} {x y : V} {Q : VK} (d : Dt) (h1 : Rep K H d x) (h2 : Rep K H d y) (a : 1 ≤ d.dep) (b : d.dep ≤ 60) (q : Q (.bl true) H) : rEqD K false x y H Q := ⟨d, d, h1, h2, d.sim_refl, a, b, by rw [d.eqb_refl]; exact q⟩
theorem reps_bl {K : PySem.W.Frag} {H : Hp} : ∀ bs : List Bool, Reps K H (bs.map Dt.bl) (bs.map V.bl)
  | [] => by simp [Reps]
  | b :: bs => by
    simp only [List.map_cons, Reps]
    exact ⟨_, _, rfl, by simp only [Rep], reps_bl bs⟩
theorem deps_bl : ∀ bs : List Bool, Dt.deps (bs.map Dt.bl) = 0
  | [] => rfl
  | b :: bs => by rw [List.map_cons, Dt.deps, deps_bl bs]; rfl
theorem neD_bools {K : PySem.W.Frag} {H : Hp} {l l' : Addr} {bs : List Bool} {Q : VK} (h1 : H l = some (.lst (bs.map V.bl))) (h2 : H l' = some (.lst (bs.map V.bl))) (q : Q (.bl false) H) : rEqD K true (.ref l) (.ref l') H Q := by
  refine neD_same (.lst (bs.map Dt.bl)) ?_ ?_ ?_ ?_ q
  · simp only [Rep]; exact ⟨l, _, rfl, SqL.of h1, reps_bl bs⟩
  · simp only [Rep]; exact ⟨l', _, rfl, SqL.of h2, reps_bl bs⟩
  · rw [Dt.dep]; omega
  · rw [Dt.dep, deps_bl]; decide
theorem gcd_abs (a b : Int) : Int.gcd (if a < 0 then -a else a) (if b < 0 then -b else b) = Int.gcd a b := by
  split <;> split <;> simp
end L2
namespace Mt
structure Red (t b u v : Int) : Prop where
  pos : 1 ≤ v
  low : Int.gcd u v = 1
  eq : u * b = t * v
  ut : u.natAbs ≤ t.natAbs
  vb : v.natAbs ≤ b.natAbs
theorem red_mk {t b g u v : Int} (hg : g ≠ 0) (ht : t = g * u) (hb : b = g * v) (hv : 0 < v) (hc : Int.gcd u v = 1) : Red t b u v := by
  have h1 : 1 ≤ g.natAbs := by omega
  refine ⟨hv, hc, ?_, ?_, ?_⟩
  · rw [hb, ht, ← Int.mul_assoc, Int.mul_comm u g]
  · rw [ht, Int.natAbs_mul]
    exact Nat.le_mul_of_pos_left _ h1
  · rw [hb, Int.natAbs_mul]
    exact Nat.le_mul_of_pos_left _ h1
theorem gcd_parts {t b : Int} (hb : b ≠ 0) : ∃ u v : Int, t = (Int.gcd t b : Nat) * u ∧ b = (Int.gcd t b : Nat) * v ∧ Int.gcd u v = 1 ∧ 0 < Int.gcd t b := by
  have hp : 0 < Int.gcd t b := Int.gcd_pos_of_ne_zero_right t hb
  refine ⟨t / (Int.gcd t b : Nat), b / (Int.gcd t b : Nat), ?_, ?_, Int.gcd_ediv_gcd_ediv_gcd hp, hp⟩
  · exact (Int.mul_ediv_cancel' (Int.gcd_dvd_left t b)).symm
  · exact (Int.mul_ediv_cancel' (Int.gcd_dvd_right t b)).symm
theorem fdiv_part {x g u : Int} (hg : g ≠ 0) (h : x = g * u) : x.fdiv g = u := by rw [h, Int.mul_fdiv_cancel_left _ hg]
theorem red_pos {t b : Int} (hb : 0 < b) : Red t b (t.fdiv (Int.gcd t b : Nat)) (b.fdiv (Int.gcd t b : Nat)) := by
  obtain ⟨u, v, h1, h2, hc, hp⟩ := gcd_parts (t := t) (show b ≠ 0 by omega)
  have hg : ((Int.gcd t b : Nat) : Int) ≠ 0 := by omega
  rw [fdiv_part hg h1, fdiv_part hg h2]
  refine red_mk hg h1 h2 ?_ hc
  have hn : (0 : Int) < (Int.gcd t b : Nat) := by omega
  rcases Int.lt_trichotomy v 0 with z | z | z
  · have := Int.mul_neg_of_pos_of_neg hn z
    omega
  · rw [z, Int.mul_zero] at h2; omega
  · exact z
theorem gcd_le {t b : Int} (hb : b ≠ 0) : (Int.gcd t b) ≤ b.natAbs := by
  have h : (Int.gcd t b) ∣ b.natAbs := Nat.gcd_dvd_right _ _
  exact Nat.le_of_dvd (by omega) h
end Mt
namespace Mt
structure Fr (t b : Int) : Prop where
  pos : 1 ≤ b
  low : Int.gcd t b = 1
structure Is (t b u v : Int) : Prop where
  fr : Fr u v
  eq : u * b = t * v
theorem cop {a b : Int} : Int.gcd a b = 1 ↔ Nat.Coprime a.natAbs b.natAbs := Iff.rfl
theorem parts {t b : Int} (hb : b ≠ 0) : ∃ u v g : Int, g = (Int.gcd t b : Nat) ∧ 0 < g ∧ t = g * u ∧ b = g * v ∧ Int.gcd u v = 1 ∧ t.fdiv g = u ∧ b.fdiv g = v := by
  obtain ⟨u, v, h1, h2, hc, hp⟩ := gcd_parts (t := t) hb
  have hg : ((Int.gcd t b : Nat) : Int) ≠ 0 := by omega
  exact ⟨u, v, _, rfl, by omega, h1, h2, hc, fdiv_part hg h1, fdiv_part hg h2⟩
theorem Red.is {t b u v : Int} (h : Red t b u v) : Is t b u v := ⟨⟨h.pos, h.low⟩, h.eq⟩
end Mt
namespace Mt
theorem Is.rat {t b u v : Int} (h : Is t b u v) (hb : b ≠ 0) : u = (Rat.divInt t b).num ∧ v = ((Rat.divInt t b).den : Int) := by
  have hv := h.fr.pos
  have hn : v.toNat ≠ 0 := by omega
  have hc : (v.toNat : Int) = v := Int.toNat_of_nonneg (by omega)
  have hco : u.natAbs.Coprime v.toNat := by
    have := h.fr.low
    have e : v.natAbs = v.toNat := by omega
    rw [cop, e] at this
    exact this
  have e1 := Rat.num_divInt_den ⟨u, v.toNat, hn, hco⟩
  dsimp only at e1
  rw [hc] at e1
  have e2 : Rat.divInt t b = Rat.divInt u v := (Rat.divInt_eq_divInt_iff hb (by omega)).mpr (by rw [h.eq])
  rw [e2, e1]
  exact ⟨rfl, hc.symm⟩
theorem Is.dvd {t b u v : Int} (h : Is t b u v) : v ∣ b ∧ u ∣ t := by
  have e := h.eq
  have c : Nat.Coprime u.natAbs v.natAbs := h.fr.low
  constructor
  · have d : v.natAbs ∣ u.natAbs * b.natAbs := by
      rw [← Int.natAbs_mul, e, Int.natAbs_mul]
      exact Nat.dvd_mul_left _ _
    exact Int.natAbs_dvd_natAbs.mp (c.symm.dvd_of_dvd_mul_left d)
  · have d : u.natAbs ∣ v.natAbs * t.natAbs := by
      rw [← Int.natAbs_mul, Int.mul_comm, ← e, Int.natAbs_mul]
      exact Nat.dvd_mul_right _ _
    exact Int.natAbs_dvd_natAbs.mp (c.dvd_of_dvd_mul_left d)
theorem fr_rat (a : Rat) : Fr a.num a.den := ⟨by have := a.den_nz; omega, by rw [cop]; exact a.reduced⟩
theorem den_ne (a : Rat) : (a.den : Int) ≠ 0 := by have := a.den_nz; omega
theorem rat_add (a b : Rat) : Rat.divInt (a.num * b.den + b.num * a.den) (a.den * b.den) = a + b := by
  rw [← Rat.divInt_add_divInt _ _ (den_ne a) (den_ne b), Rat.num_divInt_den, Rat.num_divInt_den]
theorem rat_mul (a b : Rat) : Rat.divInt (a.num * b.num) (a.den * b.den) = a * b := by
  rw [← Rat.divInt_mul_divInt, Rat.num_divInt_den, Rat.num_divInt_den]
theorem rat_is (t : Int) {b : Int} (hb : b ≠ 0) : (Rat.divInt t b).num * b = t * (Rat.divInt t b).den := by
  have h := Rat.num_divInt_den (Rat.divInt t b)
  exact ((Rat.divInt_eq_divInt_iff (den_ne _) hb).mp h)
theorem rat_isI (t : Int) {b : Int} (hb : b ≠ 0) : Is t b (Rat.divInt t b).num (Rat.divInt t b).den := ⟨fr_rat _, rat_is t hb⟩
theorem rat_le (t : Int) {b : Int} (hb : b ≠ 0) : (Rat.divInt t b).num.natAbs ≤ t.natAbs ∧ ((Rat.divInt t b).den : Int).natAbs ≤ b.natAbs := by
  obtain ⟨d1, d2⟩ := (rat_isI t hb).dvd
  refine ⟨?_, Nat.le_of_dvd (by omega) (Int.natAbs_dvd_natAbs.mpr d1)⟩
  by_cases ht : t = 0
  · have e := rat_is t hb
    rw [ht, Int.zero_mul] at e
    rcases Int.mul_eq_zero.mp e with z | z
    · rw [ht, z]; exact Nat.le_refl _
    · exact absurd z hb
  · exact Nat.le_of_dvd (by omega) (Int.natAbs_dvd_natAbs.mpr d2)
def Lat (D N : Nat) (q : Rat) : Prop := ∃ m : Int, q * ((D : Int) : Rat) = m ∧ m.natAbs ≤ N
theorem Lat.dvd {D N : Nat} {q : Rat} (h : Lat D N q) (hD : D ≠ 0) : q.den ∣ D ∧ q.num.natAbs ≤ N := by
  obtain ⟨m, e, hm⟩ := h
  have e2 : q = Rat.divInt m D := by
    rw [Rat.divInt_eq_div, ← e]
    have : ((D : Int) : Rat) ≠ 0 := by
      have : (D : Int) ≠ 0 := by omega
      exact fun z => this (Rat.intCast_inj.mp z)
    grind
  have hd : (D : Int) ≠ 0 := by omega
  have l := rat_le m hd
  have d := (rat_isI m hd).dvd.1
  rw [← e2] at l d
  exact ⟨Int.natCast_dvd_natCast.mp d, Nat.le_trans l.1 hm⟩
theorem Lat.le {D N : Nat} {q : Rat} (h : Lat D N q) (hD : D ≠ 0) : q.den ≤ D := Nat.le_of_dvd (by omega) (h.dvd hD).1
theorem Lat.add {D M N : Nat} {a b : Rat} (h : Lat D M a) (k : Lat D N b) : Lat D (M + N) (a + b) := by
  obtain ⟨m, e, hm⟩ := h
  obtain ⟨n, f, hn⟩ := k
  exact ⟨m + n, by rw [Rat.add_mul, e, f, Rat.intCast_add], by omega⟩
theorem Lat.neg {D M : Nat} {a : Rat} (h : Lat D M a) : Lat D M (-a) := by
  obtain ⟨m, e, hm⟩ := h
  exact ⟨-m, by rw [Rat.neg_mul, e, Rat.intCast_neg], by omega⟩
theorem Lat.mul {D E M N : Nat} {a b : Rat} (h : Lat D M a) (k : Lat E N b) : Lat (D * E) (M * N) (a * b) := by
  obtain ⟨m, e, hm⟩ := h
  obtain ⟨n, f, hn⟩ := k
  refine ⟨m * n, ?_, by rw [Int.natAbs_mul]; exact Nat.mul_le_mul hm hn⟩
  rw [Rat.intCast_mul, ← e, ← f, Int.natCast_mul, Rat.intCast_mul]
  grind
theorem Lat.mono {D M N : Nat} {a : Rat} (h : Lat D M a) (k : M ≤ N) : Lat D N a := by
  obtain ⟨m, e, hm⟩ := h
  exact ⟨m, e, Nat.le_trans hm k⟩
theorem Lat.zero {D N : Nat} : Lat D N 0 := ⟨0, by rw [Rat.zero_mul]; rfl, Nat.zero_le _⟩
theorem Lat.of (q : Rat) : Lat q.den q.num.natAbs q := ⟨q.num, by
  have e := Rat.num_divInt_den q
  rw [Rat.divInt_eq_div] at e
  have : ((q.den : Int) : Rat) ≠ 0 := fun z => den_ne q (Rat.intCast_inj.mp z)
  generalize ((q.den : Int) : Rat) = d at *
  generalize (q.num : Rat) = n at *
  grind, Nat.le_refl _⟩
theorem Lat.up {D E M : Nat} {a : Rat} (h : Lat D M a) : Lat (D * E) (M * E) a := by
  obtain ⟨m, e, hm⟩ := h
  refine ⟨m * E, ?_, by rw [Int.natAbs_mul]; exact Nat.mul_le_mul hm (Nat.le_refl _)⟩
  rw [Rat.intCast_mul, ← e, Int.natCast_mul, Rat.intCast_mul, Rat.mul_assoc]
theorem low_pos {t b : Int} (h : 0 < b) : t.fdiv (Int.gcd t b : Nat) = (Rat.divInt t b).num ∧ b.fdiv (Int.gcd t b : Nat) = ((Rat.divInt t b).den : Int) := (red_pos h).is.rat (by omega)
theorem add_le (a b : Rat) : (a + b).num.natAbs ≤ (a.num * b.den + b.num * a.den).natAbs ∧ ((a + b).den : Int).natAbs ≤ ((a.den : Int) * b.den).natAbs := by
  rw [← rat_add]; exact rat_le _ (Int.mul_ne_zero (den_ne a) (den_ne b))
theorem mul_le (a b : Rat) : (a * b).num.natAbs ≤ (a.num * b.num).natAbs ∧ ((a * b).den : Int).natAbs ≤ ((a.den : Int) * b.den).natAbs := by
  rw [← rat_mul]; exact rat_le _ (Int.mul_ne_zero (den_ne a) (den_ne b))
end Mt
namespace L2
open PySem PySem.Spec PyProof.Rows
theorem Same.seqT {K : PySem.W.Frag} {H H' : Hp} {a : Addr} {xs : List V} (e : Same H H') (h : SqT K H a xs) : SqT K H' a xs := by
  rcases h with (h | ⟨o, h⟩) | h
  · exact .inl (.inl (e _ _ h))
  · exact .inl (.inr ⟨o, e _ _ h⟩)
  · exact .inr h
def frO (q : Rat) : HO := .tup [.int q.num, .int (q.den : Int)]
def Fq (K : PySem.W.Frag) (H : Hp) (p : Addr) (q : Rat) : Prop := SqT K H p [.int q.num, .int (q.den : Int)]
theorem Fq.of {K : PySem.W.Frag} {H : Hp} {p : Addr} {q : Rat} (h : H p = some (frO q)) : Fq K H p q := SqT.of h
theorem Fq.same {K : PySem.W.Frag} {H H' : Hp} {p : Addr} {q : Rat} (h : Fq K H p q) (e : Same H H') : Fq K H' p q := e.seqT h
def rFqI (K : PySem.W.Frag) : R2 := fun x y H Q => ∃ p a, x = .ref p ∧ Fq K H p a ∧ ((y = .int 0 ∧ Q (.int a.num) H) ∨ (y = .int 1 ∧ Q (.int (a.den : Int)) H))
theorem frO_int (n : Int) : frO (n : Rat) = .tup [.int n, .int 1] := by simp [frO]
structure Sz (n : Nat) (q : Rat) : Prop where
  t : Bd n q.num
  b : Bd n (q.den : Int)
theorem Sz.mono {m n : Nat} {q : Rat} (h : Sz m q) (l : m ≤ n) : Sz n q := ⟨h.t.mono l, h.b.mono l⟩
theorem Sz.low {n : Nat} {t b : Int} (hb : b ≠ 0) (h1 : Bd n t) (h2 : Bd n b) : Sz n (Rat.divInt t b) := ⟨h1.le (Mt.rat_le t hb).1, h2.le (Mt.rat_le t hb).2⟩
theorem Sz.int {n : Nat} {t : Int} (h : Bd n t) (h1 : 1 ≤ n) : Sz n (t : Rat) := ⟨by simpa using h, by simp; exact Bd.mono (m := 1) (by show (_ : Nat) < _; decide) h1⟩
theorem Sz.add {m n : Nat} {a b : Rat} (ha : Sz m a) (hb : Sz n b) : Sz (m + n + 1) (a + b) := by
  refine ⟨?_, ?_⟩
  · refine Bd.le ?_ (Mt.add_le a b).1
    have h1 := ha.t.mul hb.b
    have h2 := hb.t.mul ha.b
    rw [Nat.add_comm n m] at h2
    exact h1.add h2
  · refine Bd.le ?_ (Mt.add_le a b).2
    exact (ha.b.mul hb.b).mono (by omega)
theorem Sz.mul {m n : Nat} {a b : Rat} (ha : Sz m a) (hb : Sz n b) : Sz (m + n) (a * b) :=
  ⟨Bd.le (ha.t.mul hb.t) (Mt.mul_le a b).1, Bd.le (ha.b.mul hb.b) (Mt.mul_le a b).2⟩
theorem Sz.neg {n : Nat} {a : Rat} (h : Sz n a) : Sz n (-a) := ⟨by rw [Rat.neg_num]; exact h.t.neg, by rw [Rat.neg_den]; exact h.b⟩
theorem Sz.sub {m n : Nat} {a b : Rat} (ha : Sz m a) (hb : Sz n b) : Sz (m + n + 1) (a - b) := by rw [Rat.sub_eq_add_neg]; exact ha.add hb.neg
theorem Bd.dv {i j : Int} {n : Nat} (h : Bd n j) (z : j ≠ 0) (l : n ≤ 9000 := by decide) : CDivB i j := ⟨z, h.mono l⟩
theorem Bd.mu {i j : Int} {m n : Nat} (h : Bd m i) (k : Bd n j) (l : m ≤ 100000 := by decide) (l' : n ≤ 100000 := by decide) : CMulB i j := ⟨h.mono l, k.mono l'⟩
theorem tSeq_step {t u : TS} {D : Ends} {σ : St} {H : Hp} (h : ∀ N : St → Hp → Prop, (∀ σ H, u D σ H → N σ H) → t { D with nx := N } σ H) : tSeq t u D σ H := h (u D) fun _ _ z => z
end L2
namespace Mt
def cf (l : List Rat) (n : Nat) : Rat := l.getD n 0
def trim : List Rat → List Rat
  | [] => []
  | a :: l => if trim l = [] ∧ a = 0 then [] else a :: trim l
def NZ (l : List Rat) : Prop := l = [] ∨ cf l (l.length - 1) ≠ 0
theorem cf_nil (n : Nat) : cf [] n = 0 := by simp [cf]
theorem cf_zero (a : Rat) (l : List Rat) : cf (a :: l) 0 = a := by simp [cf]
theorem cf_succ (a : Rat) (l : List Rat) (n : Nat) : cf (a :: l) (n + 1) = cf l n := by simp [cf]
theorem cf_ge {l : List Rat} {n : Nat} (h : l.length ≤ n) : cf l n = 0 := by simp [cf, List.getD, List.getElem?_eq_none h]
theorem cf_at {l : List Rat} {n : Nat} {x : Rat} (h : l[n]? = some x) : cf l n = x := by simp [cf, List.getD, h]
theorem cf_lt {l : List Rat} {n : Nat} (h : n < l.length) : l[n]? = some (cf l n) := by simp [cf, List.getD, h]
theorem cf_trim : ∀ (l : List Rat) (n : Nat), cf (trim l) n = cf l n
  | [], n => rfl
  | a :: l, n => by
    rw [trim]
    split
    · rename_i h
      cases n with
      | zero => rw [cf_zero, cf_nil, h.2]
      | succ n => rw [cf_succ, cf_nil, ← cf_trim l n, h.1, cf_nil]
    · cases n with
      | zero => rw [cf_zero, cf_zero]
      | succ n => rw [cf_succ, cf_succ, cf_trim l n]
theorem NZ.cons {a : Rat} {l : List Rat} (h : NZ l) (k : ¬ (l = [] ∧ a = 0)) : NZ (a :: l) := by
  right
  rcases h with h | h
  · subst h
    simp only [List.length_cons, List.length_nil, Nat.zero_add, Nat.sub_self, cf_zero]
    intro z; exact k ⟨rfl, z⟩
  · cases l with
    | nil => exact absurd (cf_nil _) h
    | cons b r =>
      simp only [List.length_cons, Nat.add_sub_cancel] at *
      rw [cf_succ]; exact h
theorem NZ.len {l m : List Rat} (hl : NZ l) (h : ∀ n, cf l n = cf m n) : l.length ≤ m.length := by
  rcases hl with rfl | hl
  · exact Nat.zero_le _
  · rcases Nat.lt_or_ge m.length l.length with z | z
    · rw [h, cf_ge (by omega)] at hl
      exact absurd rfl hl
    · exact z
theorem NZ.ext {l m : List Rat} (hl : NZ l) (hm : NZ m) (h : ∀ n, cf l n = cf m n) : l = m := by
  have e : l.length = m.length := Nat.le_antisymm (hl.len h) (hm.len fun n => (h n).symm)
  refine List.ext_getElem? fun i => ?_
  rcases Nat.lt_or_ge i l.length with z | z
  · rw [cf_lt z, cf_lt (l := m) (by omega), h]
  · rw [List.getElem?_eq_none z, List.getElem?_eq_none (by omega)]
theorem cf_take {l : List Rat} {k n : Nat} : cf (l.take k) n = if n < k then cf l n else 0 := by
  split
  · rename_i h; simp [cf, List.getD, List.getElem?_take, h]
  · rename_i h; simp [cf, List.getD, List.getElem?_take, h]
def addL (f g : List Rat) : List Rat := (List.range (max f.length g.length)).map fun n => cf f n + cf g n
theorem cf_map_range (m : Nat) (F : Nat → Rat) (n : Nat) : cf ((List.range m).map F) n = if n < m then F n else 0 := by
  split
  · rename_i h; simp [cf, List.getD, h]
  · rename_i h; exact cf_ge (by simp; omega)
theorem cf_addL (f g : List Rat) (n : Nat) : cf (addL f g) n = cf f n + cf g n := by
  rw [addL, cf_map_range]
  split
  · rfl
  · rename_i h; rw [cf_ge (l := f) (by omega), cf_ge (l := g) (by omega)]; grind
def padd (f g : List Rat) : List Rat := trim (addL f g)
def pscale (f : List Rat) (a : Rat) : List Rat := trim (f.map (· * a))
def psub (f g : List Rat) : List Rat := padd f (pscale g (-1))
theorem cf_padd (f g : List Rat) (n : Nat) : cf (padd f g) n = cf f n + cf g n := by rw [padd, cf_trim, cf_addL]
end Mt
namespace Mt
def mc : List Rat → List Rat → Nat → Rat
  | [], _, _ => 0
  | a :: _, g, 0 => a * cf g 0
  | a :: f, g, n + 1 => a * cf g (n + 1) + mc f g n
theorem mc_nil_left (g : List Rat) (n : Nat) : mc [] g n = 0 := by cases n <;> rfl
def addAt (l : List Rat) (k : Nat) (x : Rat) : List Rat := l.set k (cf l k + x)
def rowIn (l : List Rat) (i : Nat) (a : Rat) (g : List Rat) (j : Nat) : List Rat := (List.range j).foldl (fun l j => addAt l (i + j) (a * cf g j)) l
def prodIn (f g : List Rat) (i : Nat) : List Rat := (List.range i).foldl (fun l i => rowIn l i (cf f i) g g.length) (List.replicate (f.length + g.length) 0)
theorem rowIn_zero (l : List Rat) (i : Nat) (a : Rat) (g : List Rat) : rowIn l i a g 0 = l := rfl
theorem rowIn_succ (l : List Rat) (i : Nat) (a : Rat) (g : List Rat) (j : Nat) : rowIn l i a g (j + 1) = addAt (rowIn l i a g j) (i + j) (a * cf g j) := by simp [rowIn, List.range_succ]
theorem prodIn_zero (f g : List Rat) : prodIn f g 0 = List.replicate (f.length + g.length) 0 := rfl
theorem prodIn_succ (f g : List Rat) (i : Nat) : prodIn f g (i + 1) = rowIn (prodIn f g i) i (cf f i) g g.length := by simp [prodIn, List.range_succ]
theorem addAt_len (l : List Rat) (k : Nat) (x : Rat) : (addAt l k x).length = l.length := by simp [addAt]
theorem rowIn_len (l : List Rat) (i : Nat) (a : Rat) (g : List Rat) : ∀ j, (rowIn l i a g j).length = l.length
  | 0 => rfl
  | j + 1 => by rw [rowIn_succ, addAt_len, rowIn_len l i a g j]
theorem prodIn_len (f g : List Rat) : ∀ i, (prodIn f g i).length = f.length + g.length
  | 0 => by simp [prodIn_zero]
  | i + 1 => by rw [prodIn_succ, rowIn_len, prodIn_len f g i]
theorem cf_addAt {l : List Rat} {k : Nat} (h : k < l.length) (x : Rat) (n : Nat) : cf (addAt l k x) n = if n = k then cf l n + x else cf l n := by
  split
  · rename_i e; subst e
    exact cf_at (by simp [addAt, h])
  · rename_i e
    simp only [cf, addAt, List.getD]
    rw [List.getElem?_set_ne (by omega)]
theorem cf_rowIn {l : List Rat} {i : Nat} (a : Rat) (g : List Rat) (n : Nat) : ∀ j, i + j ≤ l.length → cf (rowIn l i a g j) n = cf l n + (if i ≤ n ∧ n < i + j then a * cf g (n - i) else 0)
  | 0, _ => by rw [rowIn_zero, if_neg (by omega)]; grind
  | j + 1, h => by
    rw [rowIn_succ, cf_addAt (by rw [rowIn_len]; omega), cf_rowIn a g n j (by omega)]
    by_cases e : n = i + j
    · rw [if_pos e, if_neg (by omega), if_pos (by omega), show n - i = j by omega]; grind
    · rw [if_neg e]
      by_cases e2 : i ≤ n ∧ n < i + j
      · rw [if_pos e2, if_pos (by omega)]
      · rw [if_neg e2, if_neg (by omega)]
theorem cf_replicate (m n : Nat) : cf (List.replicate m 0) n = 0 := by
  rcases Nat.lt_or_ge n m with z | z
  · exact cf_at (by simp [z])
  · exact cf_ge (by simpa using z)
theorem mc_take_succ : ∀ (f g : List Rat) (i n : Nat), i < f.length → mc (f.take (i + 1)) g n = mc (f.take i) g n + (if i ≤ n then cf f i * cf g (n - i) else 0)
  | [], g, i, n, h => by simp at h
  | a :: f, g, 0, n, h => by
    rw [List.take_succ_cons, List.take_zero, List.take_zero, mc_nil_left, if_pos (by omega), cf_zero]
    cases n with
    | zero => simp only [mc, Nat.sub_self]; grind
    | succ n => simp only [mc, mc_nil_left, Nat.sub_zero]; grind
  | a :: f, g, i + 1, 0, h => by
    rw [List.take_succ_cons, List.take_succ_cons, mc, mc, if_neg (by omega)]; grind
  | a :: f, g, i + 1, n + 1, h => by
    simp only [List.length_cons] at h
    rw [List.take_succ_cons, List.take_succ_cons, mc, mc, mc_take_succ f g i n (by omega), cf_succ]
    by_cases e : i ≤ n
    · rw [if_pos e, if_pos (by omega), show n + 1 - (i + 1) = n - i by omega]; grind
    · rw [if_neg e, if_neg (by omega)]; grind
theorem cf_prodIn (f g : List Rat) (n : Nat) : ∀ i, i ≤ f.length → cf (prodIn f g i) n = mc (f.take i) g n
  | 0, _ => by rw [prodIn_zero, cf_replicate, List.take_zero, mc_nil_left]
  | i + 1, h => by
    rw [prodIn_succ, cf_rowIn _ _ _ _ (by rw [prodIn_len]; omega), cf_prodIn f g n i (by omega), mc_take_succ f g i n (by omega)]
    congr 1
    by_cases e : i ≤ n ∧ n < i + g.length
    · rw [if_pos e, if_pos e.1]
    · rw [if_neg e]
      split
      · rw [cf_ge (l := g) (by omega)]; grind
      · rfl
def pmul (f g : List Rat) : List Rat := trim (prodIn f g f.length)
theorem cf_pmul (f g : List Rat) (n : Nat) : cf (pmul f g) n = mc f g n := by rw [pmul, cf_trim, cf_prodIn f g n _ (Nat.le_refl _), List.take_length]
end Mt
namespace HT
open PySem PyProof.Rows
section
variable {prog : Program} {w : World} {A : Around} {E : Value → Shared → Prop} {s : Shared}
end
end HT
namespace L2
open PySem PySem.Spec PyProof.Rows
mutual
theorem Rep.same {K : PySem.W.Frag} {H H' : Hp} (e : Same H H') : ∀ (d : Dt) (v : V), Rep K H d v → Rep K H' d v := by
  intro d v h
  match d with
  | .non => simp only [Rep] at *; exact h
  | .bl _ => simp only [Rep] at *; exact h
  | .int _ => simp only [Rep] at *; exact h
  | .str _ => simp only [Rep] at *; exact h
  | .tup l => simp only [Rep] at *; obtain ⟨a, xs, rfl, s, r⟩ := h; exact ⟨a, xs, rfl, e.seqT s, Reps.same e l xs r⟩
  | .lst l => simp only [Rep] at *; obtain ⟨a, xs, rfl, s, r⟩ := h; exact ⟨a, xs, rfl, e.seq s, Reps.same e l xs r⟩
theorem Reps.same {K : PySem.W.Frag} {H H' : Hp} (e : Same H H') : ∀ (l : List Dt) (xs : List V), Reps K H l xs → Reps K H' l xs := by
  intro l xs h
  match l with
  | [] => simp only [Reps] at *; exact h
  | d :: l => simp only [Reps] at *; obtain ⟨x, r, rfl, h1, h2⟩ := h; exact ⟨x, r, rfl, Rep.same e d x h1, Reps.same e l r h2⟩
end
def frD (q : Rat) : Dt := .tup [.int q.num, .int (q.den : Int)]
def polyD (f : List Rat) : Dt := .tup (f.map frD)
def lstD (f : List Rat) : Dt := .lst (f.map frD)
theorem rep_fr {K : PySem.W.Frag} {H : Hp} {p : Addr} {q : Rat} (h : Fq K H p q) : Rep K H (frD q) (.ref p) := by
  simp only [frD, Rep, Reps]
  exact ⟨p, _, rfl, h, _, _, rfl, rfl, _, _, rfl, rfl, rfl⟩
theorem rep_fr' {K : PySem.W.Frag} {H : Hp} {v : V} {q : Rat} (h : Rep K H (frD q) v) : ∃ p, v = .ref p ∧ Fq K H p q := by
  simp only [frD, Rep, Reps] at h
  obtain ⟨p, xs, rfl, s, x, r, rfl, rfl, y, r2, rfl, rfl, rfl⟩ := h
  exact ⟨p, rfl, s⟩
theorem frD_dep (a : Rat) : (frD a).dep = 1 := by simp [frD, Dt.dep, Dt.deps]
theorem frDs_dep : ∀ f : List Rat, Dt.deps (f.map frD) ≤ 1
  | [] => by simp [Dt.deps]
  | a :: f => by rw [List.map_cons, Dt.deps, frD_dep]; exact Nat.max_le.mpr ⟨Nat.le_refl _, frDs_dep f⟩
section
variable {K : PySem.W.Frag} {H : Hp} {x y : V} {Q : VK}
end
def Frs (K : PySem.W.Frag) (H : Hp) (f : List Rat) (xs : List V) : Prop := Reps K H (f.map frD) xs
theorem SqT.updL {K : PySem.W.Frag} {H : Hp} {D p : Addr} {ys xs : List V} {o : HO} (hD : H D = some (.lst ys)) (h : SqT K H p xs) : SqT K (upd H D o) p xs := by
  rcases h with (h | ⟨u, h⟩) | h
  · exact .inl (.inl (by rw [upd_ne (by rintro rfl; rw [hD] at h; cases h)]; exact h))
  · exact .inl (.inr ⟨u, by rw [upd_ne (by rintro rfl; rw [hD] at h; cases h)]; exact h⟩)
  · exact .inr h
theorem Frs.same {K : PySem.W.Frag} {H H' : Hp} {f : List Rat} {xs : List V} (h : Frs K H f xs) (e : Same H H') : Frs K H' f xs := Reps.same e _ _ h
theorem Frs.nil {K : PySem.W.Frag} {H : Hp} : Frs K H [] [] := by simp [Frs, Reps]
theorem Frs.cons {K : PySem.W.Frag} {H : Hp} {q : Rat} {f : List Rat} {p : Addr} {xs : List V} (h : Fq K H p q) (k : Frs K H f xs) : Frs K H (q :: f) (.ref p :: xs) := by
  simp only [Frs, List.map_cons, Reps]
  exact ⟨_, _, rfl, rep_fr h, k⟩
theorem Frs.uncons {K : PySem.W.Frag} {H : Hp} {q : Rat} {f : List Rat} {xs : List V} (h : Frs K H (q :: f) xs) : ∃ p ys, xs = .ref p :: ys ∧ Fq K H p q ∧ Frs K H f ys := by
  simp only [Frs, List.map_cons, Reps] at h
  obtain ⟨x, r, rfl, h1, h2⟩ := h
  obtain ⟨p, rfl, h3⟩ := rep_fr' h1
  exact ⟨p, r, rfl, h3, h2⟩
theorem Frs.len {K : PySem.W.Frag} {H : Hp} {f : List Rat} {xs : List V} (h : Frs K H f xs) : f.length = xs.length := by
  have := Reps.len h
  simpa using this
theorem Frs.at {K : PySem.W.Frag} {H : Hp} {f : List Rat} {xs : List V} (h : Frs K H f xs) {j : Nat} (hj : j < f.length) : ∃ p, xs[j]? = some (.ref p) ∧ Fq K H p (Mt.cf f j) := by
  obtain ⟨x, e, r⟩ := Reps.at (d := frD (Mt.cf f j)) h (by rw [List.getElem?_map, Mt.cf_lt hj]; rfl)
  obtain ⟨p, rfl, q⟩ := rep_fr' r
  exact ⟨p, e, q⟩
theorem Frs.snoc {K : PySem.W.Frag} {H : Hp} {q : Rat} {p : Addr} : ∀ {f : List Rat} {xs : List V}, Frs K H f xs → Fq K H p q → Frs K H (f ++ [q]) (xs ++ [.ref p])
  | [], xs, h, k => by
    have e : xs = [] := by simpa [Frs, Reps] using h
    subst e
    exact Frs.cons k Frs.nil
  | a :: f, xs, h, k => by
    obtain ⟨r, ys, rfl, h1, h2⟩ := h.uncons
    exact Frs.cons h1 (Frs.snoc h2 k)
theorem Frs.updL {K : PySem.W.Frag} {H : Hp} {D : Addr} {ys : List V} {o : HO} (hD : H D = some (.lst ys)) : ∀ {f : List Rat} {xs : List V}, Frs K H f xs → Frs K (upd H D o) f xs
  | [], xs, h => by
    have e : xs = [] := by simpa [Frs, Reps] using h
    subst e
    exact Frs.nil
  | a :: f, xs, h => by
    obtain ⟨r, zs, rfl, h1, h2⟩ := h.uncons
    exact Frs.cons (SqT.updL hD h1) (Frs.updL hD h2)
theorem Frs.take {K : PySem.W.Frag} {H : Hp} : ∀ {f : List Rat} {xs : List V} (k : Nat), Frs K H f xs → Frs K H (f.take k) (xs.take k)
  | [], xs, k, h => by
    have e : xs = [] := by simpa [Frs, Reps] using h
    subst e
    simp only [List.take_nil]; exact Frs.nil
  | a :: f, xs, 0, h => by simp only [List.take_zero]; exact Frs.nil
  | a :: f, xs, k + 1, h => by
    obtain ⟨r, zs, rfl, h1, h2⟩ := h.uncons
    simp only [List.take_succ_cons]
    exact Frs.cons h1 (Frs.take k h2)
theorem Frs.drop {K : PySem.W.Frag} {H : Hp} : ∀ {f : List Rat} {xs : List V} (k : Nat), Frs K H f xs → Frs K H (f.drop k) (xs.drop k)
  | [], xs, k, h => by
    have e : xs = [] := by simpa [Frs, Reps] using h
    subst e
    simp only [List.drop_nil]; exact Frs.nil
  | a :: f, xs, 0, h => h
  | a :: f, xs, k + 1, h => by
    obtain ⟨r, zs, rfl, h1, h2⟩ := h.uncons
    simp only [List.drop_succ_cons]
    exact Frs.drop k h2
theorem Frs.append {K : PySem.W.Frag} {H : Hp} : ∀ {f g : List Rat} {xs ys : List V}, Frs K H f xs → Frs K H g ys → Frs K H (f ++ g) (xs ++ ys)
  | [], g, xs, ys, h, k => by
    have e : xs = [] := by simpa [Frs, Reps] using h
    subst e
    exact k
  | a :: f, g, xs, ys, h, k => by
    obtain ⟨r, zs, rfl, h1, h2⟩ := h.uncons
    exact Frs.cons h1 (Frs.append h2 k)
theorem Frs.set {K : PySem.W.Frag} {H : Hp} {q : Rat} {p : Addr} : ∀ {f : List Rat} {xs : List V} (k : Nat), Frs K H f xs → Fq K H p q → Frs K H (f.set k q) (xs.set k (.ref p))
  | [], xs, k, h, _ => by
    have e : xs = [] := by simpa [Frs, Reps] using h
    subst e
    exact Frs.nil
  | a :: f, xs, 0, h, z => by
    obtain ⟨r, zs, rfl, h1, h2⟩ := h.uncons
    exact Frs.cons z h2
  | a :: f, xs, k + 1, h, z => by
    obtain ⟨r, zs, rfl, h1, h2⟩ := h.uncons
    exact Frs.cons h1 (Frs.set k h2 z)
theorem Frs.replicate {K : PySem.W.Frag} {H : Hp} {q : Rat} {p : Addr} (h : Fq K H p q) : ∀ n, Frs K H (List.replicate n q) (List.replicate n (.ref p))
  | 0 => Frs.nil
  | n + 1 => Frs.cons h (Frs.replicate h n)
def Pl (K : PySem.W.Frag) (H : Hp) (p : Addr) (f : List Rat) : Prop := ∃ xs, SqT K H p xs ∧ Frs K H f xs
theorem Pl.rep {K : PySem.W.Frag} {H : Hp} {p : Addr} {f : List Rat} (h : Pl K H p f) : Rep K H (polyD f) (.ref p) := by
  obtain ⟨xs, h1, h2⟩ := h
  simp only [polyD, Rep]
  exact ⟨p, xs, rfl, h1, h2⟩
theorem Pl.same {K : PySem.W.Frag} {H H' : Hp} {p : Addr} {f : List Rat} (h : Pl K H p f) (e : Same H H') : Pl K H' p f := let ⟨xs, h1, h2⟩ := h; ⟨xs, e.seqT h1, h2.same e⟩
theorem Pl.updL {K : PySem.W.Frag} {H : Hp} {D p : Addr} {ys : List V} {o : HO} {f : List Rat} (hD : H D = some (.lst ys)) (h : Pl K H p f) : Pl K (upd H D o) p f := let ⟨xs, h1, h2⟩ := h; ⟨xs, h1.updL hD, h2.updL hD⟩
theorem Same.updL {H0 H : Hp} {D : Addr} {o : HO} (e : Same H0 H) (h : H0 D = none) : Same H0 (upd H D o) := fun b u z => by
  rw [upd_ne (ne_of_none z h)]; exact e b u z
theorem CO.frs {K : PySem.W.Frag} {n : Nat} {src : Nat → Hp → V → Prop} {st : Hp → Prop} {js : List (Option Nat)} {tl : TE} {σ : St} {H1 : Hp} {Q : VK} (F : Nat → Rat) (hn : n ≤ 1000) (hst : ∀ H, Same H1 H → st H)
    (hel : ∀ i H x (R : VK), i < n → Same H1 H → src i H x → (∀ r H3, Same H H3 → Fq K H3 r (F i) → R (.ref r) H3) → tl (some x :: cσ js σ) H R)
    (hq : ∀ D H xs, Same H1 H → H1 D = none → H D = some (.lst xs) → Frs K H ((List.range n).map F) xs → Q (.ref D) H) : CO n src st (none :: js) (gName 0) tl σ H1 Q := by
  intro D hD
  refine ⟨fun i ys σc H => (∃ r, σc = r :: cσ js σ) ∧ Same H1 H ∧ H D = some (.lst ys) ∧ Frs K H ((List.range i).map F) ys, ⟨⟨none, rfl⟩, same_upd hD, upd_same, Frs.nil⟩, fun i ys σc H _ h => hst H h.2.1, ?_, ?_⟩
  · rintro i ys σc H x hi ⟨⟨r, rfl⟩, sm, hd, hf⟩ hx
    refine hel i H x _ hi sm hx fun p H3 s3 hy => ?_
    have hl := hf.len
    refine ⟨s3 _ _ hd, small1000 (by simp at hl; omega), ⟨_, rfl⟩, (sm.trans s3).updL hD, upd_same, ?_⟩
    rw [List.range_succ, List.map_append]
    exact Frs.snoc (Frs.updL (s3 _ _ hd) (hf.same s3)) (SqT.updL (s3 _ _ hd) hy)
  · rintro ys σc H ⟨_, sm, hd, hf⟩
    exact ⟨hd, hq D H ys sm hD hd hf⟩
theorem Sz.zero {n : Nat} (h : 1 ≤ n) : Sz n (0 : Rat) := Sz.mono (m := 1) ⟨by show (_ : Nat) < _; decide, by show (_ : Nat) < _; decide⟩ h
theorem Sz.cf {n : Nat} {f : List Rat} (h : ∀ q ∈ f, Sz n q) (hn : 1 ≤ n) (k : Nat) : Sz n (Mt.cf f k) := by
  rcases Nat.lt_or_ge k f.length with z | z
  · exact h _ (List.mem_of_getElem? (Mt.cf_lt z))
  · rw [Mt.cf_ge z]; exact Sz.zero hn
theorem Pl.nil {K : PySem.W.Frag} {H : Hp} {p : Addr} (h : H p = some (.tup [])) : Pl K H p [] := ⟨[], SqT.of h, Frs.nil⟩
theorem rep_lst {K : PySem.W.Frag} {H : Hp} {p : Addr} {f : List Rat} {xs : List V} (h : H p = some (.lst xs)) (k : Frs K H f xs) : Rep K H (lstD f) (.ref p) := by
  simp only [lstD, Rep]
  exact ⟨p, xs, rfl, SqL.of h, k⟩
end L2
namespace Mt
structure Ln (d n : Nat) (f : List Rat) : Prop where
  ex : ∃ D N : Nat, 0 < D ∧ D ≤ 2 ^ d ∧ N ≤ 2 ^ n ∧ ∀ k, Lat D N (cf f k)
theorem Ln.bits {d n : Nat} {f : List Rat} (h : Ln d n f) (k : Nat) : (cf f k).num.natAbs < 2 ^ (n + 1) ∧ ((cf f k).den : Int).natAbs < 2 ^ (d + 1) := by
  obtain ⟨D, N, h1, h2, h3, h4⟩ := h.ex
  have a := ((h4 k).dvd (by omega)).2
  have b := (h4 k).le (by omega)
  rw [Nat.pow_succ, Nat.pow_succ]
  constructor
  · have : 0 < 2 ^ n := Nat.two_pow_pos n
    omega
  · have : 0 < 2 ^ d := Nat.two_pow_pos d
    omega
theorem Ln.ext {d n : Nat} {f g : List Rat} (h : Ln d n f) (e : ∀ k, cf g k = cf f k) : Ln d n g := by
  obtain ⟨D, N, h1, h2, h3, h4⟩ := h.ex
  exact ⟨D, N, h1, h2, h3, fun k => by rw [e]; exact h4 k⟩
theorem Ln.trim {d n : Nat} {f : List Rat} (h : Ln d n f) : Ln d n (trim f) := h.ext fun k => cf_trim f k
theorem Ln.mono {d n d' n' : Nat} {f : List Rat} (h : Ln d n f) (hd : d ≤ d') (hn : n ≤ n') : Ln d' n' f := by
  obtain ⟨D, N, h1, h2, h3, h4⟩ := h.ex
  exact ⟨D, N, h1, Nat.le_trans h2 (Nat.pow_le_pow_right (by decide) hd), Nat.le_trans h3 (Nat.pow_le_pow_right (by decide) hn), h4⟩
theorem Ln.of {m : Nat} : ∀ (f : List Rat), (∀ q ∈ f, q.num.natAbs < 2 ^ m ∧ (q.den : Int).natAbs < 2 ^ m) → Ln (m * f.length) (m * f.length) f
  | [], _ => ⟨1, 0, by decide, by simp, by simp, fun k => by rw [cf_nil]; exact Lat.zero⟩
  | a :: f, h => by
    obtain ⟨D, N, h1, h2, h3, h4⟩ := (Ln.of f fun q hq => h q (List.mem_cons_of_mem _ hq)).ex
    obtain ⟨a1, a2⟩ := h a (List.mem_cons_self ..)
    have ad : a.den ≤ 2 ^ m := by omega
    have an : a.num.natAbs ≤ 2 ^ m := by omega
    have e : 2 ^ (m * (a :: f).length) = 2 ^ m * 2 ^ (m * f.length) := by rw [List.length_cons, Nat.mul_succ, Nat.pow_add, Nat.mul_comm]
    refine ⟨a.den * D, 2 ^ m * 2 ^ (m * f.length), Nat.mul_pos (Nat.pos_of_ne_zero a.den_nz) h1, by rw [e]; exact Nat.mul_le_mul ad h2, by rw [e]; exact Nat.le_refl _, fun k => ?_⟩
    cases k with
    | zero => rw [cf_zero]; exact (Lat.of a).up.mono (Nat.mul_le_mul an h2)
    | succ k =>
      rw [cf_succ]
      have := (h4 k).up (E := a.den)
      rw [Nat.mul_comm D] at this
      refine this.mono ?_
      rw [Nat.mul_comm]
      exact Nat.mul_le_mul ad h3
theorem Ln.padd {d n e m : Nat} {f g : List Rat} (h : Ln d n f) (k : Ln e m g) : Ln (d + e) (n + e + (m + d) + 1) (padd f g) := by
  obtain ⟨D, N, h1, h2, h3, h4⟩ := h.ex
  obtain ⟨E, M, k1, k2, k3, k4⟩ := k.ex
  refine ⟨D * E, N * E + M * D, Nat.mul_pos h1 k1, by rw [Nat.pow_add]; exact Nat.mul_le_mul h2 k2, ?_, fun i => ?_⟩
  · have a : N * E ≤ 2 ^ (n + e) := by rw [Nat.pow_add]; exact Nat.mul_le_mul h3 k2
    have b : M * D ≤ 2 ^ (m + d) := by rw [Nat.pow_add]; exact Nat.mul_le_mul k3 h2
    have c : 2 ^ (n + e) ≤ 2 ^ (n + e + (m + d)) := Nat.pow_le_pow_right (by decide) (by omega)
    have c' : 2 ^ (m + d) ≤ 2 ^ (n + e + (m + d)) := Nat.pow_le_pow_right (by decide) (by omega)
    rw [Nat.pow_succ]
    omega
  · rw [cf_padd]
    have z := (k4 i).up (E := D)
    rw [Nat.mul_comm E] at z
    exact (h4 i).up.add z
theorem Lat.mc {D E N M : Nat} {g : List Rat} (k4 : ∀ k, Lat E M (cf g k)) : ∀ (f : List Rat) (_ : ∀ k, Lat D N (cf f k)) (n : Nat), Lat (D * E) (f.length * (N * M)) (mc f g n)
  | [], _, n => by rw [mc_nil_left]; exact Lat.zero
  | a :: f, h, 0 => by
    have := (h 0).mul (k4 0)
    rw [cf_zero] at this
    rw [Mt.mc]
    exact this.mono (Nat.le_mul_of_pos_left _ (by simp))
  | a :: f, h, n + 1 => by
    have z := (h 0).mul (k4 (n + 1))
    rw [cf_zero] at z
    rw [Mt.mc]
    have := z.add (Lat.mc k4 f (fun k => by have := h (k + 1); rw [cf_succ] at this; exact this) n)
    refine this.mono ?_
    rw [List.length_cons, Nat.succ_mul, Nat.add_comm]
    exact Nat.le_refl _
theorem Ln.pmul {d n e m l : Nat} {f g : List Rat} (h : Ln d n f) (k : Ln e m g) (hl : f.length ≤ 2 ^ l) : Ln (d + e) (l + (n + m)) (pmul f g) := by
  obtain ⟨D, N, h1, h2, h3, h4⟩ := h.ex
  obtain ⟨E, M, k1, k2, k3, k4⟩ := k.ex
  refine ⟨D * E, f.length * (N * M), Nat.mul_pos h1 k1, by rw [Nat.pow_add]; exact Nat.mul_le_mul h2 k2, ?_, fun i => by rw [cf_pmul]; exact Lat.mc k4 f h4 i⟩
  rw [Nat.pow_add, Nat.pow_add]
  exact Nat.mul_le_mul hl (Nat.mul_le_mul h3 k3)
theorem Ln.rowIn {d n e m l : Nat} {f g : List Rat} (h : Ln d n f) (k : Ln e m g) (hl : f.length ≤ 2 ^ l) {i j : Nat} (hi : i < f.length) (hj : j ≤ g.length) :
    Ln (d + e) (l + (n + m) + 1) (rowIn (prodIn f g i) i (cf f i) g j) := by
  obtain ⟨D, N, h1, h2, h3, h4⟩ := h.ex
  obtain ⟨E, M, k1, k2, k3, k4⟩ := k.ex
  refine ⟨D * E, f.length * (N * M) + N * M, Nat.mul_pos h1 k1, by rw [Nat.pow_add]; exact Nat.mul_le_mul h2 k2, ?_, fun p => ?_⟩
  · have a : f.length * (N * M) ≤ 2 ^ (l + (n + m)) := by rw [Nat.pow_add, Nat.pow_add]; exact Nat.mul_le_mul hl (Nat.mul_le_mul h3 k3)
    have b : N * M ≤ f.length * (N * M) := Nat.le_mul_of_pos_left _ (by omega)
    rw [Nat.pow_succ]
    omega
  · rw [cf_rowIn _ _ _ _ (by rw [prodIn_len]; omega), cf_prodIn f g p i (by omega)]
    have a : Lat (D * E) ((f.take i).length * (N * M)) (mc (f.take i) g p) := Lat.mc k4 (f.take i) (fun q => by
      rw [cf_take]
      split
      · exact h4 q
      · exact Lat.zero) p
    have a' := a.mono (N := f.length * (N * M)) (Nat.mul_le_mul (by rw [List.length_take]; omega) (Nat.le_refl _))
    refine a'.add ?_
    split
    · exact (h4 i).mul (k4 _)
    · exact Lat.zero
theorem Ln.take {d n : Nat} {f : List Rat} (h : Ln d n f) (k : Nat) : Ln d n (f.take k) := by
  obtain ⟨D, N, h1, h2, h3, h4⟩ := h.ex
  refine ⟨D, N, h1, h2, h3, fun i => ?_⟩
  rw [cf_take]
  split
  · exact h4 i
  · exact Lat.zero
end Mt
namespace L2
open PySem PySem.Spec PyProof.Rows
section
variable {prog : Program} {w : World} {A : Around} {E : Value → Shared → Prop} {s : Shared}
end
section
variable {prog : Program} {w : World} {A : Around} {E : Value → Shared → Prop} {s : Shared}
end
section
variable {X : Cx} {es : List Expr} {y1 : Nat} {tp : Pos}
def FE (xs : List V) (at_ : Hp → Prop) (g : TG) (tb : TS) (D : Ends) (σ : St) (H : Hp) : Prop := ∃ Pv : Nat → St → Hp → Prop, Pv 0 σ H ∧ (∀ i σ H, i ≤ xs.length → Pv i σ H → at_ H) ∧
  (∀ i x σ H p, xs[i]? = some x → Pv i σ H → H p = none → g (.ref p) σ (upd H p (.tup [.int i, x])) fun σ2 H2 => tb { D with nx := Pv (i + 1), ct := Pv (i + 1), bk := D.nx } σ2 H2) ∧ ∀ σ H, Pv xs.length σ H → D.nx σ H
def tForE (K : PySem.W.Frag) (te : TE) (g : TG) (tb : TS) : TS := fun D σ H => te σ H fun v H1 => ∃ a xs, v = .ref a ∧ SqT K H1 a xs ∧ FE xs (fun H => SqT K H a xs) g tb D σ H1
end
def IsRevT (h : Heap) (r l : Addr) (i : Int) : Prop := ∃ o, h.get? r = some o ∧ o.cls = .type "reversed" ∧ o.data = .fields #[.ref l, rawInt i]
section
variable {prog : Program} {w : World} {A : Around} {E : Value → Shared → Prop} {s : Shared}
theorem IsRevT.ty {r l : Addr} {i : Int} (y : IsRevT s.heap r l i) : s.TypeIs (.ref r) "reversed" := let ⟨o, z, c, _⟩ := y; ⟨o, z, c⟩
end
section
variable {X : Cx} {tg : Expr}
def tForV (K : PySem.W.Frag) (te : TE) (g : TG) (tb : TS) : TS := fun D σ H => te σ H fun v H1 => ∃ a xs, v = .ref a ∧ SqT K H1 a xs ∧ FL xs.reverse (fun H => SqT K H a xs) g tb D σ H1
end
theorem Ln.sz {b : Nat} {f : List Rat} (h : Mt.Ln b b f) (k : Nat) : Sz (b + 1) (Mt.cf f k) := ⟨(h.bits k).1, (h.bits k).2⟩
end L2
namespace L2
open PySem PySem.Spec PyProof.Rows PySem.W
def excInit (K : Frag) (C fI : Addr) : Bool :=
  match K.lookup C with
  | some ⟨.type "type", _, .cls cd, sl⟩ =>
    (match cd.mro, sl.toList with
      | .ref D :: up, [_, _, _, _, some (.builtin n), _] => D == C && (n == "ValueError.__new__" && (!cd.hasDel && (tailIn K vmro up && (isFn K (.ref fI) && findIn K (.ref C) "__init__" == some (some (.ref fI))))))
      | _, _ => false)
  | _ => false
section
variable {prog : Program} {w : World} {A : Around} {E : Value → Shared → Prop} {h : Heap} {g : Array GenState} {d : Drawn} {t : Nat} {os : OsState}
variable {nm q : Str} {C N fI : Addr} {bs bm : List Value} {hdct : Bool} {sn : List Str} {sub : List Value} {ab : Bool} {col : Option Bool} {dd : Option Addr} {k0 k1 k2 k3 k5 : Option Value} {K : Frag} {us : List Value}
end
end L2
namespace L2
open PySem PySem.Spec PyProof.Rows PySem.W
def rawX (e : Addr) (cls : Value) (dv : Option Addr) : HO := .ext fun h => ∃ t : Addr, h.get? e = some { cls := cls, dict := dv, data := .fields #[.ref t, .none, .none, .none, .bool false, .none] }
theorem rawX_ok {P : Program} {w : World} {H : Hp} {h : Heap} {e t : Addr} {cls : Value} {dv : Option Addr} (q : h.get? e = some { cls := cls, dict := dv, data := .fields #[.ref t, .none, .none, .none, .bool false, .none] }) : ObjOk P w H h e (rawX e cls dv) :=
  ⟨⟨t, q⟩, ⟨_, q⟩, fun _ _ ⟨t, q⟩ k => ⟨t, k _ q⟩⟩
def era (H : Hp) (e : Addr) : Hp := fun b => if b = e then none else H b
@[simp] theorem era_same (H : Hp) (e : Addr) : era H e e = none := if_pos rfl
section
variable {M : Model} {A : Around} {E : Value → Shared → Prop} {env : Env}
variable {nm q : Str} {C N : Addr} {bs bm : List Value} {hdct : Bool} {sn : List Str} {sub : List Value} {ab : Bool} {col : Option Bool} {dd : Option Addr} {k0 k1 k2 k3 k5 : Option Value} {nid : String}
end
def tRaiseI (C : Addr) (sp : Sp) (E : XK) (t : TA) : TS := fun _ σ H => t σ H fun vs H1 => vs.length ≤ sizeLine ∧ ∀ e, H1 e = none →
  sp (.ref e :: vs) (upd H1 e (rawX e (.ref C) none)) (fun r H2 => r = .non ∧ ∃ dv, H2 e = some (rawX e (.ref C) dv) ∧ E (.ref C) dv (era H2 e)) E0
end L2
namespace L2
open PySem PySem.Spec PyProof.Rows PySem.W
section
variable {X : Cx} {pins : List (Addr × Obj)} {σ : St} {H : Hp} {s : Shared}
theorem upd_id {H : Hp} {a : Addr} {o : HO} (q : H a = some o) : upd H a o = H := by
  funext b
  by_cases z : b = a
  · subst z; rw [upd_same, q]
  · rw [upd_ne z]
theorem Inv.args {e t : Addr} {cls : Value} {dv : Option Addr} {us : List Value} (I : Inv X pins σ H s) (q : H e = some (rawX e cls dv)) (g : s.heap.get? e = some { cls := cls, dict := dv, data := .fields #[.ref t, .none, .none, .none, .bool false, .none] }) :
    Inv X pins σ H { s with heap := (s.heap.push { cls := .type "tuple", data := .seq us.toArray }).update e (Obj.mapFields (·.setIfInBounds 0 (.ref s.heap.objs.size))) } := by
  have g1 := Heap.get?_push_of_some (h := s.heap) { cls := .type "tuple", data := .seq us.toArray } g
  have g2 := Heap.get?_update_self (Obj.mapFields (·.setIfInBounds 0 (.ref s.heap.objs.size))) g1 rfl
  have I2 := I.write (x := e) (e := e) (o := rawX e cls dv) (t' := s.toks) (h' := (s.heap.push { cls := .type "tuple", data := .seq us.toArray }).update e (Obj.mapFields (·.setIfInBounds 0 (.ref s.heap.objs.size)))) (by rw [q]; exact trivial) (.inl rfl)
    (fun b u n z => (Heap.get?_update_other _ _ (Ne.symm n)).trans (Heap.get?_push_of_some _ z)) ⟨_, g2⟩ (rawX_ok (t := s.heap.objs.size) (by rw [g2]; rfl))
  rw [upd_id q] at I2
  exact I2
def tExcInit (K : Frag) (t : TA) : TE := fun σ H Q => t σ H fun vs H1 => ∃ a C fI dv x, vs = [.ref a, x] ∧ H1 a = some (rawX a (.ref C) dv) ∧ excInit K C fI = true ∧ Q .non H1
end
end L2
namespace L2
open PySem PySem.Spec PyProof.Rows PySem.W Builtin Builtin.ObjectAttr
def tFs (x : Str) (t : TE) : TE := fun σ H Q => t σ H fun v H1 => ∃ n : Int, v = .int n ∧ n.natAbs.log2 < 1920 ∧ (x ++ (toString n : Str)).length ≤ sizeLine ∧ Q (.str (x ++ (toString n : Str))) H1
def refsV : List Value → Bool
  | .ref _ :: r => refsV r
  | l => l == vmro
structure XAtt (K : Frag) (C : Addr) (f : Str) : Prop where
  sa : findIn K (.ref C) "__setattr__" = some (some (.builtin "object.__setattr__"))
  no : findIn K (.ref C) f = some none
  ob : mroIn K C (.type "object") = some true
  cl : (clsIn K C).any (fun cd => cd.hasDict && refsV cd.mro) = true
section
variable {prog : Program} {w : World} {A : Around} {E : Value → Shared → Prop} {s : Shared} {K : Frag} {x C t : Addr} {f : Str} {v : Value}
end
section
variable {X : Cx} {pins : List (Addr × Obj)} {σ : St} {H : Hp} {s : Shared}
end
def sXset (K : Frag) (ta tv : TE) (f : Str) : TS := fun D σ H => tv σ H fun y H1 => ta σ H1 fun x H2 => ∃ a C, x = .ref a ∧ H2 a = some (rawX a (.ref C) none) ∧ XAtt K C f ∧
  ∀ d, H2 d = none → d ≠ a → D.nx σ (upd (upd H2 a (rawX a (.ref C) (some d))) d (.xd [(f, y)]))
end L2
namespace L2
open PySem PySem.Spec PyProof.Rows PySem.W Builtin Builtin.ObjectAttr
structure XGet (K : Frag) (C : Addr) (f : Str) : Prop where
  x : XCls K C
  hd : hasDictIn K C = true
  no : findIn K (.ref C) f = some none
def tXget (K : Frag) (ta : TE) (f : Str) : TE := fun σ H Q => ta σ H fun x H1 => ∃ a C d fs v, x = .ref a ∧ H1 a = some (excD a (.ref C) (some d)) ∧ H1 d = some (.xd fs) ∧ XGet K C f ∧ fs.lookup f = some v ∧ Q v H1
end L2
namespace L2
open PySem PySem.Spec PyProof.Rows Builtin Builtin.Str
section
variable {X : Cx}
end
end L2
namespace L2
open PySem PySem.Spec PyProof.Rows
end L2
namespace L2
open PySem PySem.Spec PyProof.Rows
end L2
namespace L2
open PySem PySem.Spec PyProof.Rows
section
variable {X : Cx}
def rAll : List V → Hp → VK → Prop := fun xs H Q => ∃ (l : Addr) (bs : List Bool), xs = [.ref l] ∧ H l = some (.lst (bs.map V.bl)) ∧ Q (.bl (bs.all id)) H
end
end L2
namespace L2
open PySem PySem.Spec PyProof.Rows Builtin Builtin.Str
section
variable {prog : Program} {w : World} {A : Around} {E : Value → Shared → Prop} {s : Shared} {it : Addr} {fp wr : List Addr} {G : Array GenState → Array GenState → Prop} {n : Nat} {P : Nat → Value → Prop} {St : Nat → Shared → Prop}
end
def tJoinRev (a : PySem.Str) (te : TE) : TE := fun σ H Q => te σ H fun x H1 => ∃ (l : Addr) (ts : List PySem.Str), x = .ref l ∧ H1 l = some (.lst (ts.map V.str)) ∧ JoinOk a ts.reverse = true ∧ Q (.str (Txt.join a ts.reverse)) H1
end L2
namespace Mt
open PySem PySem.NumText
end Mt
namespace L2
open PySem PySem.Spec PyProof.Rows
def FX (x : Str) (g : TG) (tb : TS) (D : Ends) (σ : St) (H : Hp) : Prop := ∃ Pv : Nat → St → Hp → Prop, Pv 0 σ H ∧ (∀ i c σ H, x.cps[i]? = some c → Pv i σ H → g (.str ⟨#[c]⟩) σ H fun σ2 H2 => tb { D with nx := Pv (i + 1), ct := Pv (i + 1), bk := D.nx } σ2 H2) ∧ ∀ σ H, Pv x.cps.size σ H → D.nx σ H
def tForX (te : TE) (g : TG) (tb : TS) : TS := fun D σ H => te σ H fun v H1 => ∃ x, v = .str x ∧ FX x g tb D σ H1
section
variable {X : Cx} {tg l a elt : Expr} {body : List Stmt} {te tl : TE} {g : TG} {tb : TS} {p pos pos' : Pos} {scope : Scope} {js : List (Option Nat)}
def tCoX (js : List (Option Nat)) (te : TE) (g : TG) (tl : TE) : TE := fun σ H Q => te σ H fun v H1 => ∃ x, v = .str x ∧ CO x.cps.size (fun i _ v => ∃ c, x.cps[i]? = some c ∧ v = .str ⟨#[c]⟩) (fun _ => True) js g tl σ H1 Q
end
end L2
namespace L2
open PySem PySem.Spec PyProof.Rows
end L2
namespace Mt
def wk (L D s : Nat → Rat) (top h : Nat) : Rat := s h * L h + (if 0 < h then s (h - 1) else 0) + (if h + 1 < top then s (h + 1) * D h else 0)
def row (L D : Nat → Rat) (top i : Nat) : Nat → List Rat
  | 0 => (List.range top).map fun h => if h = i then 1 else 0
  | n + 1 => (List.range top).map fun h => wk L D (cf (row L D top i n)) top h
abbrev sm (L D : Nat → Rat) (top i n j : Nat) : Rat := cf (row L D top i n) j
section
variable {L D : Nat → Rat} {top : Nat}
theorem sm_zero {i j : Nat} (h : j < top) : sm L D top i 0 j = if j = i then 1 else 0 := by rw [sm, row, cf_map_range, if_pos h]
theorem sm_succ {i n j : Nat} (h : j < top) : sm L D top i (n + 1) j = wk L D (sm L D top i n) top j := by rw [sm, row, cf_map_range, if_pos h]
theorem first {i : Nat} (hi : i < top) : ∀ (n j : Nat), j < top → sm L D top i (n + 1) j = L i * sm L D top i n j + (if i + 1 < top then sm L D top (i + 1) n j else 0) + (if 0 < i then D (i - 1) * sm L D top (i - 1) n j else 0)
  | 0, j, hj => by
    rw [sm_succ hj, sm_zero hj, sm_zero hj, sm_zero hj]
    unfold wk
    rw [sm_zero hj]
    by_cases h1 : j = i
    · subst h1
      rw [if_pos rfl]
      have a : (if 0 < j then sm L D top j 0 (j - 1) else 0) = 0 := by
        split
        · rw [sm_zero (by omega), if_neg (by omega)]
        · rfl
      have b : (if j + 1 < top then sm L D top j 0 (j + 1) * D j else 0) = 0 := by
        split
        · rw [sm_zero (by omega), if_neg (by omega)]; grind
        · rfl
      have c : (if j = j + 1 then (1 : Rat) else 0) = 0 := if_neg (by omega)
      rw [a, b, c]
      by_cases z : 0 < j
      · rw [if_pos z, if_neg (show ¬ j = j - 1 by omega)]; grind
      · rw [if_neg z]; grind
    · rw [if_neg h1]
      have a : (if 0 < j then sm L D top i 0 (j - 1) else 0) = if i + 1 < top then (if j = i + 1 then (1 : Rat) else 0) else 0 := by
        by_cases e : j = i + 1
        · rw [if_pos (by omega), sm_zero (by omega), if_pos (by omega), if_pos (by omega), if_pos e]
        · rw [if_neg e, ite_self]
          split
          · rw [sm_zero (by omega), if_neg (by omega)]
          · rfl
      have b : (if j + 1 < top then sm L D top i 0 (j + 1) * D j else 0) = if 0 < i then D (i - 1) * (if j = i - 1 then (1 : Rat) else 0) else 0 := by
        by_cases e : i = j + 1
        · subst e
          rw [if_pos hi, if_pos (by omega), sm_zero hi, if_pos rfl, if_pos (by omega), show j + 1 - 1 = j by omega]
          grind
        · have z : (if 0 < i then D (i - 1) * (if j = i - 1 then (1 : Rat) else 0) else 0) = 0 := by
            split
            · rw [if_neg (by omega)]; grind
            · rfl
          rw [z]
          split
          · rw [sm_zero (by omega), if_neg (by omega)]; grind
          · rfl
      rw [a, b]
      grind
  | n + 1, j, hj => by
    rw [sm_succ hj, sm_succ (n := n) hj, sm_succ (n := n) hj, sm_succ (n := n) hj]
    unfold wk
    have e0 := first hi n j hj
    by_cases z1 : 0 < j <;> by_cases z2 : j + 1 < top
    · have e1 := first hi n (j - 1) (by omega)
      have e2 := first hi n (j + 1) z2
      simp only [if_pos z1, if_pos z2]
      rw [e0, e1, e2]
      grind
    · have e1 := first hi n (j - 1) (by omega)
      simp only [if_pos z1, if_neg z2]
      rw [e0, e1]
      grind
    · have e2 := first hi n (j + 1) z2
      simp only [if_neg z1, if_pos z2]
      rw [e0, e2]
      grind
    · simp only [if_neg z1, if_neg z2]
      rw [e0]
      grind
end
theorem Lat.one : Lat 1 1 1 := ⟨1, by grind, by decide⟩
abbrev B0 : Nat := 27720
abbrev W0 : Nat := 2000001
abbrev Gd (n : Nat) (q : Rat) : Prop := Lat (B0 ^ n) (W0 ^ n * B0 ^ n) q
theorem Gd.zero {n : Nat} : Gd n 0 := Lat.zero
theorem Gd.one : Gd 0 1 := Lat.one
end Mt
namespace Mt
end Mt
namespace L2
open PySem PySem.Spec PyProof.Rows
def valB : V → Value → Bool
  | .int i, .int j _ => i == j
  | .non, .none => true
  | _, _ => false
theorem valB_rel {v : V} {u : Value} (h : valB v u = true) : RelV v u := by
  cases v with
  | int i =>
    cases u with
    | int j t =>
      have e : i = j := by simpa [valB] using h
      rw [e]
      exact ⟨t, rfl⟩
    | _ => cases h
  | non =>
    cases u with
    | none => rfl
    | _ => cases h
  | _ => cases u <;> cases h
def valsB : List V → List Value → Bool
  | [], [] => true
  | v :: vs, u :: us => valB v u && valsB vs us
  | _, _ => false
theorem valsB_rel : ∀ {vs : List V} {us : List Value}, valsB vs us = true → Vals vs us
  | [], [], _ => .nil
  | v :: vs, u :: us, h => by
    simp only [valsB, Bool.and_eq_true] at h
    exact .cons (valB_rel h.1) (valsB_rel h.2)
  | [], _ :: _, h => by cases h
  | _ :: _, [], h => by cases h
def dflIn (K : PySem.W.Frag) (dV : Value) (dvs : List V) : Bool := match dV with
  | .ref T => match K.lookup T with
    | some ⟨_, _, .seq items _, _⟩ => valsB dvs items.toList
    | _ => false
  | _ => false
theorem Vals.drop' : ∀ {vs : List V} {us : List Value} (m : Nat), Vals vs us → Vals (vs.drop m) (us.drop m)
  | _, _, 0, h => h
  | _, _, _ + 1, .nil => .nil
  | _, _, m + 1, .cons _ r => Vals.drop' m r
structure FunD (K : PySem.W.Frag) (x qual : Str) (st : Stmt) (dvs : List V) (f : Addr) (fd : FuncData) : Prop where
  ex : ∃ (T : Addr) (oc : Value) (od : Option Addr) (kV doc pm : Value) (an : Option Addr) (cdv ct : Value) (osl : Array (Option Value)) (o : Obj) (items : Array Value) (n : Nat),
    fd = PySem.W.fnOf x qual (defArgs st) (defBody st) (defScope st) (.ref T) kV doc pm an cdv ct ∧ K.lookup f = some ⟨oc, od, .func fd, osl⟩ ∧ PySem.W.codeIn K cdv qual = true ∧ K.lookup T = some o ∧ o.data = .seq items n ∧ Vals dvs items.toList
  kp : PySem.W.keepIn K (.ref f) = true
theorem funD_mk {K : PySem.W.Frag} {x qual : Str} {st : Stmt} {f : Addr} {oc : Value} {od an : Option Addr} {osl : Array (Option Value)} {dV kV doc pm cdv ct : Value} {dvs : List V} (l : K.lookup f = some ⟨oc, od, .func (PySem.W.fnOf x qual (defArgs st) (defBody st) (defScope st) dV kV doc pm an cdv ct), osl⟩)
    (c : PySem.W.codeIn K cdv qual = true) (k : PySem.W.keepIn K (.ref f) = true) (d : dflIn K dV dvs = true) : FunD K x qual st dvs f (PySem.W.fnOf x qual (defArgs st) (defBody st) (defScope st) dV kV doc pm an cdv ct) := by
  unfold dflIn at d
  split at d
  · split at d
    · rename_i T _ oc' od' items n sl e
      exact ⟨⟨T, oc, od, kV, doc, pm, an, cdv, ct, osl, _, items, n, rfl, l, c, e, rfl, valsB_rel d⟩, k⟩
    · cases d
  · cases d
structure CalleeD (P : Program) (w : World) (K : PySem.W.Frag) (mg : Str → Option Value) (base : Heap) (k : Nat) (x : Str) (ps : List Str) (dvs : List V) (sp : Sp) : Prop where
  ex : ∃ f fd ds, FnOk P w K mg base (CXe P w) k f fd ps sp ∧ mg x = some (.ref f) ∧ PySem.W.keepIn K (.ref f) = true ∧ Vals dvs ds ∧ ∀ i, i ≤ dvs.length → Binds K fd ps (ds.drop i)
section
variable {P : Program} {w : World} {K : PySem.W.Frag} {mg : Str → Option Value} {base : Heap} {x qual : Str} {st : Stmt} {f : Addr} {fd : FuncData} {N ps : List Str} {k : Nat} {sp : Sp} {dvs : List V}
theorem FunD.callee (F : FunD K x qual st dvs f fd) (m : mg x = some (.ref f)) (h : FnOk P w K mg base (CXe P w) k f fd ps sp)
    (hb : ∀ (i : Nat), i ≤ dvs.length → ∀ (T : Addr) (kV doc pm : Value) (an : Option Addr) (cdv ct : Value) (items : Array Value) (us : List Value), items.toList.length = dvs.length → (us ++ items.toList.drop i).length = ps.length →
      ∃ k, bindArgs (PySem.W.fnOf x qual (defArgs st) (defBody st) (defScope st) (.ref T) kV doc pm an cdv ct) ⟨us, []⟩ = seqItems? (.ref T) >>= k ∧ k (some items) = pure (ps.zip (us ++ items.toList.drop i))) :
    CalleeD P w K mg base k x ps dvs sp := by
  obtain ⟨T, oc, od, kV, doc, pm, an, cdv, ct, osl, o, items, n, rfl, lk, hcd, lT, hd, hv⟩ := F.ex
  refine ⟨f, _, items.toList, h, m, F.kp, hv, fun i hi s us kin hl => ?_⟩
  obtain ⟨k', e1, e2⟩ := hb i hi T kV doc pm an cdv ct items us hv.length.symm hl
  exact BindsTo.of_defaults (T := T) rfl (kin _ _ lT) hd e1 e2
theorem FunD.okE (F : FunD K x qual st dvs f fd) (S : FnScope N ps (defScope st)) (len : ∀ vs H Q E, sp vs H Q E → vs.length = ps.length)
    (hbody : ∀ (cdv : Value) (A : Around) (outer : List Env) (s : Shared) (H : Hp) (vs : List V) (Q : VK) (E : XK), Room k (A.deeper (envOfC qual (defScope st) s.heap.objs.size f cdv)) → sp vs H Q E →
      ∃ t, PSs (cxOf (CXe P w) P w K mg base N qual (defScope st) f cdv A outer s H E).nox (defBody st) t ∧ t { nx := fun _ H' => Q .non H', rt := Q } (start N vs) H) : FnOk P w K mg base (CXe P w) (k + 1) f fd ps sp := by
  obtain ⟨T, oc, od, kV, doc, pm, an, cdv, ct, osl, o, items, n, rfl, lk, hcd, lT, hd, hv⟩ := F.ex
  refine fn_of lk hcd S len fun A outer s H vs Q E hr hsp => ?_
  obtain ⟨t, h, q⟩ := hbody cdv A outer s H vs Q E hr hsp
  exact ⟨t, h.nox, q⟩
theorem FunD.okX (F : FunD K x qual st dvs f fd) (S : FnScope N ps (defScope st)) (len : ∀ vs H Q E, sp vs H Q E → vs.length = ps.length)
    (hbody : ∀ (cdv : Value) (A : Around) (outer : List Env) (s : Shared) (H : Hp) (vs : List V) (Q : VK) (E : XK), Room k (A.deeper (envOfC qual (defScope st) s.heap.objs.size f cdv)) → sp vs H Q E →
      ∃ t, PSs (cxOf (CXe P w) P w K mg base N qual (defScope st) f cdv A outer s H E) (defBody st) t ∧ t { nx := fun _ H' => Q .non H', rt := Q } (start N vs) H) : FnOk P w K mg base (CXe P w) (k + 1) f fd ps sp := by
  obtain ⟨T, oc, od, kV, doc, pm, an, cdv, ct, osl, o, items, n, rfl, lk, hcd, lT, hd, hv⟩ := F.ex
  exact fn_of lk hcd S len fun A outer s H vs Q E hr hsp => hbody cdv A outer s H vs Q E hr hsp
end
section
variable {X : Cx} {k : Nat} {sp : Sp} {ps : List Str} {dvs : List V} {x : Str} {p pos : Pos} {e : Expr} {es : List Expr} {t : TA}
theorem pe_cDS {E : St → XK} (m : Nat) (G : CalleeD X.prog X.w X.K X.mg X.base k x ps dvs sp) (hr : Room k X.A) (hx : PassesS (CXe X.prog X.w) X E) (ha : PA X (e :: es) t) (hm : m ≤ dvs.length := by decide) (hg : Gl X x := by rfl)
    (hdb : (x == ("__debug__" : Str)) = false := by decide) (he : starEach (e :: es) X.env = (false, eval e X.env) :: starEach es X.env := by rfl) (hpl : (backTo pos (starEach es X.env)).any (·.1) = false := by rfl) :
    PE X (.Call (.Name x p) (e :: es) [] pos) (tCallS sp (dvs.drop m) E t) := by
  obtain ⟨f, fd, ds, F, mm, kp, hv, b⟩ := G.ex
  exact pe_callS F hr hg mm kp (b m hm) (hv.drop' m) hx ha hdb he hpl
end
def FR2 (i : Int) (n : Nat) (g : TG) (tb : TS) (D : Ends) (σ : St) (H : Hp) : Prop := ∃ Pv : Nat → St → Hp → Prop, Pv 0 σ H ∧ (∀ m σ H, m < n → Pv m σ H → g (.int (i + m)) σ H fun σ2 H2 => tb { D with nx := Pv (m + 1), ct := Pv (m + 1), bk := D.nx } σ2 H2) ∧ ∀ σ H, Pv n σ H → D.nx σ H
def tForR2 (te te2 : TE) (g : TG) (tb : TS) : TS := fun D σ H => te σ H fun v H1 => te2 σ H1 fun v2 H2 => ∃ i : Int, v = .int i ∧ ∃ j : Int, v2 = .int j ∧ (-(2 ^ 62) ≤ i ∧ i < 2 ^ 62 ∧ -(2 ^ 62) ≤ j ∧ j < 2 ^ 62) ∧ FR2 i (j - i).toNat g tb D σ H2
section
variable {X : Cx} {tg a b : Expr} {body : List Stmt} {te te2 : TE} {g : TG} {tb : TS} {p pos pos' : Pos}
end
section
variable {X : Cx}
end
theorem CO.frsP {K : PySem.W.Frag} {n : Nat} {src : Nat → Hp → V → Prop} {st : Hp → Prop} {js : List (Option Nat)} {tl : TE} {σ : St} {H1 : Hp} {Q : VK} (P : Rat → Prop) (hn : n ≤ 1000) (hst : ∀ H, Same H1 H → st H)
    (hel : ∀ i H x (R : VK), i < n → Same H1 H → src i H x → (∀ r H3 q, Same H H3 → Fq K H3 r q → P q → R (.ref r) H3) → tl (some x :: cσ js σ) H R)
    (hq : ∀ D H xs f, Same H1 H → H1 D = none → H D = some (.lst xs) → Frs K H f xs → f.length = n → (∀ q ∈ f, P q) → Q (.ref D) H) : CO n src st (none :: js) (gName 0) tl σ H1 Q := by
  intro D hD
  refine ⟨fun i ys σc H => (∃ r, σc = r :: cσ js σ) ∧ Same H1 H ∧ H D = some (.lst ys) ∧ ∃ f, Frs K H f ys ∧ f.length = i ∧ ∀ q ∈ f, P q, ⟨⟨none, rfl⟩, same_upd hD, upd_same, [], Frs.nil, rfl, fun q hq => nomatch hq⟩, fun i ys σc H _ h => hst H h.2.1, ?_, ?_⟩
  · rintro i ys σc H x hi ⟨⟨r, rfl⟩, sm, hd, f, hf, lf, pf⟩ hx
    refine hel i H x _ hi sm hx fun p H3 q s3 hy hP => ?_
    have hl := hf.len
    refine ⟨s3 _ _ hd, small1000 (by omega), ⟨_, rfl⟩, (sm.trans s3).updL hD, upd_same, f ++ [q], Frs.snoc (Frs.updL (s3 _ _ hd) (hf.same s3)) (SqT.updL (s3 _ _ hd) hy), by simp [lf], ?_⟩
    intro q' hq'
    rcases List.mem_append.mp hq' with z | z
    · exact pf q' z
    · rw [List.mem_singleton.mp z]; exact hP
  · rintro ys σc H ⟨_, sm, hd, f, hf, lf, pf⟩
    exact ⟨hd, hq D H ys f sm hD hd hf lf pf⟩
end L2
namespace L2
open PySem PySem.Spec PyProof.Rows
section
variable {X : Cx}
end
end L2
namespace L2
open PySem PySem.Spec PyProof.Rows
def tVs (vs : List V) : TA := fun _ H Q => Q vs H
end L2
namespace L2
open PySem PySem.Spec PyProof.Rows
section
variable {X : Cx} {e a b : Expr} {es : List Expr} {te ta tb : TE} {t u : TS} {tx : TA} {st : Stmt} {rest body orelse : List Stmt} {pos : Pos}
end
end L2
namespace L2
open PySem PySem.Spec PyProof.Rows
theorem kit_lst_lst (K : PySem.W.Frag) : PySem.W.kitOne K (.type "list") (.type "list") = some true := by
  unfold PySem.W.kitOne
  rw [if_pos (by decide)]
theorem isi_ll {K : PySem.W.Frag} {H : Hp} {Q : VK} {p : Addr} {xs : List V} (h : H p = some (.lst xs)) (q : Q (.bl true) H) : rIsi K [.ref p, .ty "list"] H Q := ⟨_, _, _, _, _, rfl, rfl, .of (.lst h), kit_lst_lst K, q⟩
end L2
namespace L2
open PySem PySem.Spec PyProof.Rows
section
variable {prog : Program} {w : World} {A : Around} {E : Value → Shared → Prop} {s : Shared}
end
end L2
namespace L2
open PySem PySem.Spec PyProof.Rows
section
variable {X : Cx} {es : List Expr} {y1 : Nat} {tp : Pos}
end
def CZ (xs ys : List V) (at_ : Hp → Prop) (js : List (Option Nat)) (g : TG) (tl : TE) (σ : St) (H1 : Hp) (Q : VK) : Prop := ∀ D, H1 D = none → ∃ Pv : Nat → List V → St → Hp → Prop, Pv 0 [] (cσ js σ) (upd H1 D (.lst [])) ∧ (∀ i zs σc H, i ≤ xs.length → Pv i zs σc H → at_ H) ∧
  (∀ i zs σc H x y t, xs[i]? = some x → ys[i]? = some y → Pv i zs σc H → H t = none → g (.ref t) σc (upd H t (.tup [x, y])) fun σ2 H2 => tl σ2 H2 fun v H3 => H3 D = some (.lst zs) ∧ zs.length < sizeLine ∧ Pv (i + 1) (zs ++ [v]) σ2 (upd H3 D (.lst (zs ++ [v])))) ∧
  ∀ zs σc H, Pv xs.length zs σc H → H D = some (.lst zs) ∧ Q (.ref D) H
def tCoZ (K : PySem.W.Frag) (js : List (Option Nat)) (te te2 : TE) (g : TG) (tl : TE) : TE := fun σ H Q => te σ H fun v H1 => te2 σ H1 fun v2 H2 => ∃ l, v = .ref l ∧ ∃ m, v2 = .ref m ∧ ∃ xs ys, SqT K H2 l xs ∧ SqL K H2 m ys ∧ xs.length = ys.length ∧ CZ xs ys (fun H => SqT K H l xs ∧ SqL K H m ys) js g tl σ H2 Q
section
variable {X : Cx} {es : List Expr} {y1 : Nat} {tp : Pos} {a b elt : Expr} {te te2 tl : TE} {g : TG} {p pos pos' : Pos} {scope : Scope} {js : List (Option Nat)}
end
end L2
namespace Mt
def l1 (a : Rat) : List Rat := trim [1, -a]
def l2 (d : Rat) : List Rat := trim [0, 0, d]
def nxt (l d : Rat) (f g : List Rat) : List Rat := psub (pmul (l1 l) f) (pmul (l2 d) g)
def en (L D : Nat → Rat) (a b : List Rat) : Nat → List Rat
  | 0 => a
  | 1 => b
  | n + 2 => nxt (L (n + 1)) (D n) (en L D a b (n + 1)) (en L D a b n)
def sh (f : List Rat) (i k : Nat) : Rat := if i ≤ k then cf f (k - i) else 0
theorem NZ.le {f : List Rat} (h : NZ f) {n : Nat} (z : ∀ k, n ≤ k → cf f k = 0) : f.length ≤ n := by
  rcases h with rfl | h
  · simp
  · rcases Nat.lt_or_ge n f.length with y | y
    · exact absurd (z _ (by omega)) h
    · exact y
abbrev A0 : Nat := 1000001 * B0
def Gp (n : Nat) (f : List Rat) : Prop := ∀ k, Lat (B0 ^ n) (A0 ^ n) (cf f k)
theorem Gp.nil {n : Nat} : Gp n [] := fun k => by rw [cf_nil]; exact Lat.zero
theorem Gp.sh {n : Nat} {f : List Rat} (h : Gp n f) (i k : Nat) : Lat (B0 ^ n) (A0 ^ n) (sh f i k) := by
  unfold Mt.sh
  split
  · exact h _
  · exact Lat.zero
def tp (L D : List Rat) (n : Nat) : List Rat := en (cf L) (cf D) [] [1] n
def bt (L D : List Rat) (n : Nat) : List Rat := en (cf L) (cf D) [1] (l1 (cf L 0)) n
end Mt
namespace L2
open PySem PySem.Spec PyProof.Rows
def Pls (K : PySem.W.Frag) (H : Hp) (fs : List (List Rat)) (xs : List V) : Prop := xs.length = fs.length ∧ ∀ (j : Nat) (f : List Rat), fs[j]? = some f → ∃ p, xs[j]? = some (V.ref p) ∧ Pl K H p f
theorem Pls.nil {K : PySem.W.Frag} {H : Hp} : Pls K H [] [] := ⟨rfl, fun j f h => by simp at h⟩
theorem Pls.same {K : PySem.W.Frag} {H H' : Hp} {fs : List (List Rat)} {xs : List V} (h : Pls K H fs xs) (e : Same H H') : Pls K H' fs xs := ⟨h.1, fun j f z => let ⟨p, e1, q⟩ := h.2 j f z; ⟨p, e1, q.same e⟩⟩
theorem Pls.updL {K : PySem.W.Frag} {H : Hp} {D : Addr} {ys : List V} {o : HO} {fs : List (List Rat)} {xs : List V} (hD : H D = some (.lst ys)) (h : Pls K H fs xs) : Pls K (upd H D o) fs xs := ⟨h.1, fun j f z => let ⟨p, e1, q⟩ := h.2 j f z; ⟨p, e1, q.updL hD⟩⟩
theorem Pls.snoc {K : PySem.W.Frag} {H : Hp} {fs : List (List Rat)} {xs : List V} {p : Addr} {f : List Rat} (h : Pls K H fs xs) (k : Pl K H p f) : Pls K H (fs ++ [f]) (xs ++ [.ref p]) := by
  refine ⟨by simp [h.1], fun j g z => ?_⟩
  rcases Nat.lt_or_ge j fs.length with l | l
  · rw [List.getElem?_append_left l] at z
    obtain ⟨q, e, hq⟩ := h.2 j g z
    exact ⟨q, by rw [List.getElem?_append_left (by rw [h.1]; exact l)]; exact e, hq⟩
  · rw [List.getElem?_append_right l] at z
    have j0 : j = fs.length := by
      rcases Nat.lt_or_ge (j - fs.length) 1 with y | y
      · omega
      · rw [List.getElem?_eq_none (by simpa using y)] at z; cases z
    subst j0
    simp at z
    subst z
    exact ⟨p, by rw [← h.1]; simp, k⟩
theorem Pls.cons {K : PySem.W.Frag} {H : Hp} {fs : List (List Rat)} {xs : List V} {p : Addr} {f : List Rat} (k : Pl K H p f) (h : Pls K H fs xs) : Pls K H (f :: fs) (.ref p :: xs) := by
  refine ⟨by simp [h.1], fun j g z => ?_⟩
  rcases j with _ | j
  · simp at z; subst z; exact ⟨p, rfl, k⟩
  · simp at z; exact h.2 j g z
theorem Pls.at {K : PySem.W.Frag} {H : Hp} {m : Nat} {F : Nat → List Rat} {xs : List V} (h : Pls K H ((List.range m).map F) xs) {j : Nat} (hj : j < m) : ∃ p, xs[j]? = some (.ref p) ∧ Pl K H p (F j) := h.2 j (F j) (by simp [hj])
theorem Pls.len {K : PySem.W.Frag} {H : Hp} {m : Nat} {F : Nat → List Rat} {xs : List V} (h : Pls K H ((List.range m).map F) xs) : xs.length = m := by rw [h.1]; simp
theorem Pls.more {K : PySem.W.Frag} {H : Hp} {m : Nat} {F : Nat → List Rat} {xs : List V} {p : Addr} (h : Pls K H ((List.range m).map F) xs) (k : Pl K H p (F m)) : Pls K H ((List.range (m + 1)).map F) (xs ++ [.ref p]) := by
  rw [List.range_succ, List.map_append]; exact h.snoc k
theorem Reps.of_at {K : PySem.W.Frag} {H : Hp} : ∀ {l : List Dt} {xs : List V}, xs.length = l.length → (∀ (j : Nat) (d : Dt), l[j]? = some d → ∃ x, xs[j]? = some x ∧ Rep K H d x) → Reps K H l xs
  | [], [], _, _ => by simp [Reps]
  | [], _ :: _, h, _ => by simp at h
  | _ :: _, [], h, _ => by simp at h
  | d :: l, x :: xs, h, k => by
    simp only [Reps]
    obtain ⟨y, e, r⟩ := k 0 d rfl
    simp at e
    subst e
    exact ⟨_, _, rfl, r, Reps.of_at (by simpa using h) fun j d z => k (j + 1) d (by simpa using z)⟩
theorem Pls.reps {K : PySem.W.Frag} {H : Hp} {fs : List (List Rat)} {xs : List V} (h : Pls K H fs xs) : Reps K H (fs.map polyD) xs := by
  refine Reps.of_at (by simp [h.1]) fun j d z => ?_
  rw [List.getElem?_map] at z
  obtain ⟨f, e, rfl⟩ := Option.map_eq_some_iff.mp z
  obtain ⟨p, e2, q⟩ := h.2 j f e
  exact ⟨_, e2, q.rep⟩
end L2
namespace Mt
def wr (L D : List Rat) (n k : Nat) : Rat := mc (tp L D (n + 1)) (bt L D n) k - mc (tp L D n) (bt L D (n + 1)) k
end Mt
namespace L2
open PySem PySem.Spec PyProof.Rows
end L2
namespace L2
open PySem PySem.Spec PyProof.Rows
section
variable {prog : Program} {w : World} {A : Around} {E : Value → Shared → Prop} {s : Shared}
end
def ExcAt (e0 : Addr) (H : Hp) : Prop := ∃ cls dv, H e0 = some (excD e0 cls dv)
section
variable {X : Cx} {tg : Expr}
def tCoRH (e0 : Addr) (js : List (Option Nat)) (te : TE) (g : TG) (tl : TE) : TE := fun σ H Q => te σ H fun v H1 => ∃ j : Int, v = .int j ∧ -(2 ^ 62) ≤ j ∧ j < 2 ^ 62 ∧ CO j.toNat (fun i _ x => x = .int i) (ExcAt e0) js g tl σ H1 Q
end
section
variable {X : Cx} {CX : CXT} {k : Nat} {f : Addr} {fd : FuncData} {ps : List Str}  {dvs : List V} {ds : List Value} {E : XK} {x : Str} {p pos : Pos} {e : Expr} {es : List Expr} {t : TA}
end
section
variable {P : Program} {w : World} {K : PySem.W.Frag} {mg : Str → Option Value} {base : Heap} {x qual : Str} {st : Stmt} {f : Addr} {fd : FuncData} {N ps : List Str} {k : Nat} {sp : Addr → Sp}
end
def tHE (K : PySem.W.Frag) (c : Value) (i : Nat) (ts : Addr → TS) (th : TH) : TH := fun cls dv D σ H =>
  (PySem.W.exmOne K cls c = some true ∧ ∀ e, H e = none → ts e (D.gone i) (σ.set i (some (.ref e))) (upd H e (excD e cls dv))) ∨ (PySem.W.exmOne K cls c = some false ∧ th cls dv D σ H)
end L2
namespace L2
open PySem PySem.Spec PyProof.Rows
def FZ (xs ys : List V) (at_ : Hp → Prop) (g : TG) (tb : TS) (D : Ends) (σ : St) (H : Hp) : Prop := ∃ Pv : Nat → St → Hp → Prop, Pv 0 σ H ∧ (∀ i σ H, i ≤ xs.length → Pv i σ H → at_ H) ∧
  (∀ i x y σ H t, xs[i]? = some x → ys[i]? = some y → Pv i σ H → H t = none → g (.ref t) σ (upd H t (.tup [x, y])) fun σ2 H2 => tb { D with nx := Pv (i + 1), ct := Pv (i + 1), bk := D.nx } σ2 H2) ∧ ∀ σ H, Pv xs.length σ H → D.nx σ H
def tForZ (K : PySem.W.Frag) (te te2 : TE) (g : TG) (tb : TS) : TS := fun D σ H => te σ H fun v H1 => te2 σ H1 fun v2 H2 => ∃ l, v = .ref l ∧ ∃ m, v2 = .ref m ∧ ∃ xs ys, SqT K H2 l xs ∧ SqL K H2 m ys ∧ xs.length ≤ ys.length ∧ FZ xs ys (fun H => SqT K H l xs ∧ SqL K H m ys) g tb D σ H2
section
variable {X : Cx} {es : List Expr} {y1 : Nat} {tp : Pos} {a b : Expr} {te te2 : TE} {g : TG} {tb : TS} {body : List Stmt} {p pos pos' : Pos}
end
end L2
namespace L2
open PySem PySem.Spec PyProof.Rows
theorem pe_comp3 {X : Cx} {elt iter tg : Expr} {scope : Scope} (Nl : List Str) (y1 : Str) (j1 : Nat) (y2 : Str) (j2 : Nat) (y3 : Str) (j3 : Nat) {c1 c2 c3 : Addr} {wi : TI} {g : TG} {te : TE} {pos : Pos} (hc : X.calm = true) (hi : PI X tg iter wi)
    (hg : ∀ C s₀ H₀ ex pn, PG (X.cp (Nl ++ [y1, y2, y3]) scope [(y1, c1), (y2, c2), (y3, c3)] C s₀ H₀ ex pn) tg g) (he : ∀ C s₀ H₀ ex pn, PE (X.cp (Nl ++ [y1, y2, y3]) scope [(y1, c1), (y2, c2), (y3, c3)] C s₀ H₀ ex pn) elt te)
    (hclos : closureFor scope X.env = pure [(y1, c1), (y2, c2), (y3, c3)]) (hy1 : X.env.cells.lookup y1 = some c1) (hy2 : X.env.cells.lookup y2 = some c2) (hy3 : X.env.cells.lookup y3 = some c3) (hN1 : X.N[j1]? = some y1) (hN2 : X.N[j2]? = some y2) (hN3 : X.N[j3]? = some y3)
    (hk1 : X.env.kindOf y1 = some .cell) (hk2 : X.env.kindOf y2 = some .cell) (hk3 : X.env.kindOf y3 = some .cell) (hb1 : (relabel scope X.env).names.lookup y1 = some .cell) (hb2 : (relabel scope X.env).names.lookup y2 = some .cell) (hb3 : (relabel scope X.env).names.lookup y3 = some .cell)
    (hne : y2 ≠ y1 := by decide) (hne3 : y3 ≠ y1 := by decide) (hne4 : y3 ≠ y2 := by decide) (h1 : ∀ p ∈ scope.names, p.2 = .free → p.1 = y1 ∨ p.1 = y2 ∨ p.1 = y3 := by decide +kernel) (hcell : ∀ y ∈ scope.names, y.2 ≠ .cell := by decide +kernel) (hkind : scope.kind = .function := by rfl)
    (hnames : ∀ y ∈ scope.names, y.2 = .local → scope.names.lookup y.1 = some .local := by decide +kernel)
    (hs : ∀ x, foldedSetIterable iter X.env x = pure x := by intro _; rfl) : PCo X (.ListComp elt [⟨tg, iter, [], 0⟩] scope pos) scope iter (tComp ((Nl.map fun _ => none) ++ [some j1, some j2, some j3]) wi g te) := by
  have self1 : List.lookup y1 [(y1, c1), (y2, c2), (y3, c3)] = some c1 := by simp
  have self2 : List.lookup y2 [(y1, c1), (y2, c2), (y3, c3)] = some c2 := by
    rw [List.lookup_cons, show (y2 == y1) = false from beq_eq_false_iff_ne.mpr hne]; simp
  have self3 : List.lookup y3 [(y1, c1), (y2, c2), (y3, c3)] = some c3 := by
    rw [List.lookup_cons, show (y3 == y1) = false from beq_eq_false_iff_ne.mpr hne3]
    simp only
    rw [List.lookup_cons, show (y3 == y2) = false from beq_eq_false_iff_ne.mpr hne4]; simp
  have look : ∀ z d, List.lookup z [(y1, c1), (y2, c2), (y3, c3)] = some d → (z = y1 ∧ d = c1) ∨ (z = y2 ∧ d = c2) ∨ (z = y3 ∧ d = c3) := fun z d h => by
    have m := PySem.mem_of_lookup h
    rcases List.mem_cons.mp m with q | q
    · cases q; exact .inl ⟨rfl, rfl⟩
    · rcases List.mem_cons.mp q with q | q
      · cases q; exact .inr (.inl ⟨rfl, rfl⟩)
      · cases List.mem_singleton.mp q; exact .inr (.inr ⟨rfl, rfl⟩)
  refine pe_comp (cl := [(y1, c1), (y2, c2), (y3, c3)]) (Nc := Nl ++ [y1, y2, y3]) hc hi hg he (by simp) (fun z d h => ?_) (fun z h => ?_) (fun i z j' e1 e2 => ?_) hclos hcell hkind hnames hs
  · rcases look z d h with ⟨rfl, rfl⟩ | ⟨rfl, rfl⟩ | ⟨rfl, rfl⟩
    · exact hy1
    · exact hy2
    · exact hy3
  · have m := h.elim (fun q => rel_mem q (.inl rfl) hcell) fun q => rel_mem q (.inr rfl) hcell
    rcases h1 _ m rfl with e | e | e
    · have e : z = y1 := e
      subst e; exact ⟨c1, self1⟩
    · have e : z = y2 := e
      subst e; exact ⟨c2, self2⟩
    · have e : z = y3 := e
      subst e; exact ⟨c3, self3⟩
  · have hi : i = Nl.length ∨ i = Nl.length + 1 ∨ i = Nl.length + 2 := by
      by_cases hlt : i < Nl.length
      · rw [List.getElem?_append_left (by simpa using hlt), List.getElem?_map] at e2
        cases q : Nl[i]? with
        | none => rw [q] at e2; cases e2
        | some z => rw [q] at e2; cases e2
      · have := (List.getElem?_eq_some_iff.mp e1).1
        simp at this
        omega
    rcases hi with rfl | rfl | rfl
    · have a1 : (Nl ++ [y1, y2, y3])[Nl.length]? = some y1 := by simp
      have a2 : ((Nl.map fun _ => (none : Option Nat)) ++ [some j1, some j2, some j3])[Nl.length]? = some (some j1) := by
        rw [List.getElem?_append_right (by simp)]; simp
      rw [a1] at e1; cases e1
      rw [a2] at e2; cases e2
      exact ⟨hN1, .inr (.inl hk1), by rw [hk1]; exact (fun q => nomatch q), .inl hb1, fun d h => by rw [hy1] at h; cases h; exact self1⟩
    · have a1 : (Nl ++ [y1, y2, y3])[Nl.length + 1]? = some y2 := by
        rw [List.getElem?_append_right (by omega)]; simp
      have a2 : ((Nl.map fun _ => (none : Option Nat)) ++ [some j1, some j2, some j3])[Nl.length + 1]? = some (some j2) := by
        rw [List.getElem?_append_right (by simp)]; simp
      rw [a1] at e1; cases e1
      rw [a2] at e2; cases e2
      exact ⟨hN2, .inr (.inl hk2), by rw [hk2]; exact (fun q => nomatch q), .inl hb2, fun d h => by rw [hy2] at h; cases h; exact self2⟩
    · have a1 : (Nl ++ [y1, y2, y3])[Nl.length + 2]? = some y3 := by
        rw [List.getElem?_append_right (by omega)]; simp
      have a2 : ((Nl.map fun _ => (none : Option Nat)) ++ [some j1, some j2, some j3])[Nl.length + 2]? = some (some j3) := by
        rw [List.getElem?_append_right (by simp)]; simp
      rw [a1] at e1; cases e1
      rw [a2] at e2; cases e2
      exact ⟨hN3, .inr (.inl hk3), by rw [hk3]; exact (fun q => nomatch q), .inl hb3, fun d h => by rw [hy3] at h; cases h; exact self3⟩
def Fls (K : PySem.W.Frag) (H : Hp) (gs : List (List Rat)) (xs : List V) : Prop := xs.length = gs.length ∧ ∀ (j : Nat) (g : List Rat), gs[j]? = some g → ∃ p ys, xs[j]? = some (V.ref p) ∧ H p = some (.lst ys) ∧ Frs K H g ys
theorem Fls.same {K : PySem.W.Frag} {H H' : Hp} {gs : List (List Rat)} {xs : List V} (h : Fls K H gs xs) (e : Same H H') : Fls K H' gs xs := ⟨h.1, fun j g z => let ⟨p, ys, e1, e2, q⟩ := h.2 j g z; ⟨p, ys, e1, e _ _ e2, q.same e⟩⟩
theorem Fls.reps {K : PySem.W.Frag} {H : Hp} {gs : List (List Rat)} {xs : List V} (h : Fls K H gs xs) : Reps K H (gs.map lstD) xs := by
  refine Reps.of_at (by simp [h.1]) fun j d z => ?_
  rw [List.getElem?_map] at z
  obtain ⟨g, e, rfl⟩ := Option.map_eq_some_iff.mp z
  obtain ⟨p, ys, e1, e2, q⟩ := h.2 j g e
  exact ⟨_, e1, rep_lst e2 q⟩
theorem lstD_dep (f : List Rat) : 1 ≤ (lstD f).dep ∧ (lstD f).dep ≤ 2 := by
  have a := frDs_dep f
  simp only [lstD, Dt.dep]
  omega
theorem lstDs_dep : ∀ gs : List (List Rat), Dt.deps (gs.map lstD) ≤ 2
  | [] => by simp [Dt.deps]
  | f :: gs => by
    have := lstDs_dep gs
    have := (lstD_dep f).2
    simp only [List.map_cons, Dt.deps]
    omega
def tabD (gs : List (List Rat)) : Dt := .lst (gs.map lstD)
theorem rep_tab {K : PySem.W.Frag} {H : Hp} {p : Addr} {gs : List (List Rat)} {xs : List V} (h : H p = some (.lst xs)) (k : Fls K H gs xs) : Rep K H (tabD gs) (.ref p) := by
  simp only [tabD, Rep]
  exact ⟨p, xs, rfl, SqL.of h, k.reps⟩
theorem tabD_dep (gs : List (List Rat)) : 1 ≤ (tabD gs).dep ∧ (tabD gs).dep ≤ 60 := by
  have := lstDs_dep gs
  simp only [tabD, Dt.dep]
  omega
theorem cutV_mid (xs : List V) (i k : Nat) (h : i ≤ k) (h2 : k ≤ xs.length) : cutV xs (some (i : Int)) (some (k : Int)) = (xs.drop i).take (k - i) := by
  unfold cutV
  rw [HT.sIx_nat, HT.sIx_nat, Nat.min_eq_left (by omega), Nat.min_eq_left (by omega)]
theorem CO.elsD {n : Nat} {src : Nat → Hp → V → Prop} {st : Hp → Prop} {js : List (Option Nat)} {tl : TE} {σ : St} {H1 : Hp} {Q : VK} (G : Addr → Nat → Hp → V → Prop) (gs : ∀ D i H H' x, Same H H' → G D i H x → G D i H' x)
    (gu : ∀ D i H ys o x, H D = some (.lst ys) → G D i H x → G D i (upd H D o) x) (hn : n ≤ 1000) (hst : ∀ H, Same H1 H → st H)
    (hel : ∀ D i H x (R : VK), i < n → Same H1 H → H1 D = none → (∃ ys, H D = some (.lst ys)) → src i H x → (∀ r H3, Same H H3 → G D i H3 r → R r H3) → tl (some x :: cσ js σ) H R)
    (hq : ∀ D H (xs : List V), Same H1 H → H1 D = none → H D = some (.lst xs) → xs.length = n → (∀ (j : Nat) (x : V), xs[j]? = some x → G D j H x) → Q (.ref D) H) : CO n src st (none :: js) (gName 0) tl σ H1 Q := by
  intro D hD
  refine ⟨fun i ys σc H => (∃ r, σc = r :: cσ js σ) ∧ Same H1 H ∧ H D = some (.lst ys) ∧ ys.length = i ∧ ∀ (j : Nat) (x : V), ys[j]? = some x → G D j H x, ⟨⟨none, rfl⟩, same_upd hD, upd_same, rfl, fun j x h => by simp at h⟩, fun i ys σc H _ h => hst H h.2.1, ?_, ?_⟩
  · rintro i ys σc H x hi ⟨⟨r, rfl⟩, sm, hd, ly, hf⟩ hx
    refine hel D i H x _ hi sm hD ⟨ys, hd⟩ hx fun p H3 s3 hy => ?_
    refine ⟨s3 _ _ hd, small1000 (by omega), ⟨_, rfl⟩, (sm.trans s3).updL hD, upd_same, by simp [ly], fun j x z => ?_⟩
    refine gu D j H3 ys _ x (s3 _ _ hd) ?_
    rcases Nat.lt_or_ge j ys.length with l | l
    · rw [List.getElem?_append_left l] at z
      exact gs D j H H3 x s3 (hf j x z)
    · rw [List.getElem?_append_right l] at z
      have j0 : j = i := by
        rcases Nat.lt_or_ge (j - ys.length) 1 with y | y
        · omega
        · rw [List.getElem?_eq_none (by simpa using y)] at z; cases z
      subst j0
      rw [ly, Nat.sub_self] at z
      simp at z
      subst z
      exact hy
  · rintro ys σc H ⟨_, sm, hd, ly, hf⟩
    exact ⟨hd, hq D H ys sm hD hd ly hf⟩
end L2
namespace K22
open PySem L2
theorem cx_K {CX : CXT} {P : Program} {w : World} {K : PySem.W.Frag} {mg : Str → Option Value} {base : Heap} {N : List Str} {qual : Str} {scope : Scope} {f : Addr} {cd : Value} {A : Around} {outer : List Env} {s : Shared} {H : Hp} {E : XK} : (cxOf CX P w K mg base N qual scope f cd A outer s H E).K = K := rfl
theorem cxU_K {CX : CXT} {P : Program} {w : World} {K : PySem.W.Frag} {mg : Str → Option Value} {base : Heap} {N : List Str} {qual : Str} {scope : Scope} {f : Addr} {cd : Value} {A : Around} {outer : List Env} {s : Shared} {H : Hp} {E : XK} : (cxU CX P w K mg base N qual scope f cd A outer s H E).K = K := rfl
local macro_rules | `(tactic| walk_at "rd") => `(tactic| simp [tSeq, tIfS, tTest, tB, tOp, rI, rI0, rEq, rNe, scal, tVar, tC, tCB, tCons, tNil, tNext, tRet, tRetN, L2.start, rIxL, rIxT, rFqI, tAsg, gName, tUn, rU, tNot, tNotV, tAnd, tOr, tAndV, tOrV, tIf, tTup, tLst, tCall, tCallS, tDrop, tForR, tForT, tForL, tForE, tForV, gTup, gCons, gNil, gSub, rSetL, tRaise, tTry, tH, Ends.gone, cσ, CPow, tCoR, tCoL, tCoT, tCoX, tForX, tExcInit, tFs, sXset, tXget, tRaiseI, tJoinRev, tChain, rAll, tHno, cx_K, cxU_K, rIn, tSl, tNoPart, tPart, rAppend, tBM, tForR2, tBM0, rClear, rReverse, tPar, tVs, tCoZ, tCoRH, tHE, tForZ])
def top (i : Nat) : Stmt := PySem.Challenge.pw_heightfractions_k22_tables_of_moments.main.body.getD i (.Pass ⟨0, 0, 0, 0⟩)
structure Tx (w : World) (K : PySem.W.Frag) (mg : Str → Option Value) (C_HeightError : Addr) (C_NoCount : Addr) (C_NoFamily : Addr) (C_NoFraction : Addr) (C_NoHistory : Addr) (C_NoLine : Addr) (C_NoMeeting : Addr) (C_NoMoments : Addr) (C_NoName : Addr) (C_NoNumber : Addr) (C_NoSeries : Addr) (C_NoText : Addr) (C_NoThing : Addr) (C_NoWay : Addr) (C_NoWeights : Addr) (C_TooFar : Addr) (C_TooHigh : Addr) (C_TooMany : Addr) : Prop where
  b_ValueError : mg "ValueError" = none
  b_abs : mg "abs" = none
  b_isinstance : mg "isinstance" = none
  b_len : mg "len" = none
  b_list : mg "list" = none
  b_max : mg "max" = none
  b_range : mg "range" = none
  m_HeightError : mg "HeightError" = some (.ref C_HeightError)
  m_NoCount : mg "NoCount" = some (.ref C_NoCount)
  m_NoFamily : mg "NoFamily" = some (.ref C_NoFamily)
  m_NoFraction : mg "NoFraction" = some (.ref C_NoFraction)
  m_NoHistory : mg "NoHistory" = some (.ref C_NoHistory)
  m_NoLine : mg "NoLine" = some (.ref C_NoLine)
  m_NoMeeting : mg "NoMeeting" = some (.ref C_NoMeeting)
  m_NoMoments : mg "NoMoments" = some (.ref C_NoMoments)
  m_NoName : mg "NoName" = some (.ref C_NoName)
  m_NoNumber : mg "NoNumber" = some (.ref C_NoNumber)
  m_NoSeries : mg "NoSeries" = some (.ref C_NoSeries)
  m_NoText : mg "NoText" = some (.ref C_NoText)
  m_NoThing : mg "NoThing" = some (.ref C_NoThing)
  m_NoWay : mg "NoWay" = some (.ref C_NoWay)
  m_NoWeights : mg "NoWeights" = some (.ref C_NoWeights)
  m_TooFar : mg "TooFar" = some (.ref C_TooFar)
  m_TooHigh : mg "TooHigh" = some (.ref C_TooHigh)
  m_TooMany : mg "TooMany" = some (.ref C_TooMany)
  x_TooFar : ExcC K C_TooFar
  xc : XCls K C_TooFar
  ex : PySem.W.exmOne K (.ref C_TooFar) (.ref C_HeightError) = some true
  k_ValueError : PySem.W.kitOne K (.ref C_TooFar) (.type "ValueError") = some true
  k_NoFraction : PySem.W.kitOne K (.ref C_TooFar) (.ref C_NoFraction) = some false
  k_TooMany : PySem.W.kitOne K (.ref C_TooFar) (.ref C_TooMany) = some false
  k_TooFar : PySem.W.kitOne K (.ref C_TooFar) (.ref C_TooFar) = some true
  k_NoNumber : PySem.W.kitOne K (.ref C_TooFar) (.ref C_NoNumber) = some false
  k_NoWeights : PySem.W.kitOne K (.ref C_TooFar) (.ref C_NoWeights) = some false
  k_NoSeries : PySem.W.kitOne K (.ref C_TooFar) (.ref C_NoSeries) = some false
  k_NoMoments : PySem.W.kitOne K (.ref C_TooFar) (.ref C_NoMoments) = some false
  k_NoFamily : PySem.W.kitOne K (.ref C_TooFar) (.ref C_NoFamily) = some false
  k_NoMeeting : PySem.W.kitOne K (.ref C_TooFar) (.ref C_NoMeeting) = some false
  k_NoThing : PySem.W.kitOne K (.ref C_TooFar) (.ref C_NoThing) = some false
  k_NoLine : PySem.W.kitOne K (.ref C_TooFar) (.ref C_NoLine) = some false
  k_NoText : PySem.W.kitOne K (.ref C_TooFar) (.ref C_NoText) = some false
  k_NoWay : PySem.W.kitOne K (.ref C_TooFar) (.ref C_NoWay) = some false
  k_TooHigh : PySem.W.kitOne K (.ref C_TooFar) (.ref C_TooHigh) = some false
  k_NoHistory : PySem.W.kitOne K (.ref C_TooFar) (.ref C_NoHistory) = some false
  k_NoCount : PySem.W.kitOne K (.ref C_TooFar) (.ref C_NoCount) = some false
  k_NoName : PySem.W.kitOne K (.ref C_TooFar) (.ref C_NoName) = some false
theorem bd_ten60 {g : Int} : CDivB g 1000000000000000000000000000000000000000000000000000000000000 := ⟨by decide, Bd.mono (m := 200) (by show (_ : Nat) < _; decide) (by decide)⟩
def spCell (K : PySem.W.Frag) : Sp := fun vs H Q _ => ∃ (a : Addr) (ns : List Int) (k : Int), vs = [.ref a, .int k] ∧ SqL K H a (ns.map V.int) ∧ 0 ≤ k ∧ ∀ c : Int, Q (.int c) H
def spStir : Sp := fun vs H Q _ => ∃ (c k : Int), vs = [.int c, .int k] ∧ 0 ≤ k ∧ k ≤ 1000 ∧ ∀ d : Int, 0 ≤ d → d < 1000000000000000000000000000000000000000000000000000000000000 → Q (.int d) H
def spDrawn (K : PySem.W.Frag) : Sp := fun vs H Q _ => ∃ (a : Addr) (ns : List Int) (k : Int), vs = [.ref a, .int k] ∧ SqL K H a (ns.map V.int) ∧ 0 ≤ k ∧ k ≤ 1000 ∧ ∀ d : Int, 0 ≤ d → d < 1000000000000000000000000000000000000000000000000000000000000 → Q (.int d) H
def spGcd : Sp := fun vs H Q _ => ∃ (a b : Int), vs = [.int a, .int b] ∧ Q (.int (Int.gcd a b : Nat)) H
def spLow : Sp := fun vs H Q _ => ∃ (t b : Int), vs = [.int t, .int b] ∧ 0 < b ∧ Bd 9000 b ∧ ∀ p, H p = none → Q (.ref p) (upd H p (frO (Rat.divInt t b)))
def spNumBy : Sp := fun vs H Q _ => ∃ (c : Int), vs = [.int c] ∧ ∀ p q, H p = none → Sz 100 q → Q (.ref p) (upd H p (frO q))
def oneHot (j : Nat) : List Bool := (List.range 18).map fun k => k == 0 || k == j
def spMarks (C : Addr) (j : Nat) : Sp := fun vs H Q _ => ∃ (e : Addr) (dv : Option Addr), vs = [.ref e] ∧ H e = some (excD e (.ref C) dv) ∧ ∀ l H', Same H H' → H l = none → H' l = some (.lst ((oneHot j).map V.bl)) → Q (.ref l) H'
def spOnly : Sp := fun vs H Q _ => ∃ (j : Nat), vs = [.int j] ∧ j < 18 ∧ ∀ l H', Same H H' → H l = none → H' l = some (.lst ((oneHot j).map V.bl)) → Q (.ref l) H'
theorem step3d {K : PySem.W.Frag} {C e l : Addr} {dv : Option Addr} {xs : List V} {H : Hp} {c1 c2 c3 : V} {v1 v2 v3 : Value} {b1 b2 b3 : Bool} {R : VK} (he : H e = some (excD e (.ref C) dv)) (hl : H l = some (.lst xs)) (hn : xs.length ≤ 100) (x : XCls K C)
    (d1 : clsV c1 = some v1) (k1 : PySem.W.kitOne K (.ref C) v1 = some b1) (d2 : clsV c2 = some v2) (k2 : PySem.W.kitOne K (.ref C) v2 = some b2) (d3 : clsV c3 = some v3) (k3 : PySem.W.kitOne K (.ref C) v3 = some b3)
    (h : ∀ l' H', Same H H' → H l' = none → H' e = some (excD e (.ref C) dv) → H' l' = some (.lst (xs ++ [.bl b1, .bl b2, .bl b3])) → R (.ref l') H') :
    rIsi K [.ref e, c1] H fun x1 H1 => rIsi K [.ref e, c2] H1 fun x2 H2 => rIsi K [.ref e, c3] H2 fun x3 H3 => 3 ≤ sizeLine ∧ ∀ p, H3 p = none → rCat (.ref l) (.ref p) (upd H3 p (.lst [x1, x2, x3])) R := by
  refine isi_x he x d1 k1 (isi_x he x d2 k2 (isi_x he x d3 k3 ⟨sz_le 3 (by decide), fun p n => ?_⟩))
  have s1 : Same H (upd H p (.lst [.bl b1, .bl b2, .bl b3])) := same_upd n
  refine ⟨l, p, _, _, rfl, rfl, s1 _ _ hl, upd_same, sz_le _ (by simp; omega), fun q m => ?_⟩
  have s2 := s1.trans (same_upd (o := .lst (xs ++ [.bl b1, .bl b2, .bl b3])) m)
  exact h q _ s2 (s1.free m) (s2 _ _ he) upd_same
def tab (ms : List Rat) (size sh : Nat) : List (List Rat) := (List.range size).map fun i => (ms.drop (i + sh)).take size
def bad (ms : List Rat) (size sh : Nat) : Prop := 0 < size ∧ ms.length ≤ 2 * (size - 1) + sh
def TabAt (K : PySem.W.Frag) (H0 H : Hp) (D : Addr) (ms : List Rat) (size sh : Nat) : Prop := Same H0 H ∧ H0 D = none ∧ ∃ zs, H D = some (.lst zs) ∧ Fls K H (tab ms size sh) zs ∧ zs.length = size ∧ ∀ p, V.ref p ∈ zs → p ≠ D ∧ H0 p = none
def spTable (K : PySem.W.Frag) (C : Addr) : Sp := fun vs H Q E => ∃ (m : Addr) (xs : List V) (ms : List Rat) (size sh : Nat), vs = [.ref m, .int size, .int sh] ∧ SqL K H m xs ∧ Frs K H ms xs ∧ size ≤ 20 ∧ sh ≤ 20 ∧ ms.length ≤ 100 ∧
  (bad ms size sh → E (.ref C) none H) ∧ (¬ bad ms size sh → ∀ D H', TabAt K H H' D ms size sh → Q (.ref D) H')
def spAsk (K : PySem.W.Frag) : Sp := fun vs H Q _ => ∃ (m : Addr) (xs : List V) (ms : List Rat) (size : Nat) (shv : V) (sh : Nat), vs = [.ref m, .int size, shv] ∧ (shv = .non ∧ sh = 0 ∨ shv = .int sh) ∧ SqL K H m xs ∧ Frs K H ms xs ∧ size ≤ 20 ∧ sh ≤ 20 ∧ ms.length ≤ 100 ∧
  (bad ms size sh → ∀ l H', Same H H' → H' l = some (.lst ((oneHot 3).map V.bl)) → Q (.ref l) H') ∧ (¬ bad ms size sh → ∀ D H', TabAt K H H' D ms size sh → Q (.ref D) H')
def spHolds (K : PySem.W.Frag) : Sp := fun vs H Q _ => ∃ (m : Addr) (xs : List V) (ms : List Rat) (size : Nat) (shv : V) (sh : Nat), vs = [.ref m, .int size, shv] ∧ (shv = .non ∧ sh = 0 ∨ shv = .int sh) ∧ H m = some (.lst xs) ∧ Frs K H ms xs ∧ size ≤ 20 ∧ sh ≤ 20 ∧ ms.length ≤ 100 ∧ ∀ H', Same H H' → Q (.bl true) H'
theorem cut_in {ms : List Rat} {xs : List V} {K : PySem.W.Frag} {H : Hp} {size sh i : Nat} (f : Frs K H ms xs) (hi : i < size) (nb : ¬ bad ms size sh) : Frs K H ((ms.drop (i + sh)).take size) (cutV xs (some ((i : Int) + (sh : Int))) (some ((i : Int) + (sh : Int) + (size : Int)))) := by
  have lx := f.len
  have l : i + sh + size ≤ xs.length := by
    have : ¬ (ms.length ≤ 2 * (size - 1) + sh) := fun y => nb ⟨by omega, y⟩
    omega
  have e := cutV_mid xs (i + sh) (i + sh + size) (by omega) l
  rw [show ((i + sh : Nat) : Int) = (i : Int) + (sh : Int) by omega, show ((i + sh + size : Nat) : Int) = (i : Int) + (sh : Int) + (size : Int) by omega, show i + sh + size - (i + sh) = size by omega] at e
  rw [e]
  exact (f.drop _).take _
theorem fls_of {K : PySem.W.Frag} {H : Hp} {ms : List Rat} {size sh : Nat} {zs : List V} (hl : zs.length = size) (h : ∀ (j : Nat) (x : V), zs[j]? = some x → ∃ p ys, x = .ref p ∧ H p = some (.lst ys) ∧ Frs K H ((ms.drop (j + sh)).take size) ys) : Fls K H (tab ms size sh) zs := by
  refine ⟨by simp [tab, hl], fun j g z => ?_⟩
  have hj : j < size := by
    rcases Nat.lt_or_ge j size with y | y
    · exact y
    · rw [tab, List.getElem?_eq_none (by simpa using y)] at z; cases z
  have e : zs[j]? = some zs[j] := List.getElem?_eq_getElem (by omega)
  obtain ⟨p, ys, e1, e2, f⟩ := h j _ e
  have eg : g = (ms.drop (j + sh)).take size := by
    rw [tab, List.getElem?_map, List.getElem?_range hj] at z
    exact (Option.some.inj z).symm
  rw [eg]
  exact ⟨p, ys, by rw [e, e1], e2, f⟩
def spLaw (K : PySem.W.Frag) : Sp := fun vs H Q _ => ∃ (a : Addr) (ns : List Int), vs = [.ref a] ∧ SqL K H a (ns.map V.int) ∧ ns.length ≤ 63 ∧ ∀ H', Q (.bl true) H'
section
variable {P : Program} {w : World} {K : PySem.W.Frag} {mg : Str → Option Value} {base : Heap} {C_HeightError : Addr} {C_NoCount : Addr} {C_NoFamily : Addr} {C_NoFraction : Addr} {C_NoHistory : Addr} {C_NoLine : Addr} {C_NoMeeting : Addr} {C_NoMoments : Addr} {C_NoName : Addr} {C_NoNumber : Addr} {C_NoSeries : Addr} {C_NoText : Addr} {C_NoThing : Addr} {C_NoWay : Addr} {C_NoWeights : Addr} {C_TooFar : Addr} {C_TooHigh : Addr} {C_TooMany : Addr}
abbrev s_moment_table : Stmt := top 20
theorem sc_moment_table : FnScope ["moments", "size", "shift", "last"] ["moments", "size", "shift"] (defScope s_moment_table) := ⟨rfl, rfl, rfl, by decide +kernel, rfl, by decide +kernel, by decide +kernel⟩
theorem ok_moment_table {f : Addr} {fd : FuncData} (F : FunD K "moment_table" "moment_table" s_moment_table [.int 0] f fd) (m : mg "moment_table" = some (.ref f)) (T : Tx w K mg C_HeightError C_NoCount C_NoFamily C_NoFraction C_NoHistory C_NoLine C_NoMeeting C_NoMoments C_NoName C_NoNumber C_NoSeries C_NoText C_NoThing C_NoWay C_NoWeights C_TooFar C_TooHigh C_TooMany) : CalleeD P w K mg base 1 "moment_table" ["moments", "size", "shift"] [.int 0] (spTable K C_TooFar) := by
  refine F.callee m ?_ ?_
  rotate_left
  · intro i hi T kV doc pm an cdv ct items us hl hz
    obtain ⟨l⟩ := items
    have hl2 : l.length = 1 := hl
    have hi2 : i ≤ 1 := hi
    have hz2 : us.length = 2 + i := by simp at hz; omega
    clear hz hl hi
    match l, hl2 with
    | [_], _ =>
      rcases (show i = 0 ∨ i = 1 by omega) with rfl | rfl
      · match us, hz2 with | [_, _], _ => exact ⟨_, rfl, rfl⟩
      · match us, hz2 with | [_, _, _], _ => exact ⟨_, rfl, rfl⟩
  refine F.okX sc_moment_table (fun vs H Q E h => ?_) (fun cdv A outer s H vs Q E hr h => ?_)
  · obtain ⟨_, _, _, _, _, rfl, _⟩ := h
    rfl
  · obtain ⟨m, xs, ms, size, sh, rfl, hm, fm, hs, hsh, lm, h0, h1⟩ := h
    refine ⟨_, (pss_cons (ps_set (i := 3) sc_moment_table.nd rfl (Or.inl rfl) (pe_op op_add (pe_op op_mul pe_int (pe_op op_sub (pv 1) pe_int)) (pv 2))) (pss_cons (ps_if (PW.pt (pw_and (pt_cmpR op_gt (pv 1) pe_int (nomark _)) (pw_and1 (PW.pt (pw_or (pt_cmpR op_lt (pv 2) pe_int (nomark _)) (pw_or1 (pt_cmpR op_ge (pv 3) (pe_callB call_len_seq (by rfl) T.b_len PySem.boot_len (pa_cons (pv 0) pa_nil)) (nomark _)))))))) (pss_one (ps_raise raises_cx rfl rfl T.m_TooFar T.x_TooFar (pa_cons pe_str pa_nil))) pss_nil) (pss_one (ps_ret (PCo.pe (coR T.b_range (pv 1) (fun _ hpi => pe_comp3 ["i"] "size" 1 "shift" 2 "moments" 0 rfl hpi (fun _ _ _ _ _ => (pg_name (i := 0) (show List.Nodup [("i" : Str), ("size" : Str), ("shift" : Str), ("moments" : Str)] by decide +kernel) rfl (Or.inl rfl) (Or.inr rfl)).mo) (fun _ _ _ _ _ => PE.mo (pe_callTy (show CallR _ (.type "list") (fun xs H Q => ∃ p ys, xs = [.ref p] ∧ (SqL K H p ys ∨ SqT K H p ys) ∧ ∀ l, H l = none → Q (.ref l) (upd H l (.lst ys))) from call_list_of) (by rfl) T.b_list (by decide +kernel) (pa_cons (pe_slice (show SlR _ (rSlL K) from sl_list) (pv 3) (po_some (pe_op op_add (pv 0) (pv 2))) (po_some (pe_op op_add (pe_op op_add (pv 0) (pv 2)) (pv 1)))) pa_nil))) rfl rfl rfl rfl rfl rfl rfl rfl rfl rfl rfl rfl rfl))))))), ?_⟩
    have lx := fm.len
    refine tSeq_step fun N hN => ?_
    walk_at "rd"
    refine ⟨.inl ⟨by decide, by decide⟩, hN _ _ ?_⟩
    clear hN N
    refine tSeq_step fun N hN => ?_
    walk_at "rd"
    have go : ¬ bad ms size sh → N [some (V.ref m), some (V.int ↑size), some (V.int ↑sh), some (V.int (2 * (↑size - 1) + ↑sh))] H := fun nb => by
      refine hN _ _ ?_
      clear hN N
      walk_at "rd"
      refine ⟨by omega, ?_⟩
      refine CO.elsD (fun D i H' v => ∃ p ys, v = .ref p ∧ H' p = some (.lst ys) ∧ Frs K H' ((ms.drop (i + sh)).take size) ys ∧ H p = none ∧ p ≠ D) (fun D i H1 H2 x s h => ?_) (fun D i H1 ys o x hD h => ?_) (by omega) (fun _ _ => trivial) (fun D i H1 x R hi sm nD hD hx kk => ?_) fun D H1 zs s1 nD hD lz hz => ?_
      · obtain ⟨p, ys, e, h1, f, n⟩ := h
        exact ⟨p, ys, e, s _ _ h1, f.same s, n⟩
      · obtain ⟨p, us, e, h1, f, n, ne⟩ := h
        exact ⟨p, us, e, by rw [upd_ne ne]; exact h1, Frs.updL hD f, n, ne⟩
      · subst hx
        obtain ⟨ws, hD⟩ := hD
        walk_at "rd"
        refine ⟨m, xs, rfl, sm.seq hm, fun p1 n1 => ⟨p1, rfl, _, .inl (SqL.of upd_same), fun l nl => ?_⟩⟩
        have u1 := same_upd (o := .lst (cutV xs (some ((i : Int) + (sh : Int))) (some ((i : Int) + (sh : Int) + (size : Int))))) n1
        have u2 := same_upd (o := .lst (cutV xs (some ((i : Int) + (sh : Int))) (some ((i : Int) + (sh : Int) + (size : Int))))) nl
        refine kk _ _ (u1.trans u2) ⟨l, _, rfl, upd_same, ((cut_in fm hi nb).same sm).same (u1.trans u2), (sm.trans u1).free nl, (ne_of_none (u1 _ _ hD) nl).symm⟩
      · refine h1 nb D H1 ⟨s1, nD, zs, hD, fls_of lz fun j x z => ?_, lz, fun p hp => ?_⟩
        · obtain ⟨p, ys, e, h, f, _, _⟩ := hz j x z
          exact ⟨p, ys, e, h, f⟩
        · obtain ⟨j, hj, e⟩ := List.mem_iff_getElem.mp hp
          obtain ⟨p', ys, e2, _, _, n, ne⟩ := hz j (.ref p) (by rw [List.getElem?_eq_getElem hj, e])
          cases e2
          exact ⟨ne, n⟩
    by_cases y : 0 < size
    · rw [if_pos y, if_neg (by omega)]
      refine ⟨xs, .inl hm, ?_⟩
      split
      · rename_i z
        exact ⟨sz_le 1 (by decide), h0 ⟨y, by omega⟩⟩
      · rename_i z
        exact go fun ⟨_, b⟩ => z (by omega)
    · rw [if_neg y]
      exact go fun ⟨b, _⟩ => y b
abbrev s__law_cell_at : Stmt := top 22
theorem sc__law_cell_at : FnScope ["_law_script", "_law_k"] ["_law_script", "_law_k"] (defScope s__law_cell_at) := ⟨rfl, rfl, rfl, by decide +kernel, rfl, by decide +kernel, by decide +kernel⟩
theorem ok__law_cell_at {f : Addr} {fd : FuncData} (F : Fun K "_law_cell_at" "_law_cell_at" s__law_cell_at f fd) (m : mg "_law_cell_at" = some (.ref f)) (T : Tx w K mg C_HeightError C_NoCount C_NoFamily C_NoFraction C_NoHistory C_NoLine C_NoMeeting C_NoMoments C_NoName C_NoNumber C_NoSeries C_NoText C_NoThing C_NoWay C_NoWeights C_TooFar C_TooHigh C_TooMany) : Callee P w K mg base 1 "_law_cell_at" ["_law_script", "_law_k"] (spCell K) := by
  refine ⟨f, fd, ?_, m, F.kp, F.binds fun _ _ _ _ _ _ us hl => match us, hl with | [_, _], _ => rfl⟩
  refine F.okE sc__law_cell_at (fun vs H Q E h => ?_) (fun cdv A outer s H vs Q E hr h => ?_)
  · obtain ⟨_, _, _, rfl, _⟩ := h
    rfl
  · obtain ⟨a, ns, k, rfl, hs, hk, hq⟩ := h
    refine ⟨_, (pss_cons (ps_if (pt_cmpR op_lt (pv 1) (pe_callB call_len_seq (by rfl) T.b_len PySem.boot_len (pa_cons (pv 0) pa_nil)) (nomark _)) (pss_one (ps_ret (pe_ix ix_list (pv 0) (pv 1) (fun _ _ => rfl)))) pss_nil) (pss_one (ps_ret pe_int))), ?_⟩
    walk_at "rd"
    refine ⟨ns.map V.int, .inl hs, ?_⟩
    split
    · rename_i hlt
      have hl : k.toNat < ns.length := by simp at hlt; omega
      refine ⟨ns.map V.int, hs, .int ns[k.toNat], ?_, hq _⟩
      have := atI_nat (xs := ns.map V.int) (j := k.toNat) (v := .int ns[k.toNat]) (by simp [hl])
      rw [Int.toNat_of_nonneg hk] at this
      exact this
    · exact hq 0
abbrev s__law_stir : Stmt := top 23
theorem sc__law_stir : FnScope ["_law_cell", "_law_k", "_law_c", "_law_low_here"] ["_law_cell", "_law_k"] (defScope s__law_stir) := ⟨rfl, rfl, rfl, by decide +kernel, rfl, by decide +kernel, by decide +kernel⟩
theorem ok__law_stir {f : Addr} {fd : FuncData} (F : Fun K "_law_stir" "_law_stir" s__law_stir f fd) (m : mg "_law_stir" = some (.ref f)) (T : Tx w K mg C_HeightError C_NoCount C_NoFamily C_NoFraction C_NoHistory C_NoLine C_NoMeeting C_NoMoments C_NoName C_NoNumber C_NoSeries C_NoText C_NoThing C_NoWay C_NoWeights C_TooFar C_TooHigh C_TooMany) : Callee P w K mg base 1 "_law_stir" ["_law_cell", "_law_k"] (spStir) := by
  refine ⟨f, fd, ?_, m, F.kp, F.binds fun _ _ _ _ _ _ us hl => match us, hl with | [_, _], _ => rfl⟩
  refine F.okE sc__law_stir (fun vs H Q E h => ?_) (fun cdv A outer s H vs Q E hr h => ?_)
  · obtain ⟨_, _, rfl, _⟩ := h
    rfl
  · obtain ⟨c, k, rfl, hk, hk2, hq⟩ := h
    refine ⟨_, (pss_cons (ps_set (i := 2) sc__law_stir.nd rfl (Or.inl rfl) (pe_op op_add (pe_op op_add (pe_op op_add (pe_op op_mod (pv 0) (pe_op op_pow pe_int pe_int)) pe_int) (pe_op op_mul pe_int (pv 1))) (pe_op op_mul (pe_op op_mul pe_int (pv 1)) (pv 1)))) (pss_cons (ps_set (i := 3) sc__law_stir.nd rfl (Or.inl rfl) (pe_op op_mod (pe_op op_mul (pe_op op_mod (pe_op op_mul (pv 2) pe_int) pe_int) pe_int) pe_int)) (pss_one (ps_ret (pe_op op_add (pv 3) (pe_op op_mul pe_int (pe_op op_mod (pe_op op_mul (pe_op op_mul (pv 2) (pv 3)) pe_int) (pe_op op_add (pe_op op_pow pe_int pe_int) pe_int)))))))), ?_⟩
    walk_at "rd"
    refine ⟨.inl ⟨by decide, by decide⟩, .inl ⟨by decide, by decide⟩, .inr ⟨by omega, by omega⟩, .inr ⟨by decide, by decide⟩, .inr ⟨by decide, by decide⟩, .inr ?_, .inr ⟨by decide, by decide⟩, .inl ⟨by decide, by decide⟩, ?_⟩
    · generalize (c % 10000000000000000000000000000000000000000 + 1 + 13 * k + 7 * k * k) * 48271 % 2147483647 * 69621 = z
      exact ⟨by omega, by omega⟩
    · generalize (c % 10000000000000000000000000000000000000000 + 1 + 13 * k + 7 * k * k) * 48271 % 2147483647 * 69621 = z
      generalize (c % 10000000000000000000000000000000000000000 + 1 + 13 * k + 7 * k * k) * (z % 1000000007) * 2862933555777941757 = y
      exact hq _ (by omega) (by omega)
abbrev s__law_drawn : Stmt := top 24
theorem sc__law_drawn : FnScope ["_law_script", "_law_k", "_law_great", "_law_step"] ["_law_script", "_law_k"] (defScope s__law_drawn) := ⟨rfl, rfl, rfl, by decide +kernel, rfl, by decide +kernel, by decide +kernel⟩
theorem ok__law_drawn {f : Addr} {fd : FuncData} (F : Fun K "_law_drawn" "_law_drawn" s__law_drawn f fd) (m : mg "_law_drawn" = some (.ref f)) (T : Tx w K mg C_HeightError C_NoCount C_NoFamily C_NoFraction C_NoHistory C_NoLine C_NoMeeting C_NoMoments C_NoName C_NoNumber C_NoSeries C_NoText C_NoThing C_NoWay C_NoWeights C_TooFar C_TooHigh C_TooMany) (c__law_cell_at : Callee P w K mg base 1 "_law_cell_at" ["_law_script", "_law_k"] (spCell K)) (c__law_stir : Callee P w K mg base 1 "_law_stir" ["_law_cell", "_law_k"] (spStir)) : Callee P w K mg base 2 "_law_drawn" ["_law_script", "_law_k"] (spDrawn K) := by
  refine ⟨f, fd, ?_, m, F.kp, F.binds fun _ _ _ _ _ _ us hl => match us, hl with | [_, _], _ => rfl⟩
  refine F.okE sc__law_drawn (fun vs H Q E h => ?_) (fun cdv A outer s H vs Q E hr h => ?_)
  · obtain ⟨_, _, _, rfl, _⟩ := h
    rfl
  · obtain ⟨a, ns, k, rfl, hs, hk, hk2, hq⟩ := h
    refine ⟨_, (pss_cons (ps_set (i := 2) sc__law_drawn.nd rfl (Or.inl rfl) (pe_c c__law_cell_at (hr.mono (by decide)) np (pa_cons (pv 0) (pa_cons pe_int pa_nil)))) (pss_cons (ps_if (PW.pt (pw_and (pt_cmpR op_eq (pe_op op_mod (pe_c c__law_cell_at (hr.mono (by decide)) np (pa_cons (pv 0) (pa_cons pe_int pa_nil))) pe_int) pe_int (nomark _)) (pw_and1 (pt_cmpR op_ge (pv 2) (pe_op op_pow pe_int pe_int) (nomark _))))) (pss_cons (ps_forR rfl PassesOwn.never T.b_range (pv 1) (pg_name (i := 3) sc__law_drawn.nd rfl (Or.inl rfl)) (pss_one (ps_set (i := 2) sc__law_drawn.nd rfl (Or.inl rfl) (pe_op op_fdivB (pv 2) (pe_op op_pow pe_int pe_int))))) (pss_one (ps_ret (pe_op op_mod (pv 2) (pe_op op_pow pe_int pe_int))))) pss_nil) (pss_one (ps_ret (pe_c c__law_stir (hr.mono (by decide)) np (pa_cons (pe_c c__law_cell_at (hr.mono (by decide)) np (pa_cons (pv 0) (pa_cons (pv 1) pa_nil))) (pa_cons (pv 1) pa_nil))))))), ?_⟩
    walk_at "rd"
    refine ⟨a, ns, 1, rfl, hs, by decide, fun great => ⟨a, ns, 0, rfl, hs, by decide, fun c0 => ?_⟩⟩
    walk_at "rd"
    have last : spCell K [V.ref a, V.int k] H (fun x H1 => spStir [x, V.int k] H1 Q E0) E0 := ⟨a, ns, k, rfl, hs, hk, fun c => ⟨c, k, rfl, hk, hk2, hq⟩⟩
    split
    · split
      · refine ⟨by omega, by omega, ?_⟩
        refine ⟨fun _ σ H' => ∃ (g : Int) (r : Option V), σ = [some (.ref a), some (.int k), some (.int g), r] ∧ H' = H, ⟨great, none, rfl, rfl⟩, ?_, ?_⟩
        · rintro i σ H' _ ⟨g, r, rfl, rfl⟩
          walk_at "rd"
          exact bd_ten60
        · rintro σ H' ⟨g, r, rfl, rfl⟩
          walk_at "rd"
          exact hq _ (by omega) (by omega)
      · exact last
    · exact last
abbrev s__law_divisor : Stmt := top 26
theorem sc__law_divisor : FnScope ["_law_a", "_law_b", "_law_rest"] ["_law_a", "_law_b"] (defScope s__law_divisor) := ⟨rfl, rfl, rfl, by decide +kernel, rfl, by decide +kernel, by decide +kernel⟩
theorem ok__law_divisor {f : Addr} {fd : FuncData} (F : Fun K "_law_divisor" "_law_divisor" s__law_divisor f fd) (m : mg "_law_divisor" = some (.ref f)) (T : Tx w K mg C_HeightError C_NoCount C_NoFamily C_NoFraction C_NoHistory C_NoLine C_NoMeeting C_NoMoments C_NoName C_NoNumber C_NoSeries C_NoText C_NoThing C_NoWay C_NoWeights C_TooFar C_TooHigh C_TooMany) : Callee P w K mg base 1 "_law_divisor" ["_law_a", "_law_b"] (spGcd) := by
  refine ⟨f, fd, ?_, m, F.kp, F.binds fun _ _ _ _ _ _ us hl => match us, hl with | [_, _], _ => rfl⟩
  refine F.okE sc__law_divisor (fun vs H Q E h => ?_) (fun cdv A outer s H vs Q E hr h => ?_)
  · obtain ⟨_, _, rfl, _⟩ := h
    rfl
  · obtain ⟨a, b, rfl, hq⟩ := h
    refine ⟨_, (pss_cons (ps_set (i := 0) sc__law_divisor.nd rfl (Or.inl rfl) (pe_callB call_abs (by rfl) T.b_abs (by decide +kernel) (pa_cons (pv 0) pa_nil))) (pss_cons (ps_set (i := 1) sc__law_divisor.nd rfl (Or.inl rfl) (pe_callB call_abs (by rfl) T.b_abs (by decide +kernel) (pa_cons (pv 1) pa_nil))) (pss_cons (ps_wh PassesOwn.never (pt_cmpR op_gt (pv 1) pe_int (nomark _)) (pss_cons (ps_set (i := 2) sc__law_divisor.nd rfl (Or.inl rfl) (pe_op op_mod (pv 0) (pv 1))) (pss_cons (ps_set (i := 0) sc__law_divisor.nd rfl (Or.inl rfl) (pv 1)) (pss_one (ps_set (i := 1) sc__law_divisor.nd rfl (Or.inl rfl) (pv 2)))))) (pss_one (ps_ret (pv 0)))))), ?_⟩
    walk_at "rd"
    refine ⟨fun σ H' => ∃ (x y : Int) (r : Option V), σ = [some (.int x), some (.int y), r] ∧ H' = H ∧ 0 ≤ x ∧ 0 ≤ y ∧ Int.gcd x y = Int.gcd a b, fun σ _ => match σ with | [_, some (.int y), _] => y.toNat | _ => 0, ⟨_, _, none, rfl, rfl, ?_, ?_, gcd_abs a b⟩, ?_⟩
    · split <;> omega
    · split <;> omega
    rintro σ H' ⟨x, y, r, rfl, rfl, hx, hy, hg⟩
    by_cases hy0 : y = 0
    · subst hy0
      walk_at "rd"
      rw [← hg, gcd_end hx] at hq
      exact hq
    · have h1 := Int.emod_nonneg x hy0
      have h2 := Int.emod_lt_of_pos x (show 0 < y by omega)
      have h3 := gcd_step hx (show 0 < y by omega)
      walk_at "rd"
      rw [if_pos (show 0 < y by omega)]
      exact ⟨by omega, ⟨y, x % y, ⟨rfl, rfl⟩, hy, h1, h3.trans hg⟩, by omega⟩
abbrev s__law_low : Stmt := top 27
theorem sc__law_low : FnScope ["_law_top", "_law_bottom", "_law_by"] ["_law_top", "_law_bottom"] (defScope s__law_low) := ⟨rfl, rfl, rfl, by decide +kernel, rfl, by decide +kernel, by decide +kernel⟩
theorem ok__law_low {f : Addr} {fd : FuncData} (F : Fun K "_law_low" "_law_low" s__law_low f fd) (m : mg "_law_low" = some (.ref f)) (T : Tx w K mg C_HeightError C_NoCount C_NoFamily C_NoFraction C_NoHistory C_NoLine C_NoMeeting C_NoMoments C_NoName C_NoNumber C_NoSeries C_NoText C_NoThing C_NoWay C_NoWeights C_TooFar C_TooHigh C_TooMany) (c__law_divisor : Callee P w K mg base 1 "_law_divisor" ["_law_a", "_law_b"] (spGcd)) : Callee P w K mg base 2 "_law_low" ["_law_top", "_law_bottom"] (spLow) := by
  refine ⟨f, fd, ?_, m, F.kp, F.binds fun _ _ _ _ _ _ us hl => match us, hl with | [_, _], _ => rfl⟩
  refine F.okE sc__law_low (fun vs H Q E h => ?_) (fun cdv A outer s H vs Q E hr h => ?_)
  · obtain ⟨_, _, rfl, _⟩ := h
    rfl
  · obtain ⟨t, b, rfl, hb, bb, hq⟩ := h
    refine ⟨_, (pss_cons (ps_if (pt_cmpR op_lt (pv 1) pe_int (nomark _)) (pss_cons (ps_set (i := 0) sc__law_low.nd rfl (Or.inl rfl) (pe_un un_neg (pv 0))) (pss_one (ps_set (i := 1) sc__law_low.nd rfl (Or.inl rfl) (pe_un un_neg (pv 1))))) pss_nil) (pss_cons (ps_set (i := 2) sc__law_low.nd rfl (Or.inl rfl) (pe_c c__law_divisor (hr.mono (by decide)) np (pa_cons (pv 0) (pa_cons (pv 1) pa_nil)))) (pss_one (ps_ret (pe_tup (pa_cons (pe_op op_fdivB (pv 0) (pv 2)) (pa_cons (pe_op op_fdivB (pv 1) (pv 2)) pa_nil))))))), ?_⟩
    walk_at "rd"
    rw [if_neg (by omega)]
    have hp := Int.gcd_pos_of_ne_zero_right t (show b ≠ 0 by omega)
    have bg : Bd 9000 ((Int.gcd t b : Nat) : Int) := bb.le (by simpa using Mt.gcd_le (t := t) (show b ≠ 0 by omega))
    have e := Mt.low_pos (t := t) hb
    refine ⟨t, b, rfl, _, rfl, bg.dv (by omega), _, rfl, bg.dv (by omega), sz_le 2 (by decide), fun p hp => ?_⟩
    rw [e.1, e.2]
    exact hq p hp
abbrev s__law_marks : Stmt := top 29
theorem sc__law_marks : FnScope ["_law_e", "_law_marks_here"] ["_law_e"] (defScope s__law_marks) := ⟨rfl, rfl, rfl, by decide +kernel, rfl, by decide +kernel, by decide +kernel⟩
theorem ok__law_marks {f : Addr} {fd : FuncData} (F : Fun K "_law_marks" "_law_marks" s__law_marks f fd) (m : mg "_law_marks" = some (.ref f)) (T : Tx w K mg C_HeightError C_NoCount C_NoFamily C_NoFraction C_NoHistory C_NoLine C_NoMeeting C_NoMoments C_NoName C_NoNumber C_NoSeries C_NoText C_NoThing C_NoWay C_NoWeights C_TooFar C_TooHigh C_TooMany) : CalleeU P w K mg base 1 "_law_marks" ["_law_e"] (spMarks C_TooFar 3) := by
  refine ⟨f, fd, ?_, m, F.kp, F.binds fun _ _ _ _ _ _ us hl => match us, hl with | [_], _ => rfl⟩
  refine F.okU sc__law_marks (fun vs H Q E h => ?_) (fun cdv A outer s H vs Q E hr h => ?_)
  · obtain ⟨_, _, rfl, _⟩ := h
    rfl
  · obtain ⟨e, dv, rfl, he, hq⟩ := h
    refine ⟨_, (pss_cons (ps_set (i := 1) sc__law_marks.nd rfl (Or.inl rfl) (pe_lst (pa_cons (pe_callB call_isi (by rfl) T.b_isinstance (by decide +kernel) (pa_cons (pv 0) (pa_cons (pe_bltn (v := .ty "ValueError") (u := .type "ValueError") rfl T.b_ValueError (by decide +kernel) rfl) pa_nil))) (pa_cons (pe_callB call_isi (by rfl) T.b_isinstance (by decide +kernel) (pa_cons (pv 0) (pa_cons (pe_glob (v := .ref C_NoFraction) rfl T.m_NoFraction rfl) pa_nil))) (pa_cons (pe_callB call_isi (by rfl) T.b_isinstance (by decide +kernel) (pa_cons (pv 0) (pa_cons (pe_glob (v := .ref C_TooMany) rfl T.m_TooMany rfl) pa_nil))) pa_nil))))) (pss_cons (ps_set (i := 1) sc__law_marks.nd rfl (Or.inl rfl) (pe_op op_cat (pv 1) (pe_lst (pa_cons (pe_callB call_isi (by rfl) T.b_isinstance (by decide +kernel) (pa_cons (pv 0) (pa_cons (pe_glob (v := .ref C_TooFar) rfl T.m_TooFar rfl) pa_nil))) (pa_cons (pe_callB call_isi (by rfl) T.b_isinstance (by decide +kernel) (pa_cons (pv 0) (pa_cons (pe_glob (v := .ref C_NoNumber) rfl T.m_NoNumber rfl) pa_nil))) (pa_cons (pe_callB call_isi (by rfl) T.b_isinstance (by decide +kernel) (pa_cons (pv 0) (pa_cons (pe_glob (v := .ref C_NoWeights) rfl T.m_NoWeights rfl) pa_nil))) pa_nil)))))) (pss_cons (ps_set (i := 1) sc__law_marks.nd rfl (Or.inl rfl) (pe_op op_cat (pv 1) (pe_lst (pa_cons (pe_callB call_isi (by rfl) T.b_isinstance (by decide +kernel) (pa_cons (pv 0) (pa_cons (pe_glob (v := .ref C_NoSeries) rfl T.m_NoSeries rfl) pa_nil))) (pa_cons (pe_callB call_isi (by rfl) T.b_isinstance (by decide +kernel) (pa_cons (pv 0) (pa_cons (pe_glob (v := .ref C_NoMoments) rfl T.m_NoMoments rfl) pa_nil))) (pa_cons (pe_callB call_isi (by rfl) T.b_isinstance (by decide +kernel) (pa_cons (pv 0) (pa_cons (pe_glob (v := .ref C_NoFamily) rfl T.m_NoFamily rfl) pa_nil))) pa_nil)))))) (pss_cons (ps_set (i := 1) sc__law_marks.nd rfl (Or.inl rfl) (pe_op op_cat (pv 1) (pe_lst (pa_cons (pe_callB call_isi (by rfl) T.b_isinstance (by decide +kernel) (pa_cons (pv 0) (pa_cons (pe_glob (v := .ref C_NoMeeting) rfl T.m_NoMeeting rfl) pa_nil))) (pa_cons (pe_callB call_isi (by rfl) T.b_isinstance (by decide +kernel) (pa_cons (pv 0) (pa_cons (pe_glob (v := .ref C_NoThing) rfl T.m_NoThing rfl) pa_nil))) (pa_cons (pe_callB call_isi (by rfl) T.b_isinstance (by decide +kernel) (pa_cons (pv 0) (pa_cons (pe_glob (v := .ref C_NoLine) rfl T.m_NoLine rfl) pa_nil))) pa_nil)))))) (pss_cons (ps_set (i := 1) sc__law_marks.nd rfl (Or.inl rfl) (pe_op op_cat (pv 1) (pe_lst (pa_cons (pe_callB call_isi (by rfl) T.b_isinstance (by decide +kernel) (pa_cons (pv 0) (pa_cons (pe_glob (v := .ref C_NoText) rfl T.m_NoText rfl) pa_nil))) (pa_cons (pe_callB call_isi (by rfl) T.b_isinstance (by decide +kernel) (pa_cons (pv 0) (pa_cons (pe_glob (v := .ref C_NoWay) rfl T.m_NoWay rfl) pa_nil))) (pa_cons (pe_callB call_isi (by rfl) T.b_isinstance (by decide +kernel) (pa_cons (pv 0) (pa_cons (pe_glob (v := .ref C_TooHigh) rfl T.m_TooHigh rfl) pa_nil))) pa_nil)))))) (pss_one (ps_ret (pe_op op_cat (pv 1) (pe_lst (pa_cons (pe_callB call_isi (by rfl) T.b_isinstance (by decide +kernel) (pa_cons (pv 0) (pa_cons (pe_glob (v := .ref C_NoHistory) rfl T.m_NoHistory rfl) pa_nil))) (pa_cons (pe_callB call_isi (by rfl) T.b_isinstance (by decide +kernel) (pa_cons (pv 0) (pa_cons (pe_glob (v := .ref C_NoCount) rfl T.m_NoCount rfl) pa_nil))) (pa_cons (pe_callB call_isi (by rfl) T.b_isinstance (by decide +kernel) (pa_cons (pv 0) (pa_cons (pe_glob (v := .ref C_NoName) rfl T.m_NoName rfl) pa_nil))) pa_nil)))))))))))), ?_⟩
    walk_at "rd"
    refine isi_x he T.xc rfl T.k_ValueError (isi_x he T.xc rfl T.k_NoFraction (isi_x he T.xc rfl T.k_TooMany ⟨sz_le 3 (by decide), fun p n => ?_⟩))
    have s1 : Same H (upd H p (.lst [.bl true, .bl false, .bl false])) := same_upd n
    refine step3d (s1 _ _ he) upd_same (by decide) T.xc rfl T.k_TooFar rfl T.k_NoNumber rfl T.k_NoWeights (fun l2 H2 s2 n2 he2 hl2 => ?_)
    refine step3d he2 hl2 (by decide) T.xc rfl T.k_NoSeries rfl T.k_NoMoments rfl T.k_NoFamily (fun l3 H3 s3 n3 he3 hl3 => ?_)
    refine step3d he3 hl3 (by decide) T.xc rfl T.k_NoMeeting rfl T.k_NoThing rfl T.k_NoLine (fun l4 H4 s4 n4 he4 hl4 => ?_)
    refine step3d he4 hl4 (by decide) T.xc rfl T.k_NoText rfl T.k_NoWay rfl T.k_TooHigh (fun l5 H5 s5 n5 he5 hl5 => ?_)
    refine step3d he5 hl5 (by decide) T.xc rfl T.k_NoHistory rfl T.k_NoCount rfl T.k_NoName (fun l6 H6 s6 n6 he6 hl6 => ?_)
    have st := (((s1.trans s2).trans s3).trans s4).trans s5
    exact hq l6 H6 (st.trans s6) (st.free n6) hl6
abbrev s__law_only : Stmt := top 30
theorem sc__law_only : FnScope ["_law_at"] ["_law_at"] (defScope s__law_only) := ⟨rfl, rfl, rfl, by decide +kernel, rfl, by decide +kernel, by decide +kernel⟩
theorem ok__law_only {f : Addr} {fd : FuncData} (F : Fun K "_law_only" "_law_only" s__law_only f fd) (m : mg "_law_only" = some (.ref f)) (T : Tx w K mg C_HeightError C_NoCount C_NoFamily C_NoFraction C_NoHistory C_NoLine C_NoMeeting C_NoMoments C_NoName C_NoNumber C_NoSeries C_NoText C_NoThing C_NoWay C_NoWeights C_TooFar C_TooHigh C_TooMany) : Callee P w K mg base 1 "_law_only" ["_law_at"] (spOnly) := by
  refine ⟨f, fd, ?_, m, F.kp, F.binds fun _ _ _ _ _ _ us hl => match us, hl with | [_], _ => rfl⟩
  refine F.okE sc__law_only (fun vs H Q E h => ?_) (fun cdv A outer s H vs Q E hr h => ?_)
  · obtain ⟨_, rfl, _⟩ := h
    rfl
  · obtain ⟨j, rfl, hj, hq⟩ := h
    refine ⟨_, (pss_one (ps_ret (PCo.pe (coR T.b_range pe_int (fun _ hpi => pe_comp1 ["_law_k"] "_law_at" 0 rfl hpi (fun _ _ _ _ _ => (pg_name (i := 0) (show List.Nodup [("_law_k" : Str), ("_law_at" : Str)] by decide +kernel) rfl (Or.inl rfl) (Or.inr rfl)).mo) (fun _ _ _ _ _ => PE.mo (pe_cmpR (show OpR _ (compareOp .In) (rIn K false) from op_in_seq) (pv 0) (pe_tup (pa_cons pe_int (pa_cons (pv 1) pa_nil))) rfl)) rfl rfl rfl rfl rfl))))), ?_⟩
    walk_at "rd"
    refine CO.pure1 (fun k => .bl (k == 0 || k == j)) (by decide) (fun _ _ => trivial) (fun i H2 x R hi sm hx k => ?_) fun D H2 sm hD hl => hq D H2 sm hD (by rw [hl]; simp [oneHot])
    subst hx
    walk_at "rd"
    refine ⟨sz_le 2 (by decide), fun p hp => ⟨_, .inr (SqT.of upd_same), rfl, ?_, k _ _ ?_ (same_upd hp)⟩⟩
    · intro x hx
      rcases List.mem_cons.mp hx with rfl | hx
      · rfl
      · rw [List.mem_singleton.mp hx]; rfl
    · show V.bl (((0 : Int) == (i : Int)) || (((j : Int) == (i : Int)) || false)) = _
      rw [Bool.or_false]
      congr 2
      · rw [Bool.eq_iff_iff]; simp; omega
      · rw [Bool.eq_iff_iff]; simp; omega
abbrev s__law_number_by : Stmt := top 31
theorem sc__law_number_by : FnScope ["_law_c"] ["_law_c"] (defScope s__law_number_by) := ⟨rfl, rfl, rfl, by decide +kernel, rfl, by decide +kernel, by decide +kernel⟩
theorem ok__law_number_by {f : Addr} {fd : FuncData} (F : Fun K "_law_number_by" "_law_number_by" s__law_number_by f fd) (m : mg "_law_number_by" = some (.ref f)) (T : Tx w K mg C_HeightError C_NoCount C_NoFamily C_NoFraction C_NoHistory C_NoLine C_NoMeeting C_NoMoments C_NoName C_NoNumber C_NoSeries C_NoText C_NoThing C_NoWay C_NoWeights C_TooFar C_TooHigh C_TooMany) (c__law_low : Callee P w K mg base 2 "_law_low" ["_law_top", "_law_bottom"] (spLow)) : Callee P w K mg base 3 "_law_number_by" ["_law_c"] (spNumBy) := by
  refine ⟨f, fd, ?_, m, F.kp, F.binds fun _ _ _ _ _ _ us hl => match us, hl with | [_], _ => rfl⟩
  refine F.okE sc__law_number_by (fun vs H Q E h => ?_) (fun cdv A outer s H vs Q E hr h => ?_)
  · obtain ⟨_, rfl, _⟩ := h
    rfl
  · obtain ⟨c, rfl, hq⟩ := h
    refine ⟨_, (pss_cons (ps_if (pt_cmpR op_eq (pe_op op_mod (pv 0) pe_int) pe_int (nomark _)) (pss_one (ps_ret (pe_tup (pa_cons (pe_op op_sub (pe_op op_mod (pe_op op_fdivB (pv 0) pe_int) pe_int) pe_int) (pa_cons pe_int pa_nil))))) pss_nil) (pss_cons (ps_if (pt_cmpR op_eq (pe_op op_mod (pv 0) pe_int) pe_int (nomark _)) (pss_one (ps_ret (pe_c c__law_low (hr.mono (by decide)) np (pa_cons (pe_op op_sub (pe_op op_mod (pe_op op_fdivB (pv 0) pe_int) pe_int) pe_int) (pa_cons (pe_op op_add pe_int (pe_op op_mod (pe_op op_fdivB (pv 0) pe_int) pe_int)) pa_nil))))) pss_nil) (pss_cons (ps_if (pt_cmpR op_eq (pe_op op_mod (pv 0) pe_int) pe_int (nomark _)) (pss_one (ps_ret (pe_c c__law_low (hr.mono (by decide)) np (pa_cons (pe_op op_sub (pe_op op_mod (pe_op op_fdivB (pv 0) pe_int) pe_int) pe_int) (pa_cons (pe_op op_add pe_int (pe_op op_mod (pe_op op_fdivB (pv 0) pe_int) pe_int)) pa_nil))))) pss_nil) (pss_one (ps_ret (pe_c c__law_low (hr.mono (by decide)) np (pa_cons (pe_op op_sub (pe_op op_mod (pe_op op_fdivB (pv 0) pe_int) (pe_op op_add (pe_op op_mul pe_int (pe_op op_pow pe_int pe_int)) pe_int)) (pe_op op_pow pe_int pe_int)) (pa_cons (pe_op op_add pe_int (pe_op op_mod (pe_op op_fdivB (pv 0) pe_int) (pe_op op_pow pe_int pe_int))) pa_nil)))))))), ?_⟩
    have d4 : ∀ i, CDivB i 4 := fun _ => (show Bd 64 4 by show (_ : Nat) < _; decide).dv (by decide)
    have d7 : ∀ i, CDivB i 7 := fun _ => (show Bd 64 7 by show (_ : Nat) < _; decide).dv (by decide)
    have d11 : ∀ i, CDivB i 11 := fun _ => (show Bd 64 11 by show (_ : Nat) < _; decide).dv (by decide)
    have d164 : ∀ i, CDivB i 164 := fun _ => (show Bd 64 164 by show (_ : Nat) < _; decide).dv (by decide)
    walk_at "rd"
    have low : ∀ t b : Int, 0 < b → t.natAbs ≤ 100000000000000000000000000000 → b.natAbs ≤ 100000000000000000000000000000 → spLow [.int t, .int b] H Q E0 := fun t b b0 ht hb =>
      ⟨t, b, rfl, b0, Bd.mono (m := 100) (show (_ : Nat) < _ by omega) (by decide), fun p hp => hq p _ hp (Sz.low (by omega) (show (_ : Nat) < _ by omega) (show (_ : Nat) < _ by omega))⟩
    split
    · refine ⟨d4 _, sz_le 2 (by decide), fun p hp => ?_⟩
      rw [← frO_int]
      exact hq p _ hp (Sz.int (show (_ : Nat) < _ by omega) (by decide))
    split
    · exact ⟨d4 _, d164 _, low _ _ (by omega) (by omega) (by omega)⟩
    split
    · exact ⟨d4 _, d7 _, low _ _ (by omega) (by omega) (by omega)⟩
    · exact ⟨d4 _, .inl ⟨by decide, by decide⟩, d11 _, low _ _ (by omega) (by omega) (by omega)⟩
abbrev s__law_asked : Stmt := top 32
theorem sc__law_asked : FnScope ["_law_numbers", "_law_size", "_law_shift", "_law_found", "_law_e"] ["_law_numbers", "_law_size", "_law_shift"] (defScope s__law_asked) := ⟨rfl, rfl, rfl, by decide +kernel, rfl, by decide +kernel, by decide +kernel⟩
theorem ok__law_asked {f : Addr} {fd : FuncData} (F : Fun K "_law_asked" "_law_asked" s__law_asked f fd) (m : mg "_law_asked" = some (.ref f)) (T : Tx w K mg C_HeightError C_NoCount C_NoFamily C_NoFraction C_NoHistory C_NoLine C_NoMeeting C_NoMoments C_NoName C_NoNumber C_NoSeries C_NoText C_NoThing C_NoWay C_NoWeights C_TooFar C_TooHigh C_TooMany) (c__law_marks : CalleeU P w K mg base 1 "_law_marks" ["_law_e"] (spMarks C_TooFar 3)) (c_moment_table : CalleeD P w K mg base 1 "moment_table" ["moments", "size", "shift"] [.int 0] (spTable K C_TooFar)) : Callee P w K mg base 2 "_law_asked" ["_law_numbers", "_law_size", "_law_shift"] (spAsk K) := by
  refine ⟨f, fd, ?_, m, F.kp, F.binds fun _ _ _ _ _ _ us hl => match us, hl with | [_, _, _], _ => rfl⟩
  refine F.okE sc__law_asked (fun vs H Q E h => ?_) (fun cdv A outer s H vs Q E hr h => ?_)
  · obtain ⟨_, _, _, _, _, _, rfl, _⟩ := h
    rfl
  · obtain ⟨m, xs, ms, size, shv, sh, rfl, hshv, hm, fm, hs, hsh, lm, h0, h1⟩ := h
    refine ⟨_, (pss_cons (ps_set (i := 3) sc__law_asked.nd rfl (Or.inl rfl) pe_non) (pss_cons (ps_try rfl rfl (fun pins xe E hps => (pss_one (ps_set (i := 3) sc__law_asked.nd rfl (Or.inl rfl) (pe_ifExp (pt_cmpR op_isN (pv 2) pe_non (nomark _)) (pe_cDS 0 c_moment_table (hr.mono (by decide)) hps (pa_cons (pv 0) (pa_cons (pv 1) pa_nil))) (pe_cDS 1 c_moment_table (hr.mono (by decide)) hps (pa_cons (pv 0) (pa_cons (pv 1) (pa_cons (pv 2) pa_nil)))))))) (ph_as (i := 4) sc__law_asked.nd rfl rfl (fun A E Q pins σ H s I q => Calls.Name_function_global I.ok.kind rfl (Calls.loadGlobal_global (by rw [I.ok.glob]; exact I.mod.glob.keeps I.bk) T.m_HeightError q) (by decide)) (fun e => (pss_one (ps_set (i := 3) sc__law_asked.nd rfl (Or.inl rfl) (pe_cU c__law_marks ((hr.mono (by decide) : Room _ _).su) np (pa_cons (pv 4) pa_nil))))) ph_no)) (pss_one (ps_ret (pv 3))))), ?_⟩
    refine tSeq_step fun N hN => ?_
    walk_at "rd"
    refine hN _ _ ?_
    clear hN N
    walk_at "rd"
    rcases hshv with ⟨rfl, rfl⟩ | rfl
    · rw [if_pos rfl]
      exact ⟨m, xs, ms, size, 0, rfl, hm, fm, hs, hsh, lm, fun b => ⟨T.ex, fun e he => ⟨e, none, rfl, upd_same, fun l H1 s1 n1 h => h0 b l H1 ((same_upd he).trans s1) h⟩⟩, h1⟩
    · rw [if_neg (by simp)]
      exact ⟨m, xs, ms, size, sh, rfl, hm, fm, hs, hsh, lm, fun b => ⟨T.ex, fun e he => ⟨e, none, rfl, upd_same, fun l H1 s1 n1 h => h0 b l H1 ((same_upd he).trans s1) h⟩⟩, h1⟩
abbrev s__law_holds : Stmt := top 33
theorem sc__law_holds : FnScope ["_law_numbers", "_law_size", "_law_shift", "_law_far", "_law_handed", "_law_step", "_law_found", "_law_due", "_law_row"] ["_law_numbers", "_law_size", "_law_shift"] (defScope s__law_holds) := ⟨rfl, rfl, rfl, by decide +kernel, rfl, by decide +kernel, by decide +kernel⟩
theorem ok__law_holds {f : Addr} {fd : FuncData} (F : Fun K "_law_holds" "_law_holds" s__law_holds f fd) (m : mg "_law_holds" = some (.ref f)) (T : Tx w K mg C_HeightError C_NoCount C_NoFamily C_NoFraction C_NoHistory C_NoLine C_NoMeeting C_NoMoments C_NoName C_NoNumber C_NoSeries C_NoText C_NoThing C_NoWay C_NoWeights C_TooFar C_TooHigh C_TooMany) (c__law_asked : Callee P w K mg base 2 "_law_asked" ["_law_numbers", "_law_size", "_law_shift"] (spAsk K)) (c__law_only : Callee P w K mg base 1 "_law_only" ["_law_at"] (spOnly)) : Callee P w K mg base 3 "_law_holds" ["_law_numbers", "_law_size", "_law_shift"] (spHolds K) := by
  refine ⟨f, fd, ?_, m, F.kp, F.binds fun _ _ _ _ _ _ us hl => match us, hl with | [_, _, _], _ => rfl⟩
  refine F.okE sc__law_holds (fun vs H Q E h => ?_) (fun cdv A outer s H vs Q E hr h => ?_)
  · obtain ⟨_, _, _, _, _, _, rfl, _⟩ := h
    rfl
  · obtain ⟨m, xs, ms, size, shv, sh, rfl, hshv, hm, fm, hs, hsh, lm, hq⟩ := h
    refine ⟨_, (pss_cons (ps_set (i := 3) sc__law_holds.nd rfl (Or.inr rfl) pe_int) (pss_cons (ps_if (pt_cmpR op_notN (pv 2) pe_non (nomark _)) (pss_one (ps_set (i := 3) sc__law_holds.nd rfl (Or.inr rfl) (pv 2))) pss_nil) (pss_cons (ps_set (i := 4) sc__law_holds.nd rfl (Or.inl rfl) (pe_callTy call_list_of (by rfl) T.b_list (by decide +kernel) (pa_cons (pv 0) pa_nil))) (pss_cons (ps_forR rfl PassesOwn.never T.b_range pe_int (pg_name (i := 5) sc__law_holds.nd rfl (Or.inl rfl)) (pss_cons (ps_set (i := 6) sc__law_holds.nd rfl (Or.inl rfl) (pe_c c__law_asked (hr.mono (by decide)) np (pa_cons (pv 4) (pa_cons (pv 1) (pa_cons (pv 2) pa_nil))))) (pss_one (ps_if (PW.pt (pw_and (pt_cmpR op_gt (pv 1) pe_int (nomark _)) (pw_and1 (pt_cmpR op_ge (pe_op op_add (pe_op op_sub (pe_op op_mul pe_int (pv 1)) pe_int) (pv 3)) (pe_callB call_len_seq (by rfl) T.b_len PySem.boot_len (pa_cons (pv 0) pa_nil)) (nomark _))))) (pss_one (ps_if (pt_cmpR (op_neD hr.units) (pv 6) (pe_c c__law_only (hr.mono (by decide)) np (pa_cons pe_int pa_nil)) (nomark _)) (pss_one (ps_ret pe_bl)) pss_nil)) (pss_cons (PCo.ps (i := 7) (coR T.b_range (pv 1) (fun _ hpi => pe_comp3 ["_law_i"] "_law_size" 1 "_law_numbers" 0 "_law_far" 3 rfl hpi (fun _ _ _ _ _ => (pg_name (i := 0) (show List.Nodup [("_law_i" : Str), ("_law_size" : Str), ("_law_numbers" : Str), ("_law_far" : Str)] by decide +kernel) rfl (Or.inl rfl) (Or.inr rfl)).mo) (fun _ _ _ _ _ => PE.mo (pe_slice (show SlR _ (rSlL K) from sl_list) (pv 2) (po_some (pe_op op_add (pv 0) (pv 3))) (po_some (pe_op op_add (pe_op op_add (pv 0) (pv 3)) (pv 1))))) rfl rfl rfl rfl rfl rfl rfl rfl rfl rfl rfl rfl rfl)) sc__law_holds.nd rfl (Or.inl rfl)) (pss_cons (ps_if (PW.pt (pw_or (pt_not (pt_val (pe_callB call_isi (by rfl) T.b_isinstance (by decide +kernel) (pa_cons (pv 6) (pa_cons (pe_bltn (v := .ty "list") (u := .type "list") rfl T.b_list (by decide +kernel) rfl) pa_nil))))) (pw_or1 (pt_cmpR (op_neD hr.units) (pv 6) (pv 7) (nomark _))))) (pss_one (ps_ret pe_bl)) pss_nil) (pss_cons (ps_forL rfl PassesOwn.never (pv 6) (pg_name (i := 8) sc__law_holds.nd rfl (Or.inl rfl)) (pss_cons (ps_if (pt_not (pt_val (pe_callB call_isi (by rfl) T.b_isinstance (by decide +kernel) (pa_cons (pv 8) (pa_cons (pe_bltn (v := .ty "list") (u := .type "list") rfl T.b_list (by decide +kernel) rfl) pa_nil))))) (pss_one (ps_ret pe_bl)) pss_nil) (pss_one (ps_expr (pe_bm PySem.F.plainAttrs_list PySem.F.slot_list_append PySem.F.type_list_append mt_append (pv 8) (pa_cons pe_int pa_nil)))))) (pss_one (ps_expr (pe_bm PySem.F.plainAttrs_list PySem.F.slot_list_append PySem.F.type_list_append mt_append (pv 6) (pa_cons (pe_lst (pa_cons pe_int pa_nil)) pa_nil))))))))))) (pss_one (ps_ret (pe_cmpR (op_eqD hr.units) (pv 4) (pv 0) (nomark _)))))))), ?_⟩
    have lx := fm.len
    refine tSeq_step fun N hN => ?_
    walk_at "rd"
    refine hN _ _ ?_
    clear hN N
    refine tSeq_step fun N hN => ?_
    have main : N [some (.ref m), some (.int size), some shv, some (.int sh), none, none, none, none, none] H := by
      refine hN _ _ ?_
      clear hN N
      refine tSeq_step fun N hN => ?_
      walk_at "rd"
      refine ⟨xs, .inl (SqL.of hm), fun HA nH => hN _ _ ?_⟩
      clear hN N
      have u := same_upd (o := .lst xs) nH
      have hHA : upd H HA (.lst xs) HA = some (.lst xs) := upd_same
      generalize upd H HA (.lst xs) = H1 at u hHA ⊢
      refine tSeq_step fun N hN => ?_
      walk_at "rd"
      refine ⟨fun _ σ H' => ∃ r5 r6 r7 r8, σ = [some (.ref m), some (.int size), some shv, some (.int sh), some (.ref HA), r5, r6, r7, r8] ∧ Same H1 H', ⟨none, none, none, none, rfl, Same.refl _⟩, ?_, ?_⟩
      · rintro i σ H2 hi ⟨r5, r6, r7, r8, rfl, sm⟩
        refine tSeq_step fun N hN => ?_
        walk_at "rd"
        have v := u.trans sm
        refine ⟨HA, xs, ms, size, shv, sh, rfl, hshv, SqL.of (sm _ _ hHA), fm.same v, hs, hsh, lm, fun b l H3 s3 hl => hN _ _ ?_, fun nb D H3 tb => hN _ _ ?_⟩
        · clear hN N
          obtain ⟨b1, b2⟩ := b
          have v3 := v.trans s3
          walk_at "rd"
          rw [if_pos b1]
          refine ⟨.inl ⟨by decide, by decide⟩, xs, .inl (SqL.of (v3 _ _ hm)), ?_⟩
          rw [if_pos (by omega)]
          exact ⟨3, rfl, by decide, fun l2 H4 s4 n4 h4 => neD_bools (s4 _ _ hl) h4 (.inl ⟨rfl, (sm.trans s3).trans s4⟩)⟩
        · clear hN N
          obtain ⟨s3, nD, zs, hD, fls, lz, fr⟩ := tb
          have v3 := v.trans s3
          walk_at "rd"
          have sel : ∀ {U B : Prop}, U → (if 0 < size then CMul 2 (size : Int) ∧ ∃ x : List V, (SqL K H3 m x ∨ SqT K H3 m x) ∧ if (x.length : Int) ≤ 2 * (size : Int) - 2 + (sh : Int) then B else U else U) := by
            intro U B t
            by_cases y : 0 < size
            · rw [if_pos y]
              refine ⟨.inl ⟨by decide, by decide⟩, xs, .inl (SqL.of (v3 _ _ hm)), ?_⟩
              have : ¬ (ms.length ≤ 2 * (size - 1) + sh) := fun z => nb ⟨y, z⟩
              rw [if_neg (by omega)]
              exact t
            · rw [if_neg y]
              exact t
          refine sel ?_
          clear sel
          have nD1 : H1 D = none := sm.free nD
          have rows : ∀ (j : Nat) (x : V), zs[j]? = some x → ∃ p ys, x = .ref p ∧ H3 p = some (.lst ys) ∧ Frs K H3 ((ms.drop (j + sh)).take size) ys := fun j x z => by
            have hj : j < size := by rw [← lz]; exact (List.getElem?_eq_some_iff.mp z).1
            obtain ⟨p, ys, e1, e2, f⟩ := fls.2 j ((ms.drop (j + sh)).take size) (by rw [tab, List.getElem?_map, List.getElem?_range hj]; rfl)
            rw [e1] at z
            cases z
            exact ⟨p, ys, rfl, e2, f⟩
          refine ⟨by omega, CO.elsD (fun D' i H' v => ∃ p ys, v = .ref p ∧ H' p = some (.lst ys) ∧ Frs K H' ((ms.drop (i + sh)).take size) ys ∧ p ≠ D') (fun D' i H1 H2 x s h => ?_) (fun D' i H1 ys o x hD h => ?_) (by omega) (fun _ _ => trivial) (fun D' i Ha x R hi sa nD' hD' hx kk => ?_) fun DU H4 ws s4 nDU hDU lw gw => ?_⟩
          · obtain ⟨p, ys, e, h1, f, n⟩ := h
            exact ⟨p, ys, e, s _ _ h1, f.same s, n⟩
          · obtain ⟨p, us, e, h1, f, ne⟩ := h
            exact ⟨p, us, e, by rw [upd_ne ne]; exact h1, Frs.updL hD f, ne⟩
          · subst hx
            obtain ⟨ws, hD'⟩ := hD'
            walk_at "rd"
            refine ⟨m, xs, rfl, (v3.trans sa).seq (SqL.of hm), fun p1 n1 => ?_⟩
            have u1 := same_upd (o := .lst (cutV xs (some ((i : Int) + (sh : Int))) (some ((i : Int) + (sh : Int) + (size : Int))))) n1
            exact kk _ _ u1 ⟨p1, _, rfl, upd_same, ((cut_in fm hi nb).same (v3.trans sa)).same u1, (ne_of_none hD' n1).symm⟩
          have hD4 := s4 _ _ hD
          refine isi_ll hD4 (.inr ⟨rfl, ?_⟩)
          refine neD_same _ (rep_tab hD4 (fls.same s4)) (rep_tab hDU (fls_of lw fun j x z => ?_)) (tabD_dep _).1 (tabD_dep _).2 (.inl ⟨rfl, zs, SqL.of hD4, ?_⟩)
          · obtain ⟨p, ys, e, h, f, _⟩ := gw j x z
            exact ⟨p, ys, e, h, f⟩
          refine ⟨fun i' σ H' => (∃ r8, σ = [some (.ref m), some (.int size), some shv, some (.int sh), some (.ref HA), some (.int i), some (.ref D), some (.ref DU), r8]) ∧ Same H1 H' ∧ H' D = some (.lst zs) ∧ ∀ p, V.ref p ∈ zs → ∃ ys, H' p = some (.lst ys) ∧ ys.length ≤ 30 + i', ⟨⟨r8, rfl⟩, (sm.trans s3).trans s4, hD4, fun p hp => ?_⟩, ?_, ?_, ?_⟩
          · obtain ⟨j, hj, e⟩ := List.mem_iff_getElem.mp hp
            obtain ⟨p', ys, e2, h, f⟩ := rows j (.ref p) (by rw [List.getElem?_eq_getElem hj, e])
            cases e2
            have lf := f.len
            rw [List.length_take] at lf
            exact ⟨ys, s4 _ _ h, by omega⟩
          · rintro _ σ H' _ ⟨_, _, h, _⟩
            exact SqL.of h
          · rintro i' x σ H5 hxi ⟨⟨r8, rfl⟩, sm5, hD5, all⟩
            obtain ⟨p, _, rfl, _, _⟩ := rows i' x hxi
            have hp := List.mem_of_getElem? hxi
            obtain ⟨ys, hy, ly⟩ := all p hp
            obtain ⟨npD, np⟩ := fr p hp
            have hi' : i' < size := by rw [← lz]; exact (List.getElem?_eq_some_iff.mp hxi).1
            walk_at "rd"
            refine isi_ll hy (.inr ⟨rfl, .inl ⟨rfl, _, SqL.of hy⟩, ys, hy, small1000 (by omega), sm5.updL (sm.free np), by rw [upd_ne npD.symm]; exact hD5, fun q hq' => ?_⟩)
            by_cases e : q = p
            · subst e
              exact ⟨_, upd_same, by simp; omega⟩
            · obtain ⟨us, h, l⟩ := all q hq'
              exact ⟨us, by rw [upd_ne e]; exact h, by omega⟩
          · rintro σ H5 ⟨⟨r8, rfl⟩, sm5, hD5, all⟩
            walk_at "rd"
            refine ⟨.inl ⟨rfl, _, SqL.of hD5⟩, sz_le 1 (by decide), fun p7 n7 => ⟨zs, same_upd n7 _ _ hD5, small1000 (by omega), ?_⟩⟩
            exact (sm5.trans (same_upd n7)).updL nD1
      · rintro σ H2 ⟨r5, r6, r7, r8, rfl, sm⟩
        refine hN _ _ ?_
        walk_at "rd"
        have dp : 1 ≤ (lstD ms).dep ∧ (lstD ms).dep ≤ 60 := by
          have := lstD_dep ms
          omega
        have v := u.trans sm
        exact eqD_same _ (rep_lst (sm _ _ hHA) (fm.same v)) (rep_lst (v _ _ hm) (fm.same v)) dp.1 dp.2 (hq _ v)
    clear hN
    walk_at "rd"
    rcases hshv with ⟨rfl, rfl⟩ | rfl
    · exact .inl ⟨rfl, main⟩
    · exact .inr ⟨by simp, main⟩
abbrev s_law : Stmt := top 34
theorem sc_law : FnScope ["_law_script", "_law_c", "_law_numbers", "_law_shift", "_law_last", "_law_size"] ["_law_script"] (defScope s_law) := ⟨rfl, rfl, rfl, by decide +kernel, rfl, by decide +kernel, by decide +kernel⟩
theorem fn_law {f : Addr} {fd : FuncData} (F : Fun K "law" "law" s_law f fd) (T : Tx w K mg C_HeightError C_NoCount C_NoFamily C_NoFraction C_NoHistory C_NoLine C_NoMeeting C_NoMoments C_NoName C_NoNumber C_NoSeries C_NoText C_NoThing C_NoWay C_NoWeights C_TooFar C_TooHigh C_TooMany) (c__law_drawn : Callee P w K mg base 2 "_law_drawn" ["_law_script", "_law_k"] (spDrawn K)) (c__law_holds : Callee P w K mg base 3 "_law_holds" ["_law_numbers", "_law_size", "_law_shift"] (spHolds K)) (c__law_number_by : Callee P w K mg base 3 "_law_number_by" ["_law_c"] (spNumBy)) : FnOk P w K mg base (CXe P w) 4 f fd ["_law_script"] (spLaw K) := by
  refine F.okE sc_law (fun vs H Q E h => ?_) (fun cdv A outer s H vs Q E hr h => ?_)
  · obtain ⟨_, _, rfl, _⟩ := h
    rfl
  · obtain ⟨a, ns, rfl, hs, hlen, hq⟩ := h
    refine ⟨_, (pss_cons (ps_set (i := 1) sc_law.nd rfl (Or.inl rfl) (pe_c c__law_drawn (hr.mono (by decide)) np (pa_cons (pv 0) (pa_cons pe_int pa_nil)))) (pss_cons (PCo.ps (i := 2) (coR T.b_range (pe_op op_add pe_int (pe_op op_mod (pv 1) pe_int)) (fun _ hpi => pe_comp1 ["_law_k"] "_law_script" 0 rfl hpi (fun _ _ _ _ _ => (pg_name (i := 0) (show List.Nodup [("_law_k" : Str), ("_law_script" : Str)] by decide +kernel) rfl (Or.inl rfl) (Or.inr rfl)).mo) (fun _ _ _ _ _ => PE.mo (pe_c c__law_number_by (hr.mono (by decide)) np (pa_cons (pe_op op_fdivB (pe_c c__law_drawn (hr.mono (by decide)) np (pa_cons (pv 1) (pa_cons (pe_op op_add pe_int (pv 0)) pa_nil))) pe_int) pa_nil))) rfl rfl rfl rfl rfl)) sc_law.nd rfl (Or.inl rfl)) (pss_cons (ps_if (pt_not (pt_val (pe_c c__law_holds (hr.mono (by decide)) np (pa_cons (pv 2) (pa_cons (pe_op op_mod (pe_op op_fdivB (pv 1) pe_int) pe_int) (pa_cons (pe_ix ix_list (pe_lst (pa_cons pe_non (pa_cons pe_int (pa_cons (pe_op op_mod (pe_op op_fdivB (pv 1) pe_int) pe_int) (pa_cons (pe_op op_mod (pe_op op_fdivB (pv 1) pe_int) pe_int) pa_nil))))) (pe_op op_mod (pe_op op_fdivB (pv 1) pe_int) pe_int) (fun _ _ => rfl)) pa_nil)))))) (pss_one (ps_ret pe_bl)) pss_nil) (pss_cons (ps_forR rfl PassesOwn.never T.b_range pe_int (pg_name (i := 3) sc_law.nd rfl (Or.inl rfl)) (pss_cons (ps_set (i := 4) sc_law.nd rfl (Or.inl rfl) (pe_callB (call_max2 rfl) (by rfl) T.b_max (by decide +kernel) (pa_cons (pe_op op_fdivB (pe_op op_add (pe_op op_sub (pe_callB call_len_seq (by rfl) T.b_len PySem.boot_len (pa_cons (pv 2) pa_nil)) (pv 3)) pe_int) pe_int) (pa_cons pe_int pa_nil)))) (pss_one (ps_forT rfl PassesOwn.never (pe_tup (pa_cons (pv 4) (pa_cons (pe_op op_add (pv 4) pe_int) pa_nil))) (pg_name (i := 5) sc_law.nd rfl (Or.inl rfl)) (pss_one (ps_if (PW.pt (pw_and (pt_cmpR op_le (pv 5) pe_int (nomark _)) (pw_and1 (pt_not (pt_val (pe_c c__law_holds (hr.mono (by decide)) np (pa_cons (pv 2) (pa_cons (pv 5) (pa_cons (pv 3) pa_nil))))))))) (pss_one (ps_ret pe_bl)) pss_nil)))))) (pss_one (ps_ret pe_bl)))))), ?_⟩
    have dv : ∀ i j : Int, 0 < j → j ≤ 5000000 → CDivB i j := fun i j h1 h2 => ⟨by omega, Bd.mono (m := 64) (show (_ : Nat) < _ by omega) (by decide)⟩
    refine tSeq_step fun N hN => ?_
    walk_at "rd"
    refine ⟨a, ns, 0, rfl, hs, by decide, by decide, fun c c0 _ => hN _ _ ?_⟩
    clear hN N
    obtain ⟨n, en⟩ := Int.eq_ofNat_of_zero_le (show 0 ≤ 1 + c % 16 by omega)
    have hn : 1 ≤ n ∧ n ≤ 16 := by omega
    refine tSeq_step fun N hN => ?_
    walk_at "rd"
    rw [en]
    refine ⟨by omega, by omega, CO.frsP (K := K) (fun _ => True) (by omega) (fun _ _ => trivial) (fun i H' x R hi sm hx kk => ?_) fun NU H1 xs ms s1 nN hN1 fN lN _ => hN _ _ ?_⟩
    · subst hx
      walk_at "rd"
      exact ⟨a, ns, 1 + (i : Int), rfl, sm.seq hs, by omega, by omega, fun d d0 _ => ⟨_, rfl, dv _ _ (by decide) (by decide), _, rfl, fun p q np wq => kk p _ q (same_upd np) (Fq.of upd_same) trivial⟩⟩
    clear hN N
    have lx := fN.len
    refine tSeq_step fun N hN => ?_
    walk_at "rd"
    refine ⟨dv _ _ (by decide) (by decide), dv _ _ (by decide) (by decide), sz_le 4 (by decide), fun p np => ⟨dv _ _ (by decide) (by decide), ?_⟩⟩
    have u := same_upd (o := .lst [.non, .int 0, .int (c.fdiv 144 % 16), .int (c.fdiv 144 % 3)]) np
    obtain ⟨shv, sh, e1, e2, e3⟩ : ∃ (shv : V) (sh : Nat), atI [V.non, V.int 0, V.int (c.fdiv 144 % 16), V.int (c.fdiv 144 % 3)] (c.fdiv 2304 % 4) = some shv ∧ (shv = .non ∧ sh = 0 ∨ shv = .int sh) ∧ sh ≤ 20 := by
      obtain ⟨s16, z16⟩ := Int.eq_ofNat_of_zero_le (show 0 ≤ c.fdiv 144 % 16 by omega)
      obtain ⟨s3, z3⟩ := Int.eq_ofNat_of_zero_le (show 0 ≤ c.fdiv 144 % 3 by omega)
      rcases (show c.fdiv 2304 % 4 = 0 ∨ c.fdiv 2304 % 4 = 1 ∨ c.fdiv 2304 % 4 = 2 ∨ c.fdiv 2304 % 4 = 3 by omega) with y | y | y | y <;> rw [y]
      · exact ⟨.non, 0, rfl, .inl ⟨rfl, rfl⟩, by decide⟩
      · exact ⟨.int 0, 0, rfl, .inr rfl, by decide⟩
      · exact ⟨_, s16, rfl, .inr (by rw [z16]), by omega⟩
      · exact ⟨_, s3, rfl, .inr (by rw [z3]), by omega⟩
    obtain ⟨sz, esz⟩ := Int.eq_ofNat_of_zero_le (show 0 ≤ c.fdiv 16 % 9 by omega)
    rw [esz]
    refine ⟨_, SqL.of upd_same, shv, e1, NU, xs, ms, sz, shv, sh, rfl, e2, u _ _ hN1, fN.same u, by omega, e3, by omega, fun H2 s2 => .inr ⟨rfl, hN _ _ ?_⟩⟩
    clear hN N
    have v2 := u.trans s2
    replace hN1 := v2 _ _ hN1
    replace fN := fN.same v2
    refine tSeq_step fun N hN => ?_
    walk_at "rd"
    refine ⟨fun _ σ H' => ∃ r3 r4 r5, σ = [some (.ref a), some (.int c), some (.ref NU), r3, r4, r5] ∧ Same H2 H', ⟨none, none, none, rfl, Same.refl _⟩, ?_, ?_⟩
    · rintro i σ H3 hi ⟨r3, r4, r5, rfl, sm⟩
      refine tSeq_step fun N hN => ?_
      walk_at "rd"
      refine ⟨xs, .inl (SqL.of (sm _ _ hN1)), dv _ _ (by decide) (by decide), _, _, ⟨rfl, rfl⟩, hN _ _ ?_⟩
      clear hN N
      obtain ⟨la, ela⟩ := Int.eq_ofNat_of_zero_le (show 0 ≤ (if ((xs.length : Int) - (i : Int) + 1).fdiv 2 < 0 then 0 else ((xs.length : Int) - (i : Int) + 1).fdiv 2) by split <;> omega)
      have hla : la ≤ 9 := by
        rw [Int.fdiv_eq_ediv_of_nonneg _ (by decide)] at ela
        split at ela <;> omega
      rw [ela]
      walk_at "rd"
      refine ⟨sz_le 2 (by decide), fun pt nt => ?_⟩
      have ut := same_upd (o := .tup [.int la, .int ((la : Int) + 1)]) nt
      have et : upd H3 pt (.tup [.int la, .int ((la : Int) + 1)]) pt = some (.tup [.int la, .int ((la : Int) + 1)]) := upd_same
      generalize upd H3 pt (.tup [.int la, .int ((la : Int) + 1)]) = H4 at ut et ⊢
      replace sm := sm.trans ut
      refine ⟨_, SqT.of et, fun _ σ H' => (∃ r5, σ = [some (.ref a), some (.int c), some (.ref NU), some (.int i), some (.int la), r5]) ∧ Same H4 H', ⟨⟨r5, rfl⟩, Same.refl _⟩, ?_, ?_, ?_⟩
      · rintro _ σ H' _ ⟨_, s⟩
        exact SqT.of (s _ _ et)
      · rintro j x σ H5 hxj ⟨⟨r5, rfl⟩, s5⟩
        obtain ⟨sz', rfl⟩ : ∃ z : Nat, x = .int z := by
          rcases j with _ | _ | j
          · cases hxj; exact ⟨la, rfl⟩
          · cases hxj; exact ⟨la + 1, by rw [show ((la + 1 : Nat) : Int) = (la : Int) + 1 by omega]⟩
          · simp at hxj
        walk_at "rd"
        split
        · rename_i y
          have v5 := sm.trans s5
          exact ⟨NU, xs, ms, sz', .int i, i, rfl, .inr rfl, v5 _ _ hN1, fN.same v5, by omega, by omega, by omega, fun H6 s6 => .inr ⟨rfl, s5.trans s6⟩⟩
        · exact s5
      · rintro σ H5 ⟨⟨r5, rfl⟩, s5⟩
        exact ⟨⟨_, _, _, rfl⟩, sm.trans s5⟩
    · rintro σ H3 ⟨r3, r4, r5, rfl, sm⟩
      refine hN _ _ ?_
      walk_at "rd"
      exact hq _
end
theorem all_mk {l : PySem.W.OpenLaw} {w : World} {K : PySem.W.Frag} {h : Heap} {mg : Str → Option Value} {fa : Addr} {f_moment_table : Addr} {od_moment_table an_moment_table : Option Addr} {sl_moment_table : Array (Option Value)} {oc_moment_table kV_moment_table dc_moment_table pm_moment_table cd_moment_table ct_moment_table : Value} {dV_moment_table : Value} {f__law_cell_at : Addr} {od__law_cell_at an__law_cell_at : Option Addr} {sl__law_cell_at : Array (Option Value)} {oc__law_cell_at kV__law_cell_at dc__law_cell_at pm__law_cell_at cd__law_cell_at ct__law_cell_at : Value} {f__law_stir : Addr} {od__law_stir an__law_stir : Option Addr} {sl__law_stir : Array (Option Value)} {oc__law_stir kV__law_stir dc__law_stir pm__law_stir cd__law_stir ct__law_stir : Value} {f__law_drawn : Addr} {od__law_drawn an__law_drawn : Option Addr} {sl__law_drawn : Array (Option Value)} {oc__law_drawn kV__law_drawn dc__law_drawn pm__law_drawn cd__law_drawn ct__law_drawn : Value} {f__law_divisor : Addr} {od__law_divisor an__law_divisor : Option Addr} {sl__law_divisor : Array (Option Value)} {oc__law_divisor kV__law_divisor dc__law_divisor pm__law_divisor cd__law_divisor ct__law_divisor : Value} {f__law_low : Addr} {od__law_low an__law_low : Option Addr} {sl__law_low : Array (Option Value)} {oc__law_low kV__law_low dc__law_low pm__law_low cd__law_low ct__law_low : Value} {f__law_marks : Addr} {od__law_marks an__law_marks : Option Addr} {sl__law_marks : Array (Option Value)} {oc__law_marks kV__law_marks dc__law_marks pm__law_marks cd__law_marks ct__law_marks : Value} {f__law_only : Addr} {od__law_only an__law_only : Option Addr} {sl__law_only : Array (Option Value)} {oc__law_only kV__law_only dc__law_only pm__law_only cd__law_only ct__law_only : Value} {f__law_number_by : Addr} {od__law_number_by an__law_number_by : Option Addr} {sl__law_number_by : Array (Option Value)} {oc__law_number_by kV__law_number_by dc__law_number_by pm__law_number_by cd__law_number_by ct__law_number_by : Value} {f__law_asked : Addr} {od__law_asked an__law_asked : Option Addr} {sl__law_asked : Array (Option Value)} {oc__law_asked kV__law_asked dc__law_asked pm__law_asked cd__law_asked ct__law_asked : Value} {f__law_holds : Addr} {od__law_holds an__law_holds : Option Addr} {sl__law_holds : Array (Option Value)} {oc__law_holds kV__law_holds dc__law_holds pm__law_holds cd__law_holds ct__law_holds : Value} {f_law : Addr} {od_law an_law : Option Addr} {sl_law : Array (Option Value)} {oc_law kV_law dc_law pm_law cd_law ct_law : Value} {C_HeightError : Addr} {C_NoCount : Addr} {C_NoFamily : Addr} {C_NoFraction : Addr} {C_NoHistory : Addr} {C_NoLine : Addr} {C_NoMeeting : Addr} {C_NoMoments : Addr} {C_NoName : Addr} {C_NoNumber : Addr} {C_NoSeries : Addr} {C_NoText : Addr} {C_NoThing : Addr} {C_NoWay : Addr} {C_NoWeights : Addr} {C_TooFar : Addr} {C_TooHigh : Addr} {C_TooMany : Addr} (X : K.In h) (G : h.Ns mainGlobals mg) (hfa : mg "law" = some (.ref fa))
    (a_moment_table : PySem.W.nsIn K mainGlobals "moment_table" = some (some (.ref f_moment_table)))
    (l_moment_table : K.lookup f_moment_table = some ⟨oc_moment_table, od_moment_table, .func (PySem.W.fnOf "moment_table" "moment_table" (defArgs s_moment_table) (defBody s_moment_table) (defScope s_moment_table) dV_moment_table kV_moment_table dc_moment_table pm_moment_table an_moment_table cd_moment_table ct_moment_table), sl_moment_table⟩)
    (e_moment_table : PySem.W.codeIn K cd_moment_table "moment_table" = true)
    (k_moment_table : PySem.W.keepIn K (.ref f_moment_table) = true)
    (d_moment_table : dflIn K dV_moment_table [.int 0] = true)
    (a__law_cell_at : PySem.W.nsIn K mainGlobals "_law_cell_at" = some (some (.ref f__law_cell_at)))
    (l__law_cell_at : K.lookup f__law_cell_at = some ⟨oc__law_cell_at, od__law_cell_at, .func (PySem.W.fnOf "_law_cell_at" "_law_cell_at" (defArgs s__law_cell_at) (defBody s__law_cell_at) (defScope s__law_cell_at) .none kV__law_cell_at dc__law_cell_at pm__law_cell_at an__law_cell_at cd__law_cell_at ct__law_cell_at), sl__law_cell_at⟩)
    (e__law_cell_at : PySem.W.codeIn K cd__law_cell_at "_law_cell_at" = true)
    (k__law_cell_at : PySem.W.keepIn K (.ref f__law_cell_at) = true)
    (a__law_stir : PySem.W.nsIn K mainGlobals "_law_stir" = some (some (.ref f__law_stir)))
    (l__law_stir : K.lookup f__law_stir = some ⟨oc__law_stir, od__law_stir, .func (PySem.W.fnOf "_law_stir" "_law_stir" (defArgs s__law_stir) (defBody s__law_stir) (defScope s__law_stir) .none kV__law_stir dc__law_stir pm__law_stir an__law_stir cd__law_stir ct__law_stir), sl__law_stir⟩)
    (e__law_stir : PySem.W.codeIn K cd__law_stir "_law_stir" = true)
    (k__law_stir : PySem.W.keepIn K (.ref f__law_stir) = true)
    (a__law_drawn : PySem.W.nsIn K mainGlobals "_law_drawn" = some (some (.ref f__law_drawn)))
    (l__law_drawn : K.lookup f__law_drawn = some ⟨oc__law_drawn, od__law_drawn, .func (PySem.W.fnOf "_law_drawn" "_law_drawn" (defArgs s__law_drawn) (defBody s__law_drawn) (defScope s__law_drawn) .none kV__law_drawn dc__law_drawn pm__law_drawn an__law_drawn cd__law_drawn ct__law_drawn), sl__law_drawn⟩)
    (e__law_drawn : PySem.W.codeIn K cd__law_drawn "_law_drawn" = true)
    (k__law_drawn : PySem.W.keepIn K (.ref f__law_drawn) = true)
    (a__law_divisor : PySem.W.nsIn K mainGlobals "_law_divisor" = some (some (.ref f__law_divisor)))
    (l__law_divisor : K.lookup f__law_divisor = some ⟨oc__law_divisor, od__law_divisor, .func (PySem.W.fnOf "_law_divisor" "_law_divisor" (defArgs s__law_divisor) (defBody s__law_divisor) (defScope s__law_divisor) .none kV__law_divisor dc__law_divisor pm__law_divisor an__law_divisor cd__law_divisor ct__law_divisor), sl__law_divisor⟩)
    (e__law_divisor : PySem.W.codeIn K cd__law_divisor "_law_divisor" = true)
    (k__law_divisor : PySem.W.keepIn K (.ref f__law_divisor) = true)
    (a__law_low : PySem.W.nsIn K mainGlobals "_law_low" = some (some (.ref f__law_low)))
    (l__law_low : K.lookup f__law_low = some ⟨oc__law_low, od__law_low, .func (PySem.W.fnOf "_law_low" "_law_low" (defArgs s__law_low) (defBody s__law_low) (defScope s__law_low) .none kV__law_low dc__law_low pm__law_low an__law_low cd__law_low ct__law_low), sl__law_low⟩)
    (e__law_low : PySem.W.codeIn K cd__law_low "_law_low" = true)
    (k__law_low : PySem.W.keepIn K (.ref f__law_low) = true)
    (a__law_marks : PySem.W.nsIn K mainGlobals "_law_marks" = some (some (.ref f__law_marks)))
    (l__law_marks : K.lookup f__law_marks = some ⟨oc__law_marks, od__law_marks, .func (PySem.W.fnOf "_law_marks" "_law_marks" (defArgs s__law_marks) (defBody s__law_marks) (defScope s__law_marks) .none kV__law_marks dc__law_marks pm__law_marks an__law_marks cd__law_marks ct__law_marks), sl__law_marks⟩)
    (e__law_marks : PySem.W.codeIn K cd__law_marks "_law_marks" = true)
    (k__law_marks : PySem.W.keepIn K (.ref f__law_marks) = true)
    (a__law_only : PySem.W.nsIn K mainGlobals "_law_only" = some (some (.ref f__law_only)))
    (l__law_only : K.lookup f__law_only = some ⟨oc__law_only, od__law_only, .func (PySem.W.fnOf "_law_only" "_law_only" (defArgs s__law_only) (defBody s__law_only) (defScope s__law_only) .none kV__law_only dc__law_only pm__law_only an__law_only cd__law_only ct__law_only), sl__law_only⟩)
    (e__law_only : PySem.W.codeIn K cd__law_only "_law_only" = true)
    (k__law_only : PySem.W.keepIn K (.ref f__law_only) = true)
    (a__law_number_by : PySem.W.nsIn K mainGlobals "_law_number_by" = some (some (.ref f__law_number_by)))
    (l__law_number_by : K.lookup f__law_number_by = some ⟨oc__law_number_by, od__law_number_by, .func (PySem.W.fnOf "_law_number_by" "_law_number_by" (defArgs s__law_number_by) (defBody s__law_number_by) (defScope s__law_number_by) .none kV__law_number_by dc__law_number_by pm__law_number_by an__law_number_by cd__law_number_by ct__law_number_by), sl__law_number_by⟩)
    (e__law_number_by : PySem.W.codeIn K cd__law_number_by "_law_number_by" = true)
    (k__law_number_by : PySem.W.keepIn K (.ref f__law_number_by) = true)
    (a__law_asked : PySem.W.nsIn K mainGlobals "_law_asked" = some (some (.ref f__law_asked)))
    (l__law_asked : K.lookup f__law_asked = some ⟨oc__law_asked, od__law_asked, .func (PySem.W.fnOf "_law_asked" "_law_asked" (defArgs s__law_asked) (defBody s__law_asked) (defScope s__law_asked) .none kV__law_asked dc__law_asked pm__law_asked an__law_asked cd__law_asked ct__law_asked), sl__law_asked⟩)
    (e__law_asked : PySem.W.codeIn K cd__law_asked "_law_asked" = true)
    (k__law_asked : PySem.W.keepIn K (.ref f__law_asked) = true)
    (a__law_holds : PySem.W.nsIn K mainGlobals "_law_holds" = some (some (.ref f__law_holds)))
    (l__law_holds : K.lookup f__law_holds = some ⟨oc__law_holds, od__law_holds, .func (PySem.W.fnOf "_law_holds" "_law_holds" (defArgs s__law_holds) (defBody s__law_holds) (defScope s__law_holds) .none kV__law_holds dc__law_holds pm__law_holds an__law_holds cd__law_holds ct__law_holds), sl__law_holds⟩)
    (e__law_holds : PySem.W.codeIn K cd__law_holds "_law_holds" = true)
    (k__law_holds : PySem.W.keepIn K (.ref f__law_holds) = true)
    (a_law : PySem.W.nsIn K mainGlobals "law" = some (some (.ref f_law)))
    (l_law : K.lookup f_law = some ⟨oc_law, od_law, .func (PySem.W.fnOf "law" "law" (defArgs s_law) (defBody s_law) (defScope s_law) .none kV_law dc_law pm_law an_law cd_law ct_law), sl_law⟩)
    (e_law : PySem.W.codeIn K cd_law "law" = true)
    (k_law : PySem.W.keepIn K (.ref f_law) = true)
    (a_HeightError : PySem.W.nsIn K mainGlobals "HeightError" = some (some (.ref C_HeightError)))
    (a_NoCount : PySem.W.nsIn K mainGlobals "NoCount" = some (some (.ref C_NoCount)))
    (a_NoFamily : PySem.W.nsIn K mainGlobals "NoFamily" = some (some (.ref C_NoFamily)))
    (a_NoFraction : PySem.W.nsIn K mainGlobals "NoFraction" = some (some (.ref C_NoFraction)))
    (a_NoHistory : PySem.W.nsIn K mainGlobals "NoHistory" = some (some (.ref C_NoHistory)))
    (a_NoLine : PySem.W.nsIn K mainGlobals "NoLine" = some (some (.ref C_NoLine)))
    (a_NoMeeting : PySem.W.nsIn K mainGlobals "NoMeeting" = some (some (.ref C_NoMeeting)))
    (a_NoMoments : PySem.W.nsIn K mainGlobals "NoMoments" = some (some (.ref C_NoMoments)))
    (a_NoName : PySem.W.nsIn K mainGlobals "NoName" = some (some (.ref C_NoName)))
    (a_NoNumber : PySem.W.nsIn K mainGlobals "NoNumber" = some (some (.ref C_NoNumber)))
    (a_NoSeries : PySem.W.nsIn K mainGlobals "NoSeries" = some (some (.ref C_NoSeries)))
    (a_NoText : PySem.W.nsIn K mainGlobals "NoText" = some (some (.ref C_NoText)))
    (a_NoThing : PySem.W.nsIn K mainGlobals "NoThing" = some (some (.ref C_NoThing)))
    (a_NoWay : PySem.W.nsIn K mainGlobals "NoWay" = some (some (.ref C_NoWay)))
    (a_NoWeights : PySem.W.nsIn K mainGlobals "NoWeights" = some (some (.ref C_NoWeights)))
    (a_TooFar : PySem.W.nsIn K mainGlobals "TooFar" = some (some (.ref C_TooFar)))
    (a_TooHigh : PySem.W.nsIn K mainGlobals "TooHigh" = some (some (.ref C_TooHigh)))
    (a_TooMany : PySem.W.nsIn K mainGlobals "TooMany" = some (some (.ref C_TooMany)))
    (n_ValueError : PySem.W.nsIn K mainGlobals "ValueError" = some none)
    (n_abs : PySem.W.nsIn K mainGlobals "abs" = some none)
    (n_isinstance : PySem.W.nsIn K mainGlobals "isinstance" = some none)
    (n_len : PySem.W.nsIn K mainGlobals "len" = some none)
    (n_list : PySem.W.nsIn K mainGlobals "list" = some none)
    (n_max : PySem.W.nsIn K mainGlobals "max" = some none)
    (n_range : PySem.W.nsIn K mainGlobals "range" = some none)
    (x_tf : PySem.W.excIn K C_TooFar vmro "ValueError.__new__" = true)
    (x_ga : PySem.W.findIn K (.ref C_TooFar) "__getattribute__" = some (some (.builtin "BaseException.__getattribute__")))
    (x_gt : PySem.W.findIn K (.ref C_TooFar) "__getattr__" = some none)
    (x_be : PySem.W.mroIn K C_TooFar (.type "BaseException") = some true)
    (x_ob : PySem.W.mroIn K C_TooFar (.type "object") = some true)
    (x_cl : PySem.W.findIn K (.ref C_TooFar) "__class__" = some (some (.builtin "object.__class__")))
    (x_gs : PySem.W.specialIn K (.builtin "object.__class__") "__get__" = some (some (.builtin "getset_descriptor.__get__")))
    (x_tk : PySem.W.takesIn K (.builtin "object.__class__") = some true)
    (x_is : (PySem.W.clsIn K C_TooFar).isSome = true)
    (x_ex : PySem.W.exmOne K (.ref C_TooFar) (.ref C_HeightError) = some true)
    (x_kValueError : PySem.W.kitOne K (.ref C_TooFar) (.type "ValueError") = some true)
    (x_kNoFraction : PySem.W.kitOne K (.ref C_TooFar) (.ref C_NoFraction) = some false)
    (x_kTooMany : PySem.W.kitOne K (.ref C_TooFar) (.ref C_TooMany) = some false)
    (x_kTooFar : PySem.W.kitOne K (.ref C_TooFar) (.ref C_TooFar) = some true)
    (x_kNoNumber : PySem.W.kitOne K (.ref C_TooFar) (.ref C_NoNumber) = some false)
    (x_kNoWeights : PySem.W.kitOne K (.ref C_TooFar) (.ref C_NoWeights) = some false)
    (x_kNoSeries : PySem.W.kitOne K (.ref C_TooFar) (.ref C_NoSeries) = some false)
    (x_kNoMoments : PySem.W.kitOne K (.ref C_TooFar) (.ref C_NoMoments) = some false)
    (x_kNoFamily : PySem.W.kitOne K (.ref C_TooFar) (.ref C_NoFamily) = some false)
    (x_kNoMeeting : PySem.W.kitOne K (.ref C_TooFar) (.ref C_NoMeeting) = some false)
    (x_kNoThing : PySem.W.kitOne K (.ref C_TooFar) (.ref C_NoThing) = some false)
    (x_kNoLine : PySem.W.kitOne K (.ref C_TooFar) (.ref C_NoLine) = some false)
    (x_kNoText : PySem.W.kitOne K (.ref C_TooFar) (.ref C_NoText) = some false)
    (x_kNoWay : PySem.W.kitOne K (.ref C_TooFar) (.ref C_NoWay) = some false)
    (x_kTooHigh : PySem.W.kitOne K (.ref C_TooFar) (.ref C_TooHigh) = some false)
    (x_kNoHistory : PySem.W.kitOne K (.ref C_TooFar) (.ref C_NoHistory) = some false)
    (x_kNoCount : PySem.W.kitOne K (.ref C_TooFar) (.ref C_NoCount) = some false)
    (x_kNoName : PySem.W.kitOne K (.ref C_TooFar) (.ref C_NoName) = some false)
    : ∃ fd : FuncData, (∀ (s : Shared) (v : Value), BindsTo s fd ⟨[v], []⟩ [("_law_script", v)]) ∧ ∀ base : Heap, K.In base → base.Ns mainGlobals mg → FnOk l.prog w K mg base (CXe l.prog w) 4 fa fd ["_law_script"] (spLaw K) := by
  have e := hfa.symm.trans (PySem.W.mg_of X G a_law)
  cases e
  have T : Tx w K mg C_HeightError C_NoCount C_NoFamily C_NoFraction C_NoHistory C_NoLine C_NoMeeting C_NoMoments C_NoName C_NoNumber C_NoSeries C_NoText C_NoThing C_NoWay C_NoWeights C_TooFar C_TooHigh C_TooMany := { b_ValueError := PySem.W.mg_none_of X G n_ValueError, b_abs := PySem.W.mg_none_of X G n_abs, b_isinstance := PySem.W.mg_none_of X G n_isinstance, b_len := PySem.W.mg_none_of X G n_len, b_list := PySem.W.mg_none_of X G n_list, b_max := PySem.W.mg_none_of X G n_max, b_range := PySem.W.mg_none_of X G n_range, m_HeightError := PySem.W.mg_of X G a_HeightError, m_NoCount := PySem.W.mg_of X G a_NoCount, m_NoFamily := PySem.W.mg_of X G a_NoFamily, m_NoFraction := PySem.W.mg_of X G a_NoFraction, m_NoHistory := PySem.W.mg_of X G a_NoHistory, m_NoLine := PySem.W.mg_of X G a_NoLine, m_NoMeeting := PySem.W.mg_of X G a_NoMeeting, m_NoMoments := PySem.W.mg_of X G a_NoMoments, m_NoName := PySem.W.mg_of X G a_NoName, m_NoNumber := PySem.W.mg_of X G a_NoNumber, m_NoSeries := PySem.W.mg_of X G a_NoSeries, m_NoText := PySem.W.mg_of X G a_NoText, m_NoThing := PySem.W.mg_of X G a_NoThing, m_NoWay := PySem.W.mg_of X G a_NoWay, m_NoWeights := PySem.W.mg_of X G a_NoWeights, m_TooFar := PySem.W.mg_of X G a_TooFar, m_TooHigh := PySem.W.mg_of X G a_TooHigh, m_TooMany := PySem.W.mg_of X G a_TooMany, x_TooFar := x_tf, xc := ⟨x_ga, x_gt, x_be, x_ob, x_cl, x_gs, x_tk, x_is⟩, ex := x_ex, k_ValueError := x_kValueError, k_NoFraction := x_kNoFraction, k_TooMany := x_kTooMany, k_TooFar := x_kTooFar, k_NoNumber := x_kNoNumber, k_NoWeights := x_kNoWeights, k_NoSeries := x_kNoSeries, k_NoMoments := x_kNoMoments, k_NoFamily := x_kNoFamily, k_NoMeeting := x_kNoMeeting, k_NoThing := x_kNoThing, k_NoLine := x_kNoLine, k_NoText := x_kNoText, k_NoWay := x_kNoWay, k_TooHigh := x_kTooHigh, k_NoHistory := x_kNoHistory, k_NoCount := x_kNoCount, k_NoName := x_kNoName }
  refine ⟨PySem.W.fnOf "law" "law" (defArgs s_law) (defBody s_law) (defScope s_law) .none kV_law dc_law pm_law an_law cd_law ct_law, fun s v => .of_eq rfl, fun base _ _ => ?_⟩
  have h_moment_table := ok_moment_table (P := l.prog) (w := w) (base := base) (funD_mk (st := s_moment_table) l_moment_table e_moment_table k_moment_table d_moment_table) (PySem.W.mg_of X G a_moment_table) T 
  have h__law_cell_at := ok__law_cell_at (P := l.prog) (w := w) (base := base) (fun_mk (st := s__law_cell_at) l__law_cell_at e__law_cell_at k__law_cell_at) (PySem.W.mg_of X G a__law_cell_at) T 
  have h__law_stir := ok__law_stir (P := l.prog) (w := w) (base := base) (fun_mk (st := s__law_stir) l__law_stir e__law_stir k__law_stir) (PySem.W.mg_of X G a__law_stir) T 
  have h__law_drawn := ok__law_drawn (P := l.prog) (w := w) (base := base) (fun_mk (st := s__law_drawn) l__law_drawn e__law_drawn k__law_drawn) (PySem.W.mg_of X G a__law_drawn) T h__law_cell_at h__law_stir
  have h__law_divisor := ok__law_divisor (P := l.prog) (w := w) (base := base) (fun_mk (st := s__law_divisor) l__law_divisor e__law_divisor k__law_divisor) (PySem.W.mg_of X G a__law_divisor) T 
  have h__law_low := ok__law_low (P := l.prog) (w := w) (base := base) (fun_mk (st := s__law_low) l__law_low e__law_low k__law_low) (PySem.W.mg_of X G a__law_low) T h__law_divisor
  have h__law_marks := ok__law_marks (P := l.prog) (w := w) (base := base) (fun_mk (st := s__law_marks) l__law_marks e__law_marks k__law_marks) (PySem.W.mg_of X G a__law_marks) T 
  have h__law_only := ok__law_only (P := l.prog) (w := w) (base := base) (fun_mk (st := s__law_only) l__law_only e__law_only k__law_only) (PySem.W.mg_of X G a__law_only) T 
  have h__law_number_by := ok__law_number_by (P := l.prog) (w := w) (base := base) (fun_mk (st := s__law_number_by) l__law_number_by e__law_number_by k__law_number_by) (PySem.W.mg_of X G a__law_number_by) T h__law_low
  have h__law_asked := ok__law_asked (P := l.prog) (w := w) (base := base) (fun_mk (st := s__law_asked) l__law_asked e__law_asked k__law_asked) (PySem.W.mg_of X G a__law_asked) T h__law_marks h_moment_table
  have h__law_holds := ok__law_holds (P := l.prog) (w := w) (base := base) (fun_mk (st := s__law_holds) l__law_holds e__law_holds k__law_holds) (PySem.W.mg_of X G a__law_holds) T h__law_asked h__law_only
  exact fn_law (fun_mk (st := s_law) l_law e_law k_law) T h__law_drawn h__law_holds h__law_number_by
theorem walk {l : PySem.W.OpenLaw} {q : Program} {loose : List Str} {XP : (Str → Option Value) → Heap → Prop} {YP : World → Heap → Prop} {d : DefRec} {K : Params → PySem.W.Frag} (hn : l.most = some 63) (hdf : d.params.defaults = [])
    (hY : ∀ (w : World) (h : Heap), YP w h → (K w.params).In h)
    (F : ∀ (w : World) (mg : Str → Option Value) (fa : Addr) (h : Heap), (K w.params).In h → h.Ns mainGlobals mg → mg d.name = some (.ref fa) →
      ∃ fd : FuncData, (∀ (s : Shared) (u : Value), BindsTo s fd ⟨[u], []⟩ [("_law_script", u)]) ∧ ∀ base : Heap, (K w.params).In base → base.Ns mainGlobals mg → FnOk l.prog w (K w.params) mg base (CXe l.prog w) 4 fa fd ["_law_script"] (spLaw (K w.params))) :
    PySem.W.WalkO q loose XP YP l.row.toRowW d [] (fun f vs => PySem.call f vs) :=
  L2.walk_of (n := 63) (k := 4) (x := "_law_script") (CX := fun w => CXe l.prog w) (sp := fun w => spLaw (K w.params)) hn (by decide) hdf ⟨rfl, by decide, by decide⟩ hY F (fun _ _ a ns hl _ hS => ⟨a, ns, rfl, hS, hl, fun _ => rfl⟩) fun _ _ _ _ _ ⟨_, _, _, _, _, _, _, _, z⟩ => z
end K22
theorem PySem.W.Fast.tw1840256999263813990 : True := trivial
theorem PySem.W.Fast.tw8479115681268604280 : True := trivial
theorem PySem.W.Fast.tw10442135022273089182 : True := trivial
theorem PySem.W.Fast.tw12403422887113955170 : True := trivial
theorem PySem.W.Fast.tw11542941944142811775 : True := trivial
theorem PySem.W.Fast.tw204258760853504763 : True := trivial
theorem PySem.W.Fast.tw2043942987695381490 : True := trivial
theorem PySem.W.Fast.tw10148128056874980162 : True := trivial
theorem PySem.W.Fast.tw18197010631137503207 : True := trivial
theorem PySem.W.Fast.tw4877268919831207571 : True := trivial
theorem PySem.W.Fast.tw12306124189675797985 : True := trivial
theorem PySem.W.Fast.tw10470690019335883835 : True := trivial
theorem PySem.W.Fast.tw8178546100820084310 : True := trivial
theorem PySem.W.Fast.tw13225255730982894313 : True := trivial
theorem PySem.W.Fast.tw16146678684159829131 : True := trivial
theorem PySem.W.Fast.tw15258392980477206763 : True := trivial
theorem PySem.W.Fast.tw811378772698182527 : True := trivial
theorem PySem.W.Fast.tw15874534235591495752 : True := trivial
theorem PySem.W.Fast.tw6073982055510577942 : True := trivial
theorem PySem.W.Fast.tw14475632419593828371 : True := trivial
theorem PySem.W.Fast.tw12119923037319990675 : True := trivial
theorem PySem.W.Fast.tw5547165306076532809 : True := trivial
theorem PySem.W.Fast.tw13995168395447238514 : True := trivial
theorem PySem.W.Fast.tw14032821970933738178 : True := trivial
theorem PySem.W.Fast.tw17502037877208586799 : True := trivial
theorem PySem.W.Fast.tw15133704878955059992 : True := trivial
theorem PySem.W.Fast.tw5893190612630903629 : True := trivial
theorem PySem.W.Fast.tw17709842181476704582 : True := trivial
theorem PySem.W.Fast.tw5715044229159948536 : True := trivial
theorem PySem.W.Fast.tw16410147276927427540 : True := trivial
theorem PySem.W.Fast.tw4884556719622277825 : True := trivial
theorem PySem.W.Fast.tw14643349665085893035 : True := trivial
theorem PySem.W.Fast.tw13295864218789533145 : True := trivial
theorem PySem.W.Fast.tw7273459545835891019 : True := trivial
theorem PySem.W.Fast.tw9391706781200698185 : True := trivial
theorem PySem.W.Fast.tw4162711945246917336 : True := trivial
theorem PySem.W.Fast.tw15548514481932050787 : True := trivial
theorem PySem.W.Fast.tw14173676422299627979 : True := trivial
theorem PySem.W.Fast.tw5264488949815612247 : True := trivial
theorem PySem.W.Fast.tw11133380702412658757 : True := trivial
theorem PySem.W.Fast.tw12466171897602252002 : True := trivial
theorem PySem.W.Fast.tw2811547599387104222 : True := trivial
theorem PySem.W.Fast.tw16916449376023540903 : True := trivial
theorem PySem.W.Fast.tw13115601083982307028 : True := trivial
theorem PySem.W.Fast.tw14093723306413654649 : True := trivial
theorem PySem.W.Fast.tw14261102103517785846 : True := trivial
theorem PySem.W.Fast.tw4486846586549424296 : True := trivial
theorem PySem.W.Fast.tw13063096737277163232 : True := trivial
theorem PySem.W.Fast.tw4144663714272280278 : True := trivial
theorem PySem.W.Fast.tw11226905873160465204 : True := trivial
theorem PySem.W.Fast.tw15840538118933470288 : True := trivial
theorem PySem.W.Fast.tw17192949806702510884 : True := trivial
theorem PySem.W.Fast.tw15502446472384138534 : True := trivial
theorem PySem.W.Fast.tw16866777512721328417 : True := trivial
theorem PySem.W.Fast.tw16228042831300489825 : True := trivial
theorem PySem.W.Fast.tw1583268392485615389 : True := trivial
theorem PySem.W.Fast.tw1139161014991758849 : True := trivial
theorem PySem.W.Fast.tw10279725139384852906 : True := trivial
theorem PySem.W.Fast.tw5281379945045789418 : True := trivial
theorem PySem.W.Fast.tw1908643566952653600 : True := trivial
theorem PySem.W.Fast.tw17121170526856008047 : True := trivial
theorem PySem.W.Fast.tw11619106798520505108 : True := trivial
theorem PySem.W.Fast.tw214137273363710057 : True := trivial
theorem PySem.W.Fast.tw9560519358305912884 : True := trivial
theorem PySem.W.Fast.tw7857663965088004423 : True := trivial
theorem PySem.W.Fast.tw10454496305154271379 : True := trivial
theorem PySem.W.Fast.tw10853975436277443348 : True := trivial
theorem PySem.W.Fast.tw3411733711570108336 : True := trivial
theorem PySem.W.Fast.tw2319650993424813801 : True := trivial
theorem PySem.W.Fast.tw10215086759834925014 : True := trivial
theorem PySem.W.Fast.tw2291354146090080576 : True := trivial
theorem PySem.W.Fast.tw1496857908567257072 : True := trivial
theorem PySem.W.Fast.tw13434426429497551588 : True := trivial
theorem PySem.W.Fast.tw7793503638878061538 : True := trivial
theorem PySem.W.Fast.tw8452563206600132875 : True := trivial
theorem PySem.W.Fast.tw2876222151269398937 : True := trivial
theorem PySem.W.Fast.tw7099471475986138917 : True := trivial
theorem PySem.W.Fast.tw15424263654532641555 : True := trivial
theorem PySem.W.Fast.tw3185132337592154627 : True := trivial
theorem PySem.W.Fast.tw16548693123867309594 : True := trivial
theorem PySem.W.Fast.tw11618251053356448607 : True := trivial
theorem PySem.W.Fast.tw18296771501427486754 : True := trivial
theorem PySem.W.Fast.tw13098369914381955225 : True := trivial
theorem PySem.W.Fast.tw12294927463801178240 : True := trivial
theorem PySem.W.Fast.tw9218854498409594068 : True := trivial
theorem PySem.W.Fast.tw6205291452710608576 : True := trivial
theorem PySem.W.Fast.tw12558519617254736660 : True := trivial
theorem PySem.W.Fast.tw880861908784302522 : True := trivial
theorem PySem.W.Fast.tw15022682633498041957 : True := trivial
theorem PySem.W.Fast.tw7075521491320723247 : True := trivial
theorem PySem.W.Fast.tw7647782664069549852 : True := trivial
theorem PySem.W.Fast.tw11022103496172841403 : True := trivial
theorem PySem.W.Fast.tw4608566849624510909 : True := trivial
theorem PySem.W.Fast.tw13164073269619246991 : True := trivial
theorem PySem.W.Fast.tw16873685550407350661 : True := trivial
theorem PySem.W.Fast.tw614648185943724514 : True := trivial
theorem PySem.W.Fast.tw5568436866926035818 : True := trivial
theorem PySem.W.Fast.tw10097030095589105992 : True := trivial
theorem PySem.W.Fast.tw14530475177040674143 : True := trivial
theorem PySem.W.Fast.tw12851935572256557716 : True := trivial
theorem PySem.W.Fast.tw1057173666908650458 : True := trivial
theorem PySem.W.Fast.tw11706673732826369130 : True := trivial
theorem PySem.W.Fast.tw11576015489975810126 : True := trivial
theorem PySem.W.Fast.tw18135199014494150412 : True := trivial
theorem PySem.W.Fast.tw15784942622534800740 : True := trivial
theorem PySem.W.Fast.tw15408836756767961267 : True := trivial
theorem PySem.W.Fast.tw12174735493952636491 : True := trivial
theorem PySem.W.Fast.tw14626515344237839189 : True := trivial
theorem PySem.W.Fast.tw16714082820780068961 : True := trivial
theorem PySem.W.Fast.tw15897207969047942910 : True := trivial
theorem PySem.W.Fast.tw17245939414579752554 : True := trivial
theorem PySem.W.Fast.tw2944771114114881469 : True := trivial
theorem PySem.W.Fast.tw1426613566124261579 : True := trivial
theorem PySem.W.Fast.tw11954571922585679067 : True := trivial
theorem PySem.W.Fast.tw3375974959446819874 : True := trivial
theorem PySem.W.Fast.tw3907453998674550688 : True := trivial
theorem PySem.W.Fast.tw18268660945593295287 : True := trivial
theorem PySem.W.Fast.tw7821519532753906826 : True := trivial
theorem PySem.W.Fast.tw15061299653178196432 : True := trivial
theorem PySem.W.Fast.tw16711182305605269674 : True := trivial
theorem PySem.W.Fast.tw18186261878263266311 : True := trivial
theorem PySem.W.Fast.tw1575693118327452207 : True := trivial
theorem PySem.W.Fast.tw4513685047722173179 : True := trivial
theorem PySem.W.Fast.tw1493485774587117010 : True := trivial
theorem PySem.W.Fast.tw16413092379843520113 : True := trivial
theorem PySem.W.Fast.tw7208751762319487589 : True := trivial
theorem PySem.W.Fast.tw5785252762440501104 : True := trivial
theorem PySem.W.Fast.tw2848019074522565702 : True := trivial
theorem PySem.W.Fast.tw6184815206648369282 : True := trivial
theorem PySem.W.Fast.tw16167519053553792211 : True := trivial
theorem PySem.W.Fast.tw2039817930275388947 : True := trivial
theorem PySem.W.Fast.tw4589582451557577057 : True := trivial
theorem PySem.W.Fast.tw9242703930351150375 : True := trivial
theorem PySem.W.Fast.tw12251507047662389809 : True := trivial
theorem PySem.W.Fast.tw3016109771177719524 : True := trivial
theorem PySem.W.Fast.tw17681857082478418970 : True := trivial
theorem PySem.W.Fast.tw3044728831206287761 : True := trivial
theorem PySem.W.Fast.tw2195124592514019280 : True := trivial
theorem PySem.W.Fast.tw9323316162261290103 : True := trivial
theorem PySem.W.Fast.tw7553560498321778318 : True := trivial
theorem PySem.W.Fast.tw5345376527264268665 : True := trivial
theorem PySem.W.Fast.tw1623490751719982320 : True := trivial
theorem PySem.W.Fast.tw2538095497066793054 : True := trivial
theorem PySem.W.Fast.tw8027114308238908540 : True := trivial
theorem PySem.W.Fast.tw12359911565627923756 : True := trivial
theorem PySem.W.Fast.tw6600501539270040914 : True := trivial
theorem PySem.W.Fast.tw12917838852887183263 : True := trivial
theorem PySem.W.Fast.tw1147484880715103368 : True := trivial
theorem PySem.W.Fast.tw4334013628820987105 : True := trivial
theorem PySem.W.Fast.tw3278065085248835428 : True := trivial
theorem PySem.W.Fast.tw8426380740806670287 : True := trivial
theorem PySem.W.Fast.tw5142785993228412912 : True := trivial
theorem PySem.W.Fast.tw13398841066132157185 : True := trivial
theorem PySem.W.Fast.tw14572274753136395729 : True := trivial
theorem PySem.W.Fast.tw10990501590060658540 : True := trivial
theorem PySem.W.Fast.tw10389914365735649469 : True := trivial
theorem PySem.W.Fast.tw12341066216776639115 : True := trivial
theorem PySem.W.Fast.tw11660557739574357801 : True := trivial
theorem PySem.W.Fast.tw5959073887267389402 : True := trivial
theorem PySem.W.Fast.tw5995079320812002521 : True := trivial
theorem PySem.W.Fast.tw1154910762514263869 : True := trivial
theorem PySem.W.Fast.tw10590240480349648864 : True := trivial
theorem PySem.W.Fast.tw6070077503437593453 : True := trivial
theorem PySem.W.Fast.tw15278647193005477749 : True := trivial
theorem PySem.W.Fast.tw17665616913820212037 : True := trivial
theorem PySem.W.Fast.tw892302426331215049 : True := trivial
theorem PySem.W.Fast.tw13646775942977117844 : True := trivial
theorem PySem.W.Fast.tw11203521310544395977 : True := trivial
theorem PySem.W.Fast.tw15064263695540315626 : True := trivial
theorem PySem.W.Fast.tw7968695115936058710 : True := trivial
theorem PySem.W.Fast.tw6818933195568183266 : True := trivial
theorem PySem.W.Fast.tw4763245074044935608 : True := trivial
theorem PySem.W.Fast.tw10029964901084440377 : True := trivial
theorem PySem.W.Fast.tw15375513101009630305 : True := trivial
theorem PySem.W.Fast.tw12020905513040049885 : True := trivial
theorem PySem.W.Fast.tw17169156789783735729 : True := trivial
theorem PySem.W.Fast.tw14712196751155999911 : True := trivial
theorem PySem.W.Fast.tw12091801944712439779 : True := trivial
theorem PySem.W.Fast.tw567302628559145653 : True := trivial
theorem PySem.W.Fast.tw17384849520125609661 : True := trivial
theorem PySem.W.Fast.tw13571235237660600803 : True := trivial
theorem PySem.W.Fast.tw11629250349877551938 : True := trivial
theorem PySem.W.Fast.tw5915257686616436962 : True := trivial
theorem PySem.W.Fast.tw13395228873918377466 : True := trivial
theorem PySem.W.Fast.tw2342571977424140934 : True := trivial
theorem PySem.W.Fast.tw16269916409080866681 : True := trivial
theorem PySem.W.Fast.tw17536477522170864087 : True := trivial
theorem PySem.W.Fast.tw5436496797176842078 : True := trivial
theorem PySem.W.Fast.tw8561170899378056148 : True := trivial
theorem PySem.W.Fast.tw1633860556486677440 : True := trivial
theorem PySem.W.Fast.tw15123051193805060781 : True := trivial
theorem PySem.W.Fast.tw10193269878785347188 : True := trivial
theorem PySem.W.Fast.tw13080611595635010001 : True := trivial
theorem PySem.W.Fast.tw9216964703085274156 : True := trivial
theorem PySem.W.Fast.tw5141756638961657684 : True := trivial
theorem PySem.W.Fast.tw17269843442593714130 : True := trivial
theorem PySem.W.Fast.tw5181709001075677529 : True := trivial
theorem PySem.W.Fast.tw16726792932029468626 : True := trivial
theorem PySem.W.Fast.tw13635032152454148064 : True := trivial
theorem PySem.W.Fast.tw17235437369024989021 : True := trivial
theorem PySem.W.Fast.tw508274922374130595 : True := trivial
theorem PySem.W.Fast.tw6496485541365641671 : True := trivial
theorem PySem.W.Fast.tw15034290101403231210 : True := trivial
theorem PySem.W.Fast.tw16252837010066537995 : True := trivial
theorem PySem.W.Fast.tw14266178457970321643 : True := trivial
theorem PySem.W.Fast.tw2134085530066751822 : True := trivial
theorem PySem.W.Fast.tw11032667068684020370 : True := trivial
theorem PySem.W.Fast.tw14074972133820567767 : True := trivial
theorem PySem.W.Fast.tw4378455843953367182 : True := trivial
theorem PySem.W.Fast.tw2984354510290443098 : True := trivial
theorem PySem.W.Fast.tw9130429701893190530 : True := trivial
theorem PySem.W.Fast.tw9602137889514611133 : True := trivial
theorem PySem.W.Fast.tw941529589788852658 : True := trivial
theorem PySem.W.Fast.tw14201470652518889290 : True := trivial
theorem PySem.W.Fast.tw16908675226476812851 : True := trivial
theorem PySem.W.Fast.tw8267877261292173462 : True := trivial
theorem PySem.W.Fast.tw14617723289895098565 : True := trivial
theorem PySem.W.Fast.tw4839243556566677401 : True := trivial
theorem PySem.W.Fast.tw379212470038352784 : True := trivial
theorem PySem.W.Fast.tw4990702855533165959 : True := trivial
theorem PySem.W.Fast.tw1193590824252311431 : True := trivial
theorem PySem.W.Fast.tw5401687126553076040 : True := trivial
theorem PySem.W.Fast.tw16753142151378017639 : True := trivial
theorem PySem.W.Fast.tw9300503437087479628 : True := trivial
theorem PySem.W.Fast.tw6677610294387648113 : True := trivial
theorem PySem.W.Fast.tw987777876530721368 : True := trivial
theorem PySem.W.Fast.tw12857111154863126809 : True := trivial
theorem PySem.W.Fast.tw6871382451182630474 : True := trivial
theorem PySem.W.Fast.tw13499541560588340440 : True := trivial
theorem PySem.W.Fast.tw11440593994290962458 : True := trivial
theorem PySem.W.Fast.tw13255148210020038078 : True := trivial
theorem PySem.W.Fast.tw2942129975308231506 : True := trivial
theorem PySem.W.Fast.tw10545421484603552127 : True := trivial
theorem PySem.W.Fast.tw7596590868018517346 : True := trivial
theorem PySem.W.Fast.tw7899249475227309680 : True := trivial
theorem PySem.W.Fast.tw2108856182340146679 : True := trivial
theorem PySem.W.Fast.tw5426698585214780756 : True := trivial
theorem PySem.W.Fast.tw14739876543704872074 : True := trivial
theorem PySem.W.Fast.tw15703009332852265749 : True := trivial
theorem PySem.W.Fast.tw6978535531424183789 : True := trivial
theorem PySem.W.Fast.tw7893809939617678355 : True := trivial
theorem PySem.W.Fast.tw8926270225175518776 : True := trivial
theorem PySem.W.Fast.tw5027888536320118764 : True := trivial
theorem PySem.W.Fast.tw13980289866930349569 : True := trivial
theorem PySem.W.Fast.tw11466204983958605894 : True := trivial
theorem PySem.W.Fast.tw10607402928743223927 : True := trivial
theorem PySem.W.Fast.tw9882961325970136181 : True := trivial
theorem PySem.W.Fast.tw12351339651830975612 : True := trivial
theorem PySem.W.Fast.tw5561626466198729288 : True := trivial
theorem PySem.W.Fast.tw656814631641857199 : True := trivial
theorem PySem.W.Fast.tw4865489648614126211 : True := trivial
theorem PySem.W.Fast.tw11338101567661397686 : True := trivial
theorem PySem.W.Fast.tw1515885725109950262 : True := trivial
theorem PySem.W.Fast.tw5784912411855096968 : True := trivial
theorem PySem.W.Fast.tw7511687433796618461 : True := trivial
theorem PySem.W.Fast.tw3317200032392123099 : True := trivial
theorem PySem.W.Fast.tw1350022781259011143 : True := trivial
theorem PySem.W.Fast.tw11764574781106826777 : True := trivial
theorem PySem.W.Fast.tw11847582080594906555 : True := trivial
theorem PySem.W.Fast.tw17378372877726493469 : True := trivial
theorem PySem.W.Fast.tw2187889356691048826 : True := trivial
theorem PySem.W.Fast.tw10966500632417145342 : True := trivial
theorem PySem.W.Fast.tw10707910267432770402 : True := trivial
theorem PySem.W.Fast.tw8332069411366061977 : True := trivial
theorem PySem.W.Fast.tw17763634488549090730 : True := trivial
theorem PySem.W.Fast.tw10800404500417953292 : True := trivial
theorem PySem.W.Fast.tw15617961942769950780 : True := trivial
theorem PySem.W.Fast.tw135860142542634721 : True := trivial
theorem PySem.W.Fast.tw7010591725408847448 : True := trivial
theorem PySem.W.Fast.tw12444236521096574350 : True := trivial
theorem PySem.W.Fast.tw665629327613800077 : True := trivial
theorem PySem.W.Fast.tw2853032977404981063 : True := trivial
theorem PySem.W.Fast.tw6418101987253617371 : True := trivial
theorem PySem.W.Fast.tw6958226177020312443 : True := trivial
theorem PySem.W.Fast.tw6987030139482997041 : True := trivial
theorem PySem.W.Fast.tw15090428929295381363 : True := trivial
theorem PySem.W.Fast.tw16318194942159780969 : True := trivial
theorem PySem.W.Fast.tw10432503990971228164 : True := trivial
theorem PySem.W.Fast.tw8342995628747483548 : True := trivial
theorem PySem.W.Fast.tw1472145856310678925 : True := trivial
theorem PySem.W.Fast.tw8272186778790260091 : True := trivial
theorem PySem.W.Fast.tw17565529364015729751 : True := trivial
theorem PySem.W.Fast.tw4128635695451156580 : True := trivial
theorem PySem.W.Fast.tw16365750020653363012 : True := trivial
theorem PySem.W.Fast.tw11850634063619901748 : True := trivial
theorem PySem.W.Fast.tw7027761224711679028 : True := trivial
theorem PySem.W.Fast.tw16263468892731103082 : True := trivial
theorem PySem.W.Fast.tw8412270399252646864 : True := trivial
theorem PySem.W.Fast.tw13461142837615000165 : True := trivial
theorem PySem.W.Fast.tw9759349659668072108 : True := trivial
theorem PySem.W.Fast.tw1130866090239103901 : True := trivial
theorem PySem.W.Fast.tw4685663941803599334 : True := trivial
theorem PySem.W.Fast.tw9890203345200077164 : True := trivial
theorem PySem.W.Fast.tw12288175531556584913 : True := trivial
theorem PySem.W.Fast.tw6642160372957572855 : True := trivial
theorem PySem.W.Fast.tw17521576391214788869 : True := trivial
theorem PySem.W.Fast.tw18212733065798828880 : True := trivial
theorem PySem.W.Fast.tw1677531168631452804 : True := trivial
theorem PySem.W.Fast.tw8191366566324733382 : True := trivial
theorem PySem.W.Fast.tw15963168381275841601 : True := trivial
theorem PySem.W.Fast.tw14470273835146161533 : True := trivial
theorem PySem.W.Fast.tw8138667264797194560 : True := trivial
theorem PySem.W.Fast.tw14456120675188911145 : True := trivial
theorem PySem.W.Fast.tw14074827806534385671 : True := trivial
theorem PySem.W.Fast.tw13916988303394322558 : True := trivial
theorem PySem.W.Fast.tw5136061239788861152 : True := trivial
theorem PySem.W.Fast.tw14394991139066411464 : True := trivial
theorem PySem.W.Fast.tw17261608666570123712 : True := trivial
theorem PySem.W.Fast.tw6487354616866476804 : True := trivial
theorem PySem.W.Fast.tw12322697914665998790 : True := trivial
theorem PySem.W.Fast.tw5662331559759417911 : True := trivial
theorem PySem.W.Fast.tw8375666785675161109 : True := trivial
theorem PySem.W.Fast.tw6520915154698858540 : True := trivial
theorem PySem.W.Fast.tw2732723770263746797 : True := trivial
theorem PySem.W.Fast.tw12180199411401636647 : True := trivial
theorem PySem.W.Fast.tw8510629759994450032 : True := trivial
theorem PySem.W.Fast.tw4406595464078034233 : True := trivial
theorem PySem.W.Fast.tw17858831994684197502 : True := trivial
theorem PySem.W.Fast.tw11290933788193210536 : True := trivial
theorem PySem.W.Fast.tw10471603782768195267 : True := trivial
theorem PySem.W.Fast.tw4324444652580733111 : True := trivial
theorem PySem.W.Fast.tw3790871989892148853 : True := trivial
theorem PySem.W.Fast.tw10196087085361772590 : True := trivial
theorem PySem.W.Fast.tw1422968931713808439 : True := trivial
theorem PySem.W.Fast.tw9476726142078876509 : True := trivial
theorem PySem.W.Fast.tw6323287968153847608 : True := trivial
theorem PySem.W.Fast.tw6387763983603244101 : True := trivial
theorem PySem.W.Fast.tw12923665509382727249 : True := trivial
theorem PySem.W.Fast.tw8855346679641331345 : True := trivial
theorem PySem.W.Fast.tw17376512473768528701 : True := trivial
theorem PySem.W.Fast.tw7246707521800092204 : True := trivial
theorem PySem.W.Fast.tw13437265472899634030 : True := trivial
theorem PySem.W.Fast.tw7340962477850001379 : True := trivial
theorem PySem.W.Fast.tw3103165783670417991 : True := trivial
theorem PySem.W.Fast.tw5794094579764896831 : True := trivial
theorem PySem.W.Fast.tw1764746354160987046 : True := trivial
theorem PySem.W.Fast.tw17747298493600540473 : True := trivial
theorem PySem.W.Fast.tw3041750001706079614 : True := trivial
theorem PySem.W.Fast.tw2655759614283569525 : True := trivial
theorem PySem.W.Fast.tw7803040203044014462 : True := trivial
theorem PySem.W.Fast.tw7230655775645936673 : True := trivial
theorem PySem.W.Fast.tw11526392234788391491 : True := trivial
theorem PySem.W.Fast.tw5486618045491420561 : True := trivial
theorem PySem.W.Fast.tw16953356790743685131 : True := trivial
theorem PySem.W.Fast.tw14374936325255808813 : True := trivial
theorem PySem.W.Fast.tw769111612407166047 : True := trivial
theorem PySem.W.Fast.tw7998247603726649242 : True := trivial
theorem PySem.W.Fast.tw14826403819961910304 : True := trivial
theorem PySem.W.Fast.tw4066476979252796054 : True := trivial
theorem PySem.W.Fast.tw12939377093676681711 : True := trivial
theorem PySem.W.Fast.tw12042577730693225039 : True := trivial
theorem PySem.W.Fast.tw3030727888911146867 : True := trivial
theorem PySem.W.Fast.tw3979888547031857508 : True := trivial
theorem PySem.W.Fast.tw15030616295115426677 : True := trivial
theorem PySem.W.Fast.tw11367118815945885069 : True := trivial
theorem PySem.W.Fast.tw12964890398191534516 : True := trivial
theorem PySem.W.Fast.tw16158451867530081961 : True := trivial
theorem PySem.W.Fast.tw5323859119808669746 : True := trivial
theorem PySem.W.Fast.tw3481253470774968040 : True := trivial
theorem PySem.W.Fast.tw6060743754035258955 : True := trivial
theorem PySem.W.Fast.tw1458823634695105103 : True := trivial
theorem PySem.W.Fast.tw11538658142004987932 : True := trivial
theorem PySem.W.Fast.tw15123476793585628236 : True := trivial
theorem PySem.W.Fast.tw13262102355504950846 : True := trivial
theorem PySem.W.Fast.tw4634145604624084597 : True := trivial
theorem PySem.W.Fast.tw15237269818195090250 : True := trivial
theorem PySem.W.Fast.tw3305619016605312547 : True := trivial
theorem PySem.W.Fast.tw13563921110969047264 : True := trivial
theorem PySem.W.Fast.tw16117929607890133584 : True := trivial
theorem PySem.W.Fast.tw13839858338713318225 : True := trivial
theorem PySem.W.Fast.tw10252622548963195001 : True := trivial
theorem PySem.W.Fast.tw11947021402183016329 : True := trivial
theorem PySem.W.Fast.tw9778824015777646925 : True := trivial
theorem PySem.W.Fast.tw4343275936157220449 : True := trivial
theorem PySem.W.Fast.tw11394358388594005700 : True := trivial
theorem PySem.W.Fast.tw2714917976629025479 : True := trivial
theorem PySem.W.Fast.tw5712882943658408894 : True := trivial
theorem PySem.W.Fast.tw962204437962017435 : True := trivial
theorem PySem.W.Fast.tw13061028406345292401 : True := trivial
theorem PySem.W.Fast.tw8829994699070977739 : True := trivial
theorem PySem.W.Fast.tw13391660586304575955 : True := trivial
theorem PySem.W.Fast.tw12903091803410122378 : True := trivial
theorem PySem.W.Fast.tw6219228795190234539 : True := trivial
theorem PySem.W.Fast.tw15649113950388782886 : True := trivial
theorem PySem.W.Fast.tw1289311024787330675 : True := trivial
theorem PySem.W.Fast.tw13220647953806520024 : True := trivial
theorem PySem.W.Fast.tw1429720350968645075 : True := trivial
theorem PySem.W.Fast.tw3422816415543386252 : True := trivial
theorem PySem.W.Fast.tw2543279715276907192 : True := trivial
theorem PySem.W.Fast.tw543368068956891293 : True := trivial
theorem PySem.W.Fast.tw594094291883585642 : True := trivial
theorem PySem.W.Fast.tw17367204796729258176 : True := trivial
theorem PySem.W.Fast.tw8773070482597607484 : True := trivial
theorem PySem.W.Fast.tw2764597408725197542 : True := trivial
theorem PySem.W.Fast.tw11047596029961722555 : True := trivial
theorem PySem.W.Fast.tw7170752723462410190 : True := trivial
theorem PySem.W.Fast.tw529294103082022993 : True := trivial
theorem PySem.W.Fast.tw14013269387573172636 : True := trivial
theorem PySem.W.Fast.tw9401796173814527618 : True := trivial
theorem PySem.W.Fast.tw9032549460915252952 : True := trivial
theorem PySem.W.Fast.tw2665558206320222736 : True := trivial
theorem PySem.W.Fast.tw11655709754333473640 : True := trivial
theorem PySem.W.Fast.tw16603510644595891336 : True := trivial
theorem PySem.W.Fast.tw3678789417558370917 : True := trivial
theorem PySem.W.Fast.tw10141529675101506961 : True := trivial
theorem PySem.W.Fast.tw7111812519922578316 : True := trivial
theorem PySem.W.Fast.tw6367540362494605074 : True := trivial
theorem PySem.W.Fast.tw4253137195109543155 : True := trivial
theorem PySem.W.Fast.tw7296684519461494154 : True := trivial
theorem PySem.W.Fast.tw9953741650473245809 : True := trivial
theorem PySem.W.Fast.tw1570791582575389402 : True := trivial
theorem PySem.W.Fast.tw2072874155022311052 : True := trivial
theorem PySem.W.Fast.tw12865751001844833885 : True := trivial
theorem PySem.W.Fast.tw1942790916149571502 : True := trivial
theorem PySem.W.Fast.tw12900119687802242320 : True := trivial
theorem PySem.W.Fast.tw14512528672778187559 : True := trivial
theorem PySem.W.Fast.tw14164403101856297096 : True := trivial
theorem PySem.W.Fast.tw13333633131196241141 : True := trivial
theorem PySem.W.Fast.tw18416956758520897770 : True := trivial
theorem PySem.W.Fast.tw12480212642913056206 : True := trivial
theorem PySem.W.Fast.tw17041415456887482366 : True := trivial
theorem PySem.W.Fast.tw14850622164763206948 : True := trivial
theorem PySem.W.Fast.tw8778385318532668708 : True := trivial
theorem PySem.W.Fast.tw15693143479636402471 : True := trivial
theorem PySem.W.Fast.tw3567094227069913235 : True := trivial
theorem PySem.W.Fast.tw5895791087851419767 : True := trivial
theorem PySem.W.Fast.tw2656222994069677492 : True := trivial
theorem PySem.W.Fast.tw8851420760714504273 : True := trivial
theorem PySem.W.Fast.tw16775656992232609223 : True := trivial
theorem PySem.W.Fast.tw18322760453057985101 : True := trivial
theorem PySem.W.Fast.tw9536773572955935815 : True := trivial
theorem PySem.W.Fast.tw10163315832071328803 : True := trivial
theorem PySem.W.Fast.tw9572628433352295923 : True := trivial
theorem PySem.W.Fast.tw6115938772327052549 : True := trivial
theorem PySem.W.Fast.tw5902487331863802036 : True := trivial
theorem PySem.W.Fast.tw8017102765926729237 : True := trivial
theorem PySem.W.Fast.tw16761226156099762674 : True := trivial
theorem PySem.W.Fast.tw8578460817593909285 : True := trivial
theorem PySem.W.Fast.tw18348407640936498606 : True := trivial
theorem PySem.W.Fast.tw14563812196796185433 : True := trivial
theorem PySem.W.Fast.tw4432238982048641688 : True := trivial
theorem PySem.W.Fast.tw11386577734314949197 : True := trivial
theorem PySem.W.Fast.tw14393983393643064940 : True := trivial
theorem PySem.W.Fast.tw2255221248605975243 : True := trivial
theorem PySem.W.Fast.tw17972428491245160747 : True := trivial
theorem PySem.W.Fast.tw13735369572520555402 : True := trivial
theorem PySem.W.Fast.tw16876447576343313249 : True := trivial
theorem PySem.W.Fast.tw7844560045394415373 : True := trivial
theorem PySem.W.Fast.tw15236799821642201473 : True := trivial
theorem PySem.W.Fast.tw10996177348338555323 : True := trivial
theorem PySem.W.Fast.tw14851247612600283743 : True := trivial
theorem PySem.W.Fast.tw7690339970573266780 : True := trivial
theorem PySem.W.Fast.tw891020325059638377 : True := trivial
theorem PySem.W.Fast.tw5251835015614441639 : True := trivial
theorem PySem.W.Fast.tw14103660401565029445 : True := trivial
theorem PySem.W.Fast.tw4921658177443808703 : True := trivial
theorem PySem.W.Fast.tw12836526487921315334 : True := trivial
theorem PySem.W.Fast.tw13317424217364179311 : True := trivial
theorem PySem.W.Fast.tw3906003241936027209 : True := trivial
theorem PySem.W.Fast.tw1776469485625409259 : True := trivial
theorem PySem.W.Fast.tw16454228715483235256 : True := trivial
theorem PySem.W.Fast.tw15332670894874931468 : True := trivial
theorem PySem.W.Fast.tw14479484440421310064 : True := trivial
theorem PySem.W.Fast.tw5322837157260072814 : True := trivial
theorem PySem.W.Fast.tw10665825867526863020 : True := trivial
theorem PySem.W.Fast.tw16105622579588233996 : True := trivial
theorem PySem.W.Fast.tw12441635088617376457 : True := trivial
theorem PySem.W.Fast.tw6020560663303318680 : True := trivial
theorem PySem.W.Fast.tw14016617267567623640 : True := trivial
theorem PySem.W.Fast.tw12042546082960508758 : True := trivial
theorem PySem.W.Fast.tw5917556412301154200 : True := trivial
theorem PySem.W.Fast.tw13239709802619212703 : True := trivial
theorem PySem.W.Fast.tw10507453862126760636 : True := trivial
theorem PySem.W.Fast.tw5940270753477725841 : True := trivial
theorem PySem.W.Fast.tw14069449635773352768 : True := trivial
theorem PySem.W.Fast.tw10832591326044888853 : True := trivial
theorem PySem.W.Fast.tw14354296176788551006 : True := trivial
theorem PySem.W.Fast.tw12149629744291845190 : True := trivial
theorem PySem.W.Fast.tw9701976825840471336 : True := trivial
theorem PySem.W.Fast.tw17979902897773004649 : True := trivial
theorem PySem.W.Fast.tw3665548100177979610 : True := trivial
theorem PySem.W.Fast.tw13012044671941931047 : True := trivial
theorem PySem.W.Fast.tw5708473892390603701 : True := trivial
theorem PySem.W.Fast.tw9054077824554457672 : True := trivial
theorem PySem.W.Fast.tw2555927942230890855 : True := trivial
theorem PySem.W.Fast.tw12209625297185418416 : True := trivial
theorem PySem.W.Fast.tw11770430952514224635 : True := trivial
theorem PySem.W.Fast.tw700941481243831048 : True := trivial
theorem PySem.W.Fast.tw14548217203864333560 : True := trivial
theorem PySem.W.Fast.tw16333076374265192439 : True := trivial
theorem PySem.W.Fast.tw10746630584133833396 : True := trivial
theorem PySem.W.Fast.tw12257428822580136177 : True := trivial
theorem PySem.W.Fast.tw10381700516916663500 : True := trivial
theorem PySem.W.Fast.tw15104426645031255918 : True := trivial
theorem PySem.W.Fast.tw6801932784923870757 : True := trivial
theorem PySem.W.Fast.tw6994899159527392601 : True := trivial
theorem PySem.W.Fast.tw12382834387090810718 : True := trivial
theorem PySem.W.Fast.tw11132365018481791855 : True := trivial
theorem PySem.W.Fast.tw16621056838797659192 : True := trivial
theorem PySem.W.Fast.tw13486910748786427646 : True := trivial
theorem PySem.W.Fast.tw4315418823449806288 : True := trivial
theorem PySem.W.Fast.tw17805731172194852641 : True := trivial
theorem PySem.W.Fast.tw1060599568642533313 : True := trivial
theorem PySem.W.Fast.tw8278898551624596759 : True := trivial
theorem PySem.W.Fast.tw3513845234690199394 : True := trivial
theorem PySem.W.Fast.tw16524478843722957780 : True := trivial
theorem PySem.W.Fast.tw14912756947569409778 : True := trivial
theorem PySem.W.Fast.tw8736710263532024068 : True := trivial
theorem PySem.W.Fast.tw12498485386694132401 : True := trivial
theorem PySem.W.Fast.tw5773625042892471386 : True := trivial
theorem PySem.W.Fast.tw3135697047229312160 : True := trivial
theorem PySem.W.Fast.tw1256408754981877021 : True := trivial
theorem PySem.W.Fast.tw5868115680244047410 : True := trivial
theorem PySem.W.Fast.tw1968105283548330159 : True := trivial
theorem PySem.W.Fast.tw17594304684975225969 : True := trivial
theorem PySem.W.Fast.tw7815696014874581460 : True := trivial
theorem PySem.W.Fast.tw16782305823494801766 : True := trivial
theorem PySem.W.Fast.tw11778687878740343407 : True := trivial
theorem PySem.W.Fast.tw2593736225254083290 : True := trivial
theorem PySem.W.Fast.tw2450635696226677138 : True := trivial
theorem PySem.W.Fast.tw13787533005522994477 : True := trivial
theorem PySem.W.Fast.tw4951739339754704816 : True := trivial
theorem PySem.W.Fast.tw16219490048612905819 : True := trivial
theorem PySem.W.Fast.tw8610531343557932156 : True := trivial
theorem PySem.W.Fast.tw13027658889422909785 : True := trivial
theorem PySem.W.Fast.tw17502119686434170148 : True := trivial
theorem PySem.W.Fast.tw7445628131861009153 : True := trivial
theorem PySem.W.Fast.tw1943556049119289230 : True := trivial
theorem PySem.W.Fast.tw7745376922806126532 : True := trivial
theorem PySem.W.Fast.tw11930500045791870851 : True := trivial
theorem PySem.W.Fast.tw3856868093836682070 : True := trivial
theorem PySem.W.Fast.tw4046354783213310741 : True := trivial
theorem PySem.W.Fast.tw14715490116620089140 : True := trivial
theorem PySem.W.Fast.tw12996743368349838493 : True := trivial
theorem PySem.W.Fast.tw133566213391246055 : True := trivial
theorem PySem.W.Fast.tw3341935413067130725 : True := trivial
theorem PySem.W.Fast.tw1356129304222899767 : True := trivial
theorem PySem.W.Fast.tw14856965792394043282 : True := trivial
theorem PySem.W.Fast.tw11342168268398197177 : True := trivial
theorem PySem.W.Fast.tw8015701685471181047 : True := trivial
theorem PySem.W.Fast.tw17452865256327542263 : True := trivial
theorem PySem.W.Fast.tw13170674448703051006 : True := trivial
theorem PySem.W.Fast.tw10940131233690484278 : True := trivial
theorem PySem.W.Fast.tw8121422682358675623 : True := trivial
theorem PySem.W.Fast.tw2432245428703274450 : True := trivial
theorem PySem.W.Fast.tw17781374595726048884 : True := trivial
theorem PySem.W.Fast.tw13959502408536831500 : True := trivial
theorem PySem.W.Fast.tw13784897224139581677 : True := trivial
theorem PySem.W.Fast.tw7438645761275021023 : True := trivial
theorem PySem.W.Fast.tw16662356002860599316 : True := trivial
theorem PySem.W.Fast.tw13538655444201638039 : True := trivial
theorem PySem.W.Fast.tw1592407793554479390 : True := trivial
theorem PySem.W.Fast.tw8816805546175921070 : True := trivial
theorem PySem.W.Fast.tw9833993793167085310 : True := trivial
theorem PySem.W.Fast.tw3153117924807924209 : True := trivial
theorem PySem.W.Fast.tw3473114585055945267 : True := trivial
theorem PySem.W.Fast.tw11605134567924428917 : True := trivial
theorem PySem.W.Fast.tw12699278008752368261 : True := trivial
theorem PySem.W.Fast.tw8588914456484073787 : True := trivial
theorem PySem.W.Fast.tw14661847776239220401 : True := trivial
theorem PySem.W.Fast.tw14581042069735900839 : True := trivial
theorem PySem.W.Fast.tw16726503402672300503 : True := trivial
theorem PySem.W.Fast.tw14729348278986398536 : True := trivial
theorem PySem.W.Fast.tw2648370747216746386 : True := trivial
theorem PySem.W.Fast.tw3597342071683357312 : True := trivial
theorem PySem.W.Fast.tw14134932570369578207 : True := trivial
theorem PySem.W.Fast.tw7330870609418872789 : True := trivial
theorem PySem.W.Fast.tw3703209652417497085 : True := trivial
theorem PySem.W.Fast.tw15674910254792930160 : True := trivial
theorem PySem.W.Fast.tw14166260185269685590 : True := trivial
theorem PySem.W.Fast.tw191108481799406466 : True := trivial
theorem PySem.W.Fast.tw6117887035957867696 : True := trivial
theorem PySem.W.Fast.tw5922749157475755607 : True := trivial
theorem PySem.W.Fast.tw10570728788197985217 : True := trivial
theorem PySem.W.Fast.tw17192504425973500947 : True := trivial
theorem PySem.W.Fast.tw12088634586270662019 : True := trivial
theorem PySem.W.Fast.tw7486262935594525642 : True := trivial
theorem PySem.W.Fast.tw9634132238193211907 : True := trivial
theorem PySem.W.Fast.tw4281820499706795394 : True := trivial
theorem PySem.W.Fast.tw16494057787501540534 : True := trivial
theorem PySem.W.Fast.tw18144451294452619615 : True := trivial
theorem PySem.W.Fast.tw5406259893126572941 : True := trivial
theorem PySem.W.Fast.tw14659171751995355782 : True := trivial
theorem PySem.W.Fast.tw14325675411251519403 : True := trivial
theorem PySem.W.Fast.tw14991009683547496001 : True := trivial
theorem PySem.W.Fast.tw3605031995779440403 : True := trivial
theorem PySem.W.Fast.tw10636616900203570443 : True := trivial
theorem PySem.W.Fast.tw577334919805629085 : True := trivial
theorem PySem.W.Fast.tw1943961000434254538 : True := trivial
theorem PySem.W.Fast.tw2361175085297165462 : True := trivial
theorem PySem.W.Fast.tw10072710728198794692 : True := trivial
theorem PySem.W.Fast.tw16046811418199080661 : True := trivial
theorem PySem.W.Fast.tw4791644278577262983 : True := trivial
theorem PySem.W.Fast.tw5311823407292709095 : True := trivial
theorem PySem.W.Fast.tw6842293537575155195 : True := trivial
theorem PySem.W.Fast.tw18238601379571206309 : True := trivial
theorem PySem.W.Fast.tw3975239571898669404 : True := trivial
theorem PySem.W.Fast.tw4830565749173671208 : True := trivial
theorem PySem.W.Fast.tw3101738025210569314 : True := trivial
theorem PySem.W.Fast.tw505054456675445135 : True := trivial
theorem PySem.W.Fast.tw11261990809959852185 : True := trivial
theorem PySem.W.Fast.tw8437644964795447209 : True := trivial
theorem PySem.W.Fast.tw9007894725102374009 : True := trivial
theorem PySem.W.Fast.tw598077483315376893 : True := trivial
theorem PySem.W.Fast.tw11737025269684565911 : True := trivial
theorem PySem.W.Fast.tw5501572056477843845 : True := trivial
theorem PySem.W.Fast.tw6886681916896070836 : True := trivial
theorem PySem.W.Fast.tw11472010688930805577 : True := trivial
theorem PySem.W.Fast.tw14850573077415714417 : True := trivial
theorem PySem.W.Fast.tw2743895728260806980 : True := trivial
theorem PySem.W.Fast.tw1116303309269504749 : True := trivial
theorem PySem.W.Fast.tw15242862324795282872 : True := trivial
theorem PySem.W.Fast.tw1180851244802839079 : True := trivial
theorem PySem.W.Fast.tw14027982861451770842 : True := trivial
theorem PySem.W.Fast.tw11037504398228917169 : True := trivial
theorem PySem.W.Fast.tw10918273327323451940 : True := trivial
theorem PySem.W.Fast.tw9122261323307627314 : True := trivial
theorem PySem.W.Fast.tw5433370319374696378 : True := trivial
theorem PySem.W.Fast.tw15072967839355576032 : True := trivial
theorem PySem.W.Fast.tw11674933896880081170 : True := trivial
theorem PySem.W.Fast.tw16291301915079945408 : True := trivial
theorem PySem.W.Fast.tw16086687557166865352 : True := trivial
theorem PySem.W.Fast.tw14961393984982697679 : True := trivial
theorem PySem.W.Fast.tw15717479394358782764 : True := trivial
theorem PySem.W.Fast.tw14609498183539233426 : True := trivial
theorem PySem.W.Fast.tw15637863911848584347 : True := trivial
theorem PySem.W.Fast.tw17168135233724284542 : True := trivial
theorem PySem.W.Fast.tw5951689180115505938 : True := trivial
theorem PySem.W.Fast.tw11342653089953540583 : True := trivial
theorem PySem.W.Fast.tw2559753146429010024 : True := trivial
theorem PySem.W.Fast.tw12090397335543984297 : True := trivial
theorem PySem.W.Fast.tw9658006590807965133 : True := trivial
theorem PySem.W.Fast.tw13209553904901498313 : True := trivial
theorem PySem.W.Fast.tw6685962225103565737 : True := trivial
theorem PySem.W.Fast.tw1219972553267636523 : True := trivial
theorem PySem.W.Fast.tw11861581735360632951 : True := trivial
theorem PySem.W.Fast.tw10123026356382701913 : True := trivial
theorem PySem.W.Fast.tw7475290134559319685 : True := trivial
theorem PySem.W.Fast.tw17246810162137794060 : True := trivial
theorem PySem.W.Fast.tw2287579716528228348 : True := trivial
theorem PySem.W.Fast.tw711116792281709563 : True := trivial
theorem PySem.W.Fast.tw6873177206532347217 : True := trivial
theorem PySem.W.Fast.tw11672952050983197638 : True := trivial
theorem PySem.W.Fast.tw13413710747179777796 : True := trivial
theorem PySem.W.Fast.tw7423635568728500658 : True := trivial
theorem PySem.W.Fast.tw2471848403735282908 : True := trivial
theorem PySem.W.Fast.tw4198246058260038190 : True := trivial
theorem PySem.W.Fast.tw8245044896485315425 : True := trivial
theorem PySem.W.Fast.tw12601408688687389428 : True := trivial
theorem PySem.W.Fast.tw6723848658441813659 : True := trivial
theorem PySem.W.Fast.tw8295763246749990151 : True := trivial
theorem PySem.W.Fast.tw1176880447789669466 : True := trivial
theorem PySem.W.Fast.tw13845194588417339832 : True := trivial
theorem PySem.W.Fast.tw16368618427655203869 : True := trivial
theorem PySem.W.Fast.tw4506792997264164640 : True := trivial
theorem PySem.W.Fast.tw12934683254023634608 : True := trivial
theorem PySem.W.Fast.tw11464009345831854477 : True := trivial
theorem PySem.W.Fast.tw5854855253701457812 : True := trivial
theorem PySem.W.Fast.tw11016760157878862171 : True := trivial
theorem PySem.W.Fast.tw2405684958844042890 : True := trivial
theorem PySem.W.Fast.tw8922745576993725411 : True := trivial
theorem PySem.W.Fast.tw8852157012928842195 : True := trivial
theorem PySem.W.Fast.tw10880701747203132324 : True := trivial
theorem PySem.W.Fast.tw837359513990016386 : True := trivial
theorem PySem.W.Fast.tw14870455490812712758 : True := trivial
theorem PySem.W.Fast.tw15056289021961823848 : True := trivial
theorem PySem.W.Fast.tw6088609680853271855 : True := trivial
theorem PySem.W.Fast.tw16698556121302323274 : True := trivial
theorem PySem.W.Fast.tw12824780667663256444 : True := trivial
theorem PySem.W.Fast.tw2279072501157030415 : True := trivial
theorem PySem.W.Fast.tw11558398949440226044 : True := trivial
theorem PySem.W.Fast.tw1636014623905241662 : True := trivial
theorem PySem.W.Fast.tw16082940127278708555 : True := trivial
theorem PySem.W.Fast.tw9808950695497697121 : True := trivial
theorem PySem.W.Fast.tw15243758964117265196 : True := trivial
theorem PySem.W.Fast.tw13694221230145565 : True := trivial
theorem PySem.W.Fast.tw14125425661668820838 : True := trivial
theorem PySem.W.Fast.tw4220425576710739705 : True := trivial
theorem PySem.W.Fast.tw9672443135458554871 : True := trivial
theorem PySem.W.Fast.tw5516469332528597973 : True := trivial
theorem PySem.W.Fast.tw2616288072641067944 : True := trivial
theorem PySem.W.Fast.tw9826784033100231642 : True := trivial
theorem PySem.W.Fast.tw13336604358936148283 : True := trivial
theorem PySem.W.Fast.tw125153386832424755 : True := trivial
theorem PySem.W.Fast.tw15155923591279099331 : True := trivial
theorem PySem.W.Fast.tw58834001631822895 : True := trivial
theorem PySem.W.Fast.tw18061348729057410275 : True := trivial
theorem PySem.W.Fast.tw3916222976281349501 : True := trivial
theorem PySem.W.Fast.tw1598464964456321711 : True := trivial
theorem PySem.W.Fast.tw10436256211520667799 : True := trivial
theorem PySem.W.Fast.tw6053060603691972736 : True := trivial
theorem PySem.W.Fast.tw6976658113570442788 : True := trivial
theorem PySem.W.Fast.tw15324073906633856286 : True := trivial
theorem PySem.W.Fast.tw4779248063511580343 : True := trivial
theorem PySem.W.Fast.tw10396986866688950442 : True := trivial
theorem PySem.W.Fast.tw4952150341947008161 : True := trivial
theorem PySem.W.Fast.tw14192392994818969079 : True := trivial
theorem PySem.W.Fast.tw17801405723789904984 : True := trivial
theorem PySem.W.Fast.tw17758080673464151363 : True := trivial
theorem PySem.W.Fast.tw11678682944311056434 : True := trivial
theorem PySem.W.Fast.tw13860158284364910863 : True := trivial
theorem PySem.W.Fast.tw415547782963449666 : True := trivial
theorem PySem.W.Fast.tw17764758717472626671 : True := trivial
theorem PySem.W.Fast.tw8818425016644157818 : True := trivial
theorem PySem.W.Fast.tw537584136749023054 : True := trivial
theorem PySem.W.Fast.tw4891991577036031469 : True := trivial
theorem PySem.W.Fast.tw155968229008069322 : True := trivial
theorem PySem.W.Fast.tw12154071477440374754 : True := trivial
theorem PySem.W.Fast.tw14792323958943998526 : True := trivial
theorem PySem.W.Fast.tw256726138287295931 : True := trivial
theorem PySem.W.Fast.tw8425195637920981308 : True := trivial
theorem PySem.W.Fast.tw17724354656610590917 : True := trivial
theorem PySem.W.Fast.tw14801229063870333298 : True := trivial
theorem PySem.W.Fast.tw14052881844837672127 : True := trivial
theorem PySem.W.Fast.tw4433761661890390175 : True := trivial
theorem PySem.W.Fast.tw141140083609618203 : True := trivial
theorem PySem.W.Fast.tw6002426719541171528 : True := trivial
theorem PySem.W.Fast.tw12715399785614133219 : True := trivial
theorem PySem.W.Fast.tw11359568143233881597 : True := trivial
theorem PySem.W.Fast.tw12994024403477349707 : True := trivial
theorem PySem.W.Fast.tw10589914015384813256 : True := trivial
theorem PySem.W.Fast.tw9159779851929041122 : True := trivial
theorem PySem.W.Fast.tw1336827961587661785 : True := trivial
theorem PySem.W.Fast.tw17185649401172600397 : True := trivial
theorem PySem.W.Fast.tw6760544077108365406 : True := trivial
theorem PySem.W.Fast.tw673834414193915900 : True := trivial
theorem PySem.W.Fast.tw8089376552870724642 : True := trivial
theorem PySem.W.Fast.tw1445788260463048119 : True := trivial
theorem PySem.W.Fast.tw3518909176171796452 : True := trivial
theorem PySem.W.Fast.tw11473808394737764212 : True := trivial
theorem PySem.W.Fast.tw2114190789448846727 : True := trivial
theorem PySem.W.Fast.tw2252014813237836267 : True := trivial
theorem PySem.W.Fast.tw2784828582012664530 : True := trivial
theorem PySem.W.Fast.tw11316288534422260840 : True := trivial
theorem PySem.W.Fast.tw3372466287627941375 : True := trivial
theorem PySem.W.Fast.tw11679424375203169768 : True := trivial
theorem PySem.W.Fast.tw10814373955599463164 : True := trivial
theorem PySem.W.Fast.tw5884655888224122766 : True := trivial
theorem PySem.W.Fast.tw6381128419197570319 : True := trivial
theorem PySem.W.Fast.tw8783064751091459748 : True := trivial
theorem PySem.W.Fast.tw13193939089754734950 : True := trivial
theorem PySem.W.Fast.tw8065408917449435685 : True := trivial
theorem PySem.W.Fast.tw13347096932629831791 : True := trivial
theorem PySem.W.Fast.tw17653480019800189701 : True := trivial
theorem PySem.W.Fast.tw1124255775688592908 : True := trivial
theorem PySem.W.Fast.tw831006913336439599 : True := trivial
theorem PySem.W.Fast.tw7677123669133614117 : True := trivial
theorem PySem.W.Fast.tw4379814693032417885 : True := trivial
theorem PySem.W.Fast.tw15485968374594171402 : True := trivial
theorem PySem.W.Fast.tw4492505030584991019 : True := trivial
theorem PySem.W.Fast.tw17888369479876364823 : True := trivial
theorem PySem.W.Fast.tw4062771098844578207 : True := trivial
theorem PySem.W.Fast.tw106549357231770064 : True := trivial
theorem PySem.W.Fast.tw12882210495957439551 : True := trivial
theorem PySem.W.Fast.tw16345953799223409358 : True := trivial
theorem PySem.W.Fast.tw13470168733769932239 : True := trivial
theorem PySem.W.Fast.tw15672688379552851850 : True := trivial
theorem PySem.W.Fast.tw16470139483760624013 : True := trivial
theorem PySem.W.Fast.tw15898656263310422462 : True := trivial
theorem PySem.W.Fast.tw12038462920338801348 : True := trivial
theorem PySem.W.Fast.tw16296566868307491038 : True := trivial
theorem PySem.W.Fast.tw2114723280756490813 : True := trivial
theorem PySem.W.Fast.tw8526733770903022079 : True := trivial
theorem PySem.W.Fast.tw14237261486661985627 : True := trivial
theorem PySem.W.Fast.tw6968125241601560813 : True := trivial
theorem PySem.W.Fast.tw604929132286711786 : True := trivial
theorem PySem.W.Fast.tw12781155544940207184 : True := trivial
theorem PySem.W.Fast.tw17418732719258563266 : True := trivial
theorem PySem.W.Fast.tw1095025182048525727 : True := trivial
theorem PySem.W.Fast.tw17008906594491082699 : True := trivial
theorem PySem.W.Fast.tw2107375031343949708 : True := trivial
theorem PySem.W.Fast.tw987604239793301875 : True := trivial
theorem PySem.W.Fast.tw4367434931574329077 : True := trivial
theorem PySem.W.Fast.tw14442339972019847336 : True := trivial
theorem PySem.W.Fast.tw15210731947579878248 : True := trivial
theorem PySem.W.Fast.tw5903682848842853167 : True := trivial
theorem PySem.W.Fast.tw7626459889636437134 : True := trivial
theorem PySem.W.Fast.tw4639494501402911816 : True := trivial
theorem PySem.W.Fast.tw15676771206283303430 : True := trivial
theorem PySem.W.Fast.tw4162552498684179773 : True := trivial
theorem PySem.W.Fast.tw6238648653356418280 : True := trivial
theorem PySem.W.Fast.tw10508075713509435127 : True := trivial
theorem PySem.W.Fast.tw12149577278208937566 : True := trivial
theorem PySem.W.Fast.tw14599363392570814859 : True := trivial
theorem PySem.W.Fast.tw5487012469420784903 : True := trivial
theorem PySem.W.Fast.tw2288793817743712843 : True := trivial
theorem PySem.W.Fast.tw7234961011342951959 : True := trivial
theorem PySem.W.Fast.tw1161834146873863876 : True := trivial
theorem PySem.W.Fast.tw14738892570263484026 : True := trivial
theorem PySem.W.Fast.tw1540826276060951605 : True := trivial
theorem PySem.W.Fast.tw6489862150473618549 : True := trivial
theorem PySem.W.Fast.tw2221326047740196744 : True := trivial
theorem PySem.W.Fast.tw7880998169625426324 : True := trivial
theorem PySem.W.Fast.tw16365035573565823315 : True := trivial
theorem PySem.W.Fast.tw14655183702488856047 : True := trivial
theorem PySem.W.Fast.tw13174792698316434170 : True := trivial
theorem PySem.W.Fast.tw7433141760674081106 : True := trivial
theorem PySem.W.Fast.tw2680222272932634533 : True := trivial
theorem PySem.W.Fast.tw11958797827509034160 : True := trivial
theorem PySem.W.Fast.tw2812782753962410776 : True := trivial
theorem PySem.W.Fast.tw3096044840056484135 : True := trivial
theorem PySem.W.Fast.tw11604623603405127164 : True := trivial
theorem PySem.W.Fast.tw1355524318439292789 : True := trivial
theorem PySem.W.Fast.tw10710173547384793045 : True := trivial
theorem PySem.W.Fast.tw6600359922560870009 : True := trivial
theorem PySem.W.Fast.tw16870945708544252224 : True := trivial
theorem PySem.W.Fast.tw2040819711527650401 : True := trivial
theorem PySem.W.Fast.tw6673339817534763553 : True := trivial
theorem PySem.W.Fast.tw4605431203527355444 : True := trivial
theorem PySem.W.Fast.tw15832842649032439348 : True := trivial
theorem PySem.W.Fast.tw5779077812992976100 : True := trivial
theorem PySem.W.Fast.tw16795112269795465251 : True := trivial
theorem PySem.W.Fast.tw7089805570516874091 : True := trivial
theorem PySem.W.Fast.tw7284161072572849344 : True := trivial
theorem PySem.W.Fast.tw8095267698808119253 : True := trivial
theorem PySem.W.Fast.tw14866476231983276991 : True := trivial
theorem PySem.W.Fast.tw15573943767133050679 : True := trivial
theorem PySem.W.Fast.tw8134404673886616578 : True := trivial
theorem PySem.W.Fast.tw11892173619979876221 : True := trivial
theorem PySem.W.Fast.tw9471728122079217220 : True := trivial
theorem PySem.W.Fast.tw16564584449306439213 : True := trivial
theorem PySem.W.Fast.tw4415258637920024981 : True := trivial
theorem PySem.W.Fast.tw18025813877637000988 : True := trivial
theorem PySem.W.Fast.tw9966260771939297501 : True := trivial
theorem PySem.W.Fast.tw4304905463126548873 : True := trivial
theorem PySem.W.Fast.tw13936440790130114363 : True := trivial
theorem PySem.W.Fast.tw18224651403838166854 : True := trivial
theorem PySem.W.Fast.tw8151250648716000574 : True := trivial
theorem PySem.W.Fast.tw13818099697737837360 : True := trivial
theorem PySem.W.Fast.tw8194351784835288063 : True := trivial
theorem PySem.W.Fast.tw7663094386366577249 : True := trivial
theorem PySem.W.Fast.tw13547518569354880457 : True := trivial
theorem PySem.W.Fast.tw9913631504241185235 : True := trivial
theorem PySem.W.Fast.tw15663883838929293072 : True := trivial
theorem PySem.W.Fast.tw5716583277375106858 : True := trivial
theorem PySem.W.Fast.tw8659993446861538596 : True := trivial
theorem PySem.W.Fast.tw8457835172142044288 : True := trivial
theorem PySem.W.Fast.tw14026510445361284222 : True := trivial
theorem PySem.W.Fast.tw17385946244556834711 : True := trivial
theorem PySem.W.Fast.tw6960625214379337771 : True := trivial
theorem PySem.W.Fast.tw3399695755175768025 : True := trivial
theorem PySem.W.Fast.tw15986459183842599635 : True := trivial
theorem PySem.W.Fast.tw15739309356497846058 : True := trivial
theorem PySem.W.Fast.tw16496885103306358960 : True := trivial
theorem PySem.W.Fast.tw10643814111740934061 : True := trivial
theorem PySem.W.Fast.tw4302750908091337559 : True := trivial
theorem PySem.W.Fast.tw2661655958711176318 : True := trivial
theorem PySem.W.Fast.tw15122305044638402668 : True := trivial
theorem PySem.W.Fast.tw12672019206255804642 : True := trivial
theorem PySem.W.Fast.tw16157370067289018771 : True := trivial
theorem PySem.W.Fast.tw14869872157272337684 : True := trivial
theorem PySem.W.Fast.tw6104269423951726140 : True := trivial
theorem PySem.W.Fast.tw745695354118347353 : True := trivial
theorem PySem.W.Fast.tw17195688767197012530 : True := trivial
theorem PySem.W.Fast.tw12842298318420384270 : True := trivial
theorem PySem.W.Fast.tw12363714968374807405 : True := trivial
theorem PySem.W.Fast.tw10886934944809881887 : True := trivial
theorem PySem.W.Fast.tw8141760260664913249 : True := trivial
theorem PySem.W.Fast.tw13014455578932705871 : True := trivial
theorem PySem.W.Fast.tw6794750735981294228 : True := trivial
theorem PySem.W.Fast.tw14796836284816402389 : True := trivial
theorem PySem.W.Fast.tw280385920215518989 : True := trivial
theorem PySem.W.Fast.tw485760365620537343 : True := trivial
theorem PySem.W.Fast.tw7894963090304494718 : True := trivial
theorem PySem.W.Fast.tw5237492097245180485 : True := trivial
theorem PySem.W.Fast.tw13553694968803559788 : True := trivial
theorem PySem.W.Fast.tw12628742890164254165 : True := trivial
theorem PySem.W.Fast.tw13510947539472816542 : True := trivial
theorem PySem.W.Fast.tw2524608451480132970 : True := trivial
theorem PySem.W.Fast.tw837409114896567290 : True := trivial
theorem PySem.W.Fast.tw9518811624135271735 : True := trivial
theorem PySem.W.Fast.tw9274229770427359348 : True := trivial
theorem PySem.W.Fast.tw4271038041306526767 : True := trivial
theorem PySem.W.Fast.tw8030046941378301854 : True := trivial
theorem PySem.W.Fast.tw315313470598758065 : True := trivial
theorem PySem.W.Fast.tw14385114688819600852 : True := trivial
theorem PySem.W.Fast.tw9846342373322886608 : True := trivial
theorem PySem.W.Fast.tw3294295676956002358 : True := trivial
theorem PySem.W.Fast.tw3592561291745941284 : True := trivial
theorem PySem.W.Fast.tw8717681223687661295 : True := trivial
theorem PySem.W.Fast.tw3258644207565837789 : True := trivial
theorem PySem.W.Fast.tw3309820520682325540 : True := trivial
theorem PySem.W.Fast.tw11017282388189225476 : True := trivial
theorem PySem.W.Fast.tw11788699341732566159 : True := trivial
theorem PySem.W.Fast.tw9821139849574362020 : True := trivial
theorem PySem.W.Fast.tw17412259331330382219 : True := trivial
theorem PySem.W.Fast.tw8338205483881200126 : True := trivial
theorem PySem.W.Fast.tw17715134833156648826 : True := trivial
theorem PySem.W.Fast.tw1361975237098583012 : True := trivial
theorem PySem.W.Fast.tw15213788032693714108 : True := trivial
theorem PySem.W.Fast.tw14706615907968185410 : True := trivial
theorem PySem.W.Fast.tw8980026766190817570 : True := trivial
theorem PySem.W.Fast.tw12185042331096617554 : True := trivial
theorem PySem.W.Fast.tw8936220379258397233 : True := trivial
theorem PySem.W.Fast.tw15099730619263874507 : True := trivial
theorem PySem.W.Fast.tw15095274115134386377 : True := trivial
theorem PySem.W.Fast.tw7529267803725659641 : True := trivial
theorem PySem.W.Fast.tw18243002610635840647 : True := trivial
theorem PySem.W.Fast.tw8231761249302656422 : True := trivial
theorem PySem.W.Fast.tw14894681583384987752 : True := trivial
theorem PySem.W.Fast.tw6285025092241150144 : True := trivial
theorem PySem.W.Fast.tw12505743627320344630 : True := trivial
theorem PySem.W.Fast.tw10675194742921826469 : True := trivial
theorem PySem.W.Fast.tw16655006980781066903 : True := trivial
theorem PySem.W.Fast.tw4128296667257542463 : True := trivial
theorem PySem.W.Fast.tw15034831084192345494 : True := trivial
theorem PySem.W.Fast.tw934874191065494385 : True := trivial
theorem PySem.W.Fast.tw6611837103386686032 : True := trivial
theorem PySem.W.Fast.tw4011781600451391958 : True := trivial
theorem PySem.W.Fast.tw53900890561676490 : True := trivial
theorem PySem.W.Fast.tw618183585889659421 : True := trivial
theorem PySem.W.Fast.tw16975593356391633516 : True := trivial
theorem PySem.W.Fast.tw14191525088948025331 : True := trivial
theorem PySem.W.Fast.tw11915732078186462340 : True := trivial
theorem PySem.W.Fast.tw8052703133728426346 : True := trivial
theorem PySem.W.Fast.tw9102096795512436929 : True := trivial
theorem PySem.W.Fast.tw4067498240169111802 : True := trivial
theorem PySem.W.Fast.tw773256189687945557 : True := trivial
theorem PySem.W.Fast.tw7069839182642810526 : True := trivial
theorem PySem.W.Fast.tw10958422703560989578 : True := trivial
theorem PySem.W.Fast.tw16481642986284321175 : True := trivial
theorem PySem.W.Fast.tw1853193214966336493 : True := trivial
theorem PySem.W.Fast.tw12330882360244160214 : True := trivial
theorem PySem.W.Fast.tw15569485125878369803 : True := trivial
theorem PySem.W.Fast.tw16237797534690770507 : True := trivial
theorem PySem.W.Fast.tw3242524707700305841 : True := trivial
theorem PySem.W.Fast.tw10295298093391918731 : True := trivial
theorem PySem.W.Fast.tw4453763551239820007 : True := trivial
theorem PySem.W.Fast.tw16055796321854616169 : True := trivial
theorem PySem.W.Fast.tw11141436381198011469 : True := trivial
theorem PySem.W.Fast.tw7842820486626264994 : True := trivial
theorem PySem.W.Fast.tw15200134020940215783 : True := trivial
theorem PySem.W.Fast.tw11736739906988228532 : True := trivial
theorem PySem.W.Fast.tw17168339246124688904 : True := trivial
theorem PySem.W.Fast.tw9291136420529329348 : True := trivial
theorem PySem.W.Fast.tw8368436884284815788 : True := trivial
theorem PySem.W.Fast.tw8746407706122425171 : True := trivial
theorem PySem.W.Fast.tw3765183919419047202 : True := trivial
theorem PySem.W.Fast.tw10584615641310729189 : True := trivial
theorem PySem.W.Fast.tw698523989378911815 : True := trivial
theorem PySem.W.Fast.tw17580388723180307003 : True := trivial
theorem PySem.W.Fast.tw16635288614384167272 : True := trivial
theorem PySem.W.Fast.tw10677634686986988052 : True := trivial
theorem PySem.W.Fast.tw17180149750953399626 : True := trivial
theorem PySem.W.Fast.tw5387364715464742921 : True := trivial
theorem PySem.W.Fast.tw17278762186942389428 : True := trivial
theorem PySem.W.Fast.tw14758425030334354336 : True := trivial
theorem PySem.W.Fast.tw12127602891531106800 : True := trivial
theorem PySem.W.Fast.tw7583798967395803867 : True := trivial
theorem PySem.W.Fast.tw1206944960971078483 : True := trivial
theorem PySem.W.Fast.tw3572172845260766503 : True := trivial
theorem PySem.W.Fast.tw9055654214731920421 : True := trivial
theorem PySem.W.Fast.tw10120666032624056389 : True := trivial
theorem PySem.W.Fast.tw14397411511015868325 : True := trivial
theorem PySem.W.Fast.tw338133720397446266 : True := trivial
theorem PySem.W.Fast.tw16448369025449585569 : True := trivial
theorem PySem.W.Fast.tw4735254560962115523 : True := trivial
theorem PySem.W.Fast.tw635905207582028899 : True := trivial
theorem PySem.W.Fast.tw6484732555589551541 : True := trivial
theorem PySem.W.Fast.tw2316123462805068709 : True := trivial
theorem PySem.W.Fast.tw13292710423724168094 : True := trivial
theorem PySem.W.Fast.tw1962348427504199586 : True := trivial
theorem PySem.W.Fast.tw128339654242712079 : True := trivial
theorem PySem.W.Fast.tw5474020554619710436 : True := trivial
theorem PySem.W.Fast.tw16018156476460933883 : True := trivial
theorem PySem.W.Fast.tw15248981006920632159 : True := trivial
theorem PySem.W.Fast.tw10200077438196516807 : True := trivial
theorem PySem.W.Fast.tw913807179355819300 : True := trivial
theorem PySem.W.Fast.tw11665772245947331510 : True := trivial
theorem PySem.W.Fast.tw16633951808367853186 : True := trivial
theorem PySem.W.Fast.tw12812573664590325214 : True := trivial
theorem PySem.W.Fast.tw10904238871369152523 : True := trivial
theorem PySem.W.Fast.tw8239602846007470373 : True := trivial
theorem PySem.W.Fast.tw14146635816750687119 : True := trivial
theorem PySem.W.Fast.tw2585330321030785088 : True := trivial
theorem PySem.W.Fast.tw12200972948193570521 : True := trivial
theorem PySem.W.Fast.tw9336520872952502054 : True := trivial
theorem PySem.W.Fast.tw9960682244336044288 : True := trivial
theorem PySem.W.Fast.tw10771047665518138127 : True := trivial
theorem PySem.W.Fast.tw16950056448104828033 : True := trivial
theorem PySem.W.Fast.tw5911394477958321577 : True := trivial
theorem PySem.W.Fast.tw2289108215666485912 : True := trivial
theorem PySem.W.Fast.tw9808579487447418935 : True := trivial
theorem PySem.W.Fast.tw2342924988207059895 : True := trivial
theorem PySem.W.Fast.tw410413880193233939 : True := trivial
theorem PySem.W.Fast.tw2612280487260667451 : True := trivial
theorem PySem.W.Fast.tw6527248842700296810 : True := trivial
theorem PySem.W.Fast.tw4876953254027745521 : True := trivial
theorem PySem.W.Fast.tw3974910937182316939 : True := trivial
theorem PySem.W.Fast.tw2824741308423962116 : True := trivial
theorem PySem.W.Fast.tw1618511781969807394 : True := trivial
theorem PySem.W.Fast.tw4645228190473984270 : True := trivial
theorem PySem.W.Fast.tw16127211608885107316 : True := trivial
theorem PySem.W.Fast.tw14490771636473389827 : True := trivial
theorem PySem.W.Fast.tw14208671524401786189 : True := trivial
theorem PySem.W.Fast.tw18030646385960904177 : True := trivial
theorem PySem.W.Fast.tw7232422085886856750 : True := trivial
theorem PySem.W.Fast.tw12470279872443302482 : True := trivial
theorem PySem.W.Fast.tw1381365964275948639 : True := trivial
theorem PySem.W.Fast.tw17232962508787437610 : True := trivial
theorem PySem.W.Fast.tw16765967976980273636 : True := trivial
theorem PySem.W.Fast.tw8044528563319749970 : True := trivial
theorem PySem.W.Fast.tw12440561484396791845 : True := trivial
theorem PySem.W.Fast.tw2619472218177048511 : True := trivial
theorem PySem.W.Fast.tw5390526285950068466 : True := trivial
theorem PySem.W.Fast.tw6151851308461636982 : True := trivial
theorem PySem.W.Fast.tw5600166901070545365 : True := trivial
theorem PySem.W.Fast.tw14968975573577792198 : True := trivial
theorem PySem.W.Fast.tw5461553480988677450 : True := trivial
theorem PySem.W.Fast.tw9885645042671271790 : True := trivial
theorem PySem.W.Fast.tw18073711535716062850 : True := trivial
theorem PySem.W.Fast.tw16226744504669470064 : True := trivial
theorem PySem.W.Fast.tw3686930893929622722 : True := trivial
theorem PySem.W.Fast.tw14024281718195576136 : True := trivial
theorem PySem.W.Fast.tw3167441220333549408 : True := trivial
theorem PySem.W.Fast.tw3242752451231970593 : True := trivial
theorem PySem.W.Fast.tw2331313799730689766 : True := trivial
theorem PySem.W.Fast.tw18315145207157382892 : True := trivial
theorem PySem.W.Fast.tw3617791797261162933 : True := trivial
theorem PySem.W.Fast.tw15721665383276446481 : True := trivial
theorem PySem.W.Fast.tw4864850479852929182 : True := trivial
theorem PySem.W.Fast.tw18153079715282432238 : True := trivial
theorem PySem.W.Fast.tw5400483816504283765 : True := trivial
theorem PySem.W.Fast.tw11873859368309257279 : True := trivial
theorem PySem.W.Fast.tw8529790218422599190 : True := trivial
theorem PySem.W.Fast.tw13762820768427161961 : True := trivial
theorem PySem.W.Fast.tw10849871617694930168 : True := trivial
theorem PySem.W.Fast.tw3136485935976918335 : True := trivial
theorem PySem.W.Fast.tw7664971223235601957 : True := trivial
theorem PySem.W.Fast.tw17704221037191224304 : True := trivial
theorem PySem.W.Fast.tw11358021923236888535 : True := trivial
theorem PySem.W.Fast.tw6648578364758942528 : True := trivial
theorem PySem.W.Fast.tw8603859947898325229 : True := trivial
theorem PySem.W.Fast.tw16887272988002970195 : True := trivial
theorem PySem.W.Fast.tw2790167519797745695 : True := trivial
theorem PySem.W.Fast.tw3359730605895839398 : True := trivial
theorem PySem.W.Fast.tw10138111447266210820 : True := trivial
theorem PySem.W.Fast.tw14031762728590560971 : True := trivial
theorem PySem.W.Fast.tw8979965636385910119 : True := trivial
theorem PySem.W.Fast.tw48218183992435977 : True := trivial
theorem PySem.W.Fast.tw12547408870852869881 : True := trivial
theorem PySem.W.Fast.tw8464684778769291860 : True := trivial
theorem PySem.W.Fast.tw11301837367916991438 : True := trivial
theorem PySem.W.Fast.tw3179194897627450500 : True := trivial
theorem PySem.W.Fast.tw10824699048749292152 : True := trivial
theorem PySem.W.Fast.tw9861171783067452356 : True := trivial
theorem PySem.W.Fast.tw12441649804797679319 : True := trivial
theorem PySem.W.Fast.tw15961421135511180384 : True := trivial
theorem PySem.W.Fast.tw8204976732782559160 : True := trivial
theorem PySem.W.Fast.tw5119868103802100738 : True := trivial
theorem PySem.W.Fast.tw7130941264927204109 : True := trivial
theorem PySem.W.Fast.tw16137192236318803152 : True := trivial
theorem PySem.W.Fast.tw8023865975867959814 : True := trivial
theorem PySem.W.Fast.tw527212422615315951 : True := trivial
theorem PySem.W.Fast.tw14479956109435392348 : True := trivial
theorem PySem.W.Fast.tw5639366433550732097 : True := trivial
theorem PySem.W.Fast.tw11493060649629925141 : True := trivial
theorem PySem.W.Fast.tw5465518413098815993 : True := trivial
theorem PySem.W.Fast.tw7558034630839385810 : True := trivial
theorem PySem.W.Fast.tw13748374948788005601 : True := trivial
theorem PySem.W.Fast.tw11733867781598223836 : True := trivial
theorem PySem.W.Fast.tw17768282330983834320 : True := trivial
theorem PySem.W.Fast.tw835438690108862615 : True := trivial
theorem PySem.W.Fast.tw4539550305970287011 : True := trivial
theorem PySem.W.Fast.tw10972141850726848535 : True := trivial
theorem PySem.W.Fast.tw205868586073655834 : True := trivial
theorem PySem.W.Fast.tw6142385974417008865 : True := trivial
theorem PySem.W.Fast.tw10247200007029804556 : True := trivial
theorem PySem.W.Fast.tw2458620962851249842 : True := trivial
theorem PySem.W.Fast.tw783936282532247431 : True := trivial
theorem PySem.W.Fast.tw8832833848846226582 : True := trivial
theorem PySem.W.Fast.tw11299127025816141014 : True := trivial
theorem PySem.W.Fast.tw10106842887395799798 : True := trivial
theorem PySem.W.Fast.tw8512532766245086100 : True := trivial
theorem PySem.W.Fast.tw11674350701708433023 : True := trivial
theorem PySem.W.Fast.tw7463562034180206049 : True := trivial
theorem PySem.W.Fast.tw12114733495912803390 : True := trivial
theorem PySem.W.Fast.tw3072034935337172638 : True := trivial
theorem PySem.W.Fast.tw4764059838882587142 : True := trivial
theorem PySem.W.Fast.tw17923649977959415945 : True := trivial
theorem PySem.W.Fast.tw14807427747782894959 : True := trivial
theorem PySem.W.Fast.tw11535270171745227594 : True := trivial
theorem PySem.W.Fast.tw6729630081893359875 : True := trivial
theorem PySem.W.Fast.tw3942899345280217272 : True := trivial
theorem PySem.W.Fast.tw2002875788110124328 : True := trivial
theorem PySem.W.Fast.tw14724681316345884775 : True := trivial
theorem PySem.W.Fast.tw11333922019486774516 : True := trivial
theorem PySem.W.Fast.tw9121786155004536965 : True := trivial
theorem PySem.W.Fast.tw17898288483933509117 : True := trivial
theorem PySem.W.Fast.tw498180151413282337 : True := trivial
theorem PySem.W.Fast.tw15420793134794056519 : True := trivial
theorem PySem.W.Fast.tw15642894193151977704 : True := trivial
theorem PySem.W.Fast.tw3494359931088035316 : True := trivial
theorem PySem.W.Fast.tw5676186023225459790 : True := trivial
theorem PySem.W.Fast.tw6982665993943321971 : True := trivial
theorem PySem.W.Fast.tw3272538167822835935 : True := trivial
theorem PySem.W.Fast.tw17457517616140709384 : True := trivial
theorem PySem.W.Fast.tw16161790825742498323 : True := trivial
theorem PySem.W.Fast.tw13605879062271885600 : True := trivial
theorem PySem.W.Fast.tw1365109033426509663 : True := trivial
theorem PySem.W.Fast.tw14042027731467756270 : True := trivial
theorem PySem.W.Fast.tw15656660267097833524 : True := trivial
theorem PySem.W.Fast.tw2333692075477874097 : True := trivial
theorem PySem.W.Fast.tw4420448955679282710 : True := trivial
theorem PySem.W.Fast.tw2282385587566691167 : True := trivial
theorem PySem.W.Fast.tw12173680637371473601 : True := trivial
theorem PySem.W.Fast.tw10658464262435108560 : True := trivial
theorem PySem.W.Fast.tw11097959433564840703 : True := trivial
theorem PySem.W.Fast.tw17929193043783677716 : True := trivial
theorem PySem.W.Fast.tw12437015896634363583 : True := trivial
theorem PySem.W.Fast.tw5490449556820617797 : True := trivial
theorem PySem.W.Fast.tw11916217550546870681 : True := trivial
theorem PySem.W.Fast.tw12639504076937056891 : True := trivial
theorem PySem.W.Fast.tw14435350989158124788 : True := trivial
theorem PySem.W.Fast.tw8373815980112791054 : True := trivial
theorem PySem.W.Fast.tw15198584163833467653 : True := trivial
theorem PySem.W.Fast.tw7050687553846695088 : True := trivial
theorem PySem.W.Fast.tw16046429455108993634 : True := trivial
theorem PySem.W.Fast.tw9778197884497934732 : True := trivial
theorem PySem.W.Fast.tw3380259303444509475 : True := trivial
theorem PySem.W.Fast.tw12707842156064250037 : True := trivial
theorem PySem.W.Fast.tw1396915891973338962 : True := trivial
theorem PySem.W.Fast.tw8767584516895614957 : True := trivial
theorem PySem.W.Fast.tw11713863571808845158 : True := trivial
theorem PySem.W.Fast.tw15407600595226312252 : True := trivial
theorem PySem.W.Fast.tw8977355426747423269 : True := trivial
theorem PySem.W.Fast.tw2604474912735110874 : True := trivial
theorem PySem.W.Fast.tw16576737335371285524 : True := trivial
theorem PySem.W.Fast.tw5062902513270793485 : True := trivial
theorem PySem.W.Fast.tw4341690230235509684 : True := trivial
theorem PySem.W.Fast.tw16402772053206690827 : True := trivial
theorem PySem.W.Fast.tw7428139743282598177 : True := trivial
theorem PySem.W.Fast.tw10933522413852533480 : True := trivial
theorem PySem.W.Fast.tw6537700501780102848 : True := trivial
theorem PySem.W.Fast.tw954457311179911905 : True := trivial
theorem PySem.W.Fast.tw9566139788281943388 : True := trivial
theorem PySem.W.Fast.tw12355305223613988360 : True := trivial
theorem PySem.W.Fast.tw12210024129894119840 : True := trivial
theorem PySem.W.Fast.tw1825764826525040709 : True := trivial
theorem PySem.W.Fast.tw4252852733869471528 : True := trivial
theorem PySem.W.Fast.tw6905794164065858652 : True := trivial
theorem PySem.W.Fast.tw1995207893769866789 : True := trivial
theorem PySem.W.Fast.tw17059935634168960884 : True := trivial
theorem PySem.W.Fast.tw13959451778241937688 : True := trivial
theorem PySem.W.Fast.tw18440889609560502833 : True := trivial
theorem PySem.W.Fast.tw18310943476537236912 : True := trivial
theorem PySem.W.Fast.tw7353527797587671264 : True := trivial
theorem PySem.W.Fast.tw13093400149214154414 : True := trivial
theorem PySem.W.Fast.tw18373077056870283271 : True := trivial
theorem PySem.W.Fast.tw15393404740196788762 : True := trivial
theorem PySem.W.Fast.tw4891843479027939564 : True := trivial
theorem PySem.W.Fast.tw10029506172340448558 : True := trivial
theorem PySem.W.Fast.tw7234532681396700464 : True := trivial
theorem PySem.W.Fast.tw8777692979460658311 : True := trivial
theorem PySem.W.Fast.tw9248722339352078545 : True := trivial
theorem PySem.W.Fast.tw15777299522836856787 : True := trivial
theorem PySem.W.Fast.tw1144467982377060479 : True := trivial
theorem PySem.W.Fast.tw5815523013681451058 : True := trivial
theorem PySem.W.Fast.tw6092437093146888655 : True := trivial
theorem PySem.W.Fast.tw14935208780384391797 : True := trivial
theorem PySem.W.Fast.tw1828080995610589113 : True := trivial
theorem PySem.W.Fast.tw15145115864582520669 : True := trivial
theorem PySem.W.Fast.tw14316703400598093308 : True := trivial
theorem PySem.W.Fast.tw8778723809888580708 : True := trivial
theorem PySem.W.Fast.tw14999161088362725696 : True := trivial
theorem PySem.W.Fast.tw4508608881451986994 : True := trivial
theorem PySem.W.Fast.tw971630500862629507 : True := trivial
theorem PySem.W.Fast.tw5635139925191360508 : True := trivial
theorem PySem.W.Fast.tw14600717315930534895 : True := trivial
theorem PySem.W.Fast.tw12847654853459064642 : True := trivial
theorem PySem.W.Fast.tw8714741425403258253 : True := trivial
theorem PySem.W.Fast.tw1093006878001631083 : True := trivial
theorem PySem.W.Fast.tw1610867149467230222 : True := trivial
theorem PySem.W.Fast.tw4974114903920527598 : True := trivial
theorem PySem.W.Fast.tw1406419374632047594 : True := trivial
theorem PySem.W.Fast.tw7090575559447966438 : True := trivial
theorem PySem.W.Fast.tw10858085937140689170 : True := trivial
theorem PySem.W.Fast.tw15360290885788758357 : True := trivial
theorem PySem.W.Fast.tw4868660575278430568 : True := trivial
theorem PySem.W.Fast.tw3679633731470552824 : True := trivial
theorem PySem.W.Fast.tw13421741451470733681 : True := trivial
theorem PySem.W.Fast.tw17094516140957078217 : True := trivial
open PySem PySem.W PyProof.Rows
set_option maxRecDepth 100000 in
set_option maxHeartbeats 0 in
theorem PySem.Challenge.cw_heightfractions_k22_tables_of_moments_holds : PySem.Challenge.rw_heightfractions_k22_tables_of_moments.Holds := by
  w_on; o_law; k_head; (case hw => w_witness2)
  k_fill
  refine K22.walk (l := PySem.Challenge.rw_heightfractions_k22_tables_of_moments) rfl rfl (fun w h Y => PySem.W.kIn_of Y) ?F
  case F =>
    intro w mg fa h KX G hmg
    refine' K22.all_mk KX G hmg ?a_moment_table ?l_moment_table ?e_moment_table ?k_moment_table ?d_moment_table ?a__law_cell_at ?l__law_cell_at ?e__law_cell_at ?k__law_cell_at ?a__law_stir ?l__law_stir ?e__law_stir ?k__law_stir ?a__law_drawn ?l__law_drawn ?e__law_drawn ?k__law_drawn ?a__law_divisor ?l__law_divisor ?e__law_divisor ?k__law_divisor ?a__law_low ?l__law_low ?e__law_low ?k__law_low ?a__law_marks ?l__law_marks ?e__law_marks ?k__law_marks ?a__law_only ?l__law_only ?e__law_only ?k__law_only ?a__law_number_by ?l__law_number_by ?e__law_number_by ?k__law_number_by ?a__law_asked ?l__law_asked ?e__law_asked ?k__law_asked ?a__law_holds ?l__law_holds ?e__law_holds ?k__law_holds ?a_law ?l_law ?e_law ?k_law ?a_HeightError ?a_NoCount ?a_NoFamily ?a_NoFraction ?a_NoHistory ?a_NoLine ?a_NoMeeting ?a_NoMoments ?a_NoName ?a_NoNumber ?a_NoSeries ?a_NoText ?a_NoThing ?a_NoWay ?a_NoWeights ?a_TooFar ?a_TooHigh ?a_TooMany ?n_ValueError ?n_abs ?n_isinstance ?n_len ?n_list ?n_max ?n_range ?x_tf ?x_ga ?x_gt ?x_be ?x_ob ?x_cl ?x_gs ?x_tk ?x_is ?x_ex ?x_kValueError ?x_kNoFraction ?x_kTooMany ?x_kTooFar ?x_kNoNumber ?x_kNoWeights ?x_kNoSeries ?x_kNoMoments ?x_kNoFamily ?x_kNoMeeting ?x_kNoThing ?x_kNoLine ?x_kNoText ?x_kNoWay ?x_kTooHigh ?x_kNoHistory ?x_kNoCount ?x_kNoName
    (case a_moment_table => k_is)
    (case l_moment_table => k_is)
    (case e_moment_table => k_is)
    (case k_moment_table => k_is)
    (case d_moment_table => kernel_rfl)
    (case a__law_cell_at => k_is)
    (case l__law_cell_at => k_is)
    (case e__law_cell_at => k_is)
    (case k__law_cell_at => k_is)
    (case a__law_stir => k_is)
    (case l__law_stir => k_is)
    (case e__law_stir => k_is)
    (case k__law_stir => k_is)
    (case a__law_drawn => k_is)
    (case l__law_drawn => k_is)
    (case e__law_drawn => k_is)
    (case k__law_drawn => k_is)
    (case a__law_divisor => k_is)
    (case l__law_divisor => k_is)
    (case e__law_divisor => k_is)
    (case k__law_divisor => k_is)
    (case a__law_low => k_is)
    (case l__law_low => k_is)
    (case e__law_low => k_is)
    (case k__law_low => k_is)
    (case a__law_marks => k_is)
    (case l__law_marks => k_is)
    (case e__law_marks => k_is)
    (case k__law_marks => k_is)
    (case a__law_only => k_is)
    (case l__law_only => k_is)
    (case e__law_only => k_is)
    (case k__law_only => k_is)
    (case a__law_number_by => k_is)
    (case l__law_number_by => k_is)
    (case e__law_number_by => k_is)
    (case k__law_number_by => k_is)
    (case a__law_asked => k_is)
    (case l__law_asked => k_is)
    (case e__law_asked => k_is)
    (case k__law_asked => k_is)
    (case a__law_holds => k_is)
    (case l__law_holds => k_is)
    (case e__law_holds => k_is)
    (case k__law_holds => k_is)
    (case a_law => k_is)
    (case l_law => k_is)
    (case e_law => k_is)
    (case k_law => k_is)
    (case a_HeightError => k_is)
    (case a_NoCount => k_is)
    (case a_NoFamily => k_is)
    (case a_NoFraction => k_is)
    (case a_NoHistory => k_is)
    (case a_NoLine => k_is)
    (case a_NoMeeting => k_is)
    (case a_NoMoments => k_is)
    (case a_NoName => k_is)
    (case a_NoNumber => k_is)
    (case a_NoSeries => k_is)
    (case a_NoText => k_is)
    (case a_NoThing => k_is)
    (case a_NoWay => k_is)
    (case a_NoWeights => k_is)
    (case a_TooFar => k_is)
    (case a_TooHigh => k_is)
    (case a_TooMany => k_is)
    (case n_ValueError => k_is)
    (case n_abs => k_is)
    (case n_isinstance => k_is)
    (case n_len => k_is)
    (case n_list => k_is)
    (case n_max => k_is)
    (case n_range => k_is)
    (case x_tf => kernel_rfl)
    (case x_ga => kernel_rfl)
    (case x_gt => kernel_rfl)
    (case x_be => kernel_rfl)
    (case x_ob => kernel_rfl)
    (case x_cl => kernel_rfl)
    (case x_gs => kernel_rfl)
    (case x_tk => kernel_rfl)
    (case x_is => kernel_rfl)
    (case x_ex => kernel_rfl)
    (case x_kValueError => kernel_rfl)
    (case x_kNoFraction => kernel_rfl)
    (case x_kTooMany => kernel_rfl)
    (case x_kTooFar => kernel_rfl)
    (case x_kNoNumber => kernel_rfl)
    (case x_kNoWeights => kernel_rfl)
    (case x_kNoSeries => kernel_rfl)
    (case x_kNoMoments => kernel_rfl)
    (case x_kNoFamily => kernel_rfl)
    (case x_kNoMeeting => kernel_rfl)
    (case x_kNoThing => kernel_rfl)
    (case x_kNoLine => kernel_rfl)
    (case x_kNoText => kernel_rfl)
    (case x_kNoWay => kernel_rfl)
    (case x_kTooHigh => kernel_rfl)
    (case x_kNoHistory => kernel_rfl)
    (case x_kNoCount => kernel_rfl)
    (case x_kNoName => kernel_rfl)
