import PyProof.Rows.All
import Wide.All
import OpenK.AllK
import Wide.FinOn
import Lean
import PyProof.EqAt
import PyProof.EqKinds
import PyProof.TupleCall
import PyProof.ExcBaseAll.ValueError
import KE.KDictList
import PyProof.WalkInts
import PyProof.SeqI3
import PyProof.Rows.SetFrom
import PyProof.CompUse
import PyProof.ZipIter
import PyProof.ListRange
import PyProof.Rows.SumAny
import PyProof.Rows.SetObj
import PyProof.SetRoads
import KE.KIsAll
import PyProof.AttrMissSeq
import KE.KDictOf
import PyProof.Rows.SortShell
import PyProof.Rows.SortWalk
import KE.KIsNot
import PyProof.ExcArgs
import PyProof.Seq
import PyProof.Rows.TupIter
import PyProof.RulesAs
import PyProof.DictWalks
import PyProof.Rows.FStr
import KE.KEqDict
import KE.KDictSum
import KE.KSortTup
import PySem.Challenge.RW_buildhall_k15_whole_who_goes_first
set_option Elab.async false
set_option linter.all false
set_option maxRecDepth 100000
namespace PySem.W.Fast
def tw3828337464661713952 : Unit := ()
def tw17196898521506714016 : Unit := ()
def tw9900717030610689665 : Unit := ()
def tw10351155079626273697 : Unit := ()
def tw7701804507247909250 : Unit := ()
def tw554891527740081794 : Unit := ()
def tw14347371627441388547 : Unit := ()
def tw1153378511303420419 : Unit := ()
def tw13064234946539888291 : Unit := ()
def tw4600494538079909763 : Unit := ()
def tw9956918662889694115 : Unit := ()
def tw16882709937025549348 : Unit := ()
def tw14787219195140541668 : Unit := ()
def tw1453441572118116580 : Unit := ()
def tw9809501041855544580 : Unit := ()
def tw14609020675677844132 : Unit := ()
def tw1467545078687334661 : Unit := ()
def tw7506208128180575590 : Unit := ()
def tw17239033878170630534 : Unit := ()
def tw3315966684008118822 : Unit := ()
def tw1507815059415677510 : Unit := ()
def tw10684778976604890790 : Unit := ()
def tw12825023334486220710 : Unit := ()
def tw10554389389976176614 : Unit := ()
def tw1903896855605896263 : Unit := ()
def tw14448571970817288647 : Unit := ()
def tw3248082245189942759 : Unit := ()
def tw8222146545669536263 : Unit := ()
def tw4637391364534924903 : Unit := ()
def tw15334622979227295463 : Unit := ()
def tw12121250065027794120 : Unit := ()
def tw8948463146993547816 : Unit := ()
def tw9738780239438745448 : Unit := ()
def tw12795897089259137896 : Unit := ()
def tw3893607806186420233 : Unit := ()
def tw2558335040079593993 : Unit := ()
def tw16388854703587066473 : Unit := ()
def tw5550465140049691241 : Unit := ()
def tw14077038166310936233 : Unit := ()
def tw11066414276593404777 : Unit := ()
def tw5582614097560001162 : Unit := ()
def tw5858274776960245514 : Unit := ()
def tw1509949949291209674 : Unit := ()
def tw7845781052232763531 : Unit := ()
def tw11306887745979983307 : Unit := ()
def tw7312180836184658411 : Unit := ()
def tw82576055242918475 : Unit := ()
def tw7282137741640030795 : Unit := ()
def tw3078149327309027947 : Unit := ()
def tw13785922233170832460 : Unit := ()
def tw8621439819735021996 : Unit := ()
def tw2766665643801626444 : Unit := ()
def tw11340198623437778989 : Unit := ()
def tw8589114697814786349 : Unit := ()
def tw5842538264395444621 : Unit := ()
def tw11787040552402620013 : Unit := ()
def tw1414289372811970189 : Unit := ()
def tw8460925388283697198 : Unit := ()
def tw2573604343203714414 : Unit := ()
def tw18195311200872501742 : Unit := ()
def tw17819093978000036430 : Unit := ()
def tw17681262822766879374 : Unit := ()
def tw12147466883422721806 : Unit := ()
def tw16955307510234393550 : Unit := ()
def tw15992814500431227854 : Unit := ()
def tw11335417027285458255 : Unit := ()
def tw11279081928308309551 : Unit := ()
def tw16684815677242272367 : Unit := ()
def tw7059651142221957871 : Unit := ()
def tw16586482915988168112 : Unit := ()
def tw15080944059390035472 : Unit := ()
def tw11700354510093158545 : Unit := ()
def tw17965010371274500818 : Unit := ()
def tw14201213926294039667 : Unit := ()
def tw17082061485621032147 : Unit := ()
def tw13590828687334610227 : Unit := ()
def tw5385444036825775699 : Unit := ()
def tw8578927725100239539 : Unit := ()
def tw1850048323963619027 : Unit := ()
def tw4442873486420195123 : Unit := ()
def tw15214390808403065940 : Unit := ()
def tw4453730959220875220 : Unit := ()
def tw5964024012768921781 : Unit := ()
def tw7892950285576185205 : Unit := ()
def tw13270479175109951125 : Unit := ()
def tw12969612779405307637 : Unit := ()
def tw12164076756649654742 : Unit := ()
def tw12486607285362976310 : Unit := ()
def tw4602215974600539990 : Unit := ()
def tw6201655154462582 : Unit := ()
def tw13060203378907603063 : Unit := ()
def tw14166572309947997079 : Unit := ()
def tw6040327178371777560 : Unit := ()
def tw8255755078731464792 : Unit := ()
def tw1175394681014755544 : Unit := ()
def tw1286575274421439768 : Unit := ()
def tw17264740468569685400 : Unit := ()
def tw5225976394224650712 : Unit := ()
def tw12264901048688068376 : Unit := ()
def tw15196929221792322456 : Unit := ()
def tw5139981384979914777 : Unit := ()
def tw14132562729673735545 : Unit := ()
def tw9025892651645424633 : Unit := ()
def tw13376978143929077914 : Unit := ()
def tw14988487281487282458 : Unit := ()
def tw15635739045451318042 : Unit := ()
def tw11003254962867253275 : Unit := ()
def tw9267048427769464987 : Unit := ()
def tw7724542823371925915 : Unit := ()
def tw7020075947243649563 : Unit := ()
def tw3959574689630028635 : Unit := ()
def tw10604788365869185245 : Unit := ()
def tw17056272195837984061 : Unit := ()
def tw3413819620190172541 : Unit := ()
def tw7543943582678668061 : Unit := ()
def tw893299330879666013 : Unit := ()
def tw13013755485716165182 : Unit := ()
def tw1398555855476579934 : Unit := ()
def tw13961238863248226910 : Unit := ()
def tw275980731194822430 : Unit := ()
def tw9791890444308209438 : Unit := ()
def tw7786035352208057214 : Unit := ()
def tw12193814611237588894 : Unit := ()
def tw7779647999483394143 : Unit := ()
def tw8210747435863941407 : Unit := ()
def tw15120452374058408287 : Unit := ()
def tw10842210943823120895 : Unit := ()
def tw953986387468621407 : Unit := ()
def tw12338271279927925407 : Unit := ()
def tw10366741053041347423 : Unit := ()
end PySem.W.Fast
set_option Elab.async false
set_option linter.all false
set_option maxRecDepth 100000
/-! THE HAND LAYER, for ints, bools, texts, own classes, LISTS and tuples (index, slices, in, append, pop ..), calls, loops. Paste it whole ahead of your own text; what your proof does not reach may be deleted. -/
namespace L2
open PySem PySem.Spec PyProof.Rows

/-- a key: an int or a str -/
abbrev Key := Sum Int Str
def keyIs : Key → Value → Bool
  | .inl k, v => Value.isInt k v
  | .inr x, v => Value.isStrOf x v
def keyH (w : World) : Key → Int
  | .inl k => hashInt k
  | .inr x => hashStr w x
theorem keyIs_shape : ∀ {k : Key} {v : Value}, keyIs k v = true → (∃ i t, k = Sum.inl i ∧ v = Value.int i t) ∨ (∃ x t, k = Sum.inr x ∧ v = Value.str x t)
  | .inl i, v, h => by
    obtain ⟨t, e⟩ := Value.isInt_shape (k := i) (v := v) h
    exact .inl ⟨i, t, rfl, e⟩
  | .inr x, v, h => by
    obtain ⟨t, e⟩ := Value.isStrOf_shape (x := x) (v := v) h
    exact .inr ⟨x, t, rfl, e⟩
theorem keyIs_int (i : Int) (t : Tok) : keyIs (.inl i) (.int i t) = true := by simp [keyIs, Value.isInt]
theorem keyIs_str (x : Str) (t : Tok) : keyIs (.inr x) (.str x t) = true := by simp [keyIs, Value.isStrOf]
theorem key_ll (a b : Int) : decide ((Sum.inl a : Key) = Sum.inl b) = (a == b) := by
  by_cases e : a = b
  · subst e; simp
  · have h : ¬ (Sum.inl a : Key) = Sum.inl b := fun q => e (Sum.inl.inj q)
    rw [decide_eq_false h]
    exact (beq_eq_false_iff_ne.mpr e).symm
theorem key_rr (a b : Str) : decide ((Sum.inr a : Key) = Sum.inr b) = decide (a = b) := by
  by_cases e : a = b
  · subst e; simp
  · have h : ¬ (Sum.inr a : Key) = Sum.inr b := fun q => e (Sum.inr.inj q)
    rw [decide_eq_false h, decide_eq_false e]
theorem key_lr (a : Int) (b : Str) : decide ((Sum.inl a : Key) = Sum.inr b) = false := decide_eq_false (fun q => nomatch q)
theorem key_rl (a : Str) (b : Int) : decide ((Sum.inr a : Key) = Sum.inl b) = false := decide_eq_false (fun q => nomatch q)

def mixKind (prog : Program) (w : World) : PySem.KeyKind prog w Key where
  is := keyIs
  hash := keyH w
  inj := fun v a b ha hb => by
    rcases keyIs_shape ha with ⟨i, t, rfl, rfl⟩ | ⟨x, t, rfl, rfl⟩
    · rcases keyIs_shape hb with ⟨j, u, rfl, e⟩ | ⟨y, u, rfl, e⟩
      · injection e with e1 _; rw [e1]
      · exact nomatch e
    · rcases keyIs_shape hb with ⟨j, u, rfl, e⟩ | ⟨y, u, rfl, e⟩
      · exact nomatch e
      · injection e with e1 _; rw [e1]
  byValue := fun k v h => by
    rcases keyIs_shape h with ⟨i, t, rfl, rfl⟩ | ⟨x, t, rfl, rfl⟩ <;> rfl
  pyHash := fun hv h => by
    rcases keyIs_shape hv with ⟨i, t, rfl, rfl⟩ | ⟨x, t, rfl, rfl⟩
    · exact wpAny_pyHash_int h
    · exact wpAny_pyHash_str h
  eqBool := fun hu hv h => by
    rcases keyIs_shape hu with ⟨i, t, rfl, rfl⟩ | ⟨x, t, rfl, rfl⟩
    · rcases keyIs_shape hv with ⟨j, u, rfl, rfl⟩ | ⟨y, u, rfl, rfl⟩
      · rw [key_ll] at h; exact wpAny_eqBool_int h
      · rw [key_lr] at h; exact SeqAt.EqAt.int_str i t y u _ _ _ _ h
    · rcases keyIs_shape hv with ⟨j, u, rfl, rfl⟩ | ⟨y, u, rfl, rfl⟩
      · rw [key_rl] at h; exact SeqAt.EqAt.str_int x t j u _ _ _ _ h
      · rw [key_rr] at h; exact wpAny_eqBool_str h
  «strs» := fun k x t v h => by
    rcases keyIs_shape h with ⟨i, u, rfl, e⟩ | ⟨y, u, rfl, e⟩
    · exact nomatch e
    · injection e with e1 _
      subst e1
      cases v <;> rfl

theorem mixKind_int (prog : Program) (w : World) (i : Int) (t : Tok) : (mixKind prog w).is (.inl i) (.int i t) = true := keyIs_int i t
theorem mixKind_str (prog : Program) (w : World) (x : Str) (t : Tok) : (mixKind prog w).is (.inr x) (.str x t) = true := keyIs_str x t
end L2

namespace L2
open PySem PySem.Spec PyProof.Rows

/-- a value, without the heap -/
inductive V where
  | non | bl (b : Bool) | int (i : Int) | str (x : Str) | byt (b : Array UInt8) | flt (b : UInt64) | ref (a : Addr) | ty (n : String)
  deriving DecidableEq

def RelV : V → Value → Prop
  | .non, u => u = Value.none
  | .bl b, u => u = Value.bool b
  | .int i, u => ∃ t, u = Value.int i t
  | .str x, u => ∃ t, u = Value.str x t
  | .byt b, u => ∃ t, u = Value.bytes b t
  | .flt b, u => ∃ t, u = Value.float b t
  | .ref a, u => u = Value.ref a
  | .ty n, u => u = Value.type n

abbrev Vals : List V → List Value → Prop := Paired RelV
theorem Vals.length {xs : List V} {us : List Value} (r : Vals xs us) : xs.length = us.length := Paired.length r
theorem Vals.get : ∀ {xs : List V} {us : List Value} {i : Nat} {x : V}, Vals xs us → xs[i]? = some x → ∃ u, us[i]? = some u ∧ RelV x u
  | _, _, _, _, .nil, e => by simp at e
  | _, _, 0, _, .cons r _, e => by simp at e; subst e; exact ⟨_, rfl, r⟩
  | _, _, i + 1, x, .cons _ t, e => by
    obtain ⟨u, h1, h2⟩ := Vals.get (i := i) (x := x) t (by simpa using e)
    exact ⟨u, by simpa using h1, h2⟩
theorem Vals.append : ∀ {xs ys : List V} {us ws : List Value}, Vals xs us → Vals ys ws → Vals (xs ++ ys) (us ++ ws)
  | _, _, _, _, .nil, s => s
  | _, _, _, _, .cons r t, s => .cons r (Vals.append t s)
theorem Vals.take : ∀ {xs : List V} {us : List Value} (n : Nat), Vals xs us → Vals (xs.take n) (us.take n)
  | _, _, 0, _ => .nil
  | _, _, _ + 1, .nil => .nil
  | _, _, n + 1, .cons r t => .cons r (Vals.take n t)
theorem Vals.drop : ∀ {xs : List V} {us : List Value} (n : Nat), Vals xs us → Vals (xs.drop n) (us.drop n)
  | _, _, 0, r => r
  | _, _, _ + 1, .nil => .nil
  | _, _, n + 1, .cons _ t => Vals.drop n t

def RelO : Option V → Option Value → Prop
  | some v, some u => RelV v u
  | none, none => True
  | _, _ => False
def KV {κ : Type} : List (κ × V) → List (κ × Value) → Prop := Paired fun (p : κ × V) (q : κ × Value) => p.1 = q.1 ∧ RelV p.2 q.2

/-- a key of a dict (00_mix): an int or a text -/
def kV : Key → V
  | .inl i => .int i
  | .inr x => .str x

/-- what stands at a tracked address -/
inductive HO where
  /-- a list -/
  | lst (xs : List V)
  /-- a tuple (never changes) -/
  | tup (xs : List V)
  /-- a dict whose keys are ints and texts; one whose keys are tuples of ints and texts (the empty one is both) -/
  | dK (kvs : List (Key × V)) | dT (kvs : List (List Key × V))
  /-- a set of ints: its members, its size -/
  | set (S : Int → Bool) (n : Nat)
  /-- an instance of the class at C, its dict at dx, its attributes -/
  | ins (C dx : Addr) (fs : List (Str × V))
  /-- the dict of the instance at x -/
  | own (x : Addr)
  /-- the dict of an exception -/
  | xd (fs : List (Str × V))
  /-- a bound method, f of x -/
  | met (f x : Addr)
  /-- a range object lo, lo + 1, .. below hi -/
  | rng (lo hi : Int)
  /-- a thing that is known to the object (the script; a dict while a loop walks it): read, never written while it is so -/
  | frz (o : Obj) (u : HO)
  /-- a code object's table -/
  | tbl (ps : Array Value)
  /-- any other thing, by what is true of its one object (a def of one's own: SetO a S n := HO.ext fun h => ..) -/
  | ext (φ : Heap → Prop)

abbrev Hp := Addr → Option HO
def upd (H : Hp) (a : Addr) (o : HO) : Hp := fun b => if b = a then some o else H b
theorem upd_same {H : Hp} {a : Addr} {o : HO} : upd H a o a = some o := by unfold upd; rw [if_pos rfl]
theorem upd_ne {H : Hp} {a b : Addr} {o : HO} (h : b ≠ a) : upd H a o b = H b := by unfold upd; rw [if_neg h]
/-- two objects of different content stand apart -/
theorem ne_of {H : Hp} {a b : Addr} {o u : HO} (h : H a = some o) (h' : H b = some u) (d : o ≠ u) : a ≠ b := by
  intro e; subst e; rw [h] at h'; exact d (Option.some.inj h')
theorem ne_of_none {H : Hp} {a b : Addr} {o : HO} (h : H a = some o) (h' : H b = none) : a ≠ b := by
  intro e; subst e; rw [h] at h'; cases h'

section
variable (P : Program) (w : World)
def ObjOk (H : Hp) (h : Heap) (a : Addr) : HO → Prop
  | .lst xs => xs.length ≤ sizeLine ∧ ∃ (its : List Value) (n : Nat), Vals xs its ∧ h.get? a = some { cls := .type "list", data := .seq its.toArray n }
  | .tup xs => xs.length ≤ sizeLine ∧ ∃ its : List Value, Vals xs its ∧ IsTup h a its.toArray
  | .dK kvs => kvs.length ≤ sizeLine ∧ (a == sysModules) = false ∧ ∃ vs, KV kvs vs ∧ h.DictOf (mixKind P w) a vs
  | .dT kvs => kvs.length ≤ sizeLine ∧ (a == sysModules) = false ∧ ∃ xs : List (List Key × Addr × Value),
      Paired (fun (p : List Key × V) (q : List Key × Addr × Value) => p.1 = q.1 ∧ H q.2.1 = some (.tup (p.1.map kV)) ∧ RelV p.2 q.2.2) kvs xs ∧
      ∃ o es ep, h.get? a = some o ∧ o.ExactDict ∧ o.data = .dict es ep ∧ es.toList = xs.map (entryOfKey (tupleKind (mixKind P w))) ∧ (xs.map (·.1)).Nodup
  | .set S n => h.SetOf (intKind P w) a S n
  | .ins C dx fs => H dx = some (.own a) ∧ fs.length ≤ 1000 ∧ dx ≠ a ∧ h.get? a = some (PySem.W.instObj C dx) ∧
      ∃ mA, h.Ns1 dx mA ∧ (∀ f, RelO (fs.lookup f) (mA f)) ∧ PySem.Within mA (fs.map (·.1))
  | .own _ => ∃ o, h.get? a = some o
  | .xd fs => ∃ mA, h.Ns1 a mA ∧ ∀ f, RelO (fs.lookup f) (mA f)
  | .rng lo hi => ∃ t u v, h.get? a = some { cls := .type "range", data := .fields #[.int lo t, .int hi u, .int 1 v] }
  | .frz o u => h.get? a = some o ∧ ObjOk H h a u
  | .tbl ps => h.get? a = some { cls := .none, data := .fields ps }
  | .met f x => h.get? a = some (PySem.W.methodObj (.ref f) (.ref x))
  | .ext φ => φ h ∧ (∃ o, h.get? a = some o) ∧ ∀ h1 h2 : Heap, φ h1 → (∀ o, h1.get? a = some o → h2.get? a = some o) → φ h2
/-- the abstract heap is held -/
def HOk (H : Hp) (h : Heap) : Prop := ∀ a o, H a = some o → ObjOk P w H h a o
end

section
variable {P : Program} {w : World} {H H' : Hp} {h h' : Heap} {a : Addr} {o : HO}
theorem ObjOk.lt (x : ObjOk P w H h a o) : a < h.objs.size := by
  cases o with
  | lst xs => obtain ⟨_, _, _, _, e⟩ := x; exact Heap.lt_size e
  | tup xs => obtain ⟨_, _, _, p⟩ := x; exact p.lt
  | dK kvs => obtain ⟨_, _, _, _, o, _, _, e, _⟩ := x; exact Heap.lt_size e
  | dT kvs => obtain ⟨_, _, _, _, o, _, _, e, _⟩ := x; exact Heap.lt_size e
  | set S n => obtain ⟨o, _, _, _, e, _⟩ := x; exact Heap.lt_size e
  | ins C dx fs => obtain ⟨_, _, _, e, _⟩ := x; exact Heap.lt_size e
  | own y => obtain ⟨_, e⟩ := x; exact Heap.lt_size e
  | xd fs => obtain ⟨_, ⟨_, _, _, e, _⟩, _⟩ := x; exact Heap.lt_size e
  | rng lo hi => obtain ⟨_, _, _, e⟩ := x; exact Heap.lt_size e
  | frz ob u => obtain ⟨e, _⟩ := x; exact Heap.lt_size e
  | tbl ps => exact Heap.lt_size (show h.get? a = some _ from x)
  | met f y => exact Heap.lt_size (show h.get? a = some _ from x)
  | ext φ => obtain ⟨_, ⟨_, e⟩, _⟩ := x; exact Heap.lt_size e
theorem Paired.mapP {α β : Type} {F G : α → β → Prop} : ∀ {l₁ : List α} {l₂ : List β}, Paired F l₁ l₂ → (∀ a b, F a b → G a b) → Paired G l₁ l₂
  | _, _, .nil, _ => .nil
  | _, _, .cons r t, f => .cons (f _ _ r) (Paired.mapP t f)
/-- what an object's description leans on: its own object, its own dict, the tuples -/
theorem ObjOk.stay (x : ObjOk P w H h a o) (k : ∀ b u, (b = a ∨ H b = some (.own a)) → h.get? b = some u → h'.get? b = some u)
    (ho : ∀ b, H b = some (.own a) → H' b = some (.own a)) (ht : ∀ b xs, H b = some (.tup xs) → H' b = some (.tup xs)) : ObjOk P w H' h' a o := by
  induction o with
  | lst xs => obtain ⟨z, its, n, r, e⟩ := x; exact ⟨z, its, n, r, k _ _ (.inl rfl) e⟩
  | tup xs => obtain ⟨z, its, r, ob, e, c⟩ := x; exact ⟨z, its, r, ob, k _ _ (.inl rfl) e, c⟩
  | dK kvs => obtain ⟨z, y, vs, r, ob, es, ep, e, c⟩ := x; exact ⟨z, y, vs, r, ob, es, ep, k _ _ (.inl rfl) e, c⟩
  | dT kvs =>
    obtain ⟨z, y, xs, r, ob, es, ep, e, c⟩ := x
    exact ⟨z, y, xs, Paired.mapP r fun p q z => ⟨z.1, ht _ _ z.2.1, z.2.2⟩, ob, es, ep, k _ _ (.inl rfl) e, c⟩
  | set S n => obtain ⟨ob, es, ep, t, e, c⟩ := x; exact ⟨ob, es, ep, t, k _ _ (.inl rfl) e, c⟩
  | ins C dx fs =>
    obtain ⟨d, z, ne, e, mA, ⟨od, es, ep, e2, c⟩, r⟩ := x
    exact ⟨ho _ d, z, ne, k _ _ (.inl rfl) e, mA, ⟨od, es, ep, k _ _ (.inr d) e2, c⟩, r⟩
  | own y => obtain ⟨ob, e⟩ := x; exact ⟨ob, k _ _ (.inl rfl) e⟩
  | xd fs => obtain ⟨mA, ⟨od, es, ep, e, c⟩, r⟩ := x; exact ⟨mA, ⟨od, es, ep, k _ _ (.inl rfl) e, c⟩, r⟩
  | rng lo hi => obtain ⟨t, u, v, e⟩ := x; exact ⟨t, u, v, k _ _ (.inl rfl) e⟩
  | frz ob u ih => obtain ⟨e, q⟩ := x; exact ⟨k _ _ (.inl rfl) e, ih q⟩
  | tbl ps =>
    have e : h.get? a = some { cls := .none, data := .fields ps } := x
    show h'.get? a = some { cls := .none, data := .fields ps }
    exact k a _ (.inl rfl) e
  | met f y =>
    have e : h.get? a = some (PySem.W.methodObj (.ref f) (.ref y)) := x
    show h'.get? a = some (PySem.W.methodObj (.ref f) (.ref y))
    exact k a _ (.inl rfl) e
  | ext φ => obtain ⟨p, ⟨o, e⟩, st⟩ := x; exact ⟨st _ _ p fun o q => k _ _ (.inl rfl) q, ⟨o, k _ _ (.inl rfl) e⟩, st⟩
theorem HOk.lt (x : HOk P w H h) (e : H a = some o) : a < h.objs.size := (x a o e).lt
theorem HOk.fresh (x : HOk P w H h) (e : h.objs.size ≤ a) : H a = none := by
  cases q : H a with
  | none => rfl
  | some u => exact absurd (Nat.lt_of_lt_of_le (x.lt q) e) (Nat.lt_irrefl _)
/-- every object of the heap is kept -/
theorem HOk.kept (x : HOk P w H h) (k : ∀ b u, h.get? b = some u → h'.get? b = some u) : HOk P w H h' := fun a o e =>
  (x a o e).stay (fun b u _ q => k b u q) (fun _ q => q) fun _ _ q => q
/-- a new object is laid and tracked -/
theorem HOk.laid (x : HOk P w H h) (k : ∀ b u, h.get? b = some u → h'.get? b = some u) (hp : h.objs.size ≤ a) (new : ObjOk P w (upd H a o) h' a o) : HOk P w (upd H a o) h' := fun b u e => by
  have hn := x.fresh hp
  by_cases hb : b = a
  · subst hb; rw [upd_same] at e; cases e; exact new
  · rw [upd_ne hb] at e
    exact (x b u e).stay (fun c v _ q => k c v q) (fun c q => by rw [upd_ne (ne_of_none q hn)]; exact q) fun c xs q => by rw [upd_ne (ne_of_none q hn)]; exact q
end

/-- what may be read as u: it is u, or a known u -/
def Rd (H : Hp) (a : Addr) (u : HO) : Prop := H a = some u ∨ ∃ o, H a = some (.frz o u)
theorem Rd.ok {P : Program} {w : World} {H : Hp} {h : Heap} {a : Addr} {u : HO} (r : Rd H a u) (x : HOk P w H h) : ObjOk P w H h a u := by
  rcases r with r | ⟨o, r⟩
  · exact x a u r
  · obtain ⟨_, q⟩ := x a _ r
    exact q
/-- what may be written -/
def Mut : Option HO → Prop
  | some (.lst _) => True
  | some (.dK _) => True
  | some (.dT _) => True
  | some (.set _ _) => True
  | some (.ins _ _ _) => True
  | some (.ext _) => True
  | _ => False
section
variable {P : Program} {w : World} {H : Hp} {h h' : Heap} {x e : Addr} {o' : HO}
/-- the object at e is changed: x itself, or the dict of the instance x -/
theorem HOk.write (ok : HOk P w H h) (mu : Mut (H x)) (he : e = x ∨ H e = some (.own x)) (k : ∀ b u, b ≠ e → h.get? b = some u → h'.get? b = some u) (heo : ∃ u, h'.get? e = some u)
    (new : ObjOk P w (upd H x o') h' x o') : HOk P w (upd H x o') h' := fun b u q => by
  have nown : ∀ c y, H c = some (.own y) → c ≠ x := fun c y r z => by subst z; rw [r] at mu; exact mu
  have ntup : ∀ c xs, H c = some (.tup xs) → c ≠ x := fun c xs r z => by subst z; rw [r] at mu; exact mu
  by_cases hb : b = x
  · subst hb; rw [upd_same] at q; cases q; exact new
  · rw [upd_ne hb] at q
    by_cases hbe : b = e
    · have q' : H b = some (.own x) := by
        rcases he with z | z
        · exact absurd (hbe.trans z) hb
        · rw [hbe]; exact z
      rw [q] at q'; cases q'
      obtain ⟨v, hv⟩ := heo
      exact ⟨v, by rw [hbe]; exact hv⟩
    · refine (ok b u q).stay (fun c v hc r => k c v ?_ r) (fun c r => by rw [upd_ne (nown c b r)]; exact r) fun c xs r => by rw [upd_ne (ntup c xs r)]; exact r
      rcases hc with rfl | hc
      · exact hbe
      · rintro rfl
        rcases he with z | z
        · exact nown c b hc z
        · rw [hc] at z; cases z; exact hb rfl
end

/-! ### kept unless tracked; of the frames at fs (the callers') the slots may change (an exception that passes writes there); of the records at ex (iterators) nothing is said -/
structure Un (fs ex : List Addr) (H H' : Hp) (h h' : Heap) : Prop where
  keep : ∀ b o, h.get? b = some o → H b = none → b ∉ fs → b ∉ ex → h'.get? b = some o
  slot : ∀ b o, h.get? b = some o → H b = none → b ∈ fs → b ∉ ex → ∃ sl, h'.get? b = some { o with slots := sl }
  free : ∀ b o, h.get? b = some o → H b = none → b ∉ ex → H' b = none
  there : ∀ b o, h.get? b = some o → b ∉ ex → ∃ o', h'.get? b = some o'
  tups : ∀ b xs, H b = some (.tup xs) → H' b = some (.tup xs)
  frzs : ∀ b o u, H b = some (.frz o u) → H' b = some (.frz o u)
  tbls : ∀ b ps, H b = some (.tbl ps) → ∃ more, H' b = some (.tbl (ps ++ more))
section
variable {fs fs' ex ex' : List Addr} {H H1 H2 : Hp} {h h1 h2 h' : Heap} {a x e : Addr} {o : HO}
theorem Un.any (u : Un fs ex H H1 h h1) {b : Addr} {ob : Obj} (q : h.get? b = some ob) (n : H b = none) (hx : b ∉ ex) : ∃ sl, h1.get? b = some { ob with slots := sl } := by
  by_cases hb : b ∈ fs
  · exact u.slot b ob q n hb hx
  · exact ⟨ob.slots, u.keep b ob q n hb hx⟩
theorem Un.kept (k : ∀ b u, h.get? b = some u → h'.get? b = some u) : Un fs ex H H h h' :=
  ⟨fun b ob q _ _ _ => k b ob q, fun b ob q _ _ _ => ⟨ob.slots, k b ob q⟩, fun _ _ _ n _ => n, fun b ob q _ => ⟨ob, k b ob q⟩, fun _ _ q => q, fun _ _ _ q => q, fun _ ps q => ⟨#[], by rw [q]; simp⟩⟩
theorem Un.refl : Un fs ex H H h h := Un.kept fun _ _ q => q
theorem Un.laid (k : ∀ b u, h.get? b = some u → h'.get? b = some u) (hp : h.objs.size ≤ a) (hn : H a = none) : Un fs ex H (upd H a o) h h' where
  keep := fun b u q _ _ _ => k b u q
  slot := fun b u q _ _ _ => ⟨u.slots, k b u q⟩
  free := fun b u q n _ => by rw [upd_ne (Nat.ne_of_lt (Nat.lt_of_lt_of_le (Heap.lt_size q) hp))]; exact n
  there := fun b u q _ => ⟨u, k b u q⟩
  tups := fun b xs q => by rw [upd_ne (ne_of_none q hn)]; exact q
  frzs := fun b u xs q => by rw [upd_ne (ne_of_none q hn)]; exact q
  tbls := fun b ps q => ⟨#[], by rw [upd_ne (ne_of_none q hn), q]; simp⟩
theorem Un.write (mu : Mut (H x)) (he : e = x ∨ H e = some (.own x)) (k : ∀ b u, b ≠ e → h.get? b = some u → h'.get? b = some u) (heo : ∃ u, h'.get? e = some u) : Un fs ex H (upd H x o) h h' := by
  have hx : ∀ b, H b = none → b ≠ x := fun b n z => by subst z; rw [n] at mu; exact mu
  have hb : ∀ b, H b = none → b ≠ e := fun b n z => by
    subst z
    rcases he with r | r
    · exact hx b n r
    · rw [n] at r; cases r
  have hm : ∀ b u, H b = some u → ¬ Mut (some u) → b ≠ x := fun b u q nm z => by subst z; rw [q] at mu; exact nm mu
  refine ⟨fun b u q n _ _ => k b u (hb b n) q, fun b u q n _ _ => ⟨u.slots, k b u (hb b n) q⟩, fun b u q n _ => by rw [upd_ne (hx b n)]; exact n, fun b u q _ => ?_,
    fun b xs q => by rw [upd_ne (hm b _ q fun z => z)]; exact q, fun b u xs q => by rw [upd_ne (hm b _ q fun z => z)]; exact q, fun b ps q => ⟨#[], by rw [upd_ne (hm b _ q fun z => z), q]; simp⟩⟩
  by_cases hbe : b = e
  · subst hbe; exact heo
  · exact ⟨u, k b u hbe q⟩
end

/-! ### the heap without what is tracked -/
def trk (h : Heap) (H : Hp) : List Addr := (List.range h.objs.size).filter fun a => (H a).isSome
def hidT (h : Heap) (H : Hp) : Heap := PySem.W.hideAll h (trk h H)
theorem hidT_size (h : Heap) (H : Hp) : (hidT h H).objs.size = h.objs.size := PySem.W.hideAll_size _ _
theorem hidT_get {h : Heap} {H : Hp} {b : Addr} {o : Obj} (e : h.get? b = some o) (n : H b = none) : (hidT h H).get? b = some o :=
  PySem.W.hideAll_get _ e fun hm => by
    have q : (H b).isSome = true := (List.mem_filter.mp hm).2
    rw [n] at q; simp at q
theorem of_hidT {h : Heap} {H : Hp} {b : Addr} {o : Obj} (e : (hidT h H).get? b = some o) : h.get? b = some o ∧ H b = none := by
  have e' : h.get? b = some o := PySem.W.of_hideAll (trk h H) e
  refine ⟨e', ?_⟩
  cases q : H b with
  | none => rfl
  | some x =>
    have hm : b ∈ trk h H := List.mem_filter.mpr ⟨List.mem_range.mpr (Heap.lt_size e'), by simp [q]⟩
    have z : (hidT h H).get? b = none := PySem.W.hideAll_none (trk h H) hm
    rw [z] at e; cases e

/-! ### OpenK's ledger, filled with every new object but one -/
end L2

namespace L2
open PySem PySem.Spec PyProof.Rows

/-- the module's facts, over the base: the heap at the law's entry without what is tracked there -/
structure Mod (K : PySem.W.Frag) (mg : Str → Option Value) (base : Heap) : Prop where
  kin : K.In base
  glob : base.Ns mainGlobals mg
  blt : ∃ mb, base.Ns builtinsNs mb ∧ ∀ x : Str, x ≠ "__name__" → mb x = bootBuiltins x
  nolimit : base.NoLimit

/-- the context: a def's body (or a comprehension's block) running. base: fixed through the whole law; s₀, H₀: the entry; outer: the frames whose slots others may change (a def's callers); stack: all frames that run;
   ex: iterators that were made ahead of the entry and are walked here (a comprehension's); fn: the names whose cells were made at the entry (a def: all; a comprehension's block: its own); calm: not within an except suite; pn: pins that every state bears; xe: what is wanted of an exception that leaves the code -/
structure Cx where
  prog : Program
  w : World
  K : PySem.W.Frag
  mg : Str → Option Value
  base : Heap
  A : Around
  N : List Str
  s₀ : Shared
  H₀ : Hp
  env : Env
  outer : List Env
  stack : List Env
  ex : List Addr
  fn : Str → Bool
  calm : Bool
  pn : List (Addr × Obj)
  xe : Value → Shared → Prop
/-- the callers' frames -/
def frs (l : List Env) : List Addr := l.filterMap (·.frame)
abbrev Cx.fs (X : Cx) : List Addr := frs X.outer

def Vis (sc : Scope) (x : Str) : Prop := sc.names.lookup x = some .local ∨ sc.names.lookup x = some .cell ∨ sc.names.lookup x = some .free
def Loc (sc : Scope) (x : Str) : Prop := sc.names.lookup x = some .local ∨ sc.names.lookup x = some .cell
def Look (env : Env) (h : Heap) (m : Str → Option Value) (x : Str) (u : Value) : Prop :=
  (env.kindOf x = some .local ∧ m x = some u) ∨ ((env.kindOf x = some .cell ∨ env.kindOf x = some .free) ∧ ∃ c, env.cells.lookup x = some c ∧ h.IsCell c (some u))

structure Cx.Ok (X : Cx) : Prop where
  mod : Mod X.K X.mg X.base
  kind : X.env.scope.kind = .function
  glob : X.env.globals = mainGlobals
  blt : X.env.builtins = builtinsNs
  above : X.s₀.heap.objs.size ≤ X.env.locals
  inj : ∀ x y c, X.env.cells.lookup x = some c → X.env.cells.lookup y = some c → x = y
  has : ∀ x, (X.env.kindOf x = some .cell ∨ X.env.kindOf x = some .free) → ∃ c, X.env.cells.lookup x = some c
  cab : ∀ x c, X.fn x = true → X.env.cells.lookup x = some c → X.s₀.heap.objs.size ≤ c
  hd : X.calm = true → X.A.handled = none
  frames : X.A.frames = some X.stack
  stk : X.stack = X.outer ∨ (X.stack = X.env :: X.outer ∧ X.env.frame = some X.env.locals)
  exf : ∀ b ∈ X.ex, b ≠ X.env.locals ∧ ∀ x c, X.env.cells.lookup x = some c → c ≠ b
  bs : ∀ b o, X.base.get? b = some o → X.s₀.heap.get? b = some o ∧ X.H₀ b = none
  bsz : X.base.objs.size ≤ X.s₀.heap.objs.size
  noex : ∀ b o, X.base.get? b = some o → b ∉ X.ex
  exfs : ∀ b ∈ X.ex, b ∉ X.fs
  funs : X.s₀.heap.FunFrames X.base X.outer
  frf : ∀ b ∈ X.fs, X.H₀ b = none

structure Inv (X : Cx) (pins : List (Addr × Obj)) (σ : List (Option V)) (H : Hp) (s : Shared) : Prop where
  ok : X.Ok
  os : s.os = X.s₀.os
  bare : AllBare s.gens
  base : Un X.fs X.ex X.H₀ H X.s₀.heap s.heap
  loc : ∃ m, s.heap.Ns X.env.locals m ∧ ∀ (i : Nat) (x : Str) (v : V), X.N[i]? = some x → σ[i]? = some (some v) → Vis X.env.scope x → ∃ u, RelV v u ∧ Look X.env s.heap m x u
  cell : ∀ x c, X.env.cells.lookup x = some c → ∃ v, s.heap.IsCell c v
  free : H X.env.locals = none
  freeC : ∀ x c, X.env.cells.lookup x = some c → H c = none
  pin : ∀ p ∈ X.pn ++ pins, s.heap.get? p.1 = some p.2 ∧ H p.1 = none ∧ p.1 ≠ X.env.locals ∧ p.1 ∉ X.fs ∧ ∀ v, p.2.data ≠ .cell v
  hok : HOk X.prog X.w H s.heap
  len : σ.length = X.N.length

section
variable {X : Cx} {pins : List (Addr × Obj)} {σ : List (Option V)} {H H' : Hp} {s : Shared} {h' : Heap}

theorem Cx.Ok.nofr (ok : X.Ok) {b : Addr} {o : Obj} (e : X.base.get? b = some o) : b ∉ X.fs := fun hb => by
  have := (ok.funs.mem hb).1
  rw [e] at this; cases this
theorem Inv.bs (I : Inv X pins σ H s) : ∀ b o, X.base.get? b = some o → s.heap.get? b = some o ∧ H b = none := fun b o e =>
  ⟨I.base.keep b o (I.ok.bs b o e).1 (I.ok.bs b o e).2 (I.ok.nofr e) (I.ok.noex b o e), I.base.free b o (I.ok.bs b o e).1 (I.ok.bs b o e).2 (I.ok.noex b o e)⟩
theorem Inv.bk (I : Inv X pins σ H s) : ∀ b o, X.base.get? b = some o → s.heap.get? b = some o := fun b o e => (I.bs b o e).1
theorem Inv.mod (I : Inv X pins σ H s) : Mod X.K X.mg X.base := I.ok.mod
theorem Inv.kIn (I : Inv X pins σ H s) : X.K.In s.heap := I.ok.mod.kin.keeps I.bk
theorem Inv.lt (I : Inv X pins σ H s) : X.env.locals < s.heap.objs.size := let ⟨_, hn, _⟩ := I.loc; hn.lt
theorem Inv.sz (I : Inv X pins σ H s) : X.s₀.heap.objs.size ≤ s.heap.objs.size := Nat.le_trans I.ok.above (Nat.le_of_lt I.lt)
theorem Inv.nofs (I : Inv X pins σ H s) {a : Addr} (h : s.heap.objs.size ≤ a) : a ∉ X.fs := fun hb => by
  obtain ⟨_, o, ho, _⟩ := I.ok.funs.mem hb
  exact absurd (Nat.lt_of_lt_of_le (Heap.lt_size ho) (Nat.le_trans I.sz h)) (Nat.lt_irrefl _)
theorem Inv.cne (I : Inv X pins σ H s) : ∀ x c, X.env.cells.lookup x = some c → c ≠ X.env.locals := fun x c e z => by
  obtain ⟨v, o, ho, hd⟩ := I.cell x c e
  obtain ⟨m, ⟨o', es, ep, ho', hd', _⟩, _⟩ := I.loc
  rw [z, ho'] at ho; cases ho; rw [hd'] at hd; cases hd
theorem Inv.funs (I : Inv X pins σ H s) : s.heap.FunFrames X.base X.outer := by
  have all : ∀ (l : List Env), (∀ b ∈ frs l, b ∈ X.fs) → X.s₀.heap.FunFrames X.base l → s.heap.FunFrames X.base l := by
    intro l
    induction l with
    | nil => intro _ _; trivial
    | cons env r ih =>
      intro hs hl
      obtain ⟨hk, ⟨L, o, hf, hn, ho, hd⟩, hr⟩ := hl
      have hL : L ∈ X.fs := hs L (by unfold frs; rw [List.filterMap_cons, hf]; exact List.mem_cons_self)
      obtain ⟨sl, e⟩ := I.base.slot L o ho (I.ok.frf L hL) hL fun z => I.ok.exfs L z hL
      exact ⟨hk, ⟨L, _, hf, hn, e, hd⟩, ih (fun b hb => hs b (by unfold frs; rw [List.filterMap_cons, hf]; exact List.mem_cons_of_mem _ hb)) hr⟩
  exact all X.outer (fun _ hb => hb) I.ok.funs

/-- the frames that run, for a call -/
theorem Inv.stack (I : Inv X pins σ H s) : s.heap.FunFrames X.base X.stack := by
  rcases I.ok.stk with e | ⟨e, hf⟩
  · rw [e]; exact I.funs
  · rw [e]
    obtain ⟨m, hn, _⟩ := I.loc
    refine .cons (by rw [I.ok.kind]; decide) hf hn ?_ I.funs
    exact Heap.get?_none_of_le (Nat.le_trans I.ok.bsz I.ok.above)
theorem Inv.stkSub (I : Inv X pins σ H s) : ∀ b ∈ frs X.stack, b ∈ X.env.locals :: X.fs := fun b hb => by
  rcases I.ok.stk with e | ⟨e, hf⟩
  · rw [e] at hb; exact List.mem_cons_of_mem _ hb
  · rw [e] at hb
    unfold frs at hb
    rw [List.filterMap_cons, hf] at hb
    exact hb
theorem Inv.stkFree (I : Inv X pins σ H s) : ∀ b ∈ frs X.stack, H b = none := fun b hb => by
  rcases List.mem_cons.mp (I.stkSub b hb) with e | hb
  · rw [e]; exact I.free
  · obtain ⟨_, o, ho, _⟩ := I.ok.funs.mem hb
    exact I.base.free b o ho (I.ok.frf b hb) fun z => I.ok.exfs b z hb

/-- THE STEP: the untracked objects but the frame and the records at ch are kept (the callers' frames up to slots), the frame's map is kept, the new abstract heap is held -/
theorem Inv.step {g' : Array GenState} {t' : Nat} {d' : Drawn} {ch : List Addr} (I : Inv X pins σ H s)
    (hch : ∀ b ∈ ch, (b ∈ X.ex ∨ X.s₀.heap.objs.size ≤ b) ∧ b ≠ X.env.locals ∧ (∀ x c, X.env.cells.lookup x = some c → c ≠ b) ∧ ∀ p ∈ X.pn ++ pins, p.1 ≠ b)
    (keep : ∀ b o, b ≠ X.env.locals → b ∉ X.fs → b ∉ ch → s.heap.get? b = some o → H b = none → h'.get? b = some o)
    (slot : ∀ b o, b ≠ X.env.locals → b ∈ X.fs → b ∉ ch → s.heap.get? b = some o → H b = none → ∃ sl, h'.get? b = some { o with slots := sl }) (free : ∀ b o, b ∉ ch → s.heap.get? b = some o → H b = none → H' b = none)
    (there : ∀ b o, b ∉ ch → s.heap.get? b = some o → ∃ o', h'.get? b = some o')
    (tups : ∀ b xs, H b = some (.tup xs) → H' b = some (.tup xs)) (frzs : ∀ b o u, H b = some (.frz o u) → H' b = some (.frz o u)) (tbls : ∀ b ps, H b = some (.tbl ps) → ∃ more, H' b = some (.tbl (ps ++ more)))
    (ns : ∀ m, s.heap.Ns X.env.locals m → h'.Ns X.env.locals m) (hok : HOk X.prog X.w H' h') (hg : AllBare g') :
    Inv X pins σ H' { s with heap := h', gens := g', drawn := d', toks := t' } := by
  have neL : ∀ b o, X.s₀.heap.get? b = some o → b ≠ X.env.locals := fun b o e => Nat.ne_of_lt (Nat.lt_of_lt_of_le (Heap.lt_size e) I.ok.above)
  have neC : ∀ b o, X.s₀.heap.get? b = some o → b ∉ X.ex → b ∉ ch := fun b o e hx hb => by
    rcases (hch b hb).1 with z | z
    · exact hx z
    · exact absurd (Nat.lt_of_lt_of_le (Heap.lt_size e) z) (Nat.lt_irrefl _)
  have cellK : ∀ x c, X.env.cells.lookup x = some c → ∀ v, s.heap.IsCell c v → h'.IsCell c v := fun x c e v ⟨o, ho, hd⟩ => by
    have nch : c ∉ ch := fun z => (hch c z).2.2.1 x c e rfl
    by_cases hc : c ∈ X.fs
    · obtain ⟨sl, q⟩ := slot c o (I.cne x c e) hc nch ho (I.freeC x c e)
      exact ⟨_, q, hd⟩
    · exact ⟨o, keep c o (I.cne x c e) hc nch ho (I.freeC x c e), hd⟩
  refine ⟨I.ok, I.os, hg, ⟨fun b o e n hb hx => ?_, fun b o e n hb hx => ?_, fun b o e n hx => ?_, fun b o e hx => ?_, fun b xs e => tups b xs (I.base.tups b xs e), fun b o xs e => frzs b o xs (I.base.frzs b o xs e), fun b ps e => ?_⟩, ?_, fun x c e => ?_, ?_, fun x c e => ?_, fun p hp => ?_, hok, I.len⟩
  · exact keep b o (neL b o e) hb (neC b o e hx) (I.base.keep b o e n hb hx) (I.base.free b o e n hx)
  · obtain ⟨sl, e1⟩ := I.base.slot b o e n hb hx
    obtain ⟨sl', e2⟩ := slot b _ (neL b o e) hb (neC b o e hx) e1 (I.base.free b o e n hx)
    exact ⟨sl', e2⟩
  · obtain ⟨o', e1⟩ := I.base.there b o e hx
    exact free b o' (neC b o e hx) e1 (I.base.free b o e n hx)
  · obtain ⟨o', e1⟩ := I.base.there b o e hx
    exact there b o' (neC b o e hx) e1
  · obtain ⟨m1, e1⟩ := I.base.tbls b ps e
    obtain ⟨m2, e2⟩ := tbls b _ e1
    exact ⟨m1 ++ m2, by rw [e2, Array.append_assoc]⟩
  · obtain ⟨m, hn, hl⟩ := I.loc
    refine ⟨m, ns m hn, fun i x v e1 e2 e3 => ?_⟩
    obtain ⟨u, r, l⟩ := hl i x v e1 e2 e3
    refine ⟨u, r, ?_⟩
    rcases l with l | ⟨k, c, e, z⟩
    · exact .inl l
    · exact .inr ⟨k, c, e, cellK x c e _ z⟩
  · obtain ⟨v, z⟩ := I.cell x c e
    exact ⟨v, cellK x c e v z⟩
  · obtain ⟨m, ⟨o, _, _, ho, _⟩, _⟩ := I.loc
    exact free _ o (fun z => (hch _ z).2.1 rfl) ho I.free
  · obtain ⟨v, o, ho, hd⟩ := I.cell x c e
    exact free c o (fun z => (hch c z).2.2.1 x c e rfl) ho (I.freeC x c e)
  · obtain ⟨e, n, ne, nf, d⟩ := I.pin p hp
    have nch : p.1 ∉ ch := fun z => (hch p.1 z).2.2.2 p hp rfl
    exact ⟨keep p.1 p.2 ne nf nch e n, free p.1 p.2 nch e n, ne, nf, d⟩
/-- .. where the frame's own object is kept too -/
theorem Inv.un {t' : Nat} (I : Inv X pins σ H s) (u : Un X.fs [] H H' s.heap h') (hok : HOk X.prog X.w H' h') : Inv X pins σ H' { s with heap := h', toks := t' } := by
  obtain ⟨m, ⟨o, es, ep, ho, r⟩, _⟩ := id I.loc
  obtain ⟨sl, hL⟩ := u.any ho I.free (by simp)
  exact I.step (g' := s.gens) (d' := s.drawn) (ch := []) (fun _ z => nomatch z) (fun b o _ hb _ e n => u.keep b o e n hb (by simp)) (fun b o _ hb _ e n => u.slot b o e n hb (by simp)) (fun b o _ e n => u.free b o e n (by simp)) (fun b o _ e => u.there b o e (by simp)) u.tups u.frzs u.tbls (fun m' hm => by
    obtain ⟨o', es', ep', ho', r'⟩ := hm
    rw [ho] at ho'; cases ho'
    exact ⟨_, es', ep', hL, r'⟩) hok I.bare
/-- behind a call (or a comprehension's block): the slots of this frame may have changed too, the records at ch may have turned -/
theorem Inv.call {g' : Array GenState} {t' : Nat} {d' : Drawn} {ch : List Addr} (I : Inv X pins σ H s) (u : Un (frs X.stack) ch H H' s.heap h') (hok : HOk X.prog X.w H' h') (hg : AllBare g')
    (hch : ∀ b ∈ ch, (b ∈ X.ex ∨ X.s₀.heap.objs.size ≤ b) ∧ b ≠ X.env.locals ∧ (∀ x c, X.env.cells.lookup x = some c → c ≠ b) ∧ ∀ p ∈ X.pn ++ pins, p.1 ≠ b) :
    Inv X pins σ H' { s with heap := h', gens := g', drawn := d', toks := t' } := by
  obtain ⟨m, ⟨o, es, ep, ho, r⟩, _⟩ := id I.loc
  obtain ⟨sl, hL⟩ := u.any ho I.free fun z => (hch _ z).2.1 rfl
  exact I.step (ch := ch) hch (fun b o hL hb hc e n => u.keep b o e n (fun z => (List.mem_cons.mp (I.stkSub b z)).elim hL hb) hc) (fun b o _ _ hc e n => u.any e n hc) (fun b o hc e n => u.free b o e n hc) (fun b o hc e => u.there b o e hc) u.tups u.frzs u.tbls (fun m' hm => by
    obtain ⟨o', es', ep', ho', r'⟩ := hm
    rw [ho] at ho'; cases ho'
    exact ⟨_, es', ep', hL, r'⟩) hok hg
/-- an untracked record of ours (an iterator) has turned -/
theorem Inv.turned {t' : Nat} {it : Addr} (I : Inv X pins σ H s) (k : ∀ b o, b ≠ it → s.heap.get? b = some o → h'.get? b = some o) (hn : H it = none) (hL : it ≠ X.env.locals)
    (h1 : it ∈ X.ex ∨ X.s₀.heap.objs.size ≤ it) (h2 : ∀ x c, X.env.cells.lookup x = some c → c ≠ it) (h3 : ∀ p ∈ X.pn ++ pins, p.1 ≠ it) : Inv X pins σ H { s with heap := h', toks := t' } := by
  have nit : ∀ b u, H b = some u → b ≠ it := fun b u e z => by rw [z, hn] at e; cases e
  refine I.step (g' := s.gens) (d' := s.drawn) (ch := [it]) (fun b hb => ?_) (fun b o _ _ hc e _ => k b o (fun z => hc (by simp [z])) e) (fun b o _ _ hc e _ => ⟨o.slots, k b o (fun z => hc (by simp [z])) e⟩) (fun _ _ _ _ n => n)
    (fun b o hc e => ⟨o, k b o (fun z => hc (by simp [z])) e⟩) (fun _ _ e => e) (fun _ _ _ e => e) (fun b ps e => ⟨#[], by rw [e]; simp⟩) (fun m hm => ?_) (fun b u e => ?_) I.bare
  · have e : b = it := by simpa using hb
    subst e
    exact ⟨h1, hL, h2, h3⟩
  · obtain ⟨o, es, ep, ho, r⟩ := hm
    exact ⟨o, es, ep, k _ o (Ne.symm hL) ho, r⟩
  · refine (I.hok b u e).stay (fun c v hc q => k c v ?_ q) (fun _ q => q) fun _ _ q => q
    rcases hc with z | z
    · rw [z]; exact nit b u e
    · exact nit c _ z
theorem Inv.tok (I : Inv X pins σ H s) (t : Nat) : Inv X pins σ H { s with toks := t } := I.un (h' := s.heap) (t' := t) Un.refl I.hok
/-- all objects kept -/
theorem Inv.kept {t' : Nat} (I : Inv X pins σ H s) (k : ∀ b u, s.heap.get? b = some u → h'.get? b = some u) : Inv X pins σ H { s with heap := h', toks := t' } := I.un (Un.kept k) (I.hok.kept k)
/-- a new object laid and tracked -/
theorem Inv.laid {a : Addr} {o : HO} {t' : Nat} (I : Inv X pins σ H s) (k : ∀ b u, s.heap.get? b = some u → h'.get? b = some u) (hp : s.heap.objs.size ≤ a) (new : ObjOk X.prog X.w (upd H a o) h' a o) :
    Inv X pins σ (upd H a o) { s with heap := h', toks := t' } := I.un (Un.laid k hp (I.hok.fresh hp)) (I.hok.laid k hp new)
/-- an object written -/
theorem Inv.write {x e : Addr} {o : HO} {t' : Nat} (I : Inv X pins σ H s) (mu : Mut (H x)) (he : e = x ∨ H e = some (.own x)) (k : ∀ b u, b ≠ e → s.heap.get? b = some u → h'.get? b = some u) (heo : ∃ u, h'.get? e = some u)
    (new : ObjOk X.prog X.w (upd H x o) h' x o) : Inv X pins σ (upd H x o) { s with heap := h', toks := t' } := I.un (Un.write mu he k heo) (I.hok.write mu he k heo new)
theorem Inv.pins_of {pins' : List (Addr × Obj)} (I : Inv X pins σ H s) (h : ∀ p ∈ pins', s.heap.get? p.1 = some p.2 ∧ H p.1 = none ∧ p.1 ≠ X.env.locals ∧ p.1 ∉ X.fs ∧ ∀ v, p.2.data ≠ .cell v) : Inv X pins' σ H s :=
  ⟨I.ok, I.os, I.bare, I.base, I.loc, I.cell, I.free, I.freeC, fun p hp => (List.mem_append.mp hp).elim (fun z => I.pin p (List.mem_append_left _ z)) (h p), I.hok, I.len⟩

theorem nodup_ix {N : List Str} (hN : N.Nodup) {i j : Nat} {x : Str} (a : N[i]? = some x) (b : N[j]? = some x) : i = j := by
  obtain ⟨h1, e1⟩ := List.getElem?_eq_some_iff.mp a
  obtain ⟨h2, e2⟩ := List.getElem?_eq_some_iff.mp b
  exact (List.getElem_inj hN).mp (e1.trans e2.symm)

/-- a name is stored; what changed -/
theorem store_ok2 {M : Model} {A : Around} {E : Value → Shared → Prop} {i : Nat} {x : Str} {v : V} {u : Value} {Q : Unit → Shared → Prop} (I : Inv X pins σ H s) (hN : X.N.Nodup) (hi : X.N[i]? = some x) (hx : Loc X.env.scope x) (r : RelV v u)
    (h : ∀ s', Inv X pins (σ.set i (some v)) H s' → (∃ a, Heap.SameBut a s.heap s'.heap ∧ (a = X.env.locals ∨ X.env.cells.lookup x = some a)) → Q () s') (hf : X.fn x = true ∨ X.env.scope.names.lookup x = some .local := by first | exact .inl rfl | exact .inr rfl | assumption) : wpAny M A (storeName X.env x u) Q E s := by
  obtain ⟨m, hn, hl⟩ := id I.loc
  have hcls : (X.env.scope.kind == .class || (X.env.scope.kind == .module && X.env.locals != X.env.globals)) = false := by rw [I.ok.kind]; rfl
  have hiσ : i < σ.length := by rw [I.len]; exact (List.getElem?_eq_some_iff.mp hi).1
  have cne := I.cne
  have tracked : ∀ {a : Addr} {h' : Heap}, (∃ o, s.heap.get? a = some o ∧ H a = none) → Heap.SameBut a s.heap h' → HOk X.prog X.w H h' := fun {a h'} ha hs b ob e => by
    obtain ⟨_, _, hfree⟩ := ha
    refine (I.hok b ob e).stay (fun c w' hc q => (hs.2 c ?_).trans q) (fun _ q => q) fun _ _ q => q
    rintro rfl
    rcases hc with rfl | hc
    · rw [hfree] at e; cases e
    · rw [hfree] at hc; cases hc
  rcases hx with hk | hk
  · refine wpAny_storeName_local hk hn (fun h' hn' hs => ?_) hcls
    obtain ⟨oL, _, _, hoL, _⟩ := id hn
    refine h _ ⟨I.ok, I.os, I.bare, ⟨fun b o e n hb hx => ?_, fun b o e n hb hx => ?_, I.base.free, fun b o e hx => ?_, I.base.tups, I.base.frzs, I.base.tbls⟩, ⟨_, hn', fun j y v' e1 e2 e3 => ?_⟩, fun y c e => ?_, I.free, I.freeC, fun p hp => ?_, tracked ⟨oL, hoL, I.free⟩ hs, by simpa using I.len⟩ ⟨_, hs, .inl rfl⟩
    · exact (hs.2 b (Nat.ne_of_lt (Nat.lt_of_lt_of_le (Heap.lt_size e) I.ok.above))).trans (I.base.keep b o e n hb hx)
    · obtain ⟨sl, e1⟩ := I.base.slot b o e n hb hx
      exact ⟨sl, (hs.2 b (Nat.ne_of_lt (Nat.lt_of_lt_of_le (Heap.lt_size e) I.ok.above))).trans e1⟩
    · obtain ⟨o', e1⟩ := I.base.there b o e hx
      exact ⟨o', (hs.2 b (Nat.ne_of_lt (Nat.lt_of_lt_of_le (Heap.lt_size e) I.ok.above))).trans e1⟩
    · by_cases hj : j = i
      · subst hj
        rw [hi] at e1; cases e1
        rw [List.getElem?_set_self hiσ] at e2
        cases e2
        exact ⟨u, r, .inl ⟨hk, by simp⟩⟩
      · rw [List.getElem?_set_ne (Ne.symm hj)] at e2
        obtain ⟨u', r', q⟩ := hl j y v' e1 e2 e3
        refine ⟨u', r', ?_⟩
        rcases q with ⟨k, e⟩ | ⟨k, c, e, z⟩
        · refine .inl ⟨k, ?_⟩
          have : y ≠ x := fun e => hj (nodup_ix hN e1 (e ▸ hi))
          simp [this, e]
        · exact .inr ⟨k, c, e, z.sameBut hs (cne y c e)⟩
    · obtain ⟨w', z⟩ := I.cell y c e
      exact ⟨w', z.sameBut hs (cne y c e)⟩
    · obtain ⟨e, n, ne, nf, d⟩ := I.pin p hp
      exact ⟨(hs.2 p.1 ne).trans e, n, ne, nf, d⟩
  · have hfn : X.fn x = true := by
      rcases hf with z | z
      · exact z
      · rw [z] at hk; cases hk
    obtain ⟨c, hc⟩ := I.ok.has x (.inl hk)
    obtain ⟨w', z⟩ := I.cell x c hc
    refine wpAny_storeName_cell I.ok.kind hk hc z (fun h' hc' hs => ?_)
    obtain ⟨oc, hoc, hocd⟩ := id z
    refine h { s with heap := h' } ⟨I.ok, I.os, I.bare, ⟨fun b o e n hb hx => ?_, fun b o e n hb hx => ?_, I.base.free, fun b o e hx => ?_, I.base.tups, I.base.frzs, I.base.tbls⟩, ⟨m, hn.sameBut hs (Ne.symm (cne x c hc)), fun j y v' e1 e2 e3 => ?_⟩, fun y c' e => ?_, I.free, I.freeC, fun p hp => ?_, tracked ⟨oc, hoc, I.freeC x c hc⟩ hs, by simpa using I.len⟩ ⟨c, hs, .inr hc⟩
    · exact (hs.2 b (Nat.ne_of_lt (Nat.lt_of_lt_of_le (Heap.lt_size e) (I.ok.cab x c hfn hc)))).trans (I.base.keep b o e n hb hx)
    · obtain ⟨sl, e1⟩ := I.base.slot b o e n hb hx
      exact ⟨sl, (hs.2 b (Nat.ne_of_lt (Nat.lt_of_lt_of_le (Heap.lt_size e) (I.ok.cab x c hfn hc)))).trans e1⟩
    · obtain ⟨o', e1⟩ := I.base.there b o e hx
      exact ⟨o', (hs.2 b (Nat.ne_of_lt (Nat.lt_of_lt_of_le (Heap.lt_size e) (I.ok.cab x c hfn hc)))).trans e1⟩
    · by_cases hj : j = i
      · subst hj
        rw [hi] at e1; cases e1
        rw [List.getElem?_set_self hiσ] at e2
        cases e2
        exact ⟨u, r, .inr ⟨.inl hk, c, hc, hc'⟩⟩
      · rw [List.getElem?_set_ne (Ne.symm hj)] at e2
        obtain ⟨u', r', q⟩ := hl j y v' e1 e2 e3
        refine ⟨u', r', ?_⟩
        rcases q with q | ⟨k, c', e, z'⟩
        · exact .inl q
        · refine .inr ⟨k, c', e, z'.sameBut hs ?_⟩
          rintro rfl
          exact hj (nodup_ix hN e1 (I.ok.inj _ _ _ e hc ▸ hi))
    · by_cases hcc : c' = c
      · subst hcc; exact ⟨_, hc'⟩
      · obtain ⟨w2, z2⟩ := I.cell y c' e
        exact ⟨w2, z2.sameBut hs hcc⟩
    · obtain ⟨e, n, ne, nf, d⟩ := I.pin p hp
      refine ⟨(hs.2 p.1 ?_).trans e, n, ne, nf, d⟩
      intro q
      rw [q, hoc] at e
      have q' : oc = p.2 := Option.some.inj e
      exact d w' (by rw [← q']; exact hocd)
theorem store_ok {M : Model} {A : Around} {E : Value → Shared → Prop} {i : Nat} {x : Str} {v : V} {u : Value} {Q : Unit → Shared → Prop} (I : Inv X pins σ H s) (hN : X.N.Nodup) (hi : X.N[i]? = some x) (hx : Loc X.env.scope x) (r : RelV v u)
    (h : ∀ s', Inv X pins (σ.set i (some v)) H s' → Q () s') (hf : X.fn x = true ∨ X.env.scope.names.lookup x = some .local := by first | exact .inl rfl | exact .inr rfl | assumption) : wpAny M A (storeName X.env x u) Q E s :=
  store_ok2 I hN hi hx r (fun s' I' _ => h s' I') hf
/-- behind a call or a block, the state as it is -/
theorem Inv.call' {s' : Shared} {ch : List Addr} (I : Inv X pins σ H s) (ho : s'.os = s.os) (u : Un (frs X.stack) ch H H' s.heap s'.heap) (hok : HOk X.prog X.w H' s'.heap) (hg : AllBare s'.gens)
    (hch : ∀ b ∈ ch, (b ∈ X.ex ∨ X.s₀.heap.objs.size ≤ b) ∧ b ≠ X.env.locals ∧ (∀ x c, X.env.cells.lookup x = some c → c ≠ b) ∧ ∀ p ∈ X.pn ++ pins, p.1 ≠ b) : Inv X pins σ H' s' := by
  obtain ⟨h', g', d', t', o'⟩ := s'
  have e : o' = s.os := ho
  subst e
  exact I.call (g' := g') (t' := t') (d' := d') u hok hg hch
end

/-! ### the judgements -/
/-- an exception: its class, its own dict's address (where it has one), the abstract heap behind it -/
abbrev XK := Value → Option Addr → Hp → Prop
abbrev St := List (Option V)
abbrev VK := V → Hp → Prop
/-- an expression's reading; a test's; an argument list's -/
abbrev TE := St → Hp → VK → Prop
abbrev TT := St → Hp → (Bool → Hp → Prop) → Prop
abbrev TA := St → Hp → (List V → Hp → Prop) → Prop
/-- what is wanted behind a statement -/
structure Ends where
  nx : St → Hp → Prop
  rt : VK
  bk : St → Hp → Prop := fun _ _ => False
  ct : St → Hp → Prop := fun _ _ => False
abbrev TS := Ends → St → Hp → Prop

def EP (X : Cx) (pins : List (Addr × Obj)) (σ : St) (Q : VK) (u : Value) (s' : Shared) : Prop := ∃ v H', Inv X pins σ H' s' ∧ RelV v u ∧ Q v H'
def TP (X : Cx) (pins : List (Addr × Obj)) (σ : St) (Q : Bool → Hp → Prop) (b : Bool) (s' : Shared) : Prop := ∃ H', Inv X pins σ H' s' ∧ Q b H'
def AP (X : Cx) (pins : List (Addr × Obj)) (σ : St) (Q : List V → Hp → Prop) (us : List Value) (s' : Shared) : Prop := ∃ vs H', Inv X pins σ H' s' ∧ Vals vs us ∧ Q vs H'
def SP (X : Cx) (pins : List (Addr × Obj)) (D : Ends) (f : Flow) (s' : Shared) : Prop :=
  match f with
  | .next => ∃ σ' H', Inv X pins σ' H' s' ∧ D.nx σ' H'
  | .brk => ∃ σ' H', Inv X pins σ' H' s' ∧ D.bk σ' H'
  | .cont => ∃ σ' H', Inv X pins σ' H' s' ∧ D.ct σ' H'
  | .ret u => ∃ v σ' H', Inv X pins σ' H' s' ∧ RelV v u ∧ D.rt v H'

def PE (X : Cx) (e : Expr) (t : TE) : Prop :=
  ∀ (pins : List (Addr × Obj)) (s : Shared) (σ : St) (H : Hp) (Q : VK), Inv X pins σ H s → t σ H Q → wpAny (model X.prog X.w) X.A (eval e X.env) (EP X pins σ Q) X.xe s
def PT (X : Cx) (e : Expr) (t : TT) : Prop :=
  ∀ (pins : List (Addr × Obj)) (s : Shared) (σ : St) (H : Hp) (Q : Bool → Hp → Prop), Inv X pins σ H s → t σ H Q → wpAny (model X.prog X.w) X.A (isTrue e X.env (eval e X.env)) (TP X pins σ Q) X.xe s
/-- a test whatever its 'whole' is (and, or) -/
def PW (X : Cx) (e : Expr) (t : TT) : Prop :=
  ∀ (whole : Sem Value) (pins : List (Addr × Obj)) (s : Shared) (σ : St) (H : Hp) (Q : Bool → Hp → Prop), Inv X pins σ H s → t σ H Q → wpAny (model X.prog X.w) X.A (isTrue e X.env whole) (TP X pins σ Q) X.xe s
theorem PW.pt {X : Cx} {e : Expr} {t : TT} (h : PW X e t) : PT X e t := h _
/-- an argument list (no star), from the left -/
def PA (X : Cx) (es : List Expr) (t : TA) : Prop :=
  ∀ (pos : Pos) (pins : List (Addr × Obj)) (s : Shared) (σ : St) (H : Hp) (Q : List V → Hp → Prop), Inv X pins σ H s → t σ H Q → wpAny (model X.prog X.w) X.A (spliced (backTo pos (starEach es X.env))) (AP X pins σ Q) X.xe s
def PS (X : Cx) (st : Stmt) (t : TS) : Prop :=
  ∀ (pins : List (Addr × Obj)) (s : Shared) (σ : St) (H : Hp) (D : Ends), Inv X pins σ H s → t D σ H → wpAny (model X.prog X.w) X.A (exec st X.env) (SP X pins D) X.xe s
def PSs (X : Cx) (st : List Stmt) (t : TS) : Prop :=
  ∀ (pins : List (Addr × Obj)) (s : Shared) (σ : St) (H : Hp) (D : Ends), Inv X pins σ H s → t D σ H → wpAny (model X.prog X.w) X.A (execs st X.env) (SP X pins D) X.xe s
/-- weaken the end -/
theorem thn {α : Type} {t : Sem α} {Q Q' : α → Shared → Prop} {M : Model} {A : Around} {E : Value → Shared → Prop} {s : Shared} (h : wpAny M A t Q E s) (hQ : ∀ a s, Q a s → Q' a s) : wpAny M A t Q' E s := wpAny_mono h hQ fun _ _ x => x
end L2

namespace L2
open PySem PySem.Spec PyProof.Rows
section
variable {X : Cx}


/-! ### names and constants -/
def tVar (i : Nat) : TE := fun σ H Q => ∃ v, σ[i]? = some (some v) ∧ Q v H
def tC (v : V) : TE := fun _ H Q => Q v H
theorem pe_var {i : Nat} {x : Str} {pos : Pos} (hN : X.N[i]? = some x) (hv : Vis X.env.scope x) (hd : (x == ("__debug__" : Str)) = false := by decide) (hcd : (x == ("__classdict__" : Str)) = false := by decide) : PE X (.Name x pos) (tVar i) := by
  intro pins s σ H Q I h
  obtain ⟨v, e, h⟩ := h
  obtain ⟨m, hn, hl⟩ := I.loc
  obtain ⟨u, r, l⟩ := hl i x v hN e hv
  have fin : EP X pins σ Q u s := ⟨v, H, I, r, h⟩
  rcases l with ⟨hk, hm⟩ | ⟨hk, c, hc, hcell⟩
  · exact wpAny_Name (wpAny_loadName_local I.ok.kind hk hn hm fin) hd
  · rcases hk with hk | hk
    · exact wpAny_Name (wpAny_loadName_cell I.ok.kind hk hc hcell fin) hd
    · exact wpAny_Name (wpAny_loadName_free I.ok.kind hk hc hcell fin hcd) hd
theorem pe_int {i j pos} : PE X (.Constant (.int i) j pos) (tC (.int i)) := fun _ _ _ H _ I h => wpAny_Constant_int ⟨.int i, H, I.tok _, ⟨_, rfl⟩, h⟩
theorem pe_bl {b j pos} : PE X (.Constant (.bool b) j pos) (tC (.bl b)) := fun _ _ _ H _ I h => Constant_bool ⟨.bl b, H, I, rfl, h⟩
theorem pe_non {j pos} : PE X (.Constant .none j pos) (tC .non) := fun _ _ _ H _ I h => Constant_none ⟨.non, H, I, rfl, h⟩

/-- a global name of the def -/
def Gl (X : Cx) (x : Str) : Prop := X.env.kindOf x = some .globalImplicit
theorem ld_glob {E : Value → Shared → Prop} {pins : List (Addr × Obj)} {s : Shared} {σ : St} {H : Hp} {x : Str} {u : Value} {pos : Pos} {Q : Value → Shared → Prop} (I : Inv X pins σ H s) (hg : Gl X x) (hm : X.mg x = some u) (h : Q u s)
    (hd : (x == ("__debug__" : Str)) = false := by decide) : wpAny (model X.prog X.w) X.A (eval (.Name x pos) X.env) Q E s :=
  Calls.Name_function_global I.ok.kind hg (Calls.loadGlobal_global (by rw [I.ok.glob]; exact I.mod.glob.keeps I.bk) hm h) hd
theorem ld_blt {E : Value → Shared → Prop} {pins : List (Addr × Obj)} {s : Shared} {σ : St} {H : Hp} {x : Str} {u : Value} {pos : Pos} {Q : Value → Shared → Prop} (I : Inv X pins σ H s) (hg : Gl X x) (hm : X.mg x = none) (hv : bootBuiltins x = some u) (h : Q u s)
    (hn : x ≠ "__name__" := by decide) (hd : (x == ("__debug__" : Str)) = false := by decide) : wpAny (model X.prog X.w) X.A (eval (.Name x pos) X.env) Q E s := by
  obtain ⟨mb, h1, h2⟩ := I.mod.blt
  exact Calls.Name_function_global I.ok.kind hg (Calls.loadGlobal_builtin (by rw [I.ok.glob]; exact I.mod.glob.keeps I.bk) hm (by rw [I.ok.blt]; exact h1.keeps I.bk) ((h2 x hn).trans hv) h) hd
/-- a module's constant, a class, a function, as a value -/
theorem pe_glob {x : Str} {v : V} {u : Value} {pos : Pos} (hg : Gl X x) (hm : X.mg x = some u) (r : RelV v u) (hd : (x == ("__debug__" : Str)) = false := by decide) : PE X (.Name x pos) (tC v) :=
  fun _ _ _ H _ I h => ld_glob I hg hm ⟨v, H, I, r, h⟩ hd
theorem pe_bltn {x : Str} {v : V} {u : Value} {pos : Pos} (hg : Gl X x) (hm : X.mg x = none) (hv : bootBuiltins x = some u) (r : RelV v u) (hn : x ≠ "__name__" := by decide) (hd : (x == ("__debug__" : Str)) = false := by decide) : PE X (.Name x pos) (tC v) :=
  fun _ _ _ H _ I h => ld_blt I hg hm hv ⟨v, H, I, r, h⟩ hn hd

/-! ### arithmetic -/
variable {a b : Expr} {ta tb : TE} {pos : Pos}

/-! ### comparisons -/
def PC (X : Cx) (op : CmpOp) (a b : Expr) (t : TE) : Prop :=
  ∀ (pins : List (Addr × Obj)) (s : Shared) (σ : St) (H : Hp) (Q : VK), Inv X pins σ H s → t σ H Q →
    wpAny (model X.prog X.w) X.A (eval a X.env) (fun v s₁ => wpAny (model X.prog X.w) X.A (eval b X.env) (fun u s₂ => wpAny (model X.prog X.w) X.A (compareOp op v u) (EP X pins σ Q) X.xe s₂) X.xe s₁) X.xe s
/-- a comparison as a value, as a test -/
def tB (t : TE) : TT := fun σ H Q => t σ H fun x H1 => ∃ c, x = .bl c ∧ Q c H1
/-- an expression whose value is a bool, as a test -/
theorem pt_val {e : Expr} {t : TE} (h : PE X e t) (he : ∀ whole, isTrue e X.env whole = (do let v ← whole; standAt e.pos; holding [v] (truthy v)) := by intro _; rfl) : PT X e (tB t) := by
  intro pins s σ H Q I hw
  refine isTrue_plain (thn (h pins s σ H _ I hw) fun v s1 ⟨x, H1, I1, r1, q1⟩ => ?_) (he _)
  obtain ⟨d, rfl, q⟩ := q1
  cases r1
  exact wpAny_truthy_bool ⟨H1, I1, q⟩

/-! ### and, or, not -/
variable {tA tB' : TT} {rest : List Expr}
def tAnd (t u : TT) : TT := fun σ H Q => t σ H fun c H1 => if c = true then u σ H1 Q else Q false H1
def tOr (t u : TT) : TT := fun σ H Q => t σ H fun c H1 => if c = true then Q true H1 else u σ H1 Q
def tNot (t : TT) : TT := fun σ H Q => t σ H fun c H1 => Q (!c) H1
theorem pw_and1 (ha : PT X a tA) : PW X (.BoolOp .And [a] pos) tA := by
  intro wh pins s σ H Q I h
  refine isTrue_and (thn (ha pins s σ H Q I h) fun c s1 e => ?_)
  cases c with
  | true => exact isTrue_and_nil e
  | false => exact e
theorem pw_or1 (ha : PT X a tA) : PW X (.BoolOp .Or [a] pos) tA := by
  intro wh pins s σ H Q I h
  refine isTrue_or (thn (ha pins s σ H Q I h) fun c s1 e => ?_)
  cases c with
  | false => exact isTrue_or_nil e
  | true => exact e
theorem pw_and (ha : PT X a tA) (hb : PW X (.BoolOp .And (b :: rest) pos) tB') : PW X (.BoolOp .And (a :: b :: rest) pos) (tAnd tA tB') := by
  intro wh pins s σ H Q I h
  refine isTrue_and (thn (ha pins s σ H _ I h) fun c s1 ⟨H1, I1, q1⟩ => ?_)
  cases c with
  | true => exact hb wh pins s1 σ H1 Q I1 q1
  | false => exact ⟨H1, I1, q1⟩
theorem pw_or (ha : PT X a tA) (hb : PW X (.BoolOp .Or (b :: rest) pos) tB') : PW X (.BoolOp .Or (a :: b :: rest) pos) (tOr tA tB') := by
  intro wh pins s σ H Q I h
  refine isTrue_or (thn (ha pins s σ H _ I h) fun c s1 ⟨H1, I1, q1⟩ => ?_)
  cases c with
  | true => exact ⟨H1, I1, q1⟩
  | false => exact hb wh pins s1 σ H1 Q I1 q1
theorem pt_not (ha : PT X a tA) : PT X (.UnaryOp .Not a pos) (tNot tA) := by
  intro pins s σ H Q I h
  exact isTrue_not (ha pins s σ H (fun c H1 => Q (!c) H1) I h)
/-- .. as values (bools) -/
def tAndV (ta tb : TE) : TE := fun σ H Q => ta σ H fun x H1 => ∃ c, x = .bl c ∧ if c = true then tb σ H1 Q else Q (.bl false) H1
def tNotV (ta : TE) : TE := fun σ H Q => ta σ H fun x H1 => ∃ c, x = .bl c ∧ Q (.bl (!c)) H1
theorem pe_one {op} {t : TE} (h : PE X a t) : PE X (.BoolOp op [a] pos) t := fun pins s σ H Q I hw => BoolOp_one (h pins s σ H Q I hw)
theorem pe_and (ha : PE X a ta) (hb : PE X (.BoolOp .And (b :: rest) pos) tb) : PE X (.BoolOp .And (a :: b :: rest) pos) (tAndV ta tb) := by
  intro pins s σ H Q I h
  refine BoolOp_and (thn (ha pins s σ H _ I h) fun v s1 ⟨x, H1, I1, r1, q1⟩ => ?_)
  obtain ⟨c, rfl, q1⟩ := q1
  cases r1
  refine wpAny_truthy_bool ?_
  cases c with
  | true => exact hb pins s1 σ H1 Q I1 q1
  | false => exact ⟨.bl false, H1, I1, rfl, q1⟩
theorem pe_not (ha : PE X a ta) : PE X (.UnaryOp .Not a pos) (tNotV ta) := by
  intro pins s σ H Q I h
  refine UnaryOp_ (thn (ha pins s σ H _ I h) fun v s1 ⟨x, H1, I1, r1, q1⟩ => ?_)
  obtain ⟨c, rfl, q1⟩ := q1
  cases r1
  exact not_of (wpAny_truthy_bool ⟨.bl (!c), H1, I1, rfl, q1⟩)
end
end L2

namespace L2
open PySem PySem.Spec PyProof.Rows

/-! ### a list, a tuple that is read: tracked, frozen, or an object of the module -/
def SqL (K : PySem.W.Frag) (H : Hp) (a : Addr) (xs : List V) : Prop :=
  Rd H a (.lst xs) ∨
    ∃ (o : Obj) (its : Array Value) (n : Nat), K.lookup a = some o ∧ o.cls = .type "list" ∧ o.dict = none ∧ o.data = .seq its n ∧ its.size ≤ sizeLine ∧ Vals xs its.toList
def SqT (K : PySem.W.Frag) (H : Hp) (a : Addr) (xs : List V) : Prop :=
  Rd H a (.tup xs) ∨
    ∃ (o : Obj) (its : Array Value) (n : Nat), K.lookup a = some o ∧ o.cls = .type "tuple" ∧ o.data = .seq its n ∧ its.size ≤ sizeLine ∧ Vals xs its.toList
def absV : Value → Option V
  | .none => some .non
  | .bool b => some (.bl b)
  | .int i _ => some (.int i)
  | .str x _ => some (.str x)
  | .bytes b _ => some (.byt b)
  | .float b _ => some (.flt b)
  | .ref a => some (.ref a)
  | .type n => some (.ty n)
  | _ => none
theorem RelV.abs {x : V} {u : Value} (r : RelV x u) : absV u = some x := by
  cases x with
  | non => cases r; rfl
  | bl _ => cases r; rfl
  | int _ => obtain ⟨t, rfl⟩ := r; rfl
  | str _ => obtain ⟨t, rfl⟩ := r; rfl
  | byt _ => obtain ⟨t, rfl⟩ := r; rfl
  | flt _ => obtain ⟨t, rfl⟩ := r; rfl
  | ref _ => cases r; rfl
  | ty _ => cases r; rfl
theorem RelV.inj {x y : V} {u : Value} (r : RelV x u) (q : RelV y u) : x = y := Option.some.inj (r.abs.symm.trans q.abs)
theorem Vals.inj : ∀ {xs ys : List V} {us : List Value}, Vals xs us → Vals ys us → xs = ys
  | _, _, _, .nil, .nil => rfl
  | _, _, _, .cons r t, .cons r' t' => by rw [r.inj r', Vals.inj t t']
section
variable {X : Cx} {pins : List (Addr × Obj)} {σ : St} {H : Hp} {s : Shared} {a : Addr} {xs ys : List V}
theorem SqL.of {K : PySem.W.Frag} (h : H a = some (.lst xs)) : SqL K H a xs := .inl (.inl h)
theorem SqT.of {K : PySem.W.Frag} (h : H a = some (.tup xs)) : SqT K H a xs := .inl (.inl h)
theorem Inv.list (I : Inv X pins σ H s) (h : SqL X.K H a xs) : ∃ its : List Value, Vals xs its ∧ PlainL s.heap a its.toArray ∧ xs.length ≤ sizeLine := by
  rcases h with h | ⟨o, its, n, hk, hc, hd, hs, hz, r⟩
  · obtain ⟨z, its, n, r, e⟩ := h.ok I.hok
    exact ⟨its, r, ⟨_, n, e, rfl, rfl, rfl⟩, z⟩
  · refine ⟨its.toList, r, ⟨o, n, I.kIn a o hk, hc, hd, by simpa using hs⟩, ?_⟩
    have e := r.length
    simp only [Array.length_toList] at e
    omega
theorem Inv.tuple (I : Inv X pins σ H s) (h : SqT X.K H a xs) : ∃ its : List Value, Vals xs its ∧ IsTup s.heap a its.toArray ∧ xs.length ≤ sizeLine := by
  rcases h with h | ⟨o, its, n, hk, hc, hs, hz, r⟩
  · obtain ⟨z, its, r, p⟩ := h.ok I.hok
    exact ⟨its, r, p, z⟩
  · refine ⟨its.toList, r, ⟨o, I.kIn a o hk, hc, n, by simpa using hs⟩, ?_⟩
    have e := r.length
    simp only [Array.length_toList] at e
    omega
theorem Inv.list_inj (I : Inv X pins σ H s) (h : SqL X.K H a xs) (h' : SqL X.K H a ys) : xs = ys := by
  obtain ⟨its, r, ⟨o, n, e, _, _, d⟩, _⟩ := I.list h
  obtain ⟨its', r', ⟨o', n', e', _, _, d'⟩, _⟩ := I.list h'
  rw [e] at e'; cases e'
  rw [d] at d'
  injection d' with d1 _
  have : its = its' := by simpa using congrArg Array.toList d1
  subst this
  exact r.inj r'
theorem Inv.tuple_inj (I : Inv X pins σ H s) (h : SqT X.K H a xs) (h' : SqT X.K H a ys) : xs = ys := by
  obtain ⟨its, r, ⟨o, e, _, n, d⟩, _⟩ := I.tuple h
  obtain ⟨its', r', ⟨o', e', _, n', d'⟩, _⟩ := I.tuple h'
  rw [e] at e'; cases e'
  rw [d] at d'
  injection d' with d1 _
  have : its = its' := by simpa using congrArg Array.toList d1
  subst this
  exact r.inj r'
end

/-! ### another wish about exceptions -/
abbrev Cx.wish (X : Cx) (E : Value → Shared → Prop) : Cx := { X with xe := E }
/-- no exception leaves -/
abbrev Cx.nox (X : Cx) : Cx := X.wish fun _ _ => False
theorem Cx.Ok.wish {X : Cx} (ok : X.Ok) (E : Value → Shared → Prop) : (X.wish E).Ok :=
  ⟨ok.mod, ok.kind, ok.glob, ok.blt, ok.above, ok.inj, ok.has, ok.cab, ok.hd, ok.frames, ok.stk, ok.exf, ok.bs, ok.bsz, ok.noex, ok.exfs, ok.funs, ok.frf⟩
theorem Cx.Ok.unwish {X : Cx} {E : Value → Shared → Prop} (ok : (X.wish E).Ok) : X.Ok :=
  ⟨ok.mod, ok.kind, ok.glob, ok.blt, ok.above, ok.inj, ok.has, ok.cab, ok.hd, ok.frames, ok.stk, ok.exf, ok.bs, ok.bsz, ok.noex, ok.exfs, ok.funs, ok.frf⟩
section
variable {X : Cx} {pins : List (Addr × Obj)} {σ : St} {H : Hp} {s : Shared} {E : Value → Shared → Prop}
theorem Inv.wish (I : Inv X pins σ H s) (E : Value → Shared → Prop) : Inv (X.wish E) pins σ H s := ⟨I.ok.wish E, I.os, I.bare, I.base, I.loc, I.cell, I.free, I.freeC, I.pin, I.hok, I.len⟩
theorem Inv.unwish (I : Inv (X.wish E) pins σ H s) : Inv X pins σ H s := ⟨I.ok.unwish, I.os, I.bare, I.base, I.loc, I.cell, I.free, I.freeC, I.pin, I.hok, I.len⟩
theorem SP.unwish {D : Ends} {f : Flow} {s' : Shared} (h : SP (X.wish E) pins D f s') : SP X pins D f s' := by
  cases f with
  | next => obtain ⟨σ', H', I, q⟩ := h; exact ⟨σ', H', I.unwish, q⟩
  | brk => obtain ⟨σ', H', I, q⟩ := h; exact ⟨σ', H', I.unwish, q⟩
  | cont => obtain ⟨σ', H', I, q⟩ := h; exact ⟨σ', H', I.unwish, q⟩
  | ret u => obtain ⟨v, σ', H', I, r, q⟩ := h; exact ⟨v, σ', H', I.unwish, r, q⟩
theorem PSs.nox {st : List Stmt} {t : TS} (h : PSs X.nox st t) : PSs X st t := fun pins s σ H D I hw =>
  wpAny_mono (h pins s σ H D (I.wish _) hw) (fun _ _ q => q.unwish) fun _ _ z => False.elim z
end

/-! ### blocks and small statements -/
section
variable {X : Cx} {st : Stmt} {rest : List Stmt} {t u : TS} {e : Expr} {te : TE} {pos : Pos}
def tNext : TS := fun D σ H => D.nx σ H
def tSeq (t u : TS) : TS := fun D σ H => t { D with nx := u D } σ H
theorem pss_nil : PSs X [] tNext := fun _ _ σ H _ I h => wpAny_execs_nil ⟨σ, H, I, h⟩
theorem pss_cons (h1 : PS X st t) (h2 : PSs X rest u) : PSs X (st :: rest) (tSeq t u) := by
  intro pins s σ H D I h
  refine wpAny_execs_cons (thn (h1 pins s σ H { D with nx := u D } I h) fun f s1 q => ?_)
  cases f with
  | next =>
    obtain ⟨σ', H', I', q⟩ := q
    exact h2 pins s1 σ' H' D I' q
  | ret v => exact q
  | brk => exact q
  | cont => exact q
theorem pss_one (h1 : PS X st t) : PSs X [st] t := by
  intro pins s σ H D I h
  refine wpAny_execs_cons (thn (h1 pins s σ H D I h) fun f s1 q => ?_)
  cases f with
  | next => exact wpAny_execs_nil q
  | ret v => exact q
  | brk => exact q
  | cont => exact q
/-- in a def's body nothing is shown -/
theorem Inv.quiet {pins : List (Addr × Obj)} {σ : St} {H : Hp} {s : Shared} (I : Inv X pins σ H s) : interactive X.env = false := by simp [interactive, I.ok.kind]
/-- an expression whose value is dropped -/
def tDrop (te : TE) : TS := fun D σ H => te σ H fun _ H1 => D.nx σ H1
theorem ps_expr (he : PE X e te) (hs : swapsWith e none pos.line X.env = pure false := by rfl) : PS X (.Expr e pos) (tDrop te) := by
  intro pins s σ H D I h
  exact wpAny_Expr_any (thn (he pins s σ H _ I h) fun v s1 ⟨x, H1, I1, r1, q1⟩ => ⟨σ, H1, I1, q1⟩) I.quiet hs
def tRet (te : TE) : TS := fun D σ H => te σ H D.rt
theorem ps_ret (he : PE X e te) : PS X (.Return (some e) pos) (tRet te) := by
  intro pins s σ H D I h
  exact wpAny_Return_some (thn (he pins s σ H _ I h) fun v s1 ⟨x, H1, I1, r1, q1⟩ => ⟨x, σ, H1, I1, r1, q1⟩)
def tIfS (c : TT) (t u : TS) : TS := fun D σ H => c σ H fun b H1 => if b = true then t D σ H1 else u D σ H1
theorem ps_if {c : Expr} {a b : List Stmt} {tc : TT} (hc : PT X c tc) (ha : PSs X a t) (hb : PSs X b u) : PS X (.If c a b pos) (tIfS tc t u) := by
  intro pins s σ H D I h
  refine wpAny_If (thn (hc pins s σ H _ I h) fun d s1 ⟨H1, I1, q1⟩ => ?_)
  cases d with
  | true => exact ha pins s1 σ H1 D I1 q1
  | false => exact hb pins s1 σ H1 D I1 q1
end

/-! ### targets -/
abbrev TG := V → St → Hp → (St → Hp → Prop) → Prop
abbrev TGs := List V → St → Hp → (St → Hp → Prop) → Prop
def PG (X : Cx) (target : Expr) (t : TG) : Prop :=
  ∀ (pins : List (Addr × Obj)) (s : Shared) (σ : St) (H : Hp) (v : V) (u : Value) (Q : St → Hp → Prop), Inv X pins σ H s → RelV v u → t v σ H Q →
    wpAny (model X.prog X.w) X.A (assign target X.env u) (fun _ s' => ∃ σ' H', Inv X pins σ' H' s' ∧ Q σ' H') X.xe s
/-- several targets, one after another -/
def PGs (X : Cx) (ts : List Expr) (t : TGs) : Prop :=
  ∀ (pins : List (Addr × Obj)) (s : Shared) (σ : St) (H : Hp) (vs : List V) (us : List Value) (Q : St → Hp → Prop), Inv X pins σ H s → Vals vs us → t vs σ H Q →
    wpAny (model X.prog X.w) X.A (assignInOrder ((assignEach ts X.env).map (·.2)) us) (fun _ s' => ∃ σ' H', Inv X pins σ' H' s' ∧ Q σ' H') X.xe s
/-- o[i] = v, by values -/
abbrev TSet := V → V → V → Hp → (Hp → Prop) → Prop
def PSet (X : Cx) (t : TSet) : Prop :=
  ∀ (pins : List (Addr × Obj)) (s : Shared) (σ : St) (H : Hp) (o i v : V) (ov iv u : Value) (Q : Hp → Prop), Inv X pins σ H s → RelV o ov → RelV i iv → RelV v u → t o i v H Q →
    wpAny (model X.prog X.w) X.A (setItem ov iv u) (fun _ s' => ∃ H', Inv X pins σ H' s' ∧ Q H') X.xe s
/-- a op= b, by values -/
abbrev TIp := V → V → Hp → VK → Prop
def PIp (X : Cx) (op : Operator) (t : TIp) : Prop :=
  ∀ (pins : List (Addr × Obj)) (s : Shared) (σ : St) (H : Hp) (x y : V) (v u : Value) (Q : VK), Inv X pins σ H s → RelV x v → RelV y u → t x y H Q →
    wpAny (model X.prog X.w) X.A (inplaceOp op v u) (EP X pins σ Q) X.xe s
section
variable {X : Cx} {pos : Pos}
def gName (i : Nat) : TG := fun v σ H Q => Q (σ.set i (some v)) H
theorem pg_name {i : Nat} {x : Str} (hN : X.N.Nodup) (hi : X.N[i]? = some x) (hx : Loc X.env.scope x) (hf : X.fn x = true ∨ X.env.scope.names.lookup x = some .local := by first | exact .inl rfl | exact .inr rfl | assumption) : PG X (.Name x pos) (gName i) := by
  intro pins s σ H v u Q I r h
  exact wpAny_assign_Name (store_ok I hN hi hx r (fun s' I' => ⟨_, H, I', h⟩) hf)
def gNil : TGs := fun vs σ H Q => vs = [] ∧ Q σ H
def gCons (t : TG) (u : TGs) : TGs := fun vs σ H Q => ∃ v r, vs = v :: r ∧ t v σ H fun σ' H' => u r σ' H' Q
theorem pgs_nil : PGs X [] gNil := by
  intro pins s σ H vs us Q I r h
  obtain ⟨e, h⟩ := h
  subst e
  cases r
  exact assignInOrder_nil ⟨σ, H, I, h⟩
theorem pgs_cons {e : Expr} {es : List Expr} {t : TG} {u : TGs} (h1 : PG X e t) (h2 : PGs X es u)
    (hs : (assignEach (e :: es) X.env).map (·.2) = assign e X.env :: (assignEach es X.env).map (·.2) := by rfl) : PGs X (e :: es) (gCons t u) := by
  intro pins s σ H vs us Q I r h
  obtain ⟨v, vr, e1, h⟩ := h
  subst e1
  cases r with
  | cons r rr =>
    rw [hs]
    refine assignInOrder_cons (thn (h1 pins s σ H _ _ _ I r h) fun _ s1 ⟨σ1, H1, I1, q1⟩ => ?_)
    exact h2 pins s1 σ1 H1 _ _ Q I1 rr q1
/-- (a, b, ..) = a tuple of that length -/
def gTup (K : PySem.W.Frag) (n : Nat) (t : TGs) : TG := fun v σ H Q => ∃ a xs, v = .ref a ∧ SqT K H a xs ∧ xs.length = n ∧ t xs σ H Q
theorem pg_tup {es : List Expr} {k : Nat} {t : TGs} {n : Nat} (hc : X.calm = true) (h : PGs X es t)
    (hn : (assignEach es X.env).length = n := by rfl) (hst : (assignEach es X.env).findIdx? (·.1) = none := by rfl) : PG X (.Tuple es k pos) (gTup X.K n t) := by
  intro pins s σ H v u Q I r hw
  obtain ⟨a, xs, e1, hq, hl, hw⟩ := hw
  subst e1
  cases r
  obtain ⟨its, rv, ht, hz⟩ := I.tuple hq
  refine assign_Tuple_tuple (I.ok.hd hc) ht (by simp [hn, ← hl, rv.length]) hst fun h' hx => ?_
  have I1 : Inv X pins σ H { s with heap := h' } := I.kept (t' := s.toks) fun b o e => hx b o (Nat.ne_of_lt (Heap.lt_size e)) e
  exact h pins _ σ H xs _ Q I1 (by simpa using rv) hw
/-- target = value -/
def tAsg (te : TE) (g : TG) : TS := fun D σ H => te σ H fun x H1 => g x σ H1 D.nx
/-- name = value -/
theorem ps_set {i : Nat} {x : Str} {e : Expr} {te : TE} {pos' : Pos} (hN : X.N.Nodup) (hi : X.N[i]? = some x) (hx : Loc X.env.scope x) (he : PE X e te) (hs : swapsWith e (some (.Name x pos')) pos.line X.env = pure false := by rfl) (hf : X.fn x = true ∨ X.env.scope.names.lookup x = some .local := by first | exact .inl rfl | exact .inr rfl | assumption) :
    PS X (.Assign [.Name x pos'] e pos) (tAsg te (gName i)) := by
  intro pins s σ H D I h
  refine wpAny_Assign_Name (thn (he pins s σ H _ I h) fun v s1 ⟨y, H1, I1, r1, q1⟩ => ?_) hs
  exact store_ok I1 hN hi hx r1 (fun s2 I2 => ⟨_, H1, I2, q1⟩) hf
/-- o[i], by values -/
def PGet (X : Cx) (t : V → V → Hp → VK → Prop) : Prop :=
  ∀ (pins : List (Addr × Obj)) (s : Shared) (σ : St) (H : Hp) (o i : V) (ov iv : Value) (Q : VK), Inv X pins σ H s → RelV o ov → RelV i iv → t o i H Q →
    wpAny (model X.prog X.w) X.A (getItem ov iv) (EP X pins σ Q) X.xe s
end

/-! ### while -/
section
variable {X : Cx} {pos : Pos}
/-- the invariant W with its measure -/
def tWhile (c : TT) (tb : TS) : TS := fun D σ H => ∃ W : Nat → St → Hp → Prop, (∃ m, W m σ H) ∧ ∀ m σ H, W m σ H →
  c σ H fun b H1 => if b = true then ∃ N : St → Hp → Prop, (∀ σ' H', N σ' H' → ∃ m', m' < m ∧ W m' σ' H') ∧ tb { D with nx := N, ct := N, bk := D.nx } σ H1 else D.nx σ H1
theorem ps_while {c : Expr} {body : List Stmt} {tc : TT} {tb : TS} (hp : PassesOwn (model X.prog X.w) X.A X.env X.xe) (hc : PT X c tc) (hb : PSs X body tb) : PS X (.While c body [] pos) (tWhile tc tb) := by
  intro pins s σ H D I h
  obtain ⟨W, ⟨m0, w0⟩, turn⟩ := h
  refine wpAny_While (codeAny_whileLoop (fun n s' => ∃ σ' H', Inv X pins σ' H' s' ∧ W n σ' H') ?_ m0 ⟨σ, H, I, w0⟩)
  rintro n s1 ⟨σ1, H1, I1, w1⟩
  refine wpAny_passesOwn hp (thn (hc pins s1 σ1 H1 _ I1 (turn n σ1 H1 w1)) fun b s2 ⟨H2, I2, q2⟩ => ?_)
  cases b with
  | true =>
    obtain ⟨N, hN, q2⟩ := q2
    rw [if_pos rfl]
    refine wpAny_passesOwn hp (thn (hb pins s2 σ1 H2 _ I2 q2) fun f s3 q3 => ?_)
    cases f with
    | next =>
      obtain ⟨σ3, H3, I3, n3⟩ := q3
      obtain ⟨m', hm, w3⟩ := hN σ3 H3 n3
      exact ⟨m', hm, σ3, H3, I3, w3⟩
    | cont =>
      obtain ⟨σ3, H3, I3, n3⟩ := q3
      obtain ⟨m', hm, w3⟩ := hN σ3 H3 n3
      exact ⟨m', hm, σ3, H3, I3, w3⟩
    | brk => exact q3
    | ret v => exact q3
  | false =>
    rw [if_neg Bool.false_ne_true]
    exact wpAny_execs_nil ⟨σ1, H2, I2, q2⟩
end

/-! ### what a loop or a comprehension walks -/
/-- at turn i: it yields x (the heap may grow), or it stops -/
structure It where
  go : Nat → Hp → Prop
  yld : Nat → Hp → V → Hp → Prop
  stop : Nat → Hp → Prop
/-- the iterator's own objects may turn: they are not the frame's, not pinned, younger than the entry (or a comprehension's own) -/
def FpOk (X : Cx) (pins : List (Addr × Obj)) (H : Hp) (b : Addr) : Prop :=
  H b = none ∧ b ≠ X.env.locals ∧ b ∉ X.fs ∧ (b ∈ X.ex ∨ X.s₀.heap.objs.size ≤ b) ∧ (∀ x c, X.env.cells.lookup x = some c → c ≠ b) ∧ ∀ p ∈ X.pn ++ pins, p.1 ≠ b
theorem Inv.fpOk {X : Cx} {pins : List (Addr × Obj)} {σ : St} {H H' : Hp} {s : Shared} {b : Addr} (I : Inv X pins σ H s) (hb : s.heap.objs.size ≤ b) (hn : H' b = none) : FpOk X pins H' b := by
  refine ⟨hn, Nat.ne_of_gt (Nat.lt_of_lt_of_le I.lt hb), I.nofs hb, .inr (Nat.le_trans I.sz hb), fun x c e z => ?_, fun p hp z => ?_⟩
  · obtain ⟨v, q⟩ := I.cell x c e
    exact absurd (Nat.lt_of_lt_of_le q.lt (by rw [z]; exact hb)) (Nat.lt_irrefl _)
  · exact absurd (Nat.lt_of_lt_of_le (Heap.lt_size (I.pin p hp).1) (by rw [z]; exact hb)) (Nat.lt_irrefl _)
structure Turn (P : Program) (w : World) (K : PySem.W.Frag) (tg : Expr) (J : It) (fp : List Addr) (it : Addr) (tn : Nat → Heap → Prop) : Prop where
  mem : it ∈ fp
  obj : ∀ i h, tn i h → ∀ b ∈ fp, ∃ o, h.get? b = some o ∧ ∀ v, o.data ≠ .cell v
  keep : ∀ i h h', tn i h → (∀ b ∈ fp, ∀ o, h.get? b = some o → h'.get? b = some o) → tn i h'
  item : ∀ (X : Cx), X.prog = P → X.w = w → X.K = K → X.calm = true → ∀ (i : Nat) (pins : List (Addr × Obj)) (s : Shared) (σ : St) (H : Hp) (E : Value → Shared → Prop), Inv X pins σ H s → (∀ b ∈ fp, FpOk X pins H b) → tn i s.heap → J.go i H →
    wpAny (model P w) X.A (pyNext (.ref it)) (fun r s1 => ∃ u, r = some u ∧
      wpAny (model P w) X.A (letOwnedTupleGo tg (.ref it) u) (fun _ s2 => ∃ x H', Inv X pins σ H' s2 ∧ RelV x u ∧ J.yld i H x H' ∧ tn (i + 1) s2.heap ∧ ∀ b ∈ fp, H' b = none) E s1) E s
  done : ∀ (X : Cx), X.prog = P → X.w = w → X.K = K → X.calm = true → ∀ (i : Nat) (pins : List (Addr × Obj)) (s : Shared) (σ : St) (H : Hp) (E : Value → Shared → Prop), Inv X pins σ H s → (∀ b ∈ fp, FpOk X pins H b) → tn i s.heap → J.stop i H →
    wpAny (model P w) X.A (pyNext (.ref it)) (fun r s1 => r = none ∧ Inv X pins σ H s1) E s
  self : ∀ (A : Around) (i : Nat) (s : Shared) (Q : Value → Shared → Prop) (E : Value → Shared → Prop), tn i s.heap → Q (.ref it) s → wpAny (model P w) A (pyIter (.ref it)) Q E s
abbrev TI := St → Hp → (It → Hp → Prop) → Prop
/-- an iterator has come -/
def PIE (X : Cx) (pins : List (Addr × Obj)) (σ : St) (tg : Expr) (R : It → Hp → Prop) (itv : Value) (s2 : Shared) : Prop :=
  ∃ (it : Addr) (fp : List Addr) (tn : Nat → Heap → Prop) (J : It) (H' : Hp), itv = .ref it ∧ Inv X pins σ H' s2 ∧ Turn X.prog X.w X.K tg J fp it tn ∧ tn 0 s2.heap ∧ (∀ b ∈ fp, FpOk X pins H' b) ∧ R J H'
def PI (X : Cx) (tg iter : Expr) (wi : TI) : Prop :=
  ∀ (pins : List (Addr × Obj)) (s : Shared) (σ : St) (H : Hp) (R : It → Hp → Prop), Inv X pins σ H s → wi σ H R →
    wpAny (model X.prog X.w) X.A (eval iter X.env) (fun v s1 => wpAny (model X.prog X.w) X.A (pyIter v) (PIE X pins σ tg R) X.xe s1) X.xe s

/-- the step ahead of the store is nothing for an iterator that keeps no tuple -/
theorem go_of {M : Model} {A : Around} {E : Value → Shared → Prop} {s : Shared} {tg : Expr} {it : Addr} {u : Value} {o : Obj} {n : String} {vs : Array Value} {Q : Unit → Shared → Prop} (ho : s.heap.get? it = some o) (hc : o.cls = .type n) (hd : o.data = .fields vs)
    (hn : ["enumerate", "zip", "dict_itemiterator", "dict_reverseitemiterator", "odict_iterator", "itertools.zip_longest", "itertools.pairwise"].contains n = false) (hQ : Q () s) : wpAny M A (letOwnedTupleGo tg (.ref it) u) Q E s := by
  unfold letOwnedTupleGo
  cases tg <;> first
    | exact wpAny_pure hQ
    | (cases u <;> first
        | exact wpAny_pure hQ
        | (refine wpAny_bind (wpAny_load ho ?_)
           rw [hc, hd]
           show wpAny M A (if (["enumerate", "zip", "dict_itemiterator", "dict_reverseitemiterator", "odict_iterator", "itertools.zip_longest", "itertools.pairwise"].contains n && vs[0]? == some (rawInt _)) = true then _ else _) Q E s
           rw [if_neg (by intro h; rw [hn, Bool.false_and] at h; cases h)]
           exact wpAny_pure hQ))

/-- the list at a, as it stands at each turn (a loop may append to it) -/
def Itl (K : PySem.W.Frag) (a : Addr) : It :=
  ⟨fun i H => ∃ xs x, SqL K H a xs ∧ xs[i]? = some x, fun i H x H' => H' = H ∧ ∀ xs, SqL K H a xs → xs[i]? = some x, fun i H => ∃ xs, SqL K H a xs ∧ xs.length ≤ i⟩
def Itt (K : PySem.W.Frag) (a : Addr) : It :=
  ⟨fun i H => ∃ xs x, SqT K H a xs ∧ xs[i]? = some x, fun i H x H' => H' = H ∧ ∀ xs, SqT K H a xs → xs[i]? = some x, fun i H => ∃ xs, SqT K H a xs ∧ xs.length ≤ i⟩
/-- lo, lo + 1, .. (n of them) -/
def Itr (lo : Int) (n : Nat) : It := ⟨fun i _ => i < n, fun i H x H' => H' = H ∧ x = .int (lo + i), fun i _ => n ≤ i⟩
theorem turn_list {P : Program} {w : World} {K : PySem.W.Frag} {tg : Expr} (a it : Addr) : Turn P w K tg (Itl K a) [it] it (fun i h => h.IsListIter it a i) where
  mem := by simp
  obj := fun i h st b hb => by
    have e : b = it := by simpa using hb
    subst e
    obtain ⟨o, e, c, d⟩ := st
    exact ⟨o, e, fun v z => by rw [d] at z; cases z⟩
  keep := fun i h h' st k => st.at fun o e => k it (by simp) o e
  item := by
    intro X hP hw hK hc i pins s σ H E I hf st hg
    subst hP hw hK
    obtain ⟨xs, x, hq, hx⟩ := hg
    obtain ⟨its, rv, p, hz⟩ := I.list hq
    obtain ⟨u, hu, ru⟩ := rv.get hx
    obtain ⟨f0, f1, f2, f3, f4, f5⟩ := hf it (by simp)
    refine wpAny_pyNext_list_item st p.isList (x := u) (by simpa using hu) fun h' st' sb => ?_
    have I1 : Inv X pins σ H { s with heap := h' } := I.turned (t' := s.toks) (fun b o hb e => (sb.2 b hb).trans e) f0 f1 f3 f4 f5
    obtain ⟨o, e, c, d⟩ := id st'
    exact ⟨u, rfl, go_of (s := { s with heap := h' }) e c d (by decide) ⟨x, H, I1, ru, ⟨rfl, fun ys hy => by rw [I.list_inj hy hq]; exact hx⟩, st', fun b hb => (hf b hb).1⟩⟩
  done := by
    intro X hP hw hK hc i pins s σ H E I hf st hg
    subst hP hw hK
    obtain ⟨xs, hq, hx⟩ := hg
    obtain ⟨its, rv, p, hz⟩ := I.list hq
    obtain ⟨f0, f1, f2, f3, f4, f5⟩ := hf it (by simp)
    have hl := rv.length
    exact wpAny_pyNext_list_end (I.ok.hd hc) st p.isList (by simp; omega) fun h' eb => ⟨rfl, I.turned (t' := s.toks) (fun b o hb e => eb b o hb e) f0 f1 f3 f4 f5⟩
  self := fun _ _ _ _ _ st h => wpAny_pyIter_listiter st h
theorem turn_tuple {P : Program} {w : World} {K : PySem.W.Frag} {tg : Expr} (a it : Addr) : Turn P w K tg (Itt K a) [it] it (fun i h => h.IsTupleIter it a i) where
  mem := by simp
  obj := fun i h st b hb => by
    have e : b = it := by simpa using hb
    subst e
    obtain ⟨o, e, c, d⟩ := st
    exact ⟨o, e, fun v z => by rw [d] at z; cases z⟩
  keep := fun i h h' st k => st.at fun o e => k it (by simp) o e
  item := by
    intro X hP hw hK hc i pins s σ H E I hf st hg
    subst hP hw hK
    obtain ⟨xs, x, hq, hx⟩ := hg
    obtain ⟨its, rv, p, hz⟩ := I.tuple hq
    obtain ⟨u, hu, ru⟩ := rv.get hx
    obtain ⟨f0, f1, f2, f3, f4, f5⟩ := hf it (by simp)
    refine wpAny_pyNext_tuple_item st (show s.heap.IsTuple a its.toArray from p) (x := u) (by simpa using hu) fun h' st' sb => ?_
    have I1 : Inv X pins σ H { s with heap := h' } := I.turned (t' := s.toks) (fun b o hb e => (sb.2 b hb).trans e) f0 f1 f3 f4 f5
    obtain ⟨o, e, c, d⟩ := id st'
    exact ⟨u, rfl, go_of (s := { s with heap := h' }) e c d (by decide) ⟨x, H, I1, ru, ⟨rfl, fun ys hy => by rw [I.tuple_inj hy hq]; exact hx⟩, st', fun b hb => (hf b hb).1⟩⟩
  done := by
    intro X hP hw hK hc i pins s σ H E I hf st hg
    subst hP hw hK
    obtain ⟨xs, hq, hx⟩ := hg
    obtain ⟨its, rv, p, hz⟩ := I.tuple hq
    obtain ⟨f0, f1, f2, f3, f4, f5⟩ := hf it (by simp)
    have hl := rv.length
    exact wpAny_pyNext_tuple_end (I.ok.hd hc) st (show s.heap.IsTuple a its.toArray from p) (by simp; omega) fun h' eb => ⟨rfl, I.turned (t' := s.toks) (fun b o hb e => eb b o hb e) f0 f1 f3 f4 f5⟩
  self := fun _ _ _ _ _ st h => wpAny_pyIter_tupleiter st h
theorem turn_range {P : Program} {w : World} {K : PySem.W.Frag} {tg : Expr} (it : Addr) (lo : Int) (n : Nat) : Turn P w K tg (Itr lo n) [it] it (fun i h => IsRangeIter h it (lo + (i : Nat) * 1) ((n : Int) - (i : Nat)) 1) where
  mem := by simp
  obj := fun i h st b hb => by
    have e : b = it := by simpa using hb
    subst e
    exact ⟨_, st, fun v z => by
      have z' : Data.fields _ = Data.cell v := z
      cases z'⟩
  keep := fun i h h' st k => k it (by simp) _ st
  item := by
    intro X hP hw hK hc i pins s σ H E I hf st hg
    subst hP hw hK
    obtain ⟨f0, f1, f2, f3, f4, f5⟩ := hf it (by simp)
    have W := Walks.range (prog := X.prog) (w := X.w) (I.ok.hd hc) it lo 1 n
    refine W.item i s _ _ hg st fun v h' tk hv st' kk => ?_
    obtain ⟨t, rfl⟩ := hv
    have I1 : Inv X pins σ H { s with heap := h', toks := tk } := I.turned (fun b o hb e => kk b o (by simpa using hb) e) f0 f1 f3 f4 f5
    refine ⟨_, rfl, go_of (s := { s with heap := h', toks := tk }) (n := "range_iterator") st' rfl rfl (by decide) ⟨.int (lo + i), H, I1, ⟨t, ?_⟩, ⟨rfl, rfl⟩, st', fun b hb => (hf b hb).1⟩⟩
    rw [Int.mul_one]
  done := by
    intro X hP hw hK hc i pins s σ H E I hf st hg
    subst hP hw hK
    obtain ⟨f0, f1, f2, f3, f4, f5⟩ := hf it (by simp)
    exact wpAny_pyNext_range_end (I.ok.hd hc) st (by have : n ≤ i := hg; omega) fun h' eb => ⟨rfl, I.turned (t' := s.toks) (fun b o hb e => eb b o hb e) f0 f1 f3 f4 f5⟩
  self := fun _ _ _ _ _ st h => wpAny_pyIter_rangeiter st h
end L2

namespace L2
open PySem PySem.Spec PyProof.Rows
section
variable {X : Cx} {tg : Expr}
def iList (K : PySem.W.Frag) (tl : TE) : TI := fun σ H R => tl σ H fun x H1 => ∃ a, x = .ref a ∧ (∃ xs, SqL K H1 a xs) ∧ R (Itl K a) H1
def iTup (K : PySem.W.Frag) (tl : TE) : TI := fun σ H R => tl σ H fun x H1 => ∃ a, x = .ref a ∧ (∃ xs, SqT K H1 a xs) ∧ R (Itt K a) H1
theorem pi_list {l : Expr} {tl : TE} (hl : PE X l tl) : PI X tg l (iList X.K tl) := by
  intro pins s σ H R I h
  refine thn (hl pins s σ H _ I h) fun v s1 ⟨x, H1, I1, r1, q1⟩ => ?_
  obtain ⟨a, e, ⟨xs, hq⟩, q⟩ := q1
  subst e
  cases r1
  obtain ⟨its, rv, p, hz⟩ := I1.list hq
  refine wpAny_pyIter_list p.isList ?_
  refine ⟨s1.heap.objs.size, [s1.heap.objs.size], _, _, H1, rfl, I1.kept (t' := s1.toks) fun b o e => Heap.get?_push_of_some _ e, turn_list a _, ⟨_, Heap.get?_push_size _ rfl, rfl, rfl⟩, fun b hb => ?_, q⟩
  have e : b = s1.heap.objs.size := by simpa using hb
  subst e
  exact I1.fpOk (Nat.le_refl _) (I1.hok.fresh (Nat.le_refl _))
theorem pi_tup {l : Expr} {tl : TE} (hl : PE X l tl) : PI X tg l (iTup X.K tl) := by
  intro pins s σ H R I h
  refine thn (hl pins s σ H _ I h) fun v s1 ⟨x, H1, I1, r1, q1⟩ => ?_
  obtain ⟨a, e, ⟨xs, hq⟩, q⟩ := q1
  subst e
  cases r1
  obtain ⟨its, rv, p, hz⟩ := I1.tuple hq
  refine wpAny_pyIter_tuple (show s1.heap.IsTuple a its.toArray from p) ?_
  refine ⟨s1.heap.objs.size, [s1.heap.objs.size], _, _, H1, rfl, I1.kept (t' := s1.toks) fun b o e => Heap.get?_push_of_some _ e, turn_tuple a _, ⟨_, Heap.get?_push_size _ rfl, rfl, rfl⟩, fun b hb => ?_, q⟩
  have e : b = s1.heap.objs.size := by simpa using hb
  subst e
  exact I1.fpOk (Nat.le_refl _) (I1.hok.fresh (Nat.le_refl _))
/-- a range object just made, walked -/
theorem range_it {pins : List (Addr × Obj)} {σ : St} {H : Hp} {s : Shared} {R : It → Hp → Prop} {E : Value → Shared → Prop} {lo hi : Int} {t u v : Tok} {tk : Nat} (I : Inv X pins σ H s) (h1 : -(2 ^ 62) ≤ lo) (h2 : lo < 2 ^ 62) (h3 : -(2 ^ 62) ≤ hi) (h4 : hi < 2 ^ 62)
    (q : R (Itr lo (hi - lo).toNat) H) : wpAny (model X.prog X.w) X.A (pyIter (.ref s.heap.objs.size)) (PIE X pins σ tg R) E { s with heap := s.heap.push { cls := .type "range", data := .fields #[.int lo t, .int hi u, .int 1 v] }, toks := tk } := by
  refine wpAny_pyIter_range (IsRange.new ..) (small_one h1 h2 h3 h4) ?_
  have I1 : Inv X pins σ H { s with heap := s.heap.push { cls := .type "range", data := .fields #[.int lo t, .int hi u, .int 1 v] }, toks := tk } := I.kept fun b o e => Heap.get?_push_of_some _ e
  refine ⟨(s.heap.push { cls := .type "range", data := .fields #[.int lo t, .int hi u, .int 1 v] }).objs.size, [(s.heap.push { cls := .type "range", data := .fields #[.int lo t, .int hi u, .int 1 v] }).objs.size], _, _, H, rfl,
    I1.kept (t' := tk) fun b o e => Heap.get?_push_of_some _ e, turn_range _ lo (hi - lo).toNat, ?_, fun b hb => ?_, q⟩
  · have e1 : lo + ((0 : Nat) : Int) * 1 = lo := by simp
    have e2 : (((hi - lo).toNat : Nat) : Int) - ((0 : Nat) : Int) = Builtin.Range.rangeSize lo hi 1 := by rw [rangeSize_one]; split <;> omega
    show IsRangeIter _ _ (lo + ((0 : Nat) : Int) * 1) ((((hi - lo).toNat : Nat) : Int) - ((0 : Nat) : Int)) 1
    rw [e1, e2]
    exact Heap.get?_push_size _ rfl
  · have e : b = (s.heap.push { cls := .type "range", data := .fields #[.int lo t, .int hi u, .int 1 v] }).objs.size := by simpa using hb
    subst e
    exact I1.fpOk (Nat.le_refl _) (I1.hok.fresh (Nat.le_refl _))
def iRng1 (ta : TA) : TI := fun σ H R => ta σ H fun vs H1 => ∃ j : Int, vs = [.int j] ∧ -(2 ^ 62) ≤ j ∧ j < 2 ^ 62 ∧ R (Itr 0 j.toNat) H1
theorem pi_range1 {a : Expr} {ta : TA} {p pos : Pos} (hg : Gl X "range") (hm : X.mg "range" = none) (ha : PA X [a] ta) (hs : starEach [a] X.env = [(false, eval a X.env)] := by rfl) : PI X tg (.Call (.Name "range" p) [a] [] pos) (iRng1 ta) := by
  intro pins s σ H R I h
  refine Call_ (ld_blt I hg hm boot_range (PyProof.Rows.callWith_type1 (thn (ha pos pins s σ H _ I h) fun us s1 ⟨vs, H1, I1, r1, q1⟩ => ?_) hs rfl))
  obtain ⟨j, e, q1, q2, q⟩ := q1
  subst e
  cases r1 with
  | cons r rr =>
    cases rr
    obtain ⟨t, rfl⟩ := r
    exact call_range_1 (range_it I1 (by omega) (by omega) q1 q2 (by simpa using q))

/-! ### for -/
/-- W: the invariant by the turn and a measure; N: what the body is to reach -/
def tFor (wi : TI) (g : TG) (tb : TS) : TS := fun D σ H => wi σ H fun J H1 => ∃ W : Nat → Nat → St → Hp → Prop, (∃ m, W 0 m σ H1) ∧ ∀ i m σ H, W i m σ H →
  (J.stop i H ∧ D.nx σ H) ∨ (J.go i H ∧ ∃ N : St → Hp → Prop, (∀ σ' H', N σ' H' → ∃ m', m' < m ∧ W (i + 1) m' σ' H') ∧ ∀ x H', J.yld i H x H' → g x σ H' fun σ2 H2 => tb { D with nx := N, ct := N, bk := D.nx } σ2 H2)
/-- the records at fp as they stand -/
def pinsAt (fp : List Addr) (h : Heap) : List (Addr × Obj) := fp.filterMap fun b => (h.get? b).map fun o => (b, o)
theorem mem_pinsAt {fp : List Addr} {h : Heap} {b : Addr} {o : Obj} (hb : b ∈ fp) (e : h.get? b = some o) : (b, o) ∈ pinsAt fp h := List.mem_filterMap.mpr ⟨b, hb, by rw [e]; rfl⟩
theorem of_pinsAt {fp : List Addr} {h : Heap} {p : Addr × Obj} (hp : p ∈ pinsAt fp h) : p.1 ∈ fp ∧ h.get? p.1 = some p.2 := by
  obtain ⟨b, hb, e⟩ := List.mem_filterMap.mp hp
  cases q : h.get? b with
  | none => rw [q] at e; cases e
  | some o =>
    rw [q] at e
    have e' : (b, o) = p := Option.some.inj e
    subst e'
    exact ⟨hb, q⟩
theorem Inv.pinned {pins : List (Addr × Obj)} {σ : St} {H : Hp} {s : Shared} {fp : List Addr} (I : Inv X pins σ H s) (hf : ∀ b ∈ fp, FpOk X pins H b) (ho : ∀ b ∈ fp, ∃ o, s.heap.get? b = some o ∧ ∀ v, o.data ≠ .cell v) : Inv X (pins ++ pinsAt fp s.heap) σ H s :=
  I.pins_of fun p hp => (List.mem_append.mp hp).elim (fun z => I.pin p (List.mem_append_right _ z)) fun z => by
    obtain ⟨hb, e⟩ := of_pinsAt z
    obtain ⟨f0, f1, f2, _⟩ := hf p.1 hb
    obtain ⟨o, e', d⟩ := ho p.1 hb
    rw [e] at e'; cases e'
    exact ⟨e, f0, f1, f2, d⟩
theorem Inv.unpinned {pins pl : List (Addr × Obj)} {σ : St} {H : Hp} {s : Shared} (I : Inv X (pins ++ pl) σ H s) : Inv X pins σ H s := I.pins_of fun p hp => I.pin p (List.mem_append_right _ (List.mem_append_left _ hp))
theorem ps_for {iter : Expr} {body : List Stmt} {wi : TI} {g : TG} {tb : TS} {pos : Pos} (hp : PassesOwn (model X.prog X.w) X.A X.env X.xe) (hc : X.calm = true) (hi : PI X tg iter wi) (hg : PG X tg g) (hb : PSs X body tb)
    (hs : ∀ x, foldedSetIterable iter X.env x = pure x := by intro _; rfl) : PS X (.For tg iter body [] pos) (tFor wi g tb) := by
  intro pins s σ H D I h
  refine wpAny_For (thn (hi pins s σ H _ I h) fun v s1 h1 => thn h1 fun itv s2 h2 => ?_) hs
  obtain ⟨it, fp, tn, J, H2, e, I2, T, st2, f2, W, ⟨m0, w0⟩, turn⟩ := h2
  subst e
  -- what stays true of the iterator's objects through the loop
  have stat : ∀ {H' : Hp}, (∀ b ∈ fp, H' b = none) → ∀ b ∈ fp, FpOk X pins H' b := fun hn b hb => ⟨hn b hb, (f2 b hb).2⟩
  refine codeAny_forLoop_any (fun n s' => ∃ i σ' H', Inv X pins σ' H' s' ∧ tn i s'.heap ∧ (∀ b ∈ fp, H' b = none) ∧ W i n σ' H') ?_ m0 ⟨0, σ, H2, I2, st2, fun b hb => (f2 b hb).1, w0⟩
  rintro n s3 ⟨i, σ3, H3, I3, st3, fr3, w3⟩
  rcases turn i n σ3 H3 w3 with ⟨stop, qn⟩ | ⟨go, N, hN, step⟩
  · refine wpAny_passesOwn hp (thn (T.done X rfl rfl rfl hc i pins s3 σ3 H3 X.xe I3 (stat fr3) st3 stop) fun r s4 ⟨hr, I4⟩ => ?_)
    subst hr
    exact wpAny_execs_nil ⟨σ3, H3, I4, qn⟩
  · refine wpAny_passesOwn hp (thn (T.item X rfl rfl rfl hc i pins s3 σ3 H3 X.xe I3 (stat fr3) st3 go) fun r s4 ⟨u, hr, h4⟩ => ?_)
    subst hr
    refine wpAny_passesOwn hp (thn h4 fun _ s5 ⟨x, H5, I5, r5, y5, st5, fr5⟩ => ?_)
    have I5' := I5.pinned (stat fr5) (T.obj _ _ st5)
    refine wpAny_passesOwn hp (thn (hg _ s5 σ3 H5 x u _ I5' r5 (step x H5 y5)) fun _ s6 ⟨σ6, H6, I6, q6⟩ => ?_)
    refine wpAny_passesOwn hp (thn (hb _ s6 σ6 H6 _ I6 q6) fun f s7 q7 => ?_)
    have again : ∀ {σ7 : St} {H7 : Hp}, Inv X (pins ++ pinsAt fp s5.heap) σ7 H7 s7 → N σ7 H7 → ∃ m, m < n ∧ ∃ i σ' H', Inv X pins σ' H' s7 ∧ tn i s7.heap ∧ (∀ b ∈ fp, H' b = none) ∧ W i m σ' H' := fun {σ7 H7} I7 n7 => by
      obtain ⟨m', hm, w7⟩ := hN σ7 H7 n7
      refine ⟨m', hm, i + 1, σ7, H7, I7.unpinned, T.keep _ _ _ st5 fun b hb o e => (I7.pin (b, o) (List.mem_append_right _ (List.mem_append_right _ (mem_pinsAt hb e)))).1, fun b hb => ?_, w7⟩
      obtain ⟨o, e, d⟩ := T.obj _ _ st5 b hb
      exact (I7.pin (b, o) (List.mem_append_right _ (List.mem_append_right _ (mem_pinsAt hb e)))).2.1
    cases f with
    | next => obtain ⟨σ7, H7, I7, n7⟩ := q7; exact again I7 n7
    | cont => obtain ⟨σ7, H7, I7, n7⟩ := q7; exact again I7 n7
    | brk => obtain ⟨σ7, H7, I7, q7⟩ := q7; exact ⟨σ7, H7, I7.unpinned, q7⟩
    | ret v => obtain ⟨x7, σ7, H7, I7, r7, q7⟩ := q7; exact ⟨x7, σ7, H7, I7.unpinned, r7, q7⟩
end

/-! ### the forms one uses -/
theorem for_range {lo : Int} {n : Nat} {g : TG} {tb : TS} {D : Ends} {σ : St} {H : Hp} (Pv : Nat → St → Hp → Prop) (h0 : Pv 0 σ H)
    (hs : ∀ i σ H, i < n → Pv i σ H → g (.int (lo + i)) σ H fun σ2 H2 => tb { D with nx := Pv (i + 1), ct := Pv (i + 1), bk := D.nx } σ2 H2) (hd : ∀ σ H, Pv n σ H → D.nx σ H) :
    ∃ W : Nat → Nat → St → Hp → Prop, (∃ m, W 0 m σ H) ∧ ∀ i m σ H, W i m σ H →
      ((Itr lo n).stop i H ∧ D.nx σ H) ∨ ((Itr lo n).go i H ∧ ∃ N : St → Hp → Prop, (∀ σ' H', N σ' H' → ∃ m', m' < m ∧ W (i + 1) m' σ' H') ∧ ∀ x H', (Itr lo n).yld i H x H' → g x σ H' fun σ2 H2 => tb { D with nx := N, ct := N, bk := D.nx } σ2 H2) := by
  refine ⟨fun i m σ H => m = n - i ∧ i ≤ n ∧ Pv i σ H, ⟨n, by simp, Nat.zero_le _, h0⟩, ?_⟩
  rintro i m σ H ⟨rfl, hi, p⟩
  by_cases hlt : i < n
  · refine .inr ⟨hlt, Pv (i + 1), fun σ' H' p' => ⟨n - (i + 1), by omega, rfl, hlt, p'⟩, fun x H' y => ?_⟩
    obtain ⟨e, y⟩ := y
    subst e y
    exact hs i σ _ hlt p
  · have e : i = n := by omega
    subst e
    exact .inl ⟨Nat.le_refl _, hd σ H p⟩
end L2

namespace L2
open PySem PySem.Spec PyProof.Rows

abbrev R2 := V → V → Hp → VK → Prop
/-- a two-place operation on values: f is binaryOp op, inplaceOp op or compareOp op -/
def OpR (X : Cx) (f : Value → Value → Sem Value) (r : R2) : Prop :=
  ∀ (pins : List (Addr × Obj)) (s : Shared) (σ : St) (H : Hp) (x y : V) (v u : Value) (Q : VK), Inv X pins σ H s → RelV x v → RelV y u → r x y H Q →
    wpAny (model X.prog X.w) X.A (f v u) (EP X pins σ Q) X.xe s
/-- a one-place operation -/
def UnR (X : Cx) (f : Value → Sem Value) (r : V → Hp → VK → Prop) : Prop :=
  ∀ (pins : List (Addr × Obj)) (s : Shared) (σ : St) (H : Hp) (x : V) (v : Value) (Q : VK), Inv X pins σ H s → RelV x v → r x H Q →
    wpAny (model X.prog X.w) X.A (f v) (EP X pins σ Q) X.xe s
/-- a call of a value that is known (a builtin, a type) with values -/
def CallR (X : Cx) (f : Value) (r : List V → Hp → VK → Prop) : Prop :=
  ∀ (pins : List (Addr × Obj)) (s : Shared) (σ : St) (H : Hp) (xs : List V) (us : List Value) (Q : VK), Inv X pins σ H s → Vals xs us → r xs H Q →
    wpAny (model X.prog X.w) X.A (call f us) (EP X pins σ Q) X.xe s
/-- a value's truth -/
def TruR (X : Cx) (r : V → Hp → (Bool → Hp → Prop) → Prop) : Prop :=
  ∀ (pins : List (Addr × Obj)) (s : Shared) (σ : St) (H : Hp) (x : V) (v : Value) (Q : Bool → Hp → Prop), Inv X pins σ H s → RelV x v → r x H Q →
    wpAny (model X.prog X.w) X.A (truthy v) (TP X pins σ Q) X.xe s

def tOp (r : R2) (ta tb : TE) : TE := fun σ H Q => ta σ H fun x H1 => tb σ H1 fun y H2 => r x y H2 Q
def tUn (r : V → Hp → VK → Prop) (ta : TE) : TE := fun σ H Q => ta σ H fun x H1 => r x H1 Q
/-- ints in, under C, and a value out -/
def rI (C : Int → Int → Prop) (g : Int → Int → V) : R2 := fun x y H Q => ∃ i j, x = .int i ∧ y = .int j ∧ C i j ∧ Q (g i j) H
def rI0 (g : Int → Int → V) : R2 := fun x y H Q => ∃ i j, x = .int i ∧ y = .int j ∧ Q (g i j) H
def rU (g : Int → V) : V → Hp → VK → Prop := fun x H Q => ∃ i, x = .int i ∧ Q (g i) H

section
variable {X : Cx} {a b c : Expr} {ta tb tc : TE} {pos : Pos}

theorem binT (ha : PE X a ta) (hb : PE X b tb) {pins : List (Addr × Obj)} {s : Shared} {σ : St} {H : Hp} {R : V → V → Hp → Prop} (I : Inv X pins σ H s)
    (h : ta σ H fun x H1 => tb σ H1 fun y H2 => R x y H2) {Q : Value → Shared → Prop} {f : Value → Value → Sem Value}
    (hf : ∀ v u s2 x y H2, Inv X pins σ H2 s2 → RelV x v → RelV y u → R x y H2 → wpAny (model X.prog X.w) X.A (f v u) Q X.xe s2) :
    wpAny (model X.prog X.w) X.A (eval a X.env) (fun v s₁ => wpAny (model X.prog X.w) X.A (eval b X.env) (fun u s₂ => wpAny (model X.prog X.w) X.A (f v u) Q X.xe s₂) X.xe s₁) X.xe s := by
  refine thn (ha pins s σ H _ I h) fun v s1 ⟨x, H1, I1, r1, q1⟩ => ?_
  refine thn (hb pins s1 σ H1 _ I1 q1) fun u s2 ⟨y, H2, I2, r2, q2⟩ => ?_
  exact hf v u s2 x y H2 I2 r1 r2 q2

theorem pe_op {op : Operator} {r : R2} (ho : OpR X (binaryOp op) r) (ha : PE X a ta) (hb : PE X b tb) : PE X (.BinOp a op b pos) (tOp r ta tb) := by
  intro pins s σ H Q I h
  exact wpAny_BinOp (binT ha hb I h fun v u s2 x y H2 I2 rx ry q => ho pins s2 σ H2 x y v u Q I2 rx ry q)
theorem pe_un {op : UnaryOp} {r : V → Hp → VK → Prop} (ho : UnR X (unaryOp op) r) (ha : PE X a ta) : PE X (.UnaryOp op a pos) (tUn r ta) := by
  intro pins s σ H Q I h
  exact UnaryOp_ (thn (ha pins s σ H _ I h) fun v s1 ⟨x, H1, I1, r1, q1⟩ => ho pins s1 σ H1 x v Q I1 r1 q1)

/-! ### ints -/
theorem opI {f : Value → Value → Sem Value} {C : Int → Int → Prop} {g : Int → Int → Int}
    (rule : ∀ (i j : Int) (t u : Tok) (s : Shared) (Q : Value → Shared → Prop) (E : Value → Shared → Prop), C i j → Q (.int (g i j) s.toks) { s with toks := s.toks + 1 } → wpAny (model X.prog X.w) X.A (f (.int i t) (.int j u)) Q E s) :
    OpR X f (rI C fun i j => .int (g i j)) := by
  intro pins s σ H x y v u Q I rx ry h
  obtain ⟨i, j, rfl, rfl, hc, q⟩ := h
  obtain ⟨t, rfl⟩ := rx
  obtain ⟨t', rfl⟩ := ry
  exact rule i j t t' s _ _ hc ⟨.int (g i j), H, I.tok _, ⟨_, rfl⟩, q⟩
theorem opI0 {f : Value → Value → Sem Value} {g : Int → Int → Int}
    (rule : ∀ (i j : Int) (t u : Tok) (s : Shared) (Q : Value → Shared → Prop) (E : Value → Shared → Prop), Q (.int (g i j) s.toks) { s with toks := s.toks + 1 } → wpAny (model X.prog X.w) X.A (f (.int i t) (.int j u)) Q E s) :
    OpR X f (rI0 fun i j => .int (g i j)) := by
  intro pins s σ H x y v u Q I rx ry h
  obtain ⟨i, j, rfl, rfl, q⟩ := h
  obtain ⟨t, rfl⟩ := rx
  obtain ⟨t', rfl⟩ := ry
  exact rule i j t t' s _ _ ⟨.int (g i j), H, I.tok _, ⟨_, rfl⟩, q⟩
theorem opB0 {f : Value → Value → Sem Value} {g : Int → Int → Bool}
    (rule : ∀ (i j : Int) (t u : Tok) (s : Shared) (Q : Value → Shared → Prop) (E : Value → Shared → Prop), Q (.bool (g i j)) s → wpAny (model X.prog X.w) X.A (f (.int i t) (.int j u)) Q E s) :
    OpR X f (rI0 fun i j => .bl (g i j)) := by
  intro pins s σ H x y v u Q I rx ry h
  obtain ⟨i, j, rfl, rfl, q⟩ := h
  obtain ⟨t, rfl⟩ := rx
  obtain ⟨t', rfl⟩ := ry
  exact rule i j t t' s _ _ ⟨.bl (g i j), H, I, rfl, q⟩

def CDiv (i j : Int) : Prop := 0 < j ∧ j < 1073741824
def CMul (i j : Int) : Prop := (-(2 ^ 64) < i ∧ i < 2 ^ 64) ∨ (-(2 ^ 64) < j ∧ j < 2 ^ 64)
theorem CMul.ok {i j : Int} (h : CMul i j) : IntMulOk i j := by
  rcases h with ⟨h1, h2⟩ | ⟨h1, h2⟩
  · exact .of_left (intBits_le_64 h1 h2)
  · exact .of_right (intBits_le_64 h1 h2)

theorem op_add : OpR X (binaryOp .Add) (rI0 fun i j => .int (i + j)) := opI0 fun _ _ _ _ _ _ _ q => add_int q
theorem op_sub : OpR X (binaryOp .Sub) (rI0 fun i j => .int (i - j)) := opI0 fun _ _ _ _ _ _ _ q => sub_int q
theorem op_mul : OpR X (binaryOp .Mult) (rI CMul fun i j => .int (i * j)) := opI fun _ _ _ _ _ _ _ hc q => mul_int q hc.ok
/-- // by a positive divisor -/
theorem op_fdiv : OpR X (binaryOp .FloorDiv) (rI CDiv fun i j => .int (i / j)) := opI fun i j _ _ _ _ _ hc q => by
  have h1 : (0 : Int) < j := hc.1
  have h2 : j < 1073741824 := hc.2
  exact floordiv_int (by omega) (by rw [Int.fdiv_eq_ediv_of_nonneg i (by omega)]; exact q) (.inl (PyProof.noPylong_small (by omega)))
/-- % by a positive divisor of any size -/
theorem op_mod : OpR X (binaryOp .Mod) (rI (fun _ j => 0 < j) fun i j => .int (i % j)) := opI fun i j _ _ _ _ _ hc q => by
  have h1 : (0 : Int) < j := hc
  exact mod_int' (by omega) (by rw [Int.fmod_eq_emod_of_nonneg i (by omega)]; exact q)


theorem unI {f : Value → Sem Value} {g : Int → Int}
    (rule : ∀ (i : Int) (t : Tok) (s : Shared) (Q : Value → Shared → Prop) (E : Value → Shared → Prop), Q (.int (g i) s.toks) { s with toks := s.toks + 1 } → wpAny (model X.prog X.w) X.A (f (.int i t)) Q E s) :
    UnR X f (rU fun i => .int (g i)) := by
  intro pins s σ H x v Q I rx h
  obtain ⟨i, rfl, q⟩ := h
  obtain ⟨t, rfl⟩ := rx
  exact rule i t s _ _ ⟨.int (g i), H, I.tok _, ⟨_, rfl⟩, q⟩
theorem un_neg : UnR X (unaryOp .USub) (rU fun i => .int (-i)) := unI fun _ _ _ _ _ q => neg_int q

/-! ### bools among ints: n += (a < b) -/
end

/-! ### comparisons -/
/-- the scalars that == tells apart as data does -/
def scal : V → V → Bool
  | .non, .non => true | .non, .int _ => true | .int _, .non => true | .non, .bl _ => true | .bl _, .non => true | .non, .str _ => true | .str _, .non => true
  | .int _, .int _ => true | .bl _, .bl _ => true | .str _, .str _ => true | .byt _, .byt _ => true
  | .int _, .str _ => true | .str _, .int _ => true | .bl _, .str _ => true | .str _, .bl _ => true
  | _, _ => false
def rEq : R2 := fun x y H Q => scal x y = true ∧ Q (.bl (decide (x = y))) H
def rNe : R2 := fun x y H Q => scal x y = true ∧ Q (.bl (!decide (x = y))) H

theorem dec_int {i j : Int} : decide (V.int i = V.int j) = (i == j) := by
  rw [Bool.eq_iff_iff]
  simp
theorem dec_bl {i j : Bool} : decide (V.bl i = V.bl j) = (i == j) := by
  rw [Bool.eq_iff_iff]
  simp
theorem dec_str {i j : Str} : decide (V.str i = V.str j) = (i == j) := by
  rw [Bool.eq_iff_iff]
  simp
theorem dec_byt {i j : Array UInt8} : decide (V.byt i = V.byt j) = (i.toList == j.toList) := by
  rw [Bool.eq_iff_iff]
  cases i
  cases j
  simp

section
variable {X : Cx} {a b c : Expr} {ta tb tc : TE} {pos : Pos}
theorem fin_bl {pins : List (Addr × Obj)} {σ : St} {H : Hp} {s : Shared} {Q : VK} {k k' : Bool} (I : Inv X pins σ H s) (q : Q (.bl k) H) (e : k = k') : EP X pins σ Q (.bool k') s := by
  subst e
  exact ⟨.bl k, H, I, rfl, q⟩
theorem op_eq : OpR X (compareOp .Eq) rEq := by
  intro pins s σ H x y v u Q I rx ry h
  obtain ⟨hs, q⟩ := h
  cases x with
  | non =>
    cases rx
    cases y with
    | non => cases ry; exact PySem.EqNone.eq_none_none (fin_bl I q (by simp))
    | bl j => cases ry; exact PySem.EqNone.eq_none_bool (fin_bl I q (by simp))
    | int j => obtain ⟨t', rfl⟩ := ry; exact PySem.EqNone.eq_none_int (fin_bl I q (by simp))
    | str j => obtain ⟨t', rfl⟩ := ry; exact PySem.EqNone.eq_none_str (fin_bl I q (by simp))
    | _ => exact absurd (show false = true from hs) Bool.false_ne_true
  | bl i =>
    cases rx
    cases y with
    | non => cases ry; exact PySem.EqNone.eq_bool_none (fin_bl I q (by simp))
    | bl j => cases ry; exact eq_bool (fin_bl I q dec_bl)
    | str j => obtain ⟨t', rfl⟩ := ry; exact PySem.EqMixed.eq_bool_str (fin_bl I q (by simp))
    | _ => exact absurd (show false = true from hs) Bool.false_ne_true
  | int i =>
    obtain ⟨t, rfl⟩ := rx
    cases y with
    | non => cases ry; exact PySem.EqNone.eq_int_none (fin_bl I q (by simp))
    | int j => obtain ⟨t', rfl⟩ := ry; exact eq_int (fin_bl I q dec_int)
    | str j => obtain ⟨t', rfl⟩ := ry; exact PySem.EqMixed.eq_int_str (fin_bl I q (by simp))
    | _ => exact absurd (show false = true from hs) Bool.false_ne_true
  | str i =>
    obtain ⟨t, rfl⟩ := rx
    cases y with
    | non => cases ry; exact PySem.EqNone.eq_str_none (fin_bl I q (by simp))
    | bl j => cases ry; exact PySem.EqMixed.eq_str_bool (fin_bl I q (by simp))
    | int j => obtain ⟨t', rfl⟩ := ry; exact PySem.EqMixed.eq_str_int (fin_bl I q (by simp))
    | str j => obtain ⟨t', rfl⟩ := ry; exact eq_str (fin_bl I q dec_str)
    | _ => exact absurd (show false = true from hs) Bool.false_ne_true
  | byt i =>
    obtain ⟨t, rfl⟩ := rx
    cases y with
    | byt j => obtain ⟨t', rfl⟩ := ry; exact PySem.W.eq_bytes (fin_bl I q dec_byt)
    | _ => exact absurd (show false = true from hs) Bool.false_ne_true
  | _ => cases y <;> exact absurd (show false = true from hs) Bool.false_ne_true
theorem op_ne : OpR X (compareOp .NotEq) rNe := by
  intro pins s σ H x y v u Q I rx ry h
  obtain ⟨hs, q⟩ := h
  cases x with
  | non =>
    cases rx
    cases y with
    | non => cases ry; exact PySem.EqNone.ne_none_none (fin_bl I q (by simp))
    | bl j => cases ry; exact PySem.EqNone.ne_none_bool (fin_bl I q (by simp))
    | int j => obtain ⟨t', rfl⟩ := ry; exact PySem.EqNone.ne_none_int (fin_bl I q (by simp))
    | str j => obtain ⟨t', rfl⟩ := ry; exact PySem.EqNone.ne_none_str (fin_bl I q (by simp))
    | _ => exact absurd (show false = true from hs) Bool.false_ne_true
  | bl i =>
    cases rx
    cases y with
    | non => cases ry; exact PySem.EqNone.ne_bool_none (fin_bl I q (by simp))
    | bl j => cases ry; exact ne_bool (fin_bl I q (congrArg not dec_bl))
    | str j => obtain ⟨t', rfl⟩ := ry; exact PySem.EqMixed.ne_bool_str (fin_bl I q (by simp))
    | _ => exact absurd (show false = true from hs) Bool.false_ne_true
  | int i =>
    obtain ⟨t, rfl⟩ := rx
    cases y with
    | non => cases ry; exact PySem.EqNone.ne_int_none (fin_bl I q (by simp))
    | int j => obtain ⟨t', rfl⟩ := ry; exact ne_int (fin_bl I q (congrArg not dec_int))
    | str j => obtain ⟨t', rfl⟩ := ry; exact PySem.EqMixed.ne_int_str (fin_bl I q (by simp))
    | _ => exact absurd (show false = true from hs) Bool.false_ne_true
  | str i =>
    obtain ⟨t, rfl⟩ := rx
    cases y with
    | non => cases ry; exact PySem.EqNone.ne_str_none (fin_bl I q (by simp))
    | bl j => cases ry; exact PySem.EqMixed.ne_str_bool (fin_bl I q (by simp))
    | int j => obtain ⟨t', rfl⟩ := ry; exact PySem.EqMixed.ne_str_int (fin_bl I q (by simp))
    | str j => obtain ⟨t', rfl⟩ := ry; exact ne_str (fin_bl I q (congrArg not dec_str))
    | _ => exact absurd (show false = true from hs) Bool.false_ne_true
  | byt i =>
    obtain ⟨t, rfl⟩ := rx
    cases y with
    | byt j => obtain ⟨t', rfl⟩ := ry; exact PySem.W.ne_bytes (fin_bl I q (congrArg not dec_byt))
    | _ => exact absurd (show false = true from hs) Bool.false_ne_true
  | _ => cases y <;> exact absurd (show false = true from hs) Bool.false_ne_true

theorem op_lt : OpR X (compareOp .Lt) (rI0 fun i j => .bl (decide (i < j))) := opB0 fun _ _ _ _ _ _ _ q => lt_int q
theorem op_gt : OpR X (compareOp .Gt) (rI0 fun i j => .bl (decide (j < i))) := opB0 fun _ _ _ _ _ _ _ q => gt_int q

/-- is None, is not None: the right side a value none -/
theorem op_isN : OpR X (compareOp .Is) (fun x y H Q => y = .non ∧ Q (.bl (decide (x = .non))) H) := by
  intro pins s σ H x y v u Q I rx ry h
  obtain ⟨rfl, q⟩ := h
  cases ry
  refine is_none_gen (fin_bl I q ?_)
  cases x <;> first
    | (cases rx; rfl)
    | (obtain ⟨t, rfl⟩ := rx; rfl)
theorem op_notN : OpR X (compareOp .IsNot) (fun x y H Q => y = .non ∧ Q (.bl (!decide (x = .non))) H) := by
  intro pins s σ H x y v u Q I rx ry h
  obtain ⟨rfl, q⟩ := h
  cases ry
  refine isnot_none_gen (fin_bl I q ?_)
  cases x <;> first
    | (cases rx; rfl)
    | (obtain ⟨t, rfl⟩ := rx; rfl)



theorem nomark (b : Expr) {op : CmpOp} (h : op ≠ .In := by decide) (h2 : op ≠ .NotIn := by decide) : behindInMarks op b = false := by
  have e1 : (op == CmpOp.In) = false := by cases op <;> first | rfl | exact absurd rfl h
  have e2 : (op == CmpOp.NotIn) = false := by cases op <;> first | rfl | exact absurd rfl h2
  cases b <;> simp [behindInMarks, e1, e2]
/-- a comparison as a value; hm: nomark b, or (for in, not in) by with_unfolding_all rfl -/
theorem pe_cmpR {op : CmpOp} {r : R2} (ho : OpR X (compareOp op) r) (ha : PE X a ta) (hb : PE X b tb) (hm : behindInMarks op b = false) : PE X (.Compare a [op] [b] pos) (tOp r ta tb) := by
  intro pins s σ H Q I h
  exact wpAny_Compare1 (binT ha hb I h fun v u s2 x y H2 I2 rx ry q => ho pins s2 σ H2 x y v u Q I2 rx ry q) hm
/-- a reading of a value as a test -/
def tTest (t : TE) : TT := fun σ H Q => t σ H fun x H' => ∃ k, x = .bl k ∧ Q k H'
theorem pt_cmpR {op : CmpOp} {r : R2} (ho : OpR X (compareOp op) r) (ha : PE X a ta) (hb : PE X b tb) (hm : behindInMarks op b = false) : PT X (.Compare a [op] [b] pos) (tTest (tOp r ta tb)) := by
  intro pins s σ H Q I h
  refine wpAny_isTrue_Compare1 (thn (ha pins s σ H _ I h) fun v s1 ⟨x, H1, I1, r1, q1⟩ => thn (hb pins s1 σ H1 _ I1 q1) fun u s2 ⟨y, H2, I2, r2, q2⟩ =>
    thn (ho pins s2 σ H2 x y v u _ I2 r1 r2 q2) fun c s3 ⟨z, H3, I3, r3, k, e, q3⟩ => ?_) hm
  subst e
  cases r3
  exact wpAny_truthy_bool ⟨H3, I3, q3⟩

/-! ### truth -/
/-- a value's truth by the abstract heap -/
def TruV (K : PySem.W.Frag) (x : V) (H : Hp) (k : Bool) : Prop :=
  match x with
  | .non => k = false
  | .bl b => k = b
  | .int i => k = (i != 0)
  | .str y => y.length ≤ sizeLine ∧ k = ((y.length : Int) != 0)
  | .byt y => y.size ≤ sizeLine ∧ k = ((y.size : Int) != 0)
  | .ref p => (∃ xs, SqL K H p xs ∧ k = !xs.isEmpty) ∨ (∃ xs, SqT K H p xs ∧ k = !xs.isEmpty) ∨ ∃ kvs, H p = some (.dK kvs) ∧ k = !kvs.isEmpty
  | _ => False
theorem isEmpty_kv {κ : Type} {kvs : List (κ × V)} {vs : List (κ × Value)} (r : KV kvs vs) : (!vs.isEmpty) = !kvs.isEmpty := by
  cases r <;> rfl
theorem isEmpty_of {xs : List V} {its : List Value} (r : Vals xs its) : (!its.toArray.isEmpty) = !xs.isEmpty := by
  cases r <;> simp
theorem line63 : (sizeLine : Nat) < 2 ^ 63 := by rw [sizeLine_eq]; decide
theorem tru_ok : TruR X (fun x H Q => ∃ k, TruV X.K x H k ∧ Q k H) := by
  intro pins s σ H x v Q I rx h
  obtain ⟨k, e, q⟩ := h
  have hl := line63
  have hs : sizeLine = 16777216 := sizeLine_eq
  cases x with
  | non =>
    cases rx
    have e' : k = false := e
    subst e'
    exact truthy_none ⟨H, I, q⟩
  | bl b =>
    cases rx
    have e' : k = b := e
    subst e'
    exact wpAny_truthy_bool ⟨H, I, q⟩
  | int i =>
    obtain ⟨t, rfl⟩ := rx
    have e' : k = (i != 0) := e
    subst e'
    exact PySem.P.truthy_int ⟨H, I, q⟩
  | str y =>
    obtain ⟨t, rfl⟩ := rx
    obtain ⟨hy, e'⟩ : y.length ≤ sizeLine ∧ k = ((y.length : Int) != 0) := e
    subst e'
    exact PySem.P.truthy_str (by omega) ⟨H, I.tok _, q⟩
  | byt y =>
    obtain ⟨t, rfl⟩ := rx
    obtain ⟨hy, e'⟩ : y.size ≤ sizeLine ∧ k = ((y.size : Int) != 0) := e
    subst e'
    exact PySem.W.truthy_bytes (by omega) ⟨H, I.tok _, q⟩
  | ref p =>
    cases rx
    have e' : (∃ xs, SqL X.K H p xs ∧ k = !xs.isEmpty) ∨ (∃ xs, SqT X.K H p xs ∧ k = !xs.isEmpty) ∨ ∃ kvs, H p = some (.dK kvs) ∧ k = !kvs.isEmpty := e
    rcases e' with ⟨xs, hx, e'⟩ | ⟨xs, hx, e'⟩ | ⟨kvs, hx, e'⟩
    · subst e'
      obtain ⟨its, r, pl, hz⟩ := I.list hx
      have hlen := r.length
      exact wpAny_truthy_list pl.isList (by simp only [List.size_toArray]; omega) ⟨H, I.tok _, by rw [isEmpty_of r]; exact q⟩
    · subst e'
      obtain ⟨its, r, pl, hz⟩ := I.tuple hx
      have hlen := r.length
      exact truthy_tuple pl (by simp only [List.size_toArray]; omega) ⟨H, I.tok _, by rw [isEmpty_of r]; exact q⟩
    · subst e'
      obtain ⟨hz, hS, vs, r, m⟩ : kvs.length ≤ sizeLine ∧ (p == sysModules) = false ∧ ∃ vs, KV kvs vs ∧ s.heap.DictOf (mixKind X.prog X.w) p vs := I.hok p _ hx
      have hlen : kvs.length = vs.length := Paired.length r
      exact wpAny_truthy_dict hS m (by omega) ⟨H, I.tok _, by rw [isEmpty_kv r]; exact q⟩
  | _ => exact (show False from e).elim
/-- any expression whose test is its value's truth (a name, a call, a subscript, a field ..: he by fun _ => rfl) -/
theorem pt_truth (ha : PE X a ta) (he : ∀ whole, isTrue a X.env whole = (do let v ← whole; standAt a.pos; holding [v] (truthy v))) :
    PT X a (fun σ H Q => ta σ H fun x H' => ∃ k, TruV X.K x H' k ∧ Q k H') := by
  intro pins s σ H Q I h
  exact isTrue_plain (thn (ha pins s σ H _ I h) fun v s1 ⟨x, H1, I1, r1, q1⟩ => tru_ok pins s1 σ H1 x v Q I1 r1 q1) (he _)

/-! ### strs and bytes -/


/-! ### scalar builtins, by CallR -/
theorem vals1 {x : V} {us : List Value} (r : Vals [x] us) : ∃ u, us = [u] ∧ RelV x u := by
  cases r with
  | cons r1 r2 => cases r2; exact ⟨_, rfl, r1⟩
end
end L2

namespace L2
open PySem PySem.Spec PyProof.Rows

/-! ### an instance, its attributes a map -/
structure ObjM (h : Heap) (x dx C : Addr) (mA : Str → Option Value) : Prop where
  obj : h.get? x = some (PySem.W.instObj C dx)
  ns : h.Ns1 dx mA
  ne : dx ≠ x

theorem lookIn_ns {h : Heap} {dx : Addr} {mA : Str → Option Value} (n : h.Ns1 dx mA) : ∃ od, h.get? dx = some od ∧ ∀ name, PySem.W.lookIn name od = some (mA name) := by
  obtain ⟨o, es, ep, ho, hd, hk, _, hm⟩ := n
  refine ⟨o, ho, fun name => ?_⟩
  have e := hm name
  unfold nsFind findBy at e
  rw [← Array.find?_toList] at e
  unfold PySem.W.lookIn
  rw [hd]
  dsimp only
  split
  · rename_i y q
    rw [q] at e
    exact congrArg some e
  · rename_i q
    rw [q] at e
    have a : es.toList.any (·.refKey) = false := by
      rw [List.any_eq_false]
      intro y hy
      obtain ⟨z, t, hkey⟩ := hk y (Array.mem_toList_iff.mp hy)
      simp [DictEntry.refKey, hkey]
    have a' : ¬ es.toList.any (·.refKey) = true := by rw [a]; exact Bool.false_ne_true
    rw [if_neg a']
    exact congrArg some e

theorem ObjM.look {h : Heap} {x dx C : Addr} {mA : Str → Option Value} (I : ObjM h x dx C mA) : ∃ od, PySem.W.InstAt h x (PySem.W.instObj C dx) C (some od) ∧ ∀ name, PySem.W.lookIn name od = some (mA name) :=
  let ⟨od, ho, hl⟩ := lookIn_ns I.ns
  ⟨od, ⟨I.obj, rfl, rfl, ho⟩, hl⟩

section
variable {prog : Program} {w : World} {A : Around} {E : Value → Shared → Prop} {s : Shared} {K : PySem.W.Frag} {x dx C f : Addr} {mA : Str → Option Value} {name : Str} {v : Value}

theorem get_map {expr : Bool} {Q : Value → Shared → Prop} (X : K.In s.heap) (I : ObjM s.heap x dx C mA) (hg : PySem.W.plainGet K C name = true) (hh : PySem.W.hasDictIn K C = true)
    (ha : PySem.W.findIn K (.ref C) name = some none) (hv : mA name = some v) (hv' : PySem.W.handedIn v = true) (h : Q v { s with toks := s.toks + 1 }) :
    wpAny (model prog w) A (getAttr (.ref x) name expr) Q E s := by
  obtain ⟨od, J, hl⟩ := I.look
  exact PySem.W.get_value X J (PySem.W.plainGet_of hg).1 (PySem.W.findObj_own hh ha rfl (by rw [hl, hv])) hv' h


theorem get_meth {pl : Sem Bool} {Q : Value × List Value → Shared → Prop} (X : K.In s.heap) (I : ObjM s.heap x dx C mA) (hg : PySem.W.plainGet K C name = true)
    (hf : PySem.W.findIn K (.ref C) name = some (some (.ref f))) (ht : PySem.W.isFn K (.ref f) = true) (hv : mA name = none) (h : Q (.ref f, [.ref x]) s) :
    wpAny (model prog w) A (getMethod (.ref x) name pl) Q E s := by
  obtain ⟨od, J, hl⟩ := I.look
  exact PySem.W.method_fn X J (PySem.W.plainGet_of hg).1 (PySem.W.plainGet_of hg).2 hf (beq_iff_eq.mp ht) (by show (PySem.W.lookIn name od).map (·.isSome) = some false; rw [hl, hv]; rfl) h

theorem set_map {ns : List Str} {Q : Unit → Shared → Prop} (X : K.In s.heap) (I : ObjM s.heap x dx C mA)
    (hs : PySem.W.findIn K (.ref C) "__setattr__" = some (some (.builtin "object.__setattr__"))) (hp : PySem.W.plainOver K C = true) (ht : PySem.W.takerIn K C name = some none) (hh : PySem.W.hasDictIn K C = true)
    (hw : PySem.Within mA ns) (hsz : ns.length ≤ sizeLine)
    (h : ∀ h', ObjM h' x dx C (fun y => if y = name then some v else mA y) → Heap.SameBut dx s.heap h' → Q () { s with heap := h', toks := s.toks + 2 }) :
    wpAny (model prog w) A (setAttr (.ref x) name v) Q E s := by
  obtain ⟨od, J, hl⟩ := I.look
  refine PySem.W.set_plain X J hs (PySem.W.osa_open (s := { s with toks := s.toks + 1 }) (r := none) X J hp ht fun b => ?_)
  obtain ⟨cd, hc, hd'⟩ := PySem.W.any_some hh
  have hx : s.heap.get? x = some ⟨.ref C, some dx, .plain, #[]⟩ := I.obj
  refine wpAny_bind (wpAny_pure (wpAny_bind (wpAny_bind (wpAny_loadPart hx (wpAny_bind (PySem.W.Looks.here (s := { s with toks := s.toks + 1 }) (PySem.W.looks_clsIn X hc) ?_))))))
  rw [hd']
  refine wpAny_pure (a := some dx) (wpAny_bind (wpAny_pure (wpAny_bind ?_)))
  refine wpAny_nsSet1 (s := { s with toks := s.toks + 1 }) I.ns fun h' hn2 hs2 => ?_
  obtain ⟨oD, esD, epD, hoD, hdD, hcD⟩ := hn2.count (PySem.Within.cons name v hw)
  refine wpAny_bind (wpAny_lookBehind hoD (by rw [hdD]; exact pastItsLine_dict (Nat.le_trans hcD (by rw [List.length_cons]; omega))) ?_)
  exact wpAny_pure (h _ ⟨(hs2.2 _ (Ne.symm I.ne)).trans I.obj, hn2, I.ne⟩ hs2)

/-- C(..): the dict at the heap's end, the instance behind it; then its __init__ -/
theorem make_map {R : Result → Shared → Prop} {vs : List Value} {kw : List (Str × Value)} (X : K.In s.heap) (hm : PySem.W.makesIn K C = true)
    (hi : PySem.W.findIn K (.ref C) "__init__" = some (some (.ref f))) (hf : PySem.W.typeIn K (.ref f) = some (.type "function"))
    (h : codeAny (model prog w) (A.under (.builtin "type.__call__" ⟨.ref C :: vs, kw⟩)) (.call (.ref f) ⟨.ref (s.heap.objs.size + 1) :: vs, kw⟩) (PySem.W.InitBack (s.heap.objs.size + 1) R)
      { s with heap := (s.heap.push PySem.W.emptyDict).push (PySem.W.instObj C s.heap.objs.size) }) :
    codeAny (model prog w) A (.call (.ref C) ⟨vs, kw⟩) R s := by
  obtain ⟨hh, g, d, t, os⟩ := s
  exact PySem.W.make_core (PySem.W.makes_of X hm) (PySem.W.looks_findIn X hi) (fun self => PySem.W.bind_fn X self hf) (.inl rfl) h
end

/-! ### the attributes as a list of pairs -/
def putF (f : Str) (v : V) : List (Str × V) → List (Str × V)
  | [] => [(f, v)]
  | (g, x) :: r => if g = f then (g, v) :: r else (g, x) :: putF f v r
theorem lookup_putF (f g : Str) (v : V) : ∀ fs : List (Str × V), (putF f v fs).lookup g = if g = f then some v else fs.lookup g
  | [] => by
    show List.lookup g [(f, v)] = _
    by_cases h : g = f
    · have hb : (g == f) = true := beq_iff_eq.mpr h
      simp only [List.lookup, hb, if_pos h]
    · have hb : (g == f) = false := beq_eq_false_iff_ne.mpr h
      simp only [List.lookup, hb, if_neg h]
  | (k, x) :: r => by
    have ih := lookup_putF f g v r
    rw [show putF f v ((k, x) :: r) = (if k = f then (k, v) :: r else (k, x) :: putF f v r) from rfl]
    by_cases hk : k = f
    · rw [if_pos hk]
      by_cases h : g = k
      · have hb : (g == k) = true := beq_iff_eq.mpr h
        simp only [List.lookup, hb, if_pos (h.trans hk)]
      · have hb : (g == k) = false := beq_eq_false_iff_ne.mpr h
        simp only [List.lookup, hb, if_neg (fun e : g = f => h (e.trans hk.symm))]
    · rw [if_neg hk]
      by_cases h : g = k
      · have hb : (g == k) = true := beq_iff_eq.mpr h
        simp only [List.lookup, hb, if_neg (fun e : g = f => hk (h.symm.trans e))]
      · have hb : (g == k) = false := beq_eq_false_iff_ne.mpr h
        simp only [List.lookup, hb]
        exact ih
theorem keys_putF (f : Str) (v : V) : ∀ fs : List (Str × V), f ∈ (putF f v fs).map (·.1) ∧ ∀ g, g ∈ fs.map (·.1) → g ∈ (putF f v fs).map (·.1)
  | [] => ⟨by simp [putF], fun g h => by simp at h⟩
  | (k, x) :: r => by
    obtain ⟨i1, i2⟩ := keys_putF f v r
    rw [show putF f v ((k, x) :: r) = (if k = f then (k, v) :: r else (k, x) :: putF f v r) from rfl]
    by_cases hk : k = f
    · rw [if_pos hk]
      subst hk
      exact ⟨by simp, fun g h => by simpa using h⟩
    · rw [if_neg hk]
      refine ⟨?_, fun g h => ?_⟩
      · rw [List.map_cons]
        exact List.mem_cons_of_mem _ i1
      · rw [List.map_cons] at h ⊢
        rcases List.mem_cons.mp h with e | e
        · exact List.mem_cons.mpr (.inl e)
        · exact List.mem_cons_of_mem _ (i2 g e)
theorem length_putF (f : Str) (v : V) : ∀ fs : List (Str × V), (putF f v fs).length ≤ fs.length + 1
  | [] => by simp [putF]
  | (k, x) :: r => by
    have ih := length_putF f v r
    rw [show putF f v ((k, x) :: r) = (if k = f then (k, v) :: r else (k, x) :: putF f v r) from rfl]
    by_cases hk : k = f
    · rw [if_pos hk, List.length_cons, List.length_cons]; omega
    · rw [if_neg hk, List.length_cons, List.length_cons]; omega

theorem RelO.some_of {v : V} {o : Option Value} (r : RelO (some v) o) : ∃ u, o = some u ∧ RelV v u := by
  cases o with
  | none => exact (show False from r).elim
  | some u => exact ⟨u, rfl, r⟩
theorem RelO.none_of {o : Option Value} (r : RelO none o) : o = none := by
  cases o with
  | none => rfl
  | some u => exact (show False from r).elim
theorem handed_of {v : V} {u : Value} (r : RelV v u) : PySem.W.handedIn u = true := by
  cases v with
  | non => cases (show u = Value.none from r); rfl
  | bl b => cases (show u = Value.bool b from r); rfl
  | int i => obtain ⟨t, e⟩ := (show ∃ t, u = Value.int i t from r); cases e; rfl
  | str x => obtain ⟨t, e⟩ := (show ∃ t, u = Value.str x t from r); cases e; rfl
  | byt b => obtain ⟨t, e⟩ := (show ∃ t, u = Value.bytes b t from r); cases e; rfl
  | flt b => obtain ⟨t, e⟩ := (show ∃ t, u = Value.float b t from r); cases e; rfl
  | ref a => cases (show u = Value.ref a from r); rfl
  | ty n => cases (show u = Value.type n from r); rfl

section
variable {P : Program} {w : World} {H H' : Hp} {h h' : Heap} {a C dx : Addr} {fs fs' : List (Str × V)}
theorem ins_get (hok : HOk P w H h) (e : H a = some (.ins C dx fs)) : ∃ mA, ObjM h a dx C mA ∧ (∀ f, RelO (fs.lookup f) (mA f)) ∧ PySem.Within mA (fs.map (·.1)) ∧ fs.length ≤ 1000 ∧ H dx = some (.own a) := by
  obtain ⟨d, z, ne, ob, mA, n, r, q⟩ := (show ObjOk P w H h a (.ins C dx fs) from hok a _ e)
  exact ⟨mA, ⟨ob, n, ne⟩, r, q, z, d⟩
end

/-! ### what of the text a class must have -/
structure Cls (K : PySem.W.Frag) (C : Addr) : Prop where
  pg : PySem.W.plainGet K C Str.empty = true
  hd : PySem.W.hasDictIn K C = true
  po : PySem.W.plainOver K C = true
  sa : PySem.W.findIn K (.ref C) "__setattr__" = some (some (.builtin "object.__setattr__"))
theorem Cls.get {K : PySem.W.Frag} {C : Addr} (c : Cls K C) (f : Str) : PySem.W.plainGet K C f = true := c.pg
/-- no class of it has the name -/
def NoAttr (K : PySem.W.Frag) (C : Addr) (f : Str) : Prop := PySem.W.findIn K (.ref C) f = some none
theorem NoAttr.taker {K : PySem.W.Frag} {C : Addr} {f : Str} (n : NoAttr K C f) : PySem.W.takerIn K C f = some none := by
  unfold PySem.W.takerIn
  rw [show PySem.W.findIn K (.ref C) f = some none from n]
  rfl
/-- a method: a plain def of the class or of one above it -/
structure Meth (K : PySem.W.Frag) (C : Addr) (m : Str) (f : Addr) : Prop where
  at_ : PySem.W.findIn K (.ref C) m = some (some (.ref f))
  fn : PySem.W.isFn K (.ref f) = true
  kp : PySem.W.keepIn K (.ref f) = true

section
variable {X : Cx} {pins : List (Addr × Obj)} {σ : St} {H : Hp} {s : Shared} {a C dx : Addr} {fs : List (Str × V)} {f : Str} {v : V} {A : Around} {E : Value → Shared → Prop}

theorem getattr_ok {b : Bool} {Q : Value → Shared → Prop} (I : Inv X pins σ H s) (e : H a = some (.ins C dx fs)) (c : Cls X.K C) (n : NoAttr X.K C f) (l : fs.lookup f = some v)
    (h : ∀ u s', Inv X pins σ H s' → RelV v u → Q u s') : wpAny (model X.prog X.w) A (getAttr (.ref a) f b) Q E s := by
  obtain ⟨mA, O, r, _, _, _⟩ := ins_get I.hok e
  obtain ⟨u, hu, ru⟩ := RelO.some_of (v := v) (o := mA f) (by rw [← l]; exact r f)
  exact get_map I.kIn O (c.get f) c.hd n hu (handed_of ru) (h u _ (I.tok _) ru)


theorem getmeth_ok {m : Str} {g : Addr} {pl : Sem Bool} {Q : Value × List Value → Shared → Prop} (I : Inv X pins σ H s) (e : H a = some (.ins C dx fs)) (c : Cls X.K C) (k : Meth X.K C m g) (l : fs.lookup m = none)
    (h : Q (.ref g, [.ref a]) s) : wpAny (model X.prog X.w) A (getMethod (.ref a) m pl) Q E s := by
  obtain ⟨mA, O, r, _, _, _⟩ := ins_get I.hok e
  have hn : mA m = none := RelO.none_of (by rw [← l]; exact r m)
  exact get_meth I.kIn O (c.get m) k.at_ k.fn hn h

theorem setattr_ok {y : V} {u : Value} {Q : Unit → Shared → Prop} (I : Inv X pins σ H s) (e : H a = some (.ins C dx fs)) (c : Cls X.K C) (n : NoAttr X.K C f) (hl : fs.length < 1000) (ry : RelV y u)
    (h : ∀ s', Inv X pins σ (upd H a (.ins C dx (putF f y fs))) s' → Q () s') : wpAny (model X.prog X.w) A (setAttr (.ref a) f u) Q E s := by
  obtain ⟨mA, O, r, wi, _, ho⟩ := ins_get I.hok e
  have hz : (fs.map (·.1)).length ≤ sizeLine := by rw [List.length_map, sizeLine_eq]; omega
  refine set_map I.kIn O c.sa c.po n.taker c.hd wi hz fun h' O' sb => h _ ?_
  have hd : ∃ o, h'.get? dx = some o := let ⟨o, _, _, e', _⟩ := O'.ns; ⟨o, e'⟩
  refine I.write (x := a) (e := dx) (by rw [e]; exact True.intro) (.inr ho) (fun b q hb z => (sb.2 b hb).trans z) hd ?_
  refine ⟨by rw [upd_ne O.ne]; exact ho, ?_, O.ne, O'.obj, _, O'.ns, fun g => ?_, fun g hg => ?_⟩
  · have := length_putF f y fs; omega
  · show RelO ((putF f y fs).lookup g) (if g = f then some u else mA g)
    rw [lookup_putF]
    by_cases q : g = f
    · rw [if_pos q, if_pos q]; exact ry
    · rw [if_neg q, if_neg q]; exact r g
  · by_cases q : g = f
    · rw [q]; exact (keys_putF f y fs).1
    · refine (keys_putF f y fs).2 g (wi g fun z => hg ?_)
      show (if g = f then some u else mA g) = none
      rw [if_neg q]; exact z

/-- a new instance, tracked, without attributes -/
theorem Inv.made (I : Inv X pins σ H s) : Inv X pins σ (upd (upd H s.heap.objs.size (.own (s.heap.objs.size + 1))) (s.heap.objs.size + 1) (.ins C s.heap.objs.size []))
    { s with heap := (s.heap.push PySem.W.emptyDict).push (PySem.W.instObj C s.heap.objs.size) } := by
  have e1 : (s.heap.push PySem.W.emptyDict).get? s.heap.objs.size = some PySem.W.emptyDict := Heap.get?_push_size s.heap rfl
  have e2 : ((s.heap.push PySem.W.emptyDict).push (PySem.W.instObj C s.heap.objs.size)).get? (s.heap.objs.size + 1) = some (PySem.W.instObj C s.heap.objs.size) := by
    have := Heap.get?_push_size (s.heap.push PySem.W.emptyDict) (o := PySem.W.instObj C s.heap.objs.size) rfl
    rwa [Heap.size_push] at this
  have e3 : (s.heap.push PySem.W.emptyDict).Ns s.heap.objs.size (fun _ => none) := ⟨PySem.W.emptyDict, #[], _, e1, rfl, (fun e he => absurd he (by simp)), fun _ => rfl⟩
  have I1 := I.laid (a := s.heap.objs.size) (o := .own (s.heap.objs.size + 1)) (h' := s.heap.push PySem.W.emptyDict) (t' := s.toks) (fun b u q => Heap.get?_push_of_some _ q) (Nat.le_refl _) ⟨_, e1⟩
  refine I1.laid (a := s.heap.objs.size + 1) (o := .ins C s.heap.objs.size []) (t' := s.toks) (fun b u q => Heap.get?_push_of_some _ q) (Nat.le_of_eq (Heap.size_push _ _)) ?_
  have ne : s.heap.objs.size ≠ s.heap.objs.size + 1 := Nat.ne_of_lt (Nat.lt_succ_self _)
  refine ⟨by rw [upd_ne ne, upd_same], Nat.zero_le _, ne, e2, fun _ => none, (Heap.Ns1.of_empty e3).at fun o q => Heap.get?_push_of_some _ q, fun _ => True.intro, fun y hy => absurd rfl hy⟩

/-- e.f where nothing but the object is asked: through attributeBase (super) and the last hold -/
theorem attr_of {prog : Program} {w : World} {env : Env} {e : Expr} {f : Str} {pos : Pos} {s : Shared} {Q : Value → Shared → Prop} (hb : attributeBase e f env (eval e env) = eval e env)
    (h : wpAny (model prog w) A (eval e env) (fun o s₁ => wpAny (model prog w) A (getAttr o f true) Q E s₁) E s) : wpAny (model prog w) A (eval (.Attribute e f pos) env) Q E s :=
  Attribute_any_ h (by rw [arm_eval_Attribute, hb])
end

/-! ### readings and rules -/
/-- e.f, an attribute of the instance -/
def tFld (K : PySem.W.Frag) (ta : TE) (f : Str) : TE := fun σ H Q => ta σ H fun x H1 => ∃ a C dx fs v, x = .ref a ∧ H1 a = some (.ins C dx fs) ∧ Cls K C ∧ NoAttr K C f ∧ fs.lookup f = some v ∧ Q v H1
/-- e.f = value -/
def sFld (K : PySem.W.Frag) (ta tv : TE) (f : Str) : TS := fun D σ H => tv σ H fun y H1 => ta σ H1 fun x H2 => ∃ a C dx fs, x = .ref a ∧ H2 a = some (.ins C dx fs) ∧ Cls K C ∧ NoAttr K C f ∧ fs.length < 1000 ∧
  D.nx σ (upd H2 a (.ins C dx (putF f y fs)))
/-- an augmented operator on two values -/
def InOp (X : Cx) (op : Operator) (rd : V → V → Hp → VK → Prop) : Prop :=
  ∀ (pins : List (Addr × Obj)) (s : Shared) (σ : St) (H : Hp) (x y : V) (u v : Value) (Q : VK), Inv X pins σ H s → RelV x u → RelV y v → rd x y H Q → wpAny (model X.prog X.w) X.A (inplaceOp op u v) (EP X pins σ Q) X.xe s

section
variable {X : Cx} {o e value : Expr} {f : Str} {pos pos' tpos : Pos} {ta tv : TE}
theorem pe_fld (he : PE X e ta) (hb : attributeBase e f X.env (eval e X.env) = eval e X.env) : PE X (.Attribute e f pos) (tFld X.K ta f) := by
  intro pins s σ H Q I h
  refine attr_of hb (thn (he pins s σ H _ I h) fun u s1 ⟨x, H1, I1, rx, a, C, dx, fs, v, ex, ea, c, n, l, q⟩ => ?_)
  subst ex
  obtain rfl : u = Value.ref a := rx
  exact getattr_ok I1 ea c n l fun u' s2 I2 ru => ⟨v, H1, I2, ru, q⟩
theorem ps_fld (ha : PE X o ta) (hv : PE X value tv) (hs : swapsWith value (some (.Attribute o f pos')) pos.line X.env = pure false) : PS X (.Assign [.Attribute o f pos'] value pos) (sFld X.K ta tv f) := by
  intro pins s σ H D I h
  refine plainObj_wpAny_Assign_Attribute (thn (hv pins s σ H _ I h) fun u s1 ⟨y, H1, I1, ry, q⟩ => thn (ha pins s1 σ H1 _ I1 q) fun ov s2 ⟨x, H2, I2, rx, a, C, dx, fs, ex, ea, c, n, l, q2⟩ => ?_) hs
  subst ex
  obtain rfl : ov = Value.ref a := rx
  exact setattr_ok I2 ea c n l ry fun s3 I3 => ⟨σ, _, I3, q2⟩

end

/-! ### isinstance -/
section
variable {X : Cx} {pins : List (Addr × Obj)} {σ : St} {H : Hp} {s : Shared} {A : Around} {E : Value → Shared → Prop} {Q : Value → Shared → Prop} {c : Value} {b : Bool}
/-- the type of a value, as the fragment's deciders take it; for an instance its class -/
inductive TyOf (K : PySem.W.Frag) (H : Hp) : V → Value → Prop where
  | non : TyOf K H .non (.type "NoneType")
  | bl (x : Bool) : TyOf K H (.bl x) (.type "bool")
  | int (i : Int) : TyOf K H (.int i) (.type "int")
  | str (x : Str) : TyOf K H (.str x) (.type "str")
  | flt (x : UInt64) : TyOf K H (.flt x) (.type "float")
  | lst {a : Addr} {xs : List V} (e : H a = some (.lst xs)) : TyOf K H (.ref a) (.type "list")
  | frz {a : Addr} {o : Obj} {xs : List V} (e : H a = some (.frz o (.lst xs))) : TyOf K H (.ref a) (.type "list")
  | tup {a : Addr} {xs : List V} (e : H a = some (.tup xs)) : TyOf K H (.ref a) (.type "tuple")
  | dK {a : Addr} {kvs : List (Key × V)} (e : H a = some (.dK kvs)) : TyOf K H (.ref a) (.type "dict")
  | dT {a : Addr} {kvs : List (List Key × V)} (e : H a = some (.dT kvs)) : TyOf K H (.ref a) (.type "dict")
  | ins {a C dx : Addr} {fs : List (Str × V)} (e : H a = some (.ins C dx fs)) (cl : Cls K C) (ha : PySem.W.findIn K (.ref C) "__class__" = some (some (.builtin "object.__class__")))
      (hn : PySem.W.specialIn K (.builtin "object.__class__") "__get__" = some (some (.builtin "getset_descriptor.__get__"))) (htk : PySem.W.takesIn K (.builtin "object.__class__") = some true)
      (hm : PySem.W.mroIn K C (.type "object") = some true) : TyOf K H (.ref a) (.ref C)
/-- isinstance(x, c) for one class c, a built-in or an own one: kitOne's answer -/
theorem isinst_ok {x : V} {u t : Value} (I : Inv X pins σ H s) (rx : RelV x u) (ty : TyOf X.K H x t) (e : PySem.W.kitOne X.K t c = some b) (h : ∀ tk, Q (.bool b) { s with toks := tk }) :
    wpAny (model X.prog X.w) A (call (.builtin "isinstance") [u, c]) Q E s := by
  cases ty with
  | non => cases (show u = Value.none from rx); exact PySem.W.kia_one PySem.W.kitx_none I.kIn True.intro e (fun z => nomatch z) h
  | bl y => cases (show u = Value.bool y from rx); exact PySem.W.kia_one PySem.W.kitx_bool I.kIn True.intro e (fun z => nomatch z) h
  | int i => obtain ⟨t, q⟩ := (show ∃ t, u = Value.int i t from rx); cases q; exact PySem.W.kia_one PySem.W.kitx_int I.kIn True.intro e (fun z => nomatch z) h
  | str y => obtain ⟨t, q⟩ := (show ∃ t, u = Value.str y t from rx); cases q; exact PySem.W.kia_one PySem.W.kitx_str I.kIn True.intro e (fun z => nomatch z) h
  | flt y => obtain ⟨t, q⟩ := (show ∃ t, u = Value.float y t from rx); cases q; exact PySem.W.kia_one PySem.W.kitx_float I.kIn True.intro e (fun z => nomatch z) h
  | @lst a xs ea =>
    cases (show u = Value.ref a from rx)
    obtain ⟨_, _, n, _, h1⟩ := (show ObjOk X.prog X.w H s.heap a (.lst xs) from I.hok a _ ea)
    exact PySem.W.kia_one PySem.W.kitx_list I.kIn ⟨_, h1, rfl⟩ e (fun z => nomatch z) h
  | @frz a ob xs ea =>
    cases (show u = Value.ref a from rx)
    obtain ⟨_, _, _, n, _, h1⟩ := (show ObjOk X.prog X.w H s.heap a (.frz ob (.lst xs)) from I.hok a _ ea)
    exact PySem.W.kia_one PySem.W.kitx_list I.kIn ⟨_, h1, rfl⟩ e (fun z => nomatch z) h
  | @tup a xs ea =>
    cases (show u = Value.ref a from rx)
    obtain ⟨_, _, _, p⟩ := (show ObjOk X.prog X.w H s.heap a (.tup xs) from I.hok a _ ea)
    obtain ⟨o, h1, h2, _⟩ := p
    exact PySem.W.kia_one PySem.W.kitx_tuple I.kIn ⟨o, h1, h2⟩ e (fun z => nomatch z) h
  | @dK a kvs ea =>
    cases (show u = Value.ref a from rx)
    obtain ⟨_, _, vs, _, p⟩ := (show ObjOk X.prog X.w H s.heap a (.dK kvs) from I.hok a _ ea)
    obtain ⟨o, es, ep, h1, h2, _⟩ := p
    exact PySem.W.kia_one PySem.W.kitx_dict I.kIn ⟨o, h1, h2.1⟩ e (fun z => nomatch z) h
  | @dT a kvs ea =>
    cases (show u = Value.ref a from rx)
    obtain ⟨_, _, xs, _, o, es, ep, h1, h2, _⟩ := (show ObjOk X.prog X.w H s.heap a (.dT kvs) from I.hok a _ ea)
    exact PySem.W.kia_one PySem.W.kitx_dict I.kIn ⟨o, h1, h2.1⟩ e (fun z => nomatch z) h
  | @ins a C dx fs ea cl ha hn htk hm =>
    cases (show u = Value.ref a from rx)
    obtain ⟨mA, O, _⟩ := ins_get I.hok ea
    obtain ⟨od, J, _⟩ := O.look
    exact PySem.W.kia_one (PySem.W.kitx_own (cl.get _) cl.hd ha hn htk hm) I.kIn J e (fun z => nomatch z) h
end
end L2

namespace L2
open PySem PySem.Spec PyProof.Rows

/-! ### room -/
structure Room (k : Nat) (A : Around) : Prop where
  hd : A.handled = none
  dp : A.depth + 3 * k + 5 < recursionLimit
  un : A.units + 16 * k + 200 < cLine
theorem Room.mono {j k : Nat} {A : Around} (r : Room k A) (h : j ≤ k) : Room j A := ⟨r.hd, by have := r.dp; omega, by have := r.un; omega⟩
theorem Room.deeper {k : Nat} {A : Around} (r : Room (k + 1) A) (env : Env) : Room k (A.deeper env) :=
  ⟨r.hd, by have := r.dp; show A.depth + 1 + 3 * k + 5 < _; omega, by have := r.un; show A.units + 3 + 16 * k + 200 < _; omega⟩
theorem Room.in1 {k : Nat} {A : Around} (r : Room (k + 1) A) : Room k A.in1 :=
  ⟨r.hd, by have := r.dp; show A.depth + 3 * k + 5 < _; omega, by have := r.un; show A.units + 1 + 16 * k + 200 < _; omega⟩
theorem make_depth {A : Around} {C : Addr} {us : List Value} {kw : List (Str × Value)} : (A.under (.builtin "type.__call__" ⟨.ref C :: us, kw⟩)).depth = A.depth + 1 := by
  first | rfl | simp [Around.under, Code.weight, Code.isCreation, Code.isGuard, Code.isCaller, Code.frames, Code.isFrame, guardIds]
theorem make_units {A : Around} {C : Addr} {us : List Value} {kw : List (Str × Value)} : (A.under (.builtin "type.__call__" ⟨.ref C :: us, kw⟩)).units = A.units + 1 := by
  first | rfl | simp [Around.under, Code.cUnits, Code.frames, Code.isFrame]
theorem Room.make {k : Nat} {A : Around} (r : Room (k + 1) A) (C : Addr) (us : List Value) (kw : List (Str × Value)) : Room k (A.under (.builtin "type.__call__" ⟨.ref C :: us, kw⟩)) :=
  ⟨r.hd, by have := r.dp; rw [make_depth]; omega, by have := r.un; rw [make_units]; omega⟩
theorem Room.depth {k : Nat} {A : Around} (r : Room k A) : A.depth < recursionLimit := by have := r.dp; omega
theorem Room.units {k : Nat} {A : Around} (r : Room k A) : A.units + 64 < cLine := by have := r.un; omega
theorem Room.units0 {k : Nat} {A : Around} (r : Room k A) : A.units < cLine := by have := r.un; omega

/-! ### argument lists and displays -/
def tNil : TA := fun _ H Q => Q [] H
def tCons (ta : TE) (tr : TA) : TA := fun σ H Q => ta σ H fun x H1 => tr σ H1 fun xs H2 => Q (x :: xs) H2
section
variable {X : Cx} {e : Expr} {es : List Expr} {te : TE} {t : TA} {pos : Pos}
theorem pa_nil : PA X [] tNil := fun _ _ _ _ H Q I h => Calls.spliced_nil ⟨[], H, I, .nil, h⟩
theorem pa_cons (ha : PE X e te) (hr : PA X es t) (hs : starEach (e :: es) X.env = (false, eval e X.env) :: starEach es X.env := by rfl) : PA X (e :: es) (tCons te t) := by
  intro pos pins s σ H Q I h
  rw [hs]
  show wpAny _ _ (spliced ((false, eval e X.env) :: backTo pos (starEach es X.env))) _ _ s
  refine Calls.spliced_cons (thn (ha pins s σ H _ I h) fun u s1 ⟨x, H1, I1, r1, q1⟩ => ?_)
  exact thn (hr pos pins s1 σ H1 _ I1 q1) fun us s2 ⟨xs, H2, I2, r2, q2⟩ => ⟨x :: xs, H2, I2, .cons r1 r2, q2⟩

/-- a tuple, a list of written items -/
def tTup (t : TA) : TE := fun σ H Q => t σ H fun xs H1 => xs.length ≤ sizeLine ∧ ∀ p, H1 p = none → Q (.ref p) (upd H1 p (.tup xs))
def tLst (t : TA) : TE := fun σ H Q => t σ H fun xs H1 => xs.length ≤ sizeLine ∧ ∀ p, H1 p = none → Q (.ref p) (upd H1 p (.lst xs))
theorem pe_tup {x1} (h : PA X es t) : PE X (.Tuple es x1 pos) (tTup t) := by
  intro pins s σ H Q I hq
  refine wpAny_Tuple_spliced (thn (h pos pins s σ H _ I hq) fun us s1 ⟨xs, H1, I1, r, z, q⟩ => ⟨by rw [← r.length]; exact z, ?_⟩)
  have hf : H1 s1.heap.objs.size = none := I1.hok.fresh (Nat.le_refl _)
  refine ⟨.ref s1.heap.objs.size, upd H1 s1.heap.objs.size (.tup xs), I1.laid (t' := s1.toks) (fun b u e => Heap.get?_push_of_some _ e) (Nat.le_refl _) ?_, rfl, q _ hf⟩
  exact ⟨z, us, r, ⟨_, Heap.get?_push_size _ rfl, rfl, _, rfl⟩⟩
theorem pe_lst (h : PA X es t) : PE X (.List es pos) (tLst t) := by
  intro pins s σ H Q I hq
  refine wpAny_List_spliced (thn (h pos pins s σ H _ I hq) fun us s1 ⟨xs, H1, I1, r, z, q⟩ => ⟨by rw [← r.length]; exact z, ?_⟩)
  have hf : H1 s1.heap.objs.size = none := I1.hok.fresh (Nat.le_refl _)
  refine ⟨.ref s1.heap.objs.size, upd H1 s1.heap.objs.size (.lst xs), I1.laid (t' := s1.toks) (fun b u e => Heap.get?_push_of_some _ e) (Nat.le_refl _) ?_, rfl, q _ hf⟩
  exact ⟨z, us, 0, r, Heap.get?_push_size _ rfl⟩
end

/-! ### what a def promises -/
/-- a def's promise: the bound arguments in the parameters' order, the heap, the wanted end, the wanted exception -/
abbrev Sp := List V → Hp → VK → XK → Prop
/-- how an exception lies behind a call (file 08 gives it): the callers' frames, abstract heap and state ahead of the call, the wish, the exception, the state -/
abbrev CXT := List Env → Hp → Shared → XK → Value → Shared → Prop

/-- the state at a call -/
structure Env0 (P : Program) (w : World) (K : PySem.W.Frag) (mg : Str → Option Value) (base : Heap) (A : Around) (outer : List Env) (s : Shared) (H : Hp) : Prop where
  frames : A.frames = some outer
  mod : Mod K mg base
  bs : ∀ b o, base.get? b = some o → s.heap.get? b = some o ∧ H b = none
  bsz : base.objs.size ≤ s.heap.objs.size
  funs : s.heap.FunFrames base outer
  frf : ∀ b ∈ frs outer, H b = none
  hok : HOk P w H s.heap
  bare : AllBare s.gens
/-- a call's end -/
def CE (outer : List Env) (P : Program) (w : World) (H : Hp) (s : Shared) (Q : VK) (u : Value) (s' : Shared) : Prop :=
  ∃ v H', s'.os = s.os ∧ AllBare s'.gens ∧ Un (frs outer) [] H H' s.heap s'.heap ∧ HOk P w H' s'.heap ∧ RelV v u ∧ Q v H'
def CR (CX : CXT) (outer : List Env) (P : Program) (w : World) (H : Hp) (s : Shared) (Q : VK) (E : XK) (r : Result) (s' : Shared) : Prop :=
  match r with
  | .ok (.ret u) => CE outer P w H s Q u s'
  | .ok _ => False
  | .error e => CX outer H s E e s'
structure FnOk (P : Program) (w : World) (K : PySem.W.Frag) (mg : Str → Option Value) (base : Heap) (CX : CXT) (k : Nat) (f : Addr) (fd : FuncData) (ps : List Str) (sp : Sp) : Prop where
  len : ∀ vs H Q E, sp vs H Q E → vs.length = ps.length
  run : ∀ (A : Around) (outer : List Env) (s : Shared) (H : Hp) (args : Args) (us : List Value) (vs : List V) (Q : VK) (E : XK), Room k A → Env0 P w K mg base A outer s H → BindsTo s fd args (ps.zip us) → Vals vs us → sp vs H Q E →
    codeAny (model P w) A (.call (.ref f) args) (CR CX outer P w H s Q E) s

theorem Env0.make {P : Program} {w : World} {K : PySem.W.Frag} {mg : Str → Option Value} {base : Heap} {A : Around} {outer : List Env} {s : Shared} {H : Hp} (e : Env0 P w K mg base A outer s H) (C : Addr) (us : List Value) (kw : List (Str × Value)) :
    Env0 P w K mg base (A.under (.builtin "type.__call__" ⟨.ref C :: us, kw⟩)) outer s H := ⟨by first | exact e.frames | (simpa [Around.under, Code.envs, Code.isFrame, pushEnvs] using e.frames), e.mod, e.bs, e.bsz, e.funs, e.frf, e.hok, e.bare⟩

section
variable {X : Cx} {pins : List (Addr × Obj)} {σ : St} {H : Hp} {s s' : Shared}
/-- from a body: what a callee wants -/
theorem Inv.env0 (I : Inv X pins σ H s) : Env0 X.prog X.w X.K X.mg X.base X.A X.stack s H :=
  ⟨I.ok.frames, I.ok.mod, I.bs, Nat.le_trans I.ok.bsz I.sz, I.stack, I.stkFree, I.hok, I.bare⟩
/-- behind a call -/
theorem Inv.after {Q : VK} {u : Value} (I : Inv X pins σ H s) (h : CE X.stack X.prog X.w H s Q u s') : EP X pins σ Q u s' := by
  obtain ⟨v, H', os, bare, un, hok, r, q⟩ := h
  obtain ⟨hh, g, d, t, os'⟩ := s'
  obtain rfl : os' = s.os := os
  exact ⟨v, H', I.call (h' := hh) (g' := g) (d' := d) (t' := t) (ch := []) un hok bare (fun b z => absurd z (by simp)), r, q⟩
end

/-! ### calls -/
/-- f(..): the written arguments, then the defaults dvs; E: what is wanted of an exception -/
def tCall (sp : Sp) (dvs : List V) (E : XK) (t : TA) : TE := fun σ H Q => t σ H fun vs H1 => sp (vs ++ dvs) H1 Q E
/-- o.m(..) of an instance of the class at C -/
def tMeth (C : Addr) (m : Str) (sp : Sp) (dvs : List V) (E : XK) (ta : TE) (t : TA) : TE := fun σ H Q => ta σ H fun x H1 => ∃ a dx fs, x = .ref a ∧ H1 a = some (.ins C dx fs) ∧ fs.lookup m = none ∧
  t σ H1 fun vs H2 => sp (x :: (vs ++ dvs)) H2 Q E
/-- C(..): a new instance and its dict, then __init__ -/
def tMake (C : Addr) (sp : Sp) (dvs : List V) (E : XK) (t : TA) : TE := fun σ H Q => t σ H fun vs H1 => ∀ x dx, H1 x = none → H1 dx = none → dx ≠ x →
  sp (.ref x :: (vs ++ dvs)) (upd (upd H1 dx (.own x)) x (.ins C dx [])) (fun v H2 => v = .non ∧ Q (.ref x) H2) E

/-- how the parameters are bound: us the positional arguments, kw the keywords' values by name, ds the defaults that fill up -/
def Binds (K : PySem.W.Frag) (fd : FuncData) (ps : List Str) (ds : List Value) : Prop :=
  ∀ (s : Shared) (us : List Value), K.In s.heap → (us ++ ds).length = ps.length → BindsTo s fd ⟨us, []⟩ (ps.zip (us ++ ds))
/-- every parameter is given -/
theorem Binds.all {K : PySem.W.Frag} {fd : FuncData} {ps : List Str} (h : ∀ us : List Value, us.length = ps.length → bindArgs fd ⟨us, []⟩ = pure (ps.zip us)) : Binds K fd ps [] := fun s us _ hl => by
  rw [List.append_nil] at hl ⊢
  exact .of_eq (h us hl)

/-- an exception of a callee reaches what this body wants of exceptions -/
def Passes (CX : CXT) (X : Cx) (E : XK) : Prop := ∀ (pins : List (Addr × Obj)) (σ : St) (H : Hp) (s : Shared) (e : Value) (s' : Shared), Inv X pins σ H s → CX X.stack H s E e s' → X.xe e s'

section
variable {X : Cx} {CX : CXT} {k : Nat} {f C : Addr} {fd : FuncData} {ps : List Str} {sp : Sp} {dvs : List V} {ds : List Value} {E : XK} {x m : Str} {p pos apos : Pos} {e o : Expr} {es : List Expr} {ta : TE} {t : TA}

/-- the callee runs -/
theorem run_fn {pins : List (Addr × Obj)} {σ : St} {H : Hp} {s : Shared} {Q : VK} {us : List Value} {vs : List V} (F : FnOk X.prog X.w X.K X.mg X.base CX k f fd ps sp) (hr : Room k X.A) (hb : Binds X.K fd ps ds) (hd : Vals dvs ds) (hx : Passes CX X E)
    (I : Inv X pins σ H s) (r : Vals vs us) (h : sp (vs ++ dvs) H Q E) : wpAny (model X.prog X.w) X.A (call (.ref f) us) (EP X pins σ Q) X.xe s := by
  have r2 : Vals (vs ++ dvs) (us ++ ds) := r.append hd
  have hl : (us ++ ds).length = ps.length := by rw [← r2.length]; exact F.len _ _ _ _ h
  refine wpAny_call (codeAny_mono (F.run X.A X.stack s H ⟨us, []⟩ (us ++ ds) (vs ++ dvs) Q E hr I.env0 (hb s us I.kIn hl) r2 h) fun r s' hq => ?_)
  cases r with
  | error e => exact hx pins σ H s e s' I hq
  | ok fl =>
    cases fl with
    | ret u => exact I.after hq
    | next => exact False.elim hq
    | brk => exact False.elim hq
    | cont => exact False.elim hq

theorem pe_call (F : FnOk X.prog X.w X.K X.mg X.base CX k f fd ps sp) (hr : Room k X.A) (hg : Gl X x) (hm : X.mg x = some (.ref f)) (hk : PySem.W.keepIn X.K (.ref f) = true) (hb : Binds X.K fd ps ds) (hd : Vals dvs ds) (hx : Passes CX X E)
    (ha : PA X (e :: es) t) (hdb : (x == ("__debug__" : Str)) = false := by decide) (he : starEach (e :: es) X.env = (false, eval e X.env) :: starEach es X.env := by rfl) (hpl : (backTo pos (starEach es X.env)).any (·.1) = false := by rfl) :
    PE X (.Call (.Name x p) (e :: es) [] pos) (tCall sp dvs E t) := by
  intro pins s σ H Q I h
  refine wpAny_Call_Name_kw (ld_glob I hg hm ?_ hdb)
  refine PySem.W.callWith_K (h₀ := X.base) I.ok.mod.kin hk (thn (ha pos pins s σ H _ I h) fun us s1 ⟨vs, H1, I1, r, q⟩ => ⟨I1.kIn, ?_⟩) he hpl
  exact run_fn F hr hb hd hx I1 r q

/-- o.m(e, ..) -/
theorem pe_meth {pl : Sem Bool} (he : PE X o ta) (c : Cls X.K C) (hm : Meth X.K C m f) (F : FnOk X.prog X.w X.K X.mg X.base CX k f fd ps sp) (hr : Room k X.A) (hb : Binds X.K fd ps ds) (hd : Vals dvs ds) (hx : Passes CX X E) (ha : PA X (e :: es) t)
    (hst : starEach (e :: es) X.env = (false, eval e X.env) :: starEach es X.env := by rfl) (hpl : (backTo pos (starEach es X.env)).any (·.1) = false := by rfl)
    (ht : eval (.Call (.Attribute o m apos) (e :: es) [] pos) X.env = (do
      let ov ← eval o X.env
      standAt apos.atName
      let (f, first) ← holding [ov] (getMethod ov m pl)
      callWith pos f first (backTo pos (starEach (e :: es) X.env)) (backToKw pos (keywordEach [] X.env))) := by rfl) :
    PE X (.Call (.Attribute o m apos) (e :: es) [] pos) (tMeth C m sp dvs E ta t) := by
  intro pins s σ H Q I h
  refine PySem.W.methodCall_KW (pl := pl) (thn (he pins s σ H _ I h) fun u s1 ⟨x, H1, I1, rx, a, dx, fs, ex, ea, l, q⟩ => ?_) ht
  subst ex
  obtain rfl : u = Value.ref a := rx
  refine getmeth_ok I1 ea c hm l ?_
  refine PySem.W.callWith_K (first := [.ref a]) (h₀ := X.base) I.ok.mod.kin hm.kp (thn (ha pos pins s1 σ H1 _ I1 q) fun us s2 ⟨vs, H2, I2, r, q2⟩ => ⟨I2.kIn, ?_⟩) hst hpl
  exact run_fn (us := .ref a :: us) (vs := .ref a :: vs) F hr hb hd hx I2 (.cons rfl r) q2
/-- o.m() -/
theorem pe_meth0 {pl : Sem Bool} (he : PE X o ta) (c : Cls X.K C) (hm : Meth X.K C m f) (F : FnOk X.prog X.w X.K X.mg X.base CX k f fd ps sp) (hr : Room k X.A) (hb : Binds X.K fd ps ds) (hd : Vals dvs ds) (hx : Passes CX X E)
    (ht : eval (.Call (.Attribute o m apos) [] [] pos) X.env = (do
      let ov ← eval o X.env
      standAt apos.atName
      let (f, first) ← holding [ov] (getMethod ov m pl)
      callWith pos f first (backTo pos (starEach [] X.env)) (backToKw pos (keywordEach [] X.env))) := by rfl) :
    PE X (.Call (.Attribute o m apos) [] [] pos) (tMeth C m sp dvs E ta tNil) := by
  intro pins s σ H Q I h
  refine PySem.W.methodCall_KW (pl := pl) (thn (he pins s σ H _ I h) fun u s1 ⟨x, H1, I1, rx, a, dx, fs, ex, ea, l, q⟩ => ?_) ht
  subst ex
  obtain rfl : u = Value.ref a := rx
  refine getmeth_ok I1 ea c hm l ?_
  exact PySem.W.callWith_K0 (first := [.ref a]) I1.kIn hm.kp (run_fn (us := [.ref a]) (vs := [.ref a]) F hr hb hd hx I1 (.cons rfl .nil) q)

/-- what a class must have to be made -/
structure Mk (K : PySem.W.Frag) (C f : Addr) : Prop where
  makes : PySem.W.makesIn K C = true
  init : PySem.W.findIn K (.ref C) "__init__" = some (some (.ref f))
  fn : PySem.W.isFn K (.ref f) = true
  kp : PySem.W.keepIn K (.ref C) = true

theorem run_make {pins : List (Addr × Obj)} {σ : St} {H : Hp} {s : Shared} {Q : VK} {us : List Value} {vs : List V} (M : Mk X.K C f) (F : FnOk X.prog X.w X.K X.mg X.base CX k f fd ps sp) (hr : Room (k + 1) X.A) (hb : Binds X.K fd ps ds) (hd : Vals dvs ds)
    (hx : Passes CX X E) (I : Inv X pins σ H s) (r : Vals vs us)
    (h : ∀ x dx, H x = none → H dx = none → dx ≠ x → sp (.ref x :: (vs ++ dvs)) (upd (upd H dx (.own x)) x (.ins C dx [])) (fun v H2 => v = .non ∧ Q (.ref x) H2) E) :
    wpAny (model X.prog X.w) X.A (call (.ref C) us) (EP X pins σ Q) X.xe s := by
  have hq := h (s.heap.objs.size + 1) s.heap.objs.size (I.hok.fresh (Nat.le_succ _)) (I.hok.fresh (Nat.le_refl _)) (Nat.ne_of_lt (Nat.lt_succ_self _))
  have I2 := Inv.made (C := C) I
  have r2 : Vals (V.ref (s.heap.objs.size + 1) :: (vs ++ dvs)) (Value.ref (s.heap.objs.size + 1) :: (us ++ ds)) := .cons rfl (r.append hd)
  have hl : (Value.ref (s.heap.objs.size + 1) :: us ++ ds).length = ps.length := by
    have e := r2.length
    rw [F.len _ _ _ _ hq] at e
    exact e.symm
  refine wpAny_call (make_map (f := f) I.kIn M.makes M.init (beq_iff_eq.mp M.fn) (codeAny_mono (F.run _ X.stack _ _ ⟨Value.ref (s.heap.objs.size + 1) :: us, []⟩ (Value.ref (s.heap.objs.size + 1) :: (us ++ ds)) _ _ E (hr.make C us [])
    (I2.env0.make C us []) (hb _ (Value.ref (s.heap.objs.size + 1) :: us) I2.kIn hl) r2 hq) fun r s' hq' => ?_))
  cases r with
  | error e => exact hx pins σ _ _ e s' I2 hq'
  | ok fl =>
    cases fl with
    | ret u =>
      obtain ⟨v, H', I3, rv, ev, q3⟩ := I2.after hq'
      subst ev
      exact ⟨rv, ⟨V.ref (s.heap.objs.size + 1), H', I3, rfl, q3⟩⟩
    | next => exact False.elim hq'
    | brk => exact False.elim hq'
    | cont => exact False.elim hq'
theorem pe_make0 (M : Mk X.K C f) (F : FnOk X.prog X.w X.K X.mg X.base CX k f fd ps sp) (hr : Room (k + 1) X.A) (hg : Gl X x) (hm : X.mg x = some (.ref C)) (hb : Binds X.K fd ps ds) (hd : Vals dvs ds) (hx : Passes CX X E)
    (hdb : (x == ("__debug__" : Str)) = false := by decide) : PE X (.Call (.Name x p) [] [] pos) (tMake C sp dvs E tNil) := by
  intro pins s σ H Q I h
  refine wpAny_Call_Name_kw (ld_glob I hg hm ?_ hdb)
  exact PySem.W.callWith_K0 I.kIn M.kp (run_make (us := []) M F hr hb hd hx I .nil h)
end

/-! ### keywords -/
/-- the values of the keywords, from the left -/
def PK (X : Cx) (kws : List Keyword) (t : TA) : Prop :=
  ∀ (pos : Pos) (pins : List (Addr × Obj)) (s : Shared) (σ : St) (H : Hp) (Q : List V → Hp → Prop), Inv X pins σ H s → t σ H Q → wpAny (model X.prog X.w) X.A (evalAll ((backToKw pos (keywordEach kws X.env)).map (·.2))) (AP X pins σ Q) X.xe s
section
variable {X : Cx} {CX : CXT} {k : Nat} {f C : Addr} {fd : FuncData} {ps ks : List Str} {sp : Sp} {E : XK} {x m : Str} {p pos apos kpos : Pos} {e o : Expr} {es : List Expr} {kws : List Keyword} {te ta : TE} {t tk : TA} {nm : Option Str}
theorem pk_nil : PK X [] tNil := fun _ _ _ _ H Q I h => wpAny_evalAll_nil ⟨[], H, I, .nil, h⟩
theorem pk_cons (ha : PE X e te) (hr : PK X kws t) : PK X (⟨nm, e, kpos⟩ :: kws) (tCons te t) := by
  intro pos pins s σ H Q I h
  show wpAny _ _ (evalAll ((do let v ← eval e X.env; standAt pos; pure v) :: (backToKw pos (keywordEach kws X.env)).map (·.2))) _ _ s
  refine wpAny_evalAll_cons (wpAny_bind (thn (ha pins s σ H _ I h) fun u s1 ⟨x, H1, I1, r1, q1⟩ => wpAny_bind (wpAny_standAt (wpAny_pure ?_))))
  exact thn (hr pos pins s1 σ H1 _ I1 q1) fun us s2 ⟨xs, H2, I2, r2, q2⟩ => ⟨x :: xs, H2, I2, .cons r1 r2, q2⟩

variable {g : List Value → List Value → List Value} {gV : List V → List V → List V}
end

/-! ### a def's body keeps its promise -/
/-- names: the parameters first -/
structure FnScope (N P : List Str) (sc : Scope) : Prop where
  kind : sc.kind = .function
  co : sc.isCoroutine = false
  gen : sc.isGenerator = false
  nd : N.Nodup
  pre : N.take P.length = P
  par : ∀ x ∈ P, sc.names.lookup x = some .local ∨ sc.names.lookup x = some .cell
  nofree : ∀ y ∈ sc.names, y.2 ≠ .free

theorem bindL_out {kindOf : Str → Option NameKind} {x : Str} : ∀ {binds : List (Str × Value)} {m : Str → Option Value}, (∀ v, (x, v) ∉ binds) → bindL kindOf binds m x = m x
  | [], _, _ => rfl
  | (n, v) :: r, m, h => by
    unfold bindL
    rw [bindL_out fun w hw => h w (List.mem_cons_of_mem _ hw)]
    split
    · have : x ≠ n := by rintro rfl; exact h v List.mem_cons_self
      simp [this]
    · rfl
theorem bindC_out {kindOf : Str → Option NameKind} {x : Str} : ∀ {binds : List (Str × Value)} {m : Str → Option Value}, (∀ v, (x, v) ∉ binds) → bindC kindOf binds m x = m x
  | [], _, _ => rfl
  | (n, v) :: r, m, h => by
    unfold bindC
    rw [bindC_out fun w hw => h w (List.mem_cons_of_mem _ hw)]
    split
    · rfl
    · have : x ≠ n := by rintro rfl; exact h v List.mem_cons_self
      simp [this]
theorem bindL_get {kindOf : Str → Option NameKind} {x : Str} {v : Value} : ∀ {P : List Str} {vs : List Value} {i : Nat} {m : Str → Option Value}, P.Nodup → P[i]? = some x → vs[i]? = some v → kindOf x = some .local →
    bindL kindOf (P.zip vs) m x = some v
  | [], _, _, _, _, h, _, _ => by simp at h
  | _ :: _, [], _, _, _, _, h, _ => by simp at h
  | p :: P, w :: vs, 0, m, nd, h1, h2, hk => by
    simp at h1 h2; subst h1; subst h2
    show bindL kindOf ((p, w) :: P.zip vs) m p = _
    unfold bindL
    rw [bindL_out fun v hv => (List.nodup_cons.mp nd).1 (List.of_mem_zip hv).1, if_pos hk]
    simp
  | p :: P, w :: vs, i + 1, m, nd, h1, h2, hk => by
    show bindL kindOf ((p, w) :: P.zip vs) m x = _
    unfold bindL
    exact bindL_get (i := i) (List.nodup_cons.mp nd).2 (by simpa using h1) (by simpa using h2) hk
theorem bindC_get {kindOf : Str → Option NameKind} {x : Str} {v : Value} : ∀ {P : List Str} {vs : List Value} {i : Nat} {m : Str → Option Value}, P.Nodup → P[i]? = some x → vs[i]? = some v → kindOf x ≠ some .local →
    bindC kindOf (P.zip vs) m x = some v
  | [], _, _, _, _, h, _, _ => by simp at h
  | _ :: _, [], _, _, _, _, h, _ => by simp at h
  | p :: P, w :: vs, 0, m, nd, h1, h2, hk => by
    simp at h1 h2; subst h1; subst h2
    show bindC kindOf ((p, w) :: P.zip vs) m p = _
    unfold bindC
    rw [bindC_out fun v hv => (List.nodup_cons.mp nd).1 (List.of_mem_zip hv).1, if_neg hk]
    simp
  | p :: P, w :: vs, i + 1, m, nd, h1, h2, hk => by
    show bindC kindOf ((p, w) :: P.zip vs) m x = _
    unfold bindC
    exact bindC_get (i := i) (List.nodup_cons.mp nd).2 (by simpa using h1) (by simpa using h2) hk

/-- the names' values at the entry -/
def start (N : List Str) (vs : List V) : St := vs.map some ++ List.replicate (N.length - vs.length) none

/-- the context of a def's body, at its entry; an exception leaves the frame, then lies as CX says -/
def cxOf (CX : CXT) (P : Program) (w : World) (K : PySem.W.Frag) (mg : Str → Option Value) (base : Heap) (N : List Str) (qual : Str) (scope : Scope) (f : Addr) (cd : Value) (A : Around) (outer : List Env) (s : Shared) (H : Hp) (E : XK) : Cx where
  prog := P
  w := w
  K := K
  mg := mg
  base := base
  A := A.deeper (envOfC qual scope s.heap.objs.size f cd)
  N := N
  s₀ := s
  H₀ := H
  env := envOfC qual scope s.heap.objs.size f cd
  outer := outer
  stack := envOfC qual scope s.heap.objs.size f cd :: outer
  ex := []
  calm := true
  fn := fun _ => true
  pn := []
  xe := fun e s' => wpAny (model P w) (A.deeper (envOfC qual scope s.heap.objs.size f cd)) (leaving (envOfC qual scope s.heap.objs.size f cd) e) (fun _ s'' => CX outer H s E e s'') (fun e' s'' => CX outer H s E e' s'') s'

theorem cell_has {sc : Scope} {n : Nat} {x : Str} (h : sc.names.lookup x = some .cell) : ∃ c, (cellsFrom n sc.names []).lookup x = some c := by
  have q := PySem.W.cellsFrom_some sc.names n [] (.inl h)
  exact Option.isSome_iff_exists.mp q

theorem inv_start {CX : CXT} {P : Program} {w : World} {K : PySem.W.Frag} {mg : Str → Option Value} {base : Heap} {N ps : List Str} {qual : Str} {scope : Scope} {f : Addr} {cd : Value} {A : Around} {outer : List Env} {s s1 : Shared} {H : Hp} {E : XK} {us : List Value} {vs : List V}
    (S : FnScope N ps scope) (hd : A.handled = none) (e0 : Env0 P w K mg base A outer s H) (hl : vs.length = ps.length) (r : Vals vs us)
    (x : InCallC s s.heap.objs.size (bindL (envOfC qual scope s.heap.objs.size f cd).kindOf (ps.zip us) fun _ => none) (cellsFrom (s.heap.objs.size + 1) scope.names []) (bindC (envOfC qual scope s.heap.objs.size f cd).kindOf (ps.zip us) fun _ => none) s1) :
    Inv (cxOf CX P w K mg base N qual scope f cd A outer s H E) [] (start N vs) H s1 := by
  have hpl : ps.length ≤ N.length := by have := congrArg List.length S.pre; rw [List.length_take] at this; omega
  obtain ⟨h1, tk, rfl, hk⟩ := x.done
  have noA : ∀ b : Addr, b ∉ (cxOf CX P w K mg base N qual scope f cd A outer s H E).ex := fun b z => absurd (show b ∈ ([] : List Addr) from z) (by simp)
  refine ⟨⟨e0.mod, S.kind, rfl, rfl, Nat.le_refl _, fun y z c h1 h2 => ?_, fun y hy => ?_, fun y c _ h => ?_, fun _ => hd, Around.frames_deeper e0.frames, .inr ⟨rfl, rfl⟩, fun b z => absurd z (noA b), e0.bs, e0.bsz, fun b _ _ => noA b, fun b z => absurd z (noA b), e0.funs, e0.frf⟩,
    rfl, e0.bare, Un.kept hk, ⟨_, x.toInCall.ns, fun i y v h1 h2 h3 => ?_⟩, fun y c h => ⟨_, x.cell y c h⟩, e0.hok.fresh (Nat.le_refl _), fun y c h => ?_, fun p hp => absurd (show p ∈ ([] : List (Addr × Obj)) from hp) (by simp), e0.hok.kept hk, ?_⟩
  · exact name_of_addr x.apart (PySem.mem_of_lookup h1) (PySem.mem_of_lookup h2)
  · have hy : scope.names.lookup y = some .cell ∨ scope.names.lookup y = some .free := hy
    rcases hy with hy | hy
    · exact cell_has hy
    · exact absurd rfl (S.nofree _ (PySem.mem_of_lookup hy))
  · exact Nat.le_of_lt (x.above y c (PySem.mem_of_lookup h))
  · have hi : i < vs.length := by
      unfold start at h2
      by_cases hi : i < vs.length
      · exact hi
      · rw [List.getElem?_append_right (by simpa using hi)] at h2
        rw [List.getElem?_replicate] at h2
        split at h2 <;> cases h2
    have ha : vs[i]? = some v := by
      unfold start at h2
      rw [List.getElem?_append_left (by simpa using hi), List.getElem?_map] at h2
      cases e : vs[i]? with
      | none => rw [e] at h2; cases h2
      | some a => rw [e] at h2; cases h2; rfl
    obtain ⟨u, hu, rv⟩ := r.get ha
    have hp : ps[i]? = some y := by
      rw [← S.pre, List.getElem?_take_of_lt (by omega)]; exact h1
    have ndP : ps.Nodup := by rw [← S.pre]; exact S.nd.sublist (List.take_sublist _ _)
    refine ⟨u, rv, ?_⟩
    rcases S.par y (List.mem_of_getElem? hp) with k | k
    · exact .inl ⟨k, bindL_get ndP hp hu k⟩
    · obtain ⟨c, e⟩ := cell_has (n := s.heap.objs.size + 1) k
      refine .inr ⟨.inl k, c, e, ?_⟩
      have q := x.cell y c e
      rw [bindC_get ndP hp hu (by show scope.names.lookup y ≠ _; rw [k]; decide)] at q
      exact q
  · exact e0.hok.fresh (Nat.le_of_lt (x.above y c (PySem.mem_of_lookup h)))
  · unfold start
    show _ = N.length
    rw [List.length_append, List.length_map, List.length_replicate]
    omega

/-- THE RULE: a def (or a method) of the text, by its body. The body's reading t is chosen for each entry; it is run at the parameters' values -/
theorem fn_of {CX : CXT} {P : Program} {w : World} {K : PySem.W.Frag} {mg : Str → Option Value} {base : Heap} {k : Nat} {f : Addr} {name qual : Str} {params : Arguments} {body : List Stmt} {scope : Scope} {dV kV doc pm cdv ct oc : Value} {an od : Option Addr}
    {osl : Array (Option Value)} {N ps : List Str} {sp : Sp} (lk : K.lookup f = some ⟨oc, od, .func (PySem.W.fnOf name qual params body scope dV kV doc pm an cdv ct), osl⟩) (hcd : PySem.W.codeIn K cdv qual = true) (S : FnScope N ps scope)
    (len : ∀ vs H Q E, sp vs H Q E → vs.length = ps.length)
    (hbody : ∀ (A : Around) (outer : List Env) (s : Shared) (H : Hp) (vs : List V) (Q : VK) (E : XK), Room k (A.deeper (envOfC qual scope s.heap.objs.size f cdv)) → sp vs H Q E →
      ∃ t, PSs (cxOf CX P w K mg base N qual scope f cdv A outer s H E) body t ∧ t { nx := fun _ H' => Q .non H', rt := Q } (start N vs) H) :
    FnOk P w K mg base CX (k + 1) f (PySem.W.fnOf name qual params body scope dV kV doc pm an cdv ct) ps sp := by
  refine ⟨len, fun A outer s H args us vs Q E hr e0 hb r hsp => ?_⟩
  have hl := len _ _ _ _ hsp
  have KX : K.In s.heap := e0.mod.kin.keeps fun b o e => (e0.bs b o e).1
  have lim : s.heap.NoLimit := e0.mod.nolimit.keeps fun b o e => (e0.bs b o e).1
  have hkind : ∀ y ∈ ps.zip us, scope.names.lookup y.1 = some .local ∨ (scope.names.lookup y.1 = some .cell ∧ ((cellsFrom (s.heap.objs.size + 1) scope.names []).lookup y.1).isSome = true) := fun ⟨n, v⟩ hy => by
    rcases S.par n (List.of_mem_zip hy).1 with q | q
    · exact .inl q
    · exact .inr ⟨q, PySem.W.cellsFrom_some _ _ _ (.inl q)⟩
  refine codeAny_call_function hr.depth (KX _ _ lk) rfl S.co S.gen rfl (PySem.W.codeRec_of KX hcd) (hb _ _ _ _ ?_)
  refine wpAny_newFunctionEnv_cells S.kind hkind fun env he s1 x => ?_
  subst he
  refine ⟨lim.keeps x.toInCall.keep, codeAny_func ?_⟩
  obtain ⟨t, ht, hq⟩ := hbody A outer s H vs Q E (hr.deeper _) hsp
  have I : Inv (cxOf CX P w K mg base N qual scope f cdv A outer s H E) [] (start N vs) H s1 := inv_start S hr.hd e0 hl r x
  refine wpAny_mono (ht [] s1 (start N vs) H _ I hq) (fun fl s' hs => ?_) fun e s' hs => hs
  have fin : ∀ {σ' : St} {H' : Hp} {v : V} {u : Value}, Inv (cxOf CX P w K mg base N qual scope f cdv A outer s H E) [] σ' H' s' → RelV v u → Q v H' → CE outer P w H s Q u s' :=
    fun {σ' H' v u} J rv q => ⟨v, H', J.os, J.bare, J.base, J.hok, rv, q⟩
  cases fl with
  | ret u =>
    obtain ⟨v, σ', H', J, rv, q⟩ := hs
    exact fin J rv q
  | next =>
    obtain ⟨σ', H', J, q⟩ := hs
    exact fin (v := V.non) (u := Value.none) J rfl q
  | brk =>
    obtain ⟨_, _, _, q⟩ := hs
    exact False.elim q
  | cont =>
    obtain ⟨_, _, _, q⟩ := hs
    exact False.elim q
end L2

namespace L2
open PySem PySem.Spec PyProof.Rows
section
variable {X : Cx} {x : Str} {p pos : Pos} {e : Expr} {es : List Expr} {t : TA} {id T : String} {r : List V → Hp → VK → Prop}

def tCB (r : List V → Hp → VK → Prop) (t : TA) : TE := fun σ H Q => t σ H fun vs H1 => r vs H1 Q
/-- f(e, ..), f a built-in function -/
theorem pe_callB (hc : CallR X (.builtin id) r) (hg : Gl X x) (hm : X.mg x = none) (hv : bootBuiltins x = some (.builtin id)) (ha : PA X (e :: es) t) (hn : x ≠ "__name__" := by decide) (hdb : (x == ("__debug__" : Str)) = false := by decide)
    (he : starEach (e :: es) X.env = (false, eval e X.env) :: starEach es X.env := by rfl) (hpl : (backTo pos (starEach es X.env)).any (·.1) = false := by rfl) : PE X (.Call (.Name x p) (e :: es) [] pos) (tCB r t) := by
  intro pins s σ H Q I h
  refine wpAny_Call_Name_kw (ld_blt I hg hm hv ?_ hn hdb)
  exact PyProof.Rows.callWith_builtin1 (thn (ha pos pins s σ H _ I h) fun us s1 ⟨vs, H1, I1, r1, q1⟩ => hc pins s1 σ H1 vs us Q I1 r1 q1) he hpl
/-- T(e, ..), T a built-in type -/
theorem pe_callTy (hc : CallR X (.type T) r) (hg : Gl X x) (hm : X.mg x = none) (hv : bootBuiltins x = some (.type T)) (ha : PA X (e :: es) t) (hn : x ≠ "__name__" := by decide) (hdb : (x == ("__debug__" : Str)) = false := by decide)
    (he : starEach (e :: es) X.env = (false, eval e X.env) :: starEach es X.env := by rfl) (hpl : (backTo pos (starEach es X.env)).any (·.1) = false := by rfl) : PE X (.Call (.Name x p) (e :: es) [] pos) (tCB r t) := by
  intro pins s σ H Q I h
  refine wpAny_Call_Name_kw (ld_blt I hg hm hv ?_ hn hdb)
  exact PyProof.Rows.callWith_type1 (thn (ha pos pins s σ H _ I h) fun us s1 ⟨vs, H1, I1, r1, q1⟩ => hc pins s1 σ H1 vs us Q I1 r1 q1) he hpl
end
end L2

namespace HT
open PySem PyProof.Rows



section
open PySem.SeqAt
open PySem.AutoSeq1 (wpAny_loadPart')
open PySem.MeetsSeq PySem.MeetsSeq2 PySem.MeetsSeq3

end

section
variable {prog : Program} {w : World} {A : Around} {E : Value → Shared → Prop} {s : Shared}



/-! ### t[a:b], not the whole -/
/-- a slice's bound as a place among n (d where it is left out) -/
def sIx (n d : Nat) : Option Int → Nat
  | none => d
  | some v => if v < 0 then (v + (n : Int)).toNat else min v.toNat n

end
end HT

namespace L2
open PySem PySem.Spec PyProof.Rows

/-! ### the parts of a slice -/
abbrev TO := St → Hp → (Option Int → Hp → Prop) → Prop
/-- a slice's part (left out, or an int) -/
def PO (X : Cx) (e : Option Expr) (t : TO) : Prop :=
  ∀ (pins : List (Addr × Obj)) (s : Shared) (σ : St) (H : Hp) (Q : Option Int → Hp → Prop), Inv X pins σ H s → t σ H Q →
    wpAny (model X.prog X.w) X.A (evalPart e X.env) (fun u s' => ∃ o H', Inv X pins σ H' s' ∧ IsPart u o ∧ Q o H') X.xe s
def tNoPart : TO := fun _ H Q => Q none H
def tPart (t : TE) : TO := fun σ H Q => t σ H fun x H1 => ∃ i, x = .int i ∧ Q (some i) H1


section
variable {X : Cx} {e : Expr} {te : TE} {lo hi : Option Expr} {tl th : TO} {pos p2 : Pos}

theorem po_none : PO X none tNoPart := by
  intro pins s σ H Q I h
  rw [evalPart_none]
  exact wpAny_pure ⟨none, H, I, .none, h⟩
theorem po_some (h : PE X e te) : PO X (some e) (tPart te) := by
  intro pins s σ H Q I hw
  rw [evalPart_some]
  refine thn (h pins s σ H _ I hw) fun u s1 ⟨x, H1, I1, r1, q1⟩ => ?_
  obtain ⟨i, rfl, q⟩ := q1
  obtain ⟨t, rfl⟩ := r1
  exact ⟨some i, H1, I1, .int i t, q⟩

/-- what a slice of a value is, by values: the slice object stands at sl -/
def SlR (X : Cx) (r : V → Option Int → Option Int → Hp → VK → Prop) : Prop :=
  ∀ (pins : List (Addr × Obj)) (s : Shared) (σ : St) (H : Hp) (x : V) (v vl vu : Value) (lo hi : Option Int) (sl : Addr) (Q : VK), Inv X pins σ H s → RelV x v → s.heap.IsSliceOf sl vl vu .none → IsPart vl lo → IsPart vu hi → r x lo hi H Q →
    ∃ T id, typeLookup (.type T) "__getitem__" = pure (some (.builtin id)) ∧ s.TypeIs v T ∧ wpAny (model X.prog X.w) X.A (getItem v (.ref sl)) (EP X pins σ Q) X.xe s
def tSl (r : V → Option Int → Option Int → Hp → VK → Prop) (te : TE) (tl th : TO) : TE := fun σ H Q => te σ H fun x H1 => tl σ H1 fun l H2 => th σ H2 fun u H3 => r x l u H3 Q
/-- a[lo:hi], any a -/
theorem pe_slice {r : V → Option Int → Option Int → Hp → VK → Prop} (hr : SlR X r) (he : PE X e te) (hl : PO X lo tl) (hu : PO X hi th) : PE X (.Subscript e (.Slice lo hi none p2) pos) (tSl r te tl th) := by
  intro pins s σ H Q I h
  refine Subscript_ (thn (he pins s σ H _ I h) fun v s1 ⟨x, H1, I1, r1, q1⟩ => ?_)
  refine wpAny_Slice (thn (hl pins s1 σ H1 _ I1 q1) fun vl s2 ⟨l, H2, I2, pl, q2⟩ => thn (hu pins s2 σ H2 _ I2 q2) fun vu s3 ⟨u, H3, I3, pu, q3⟩ => ?_)
  rw [evalPart_none]
  refine wpAny_pure ?_
  have I4 : Inv X pins σ H3 { s3 with heap := s3.heap.push { cls := .type "slice", data := .fields #[vl, vu, .none] } } := I3.kept (t' := s3.toks) fun b ob q => Heap.get?_push_of_some _ q
  obtain ⟨T, id, hT, ht, hg⟩ := hr pins { s3 with heap := s3.heap.push { cls := .type "slice", data := .fields #[vl, vu, .none] } } σ H3 x v vl vu l u s3.heap.objs.size Q I4 r1 (Heap.IsSliceOf.new ..) pl pu q3
  show wpAny (model X.prog X.w) X.A (subscriptTail e (.Slice lo hi none p2) v (.ref s3.heap.objs.size)) (EP X pins σ Q) X.xe { s3 with heap := s3.heap.push { cls := .type "slice", data := .fields #[vl, vu, .none] } }
  exact tail_any (ops := [.ref s3.heap.objs.size, v]) ht hT hg (by with_unfolding_all rfl)

/-- the items of xs[lo:hi] -/
def cutV (xs : List V) (lo hi : Option Int) : List V := (xs.drop (HT.sIx xs.length 0 lo)).take (HT.sIx xs.length xs.length hi - HT.sIx xs.length 0 lo)
theorem cutV_length (xs : List V) (lo hi : Option Int) : (cutV xs lo hi).length ≤ xs.length := by
  unfold cutV
  rw [List.length_take, List.length_drop]
  omega

/-! ### t < u, t + u -/
end
end L2

namespace L2
open PySem PySem.Spec PyProof.Rows

/-! ### places -/
/-- the place that an index of any sign means -/
def ixN (n : Nat) (i : Int) : Option Nat := if 0 ≤ i then (if i < n then some i.toNat else none) else if -(n : Int) ≤ i then some (i + n).toNat else none
def atI {α : Type} (xs : List α) (i : Int) : Option α := (ixN xs.length i).bind fun j => xs[j]?
theorem ixN_seq {n : Nat} {i : Int} {j : Nat} (h : ixN n i = some j) : seqIndex? i n = some j ∧ j < n ∧ -(n : Int) ≤ i ∧ i < n := by
  unfold ixN at h
  by_cases h0 : 0 ≤ i
  · rw [if_pos h0] at h
    by_cases h1 : i < n
    · rw [if_pos h1] at h
      have e : i.toNat = j := Option.some.inj h
      exact ⟨by rw [seqIndex_of h0 h1, e], by omega, by omega, h1⟩
    · rw [if_neg h1] at h; cases h
  · rw [if_neg h0] at h
    by_cases h1 : -(n : Int) ≤ i
    · rw [if_pos h1] at h
      have e : (i + n).toNat = j := Option.some.inj h
      exact ⟨by rw [seqIndex_neg (by omega) h1, e], by omega, h1, by omega⟩
    · rw [if_neg h1] at h; cases h
theorem atI_get {α : Type} {xs : List α} {i : Int} {v : α} (h : atI xs i = some v) : ∃ j, seqIndex? i xs.length = some j ∧ xs[j]? = some v ∧ j < xs.length ∧ -(xs.length : Int) ≤ i ∧ i < xs.length := by
  unfold atI at h
  cases e : ixN xs.length i with
  | none => rw [e] at h; cases h
  | some j =>
    rw [e] at h
    obtain ⟨h1, h2, h3, h4⟩ := ixN_seq e
    exact ⟨j, h1, h, h2, h3, h4⟩
theorem atI_nat {α : Type} {xs : List α} {j : Nat} {v : α} (h : xs[j]? = some v) : atI xs (j : Int) = some v := by
  have hj : j < xs.length := (List.getElem?_eq_some_iff.mp h).1
  have e : ixN xs.length (j : Int) = some j := by
    unfold ixN
    rw [if_pos (by omega), if_pos (by omega)]; simp
  unfold atI; rw [e]; exact h

/-! ### what may be subscripted -/
/-- what stands as an index of a plain subscript -/
def PlainIx (b : Expr) : Prop := ∀ o i, subscripted b false o i = operate [o, i] (getItem o i)
/-- a subscript by values -/
def IxR (X : Cx) (r : R2) : Prop :=
  ∀ (value slice : Expr) (pins : List (Addr × Obj)) (s : Shared) (σ : St) (H : Hp) (x y : V) (v u : Value) (Q : VK), Inv X pins σ H s → RelV x v → RelV y u → r x y H Q →
    subscripted slice false v u = operate [v, u] (getItem v u) → wpAny (model X.prog X.w) X.A (subscriptTail value slice v u) (EP X pins σ Q) X.xe s
/-- a call of a builtin's method by values: the receiver, the arguments -/
def MtR (X : Cx) (id : String) (r : V → List V → Hp → VK → Prop) : Prop :=
  ∀ (pins : List (Addr × Obj)) (s : Shared) (σ : St) (H : Hp) (x : V) (xs : List V) (v : Value) (us : List Value) (Q : VK), Inv X pins σ H s → RelV x v → Vals xs us → r x xs H Q →
    wpAny (model X.prog X.w) X.A (call (.builtin id) (v :: us)) (EP X pins σ Q) X.xe s
section
variable {X : Cx} {a b : Expr} {ta tb : TE} {pos : Pos}
/-- a[b] -/
theorem pe_ix {r : R2} (hr : IxR X r) (ha : PE X a ta) (hb : PE X b tb) (hs : PlainIx b) : PE X (.Subscript a b pos) (tOp r ta tb) := by
  intro pins s σ H Q I h
  exact Subscript_ (binT ha hb I h fun v u s2 x y H2 I2 rx ry q => hr a b pins s2 σ H2 x y v u Q I2 rx ry q (hs _ _))

def rIxL (K : PySem.W.Frag) : R2 := fun x y H Q => ∃ p xs i v, x = .ref p ∧ y = .int i ∧ SqL K H p xs ∧ atI xs i = some v ∧ Q v H
def rIxT (K : PySem.W.Frag) : R2 := fun x y H Q => ∃ p xs i v, x = .ref p ∧ y = .int i ∧ SqT K H p xs ∧ atI xs i = some v ∧ Q v H
theorem ix_list : IxR X (rIxL X.K) := by
  intro value slice pins s σ H x y v u Q I rx ry h hs
  obtain ⟨p, xs, i, z, rfl, rfl, hq, he, q⟩ := h
  cases rx
  obtain ⟨t, rfl⟩ := ry
  obtain ⟨its, r, pl, hz⟩ := I.list hq
  obtain ⟨j, h1, h2, h3, h4, h5⟩ := atI_get he
  obtain ⟨w, ew, rw'⟩ := r.get h2
  have hl := r.length
  have hn := line63
  have fin : EP X pins σ Q w s := ⟨z, H, I, rw', q⟩
  by_cases h0 : 0 ≤ i
  · have hj : i.toNat = j := by
      rw [seqIndex_of h0 h5] at h1
      exact Option.some.inj h1
    exact item_listR pl.isList h0 (by omega) (by rw [hj]; simpa using ew) fin hs
  · have hj : (i + (its.toArray.size : Int)).toNat = j := by
      rw [seqIndex_neg (by omega) h4] at h1
      rw [List.size_toArray, ← hl]
      exact Option.some.inj h1
    exact subscriptTail_builtinR (x := w) pl.isList.typeIs slot_list_getitem.lookup
      (wpAny_getItem_list_neg (Q := fun r s' => r = w ∧ EP X pins σ Q r s') pl.isList (by omega) (by rw [List.size_toArray] <;> omega) (by omega) (by rw [hj]; simpa using ew) ⟨rfl, fin⟩) hs
theorem ix_tup : IxR X (rIxT X.K) := by
  intro value slice pins s σ H x y v u Q I rx ry h hs
  obtain ⟨p, xs, i, z, rfl, rfl, hq, he, q⟩ := h
  cases rx
  obtain ⟨t, rfl⟩ := ry
  obtain ⟨its, r, pl, hz⟩ := I.tuple hq
  obtain ⟨j, h1, h2, h3, h4, h5⟩ := atI_get he
  obtain ⟨w, ew, rw'⟩ := r.get h2
  have hl := r.length
  have hn := line63
  have fin : EP X pins σ Q w s := ⟨z, H, I, rw', q⟩
  exact subscriptTail_builtinR (x := w) pl.typeIs slot_tuple_getitem.lookup
    (getItem_tuple (j := j) (Q := fun r s' => r = w ∧ EP X pins σ Q r s') pl (by omega) (by omega) (by rw [List.size_toArray, ← hl]; exact h1) (by simpa using ew) ⟨rfl, fin⟩) hs

/-! ### xs[i] = v, any sign -/

/-! ### slices -/
theorem slice_bounds (lo hi : Option Int) (n : Nat) : (sliceBounds lo hi none n).1 = ((HT.sIx n 0 lo : Nat) : Int) ∧ (sliceBounds lo hi none n).2.1 = ((HT.sIx n n hi : Nat) : Int) ∧ (sliceBounds lo hi none n).2.2 = 1 := by
  refine ⟨?_, ?_, rfl⟩
  · cases lo with
    | none => simp [sliceBounds, HT.sIx]
    | some i =>
      simp only [sliceBounds, HT.sIx, Option.getD_none, show (1 : Int) > 0 by decide, if_true]
      by_cases h : i < 0
      · simp only [h, if_true] <;> omega
      · simp only [h, if_false] <;> omega
  · cases hi with
    | none => simp [sliceBounds, HT.sIx]
    | some i =>
      simp only [sliceBounds, HT.sIx, Option.getD_none, show (1 : Int) > 0 by decide, if_true]
      by_cases h : i < 0
      · simp only [h, if_true] <;> omega
      · simp only [h, if_false] <;> omega
theorem slicePick_cut (its : List Value) (lo hi : Option Int) : slicePick its.toArray lo hi none = ((its.drop (HT.sIx its.length 0 lo)).take (HT.sIx its.length its.length hi - HT.sIx its.length 0 lo)).toArray := by
  obtain ⟨h1, h2, h3⟩ := slice_bounds lo hi its.toArray.size
  unfold slicePick
  rw [h1, h2, h3]
  simp only [sliceRange_one, pick_run, List.size_toArray] <;> rfl
/-- xs[lo:hi] of a list: a new list -/
def rSlL (K : PySem.W.Frag) : V → Option Int → Option Int → Hp → VK → Prop := fun x lo hi H Q => ∃ a xs, x = .ref a ∧ SqL K H a xs ∧ ∀ p, H p = none → Q (.ref p) (upd H p (.lst (cutV xs lo hi)))
theorem sl_list : SlR X (rSlL X.K) := by
  intro pins s σ H x v vl vu lo hi sl Q I rx hs pl pu h
  obtain ⟨a, xs, rfl, hx, q⟩ := h
  cases rx
  obtain ⟨its, r, ht, hz⟩ := I.list hx
  have hlen := r.length
  refine ⟨"list", _, slot_list_getitem.lookup, ht.isList.typeIs, ?_⟩
  refine wpAny_getItem_list_slice ht.isList hs pl pu .none (by simp) ?_ (by rw [List.size_toArray] <;> omega)
  rw [slicePick_cut, ← hlen]
  refine ⟨.ref s.heap.objs.size, _, I.laid (t' := s.toks) (o := .lst (cutV xs lo hi)) (fun b ob q => Heap.get?_push_of_some _ q) (Nat.le_refl _) ?_, rfl, q _ (I.hok.fresh (Nat.le_refl _))⟩
  exact ⟨Nat.le_trans (cutV_length xs lo hi) hz, _, 0, (r.drop (HT.sIx xs.length 0 lo)).take (HT.sIx xs.length xs.length hi - HT.sIx xs.length 0 lo), Heap.get?_push_size _ rfl⟩

/-! ### in, not in: flat items -/
def flatV : V → Bool
  | .non => true
  | .bl _ => true
  | .int _ => true
  | .str _ => true
  | _ => false
/-- == of flat values -/
def eqV : V → V → Bool
  | .non, .non => true
  | .bl a, .bl b => a == b
  | .bl a, .int b => (if a then 1 else 0) == b
  | .int a, .bl b => a == (if b then 1 else 0)
  | .int a, .int b => a == b
  | .str a, .str b => a == b
  | _, _ => false
theorem eqAt_V {A : Around} {s : Shared} {y x : V} {u v : Value} (ry : RelV y u) (rx : RelV x v) (fy : flatV y = true) (fx : flatV x = true) : SeqAt.EqAt A s u v (eqV y x) := by
  cases y with
  | non =>
    cases ry
    cases x with
    | non => cases rx; exact SeqAt.EqAt.same _
    | bl b => cases rx; exact SeqAt.EqAt.none_bool b
    | int b => obtain ⟨t, rfl⟩ := rx; exact SeqAt.EqAt.none_int b t
    | str b => obtain ⟨t, rfl⟩ := rx; exact SeqAt.EqAt.none_str b t
    | _ => exact absurd (show false = true from fx) Bool.false_ne_true
  | bl a =>
    cases ry
    cases x with
    | non => cases rx; exact SeqAt.EqAt.bool_none a
    | bl b => cases rx; exact SeqAt.EqAt.bool_bool a b
    | int b => obtain ⟨t, rfl⟩ := rx; exact SeqAt.EqAt.bool_int a b t
    | str b => obtain ⟨t, rfl⟩ := rx; exact SeqAt.EqAt.bool_str a b t
    | _ => exact absurd (show false = true from fx) Bool.false_ne_true
  | int a =>
    obtain ⟨t', rfl⟩ := ry
    cases x with
    | non => cases rx; exact SeqAt.EqAt.int_none a t'
    | bl b => cases rx; exact SeqAt.EqAt.int_bool a t' b
    | int b => obtain ⟨t, rfl⟩ := rx; exact SeqAt.EqAt.int_int a t' b t
    | str b => obtain ⟨t, rfl⟩ := rx; exact SeqAt.EqAt.int_str a t' b t
    | _ => exact absurd (show false = true from fx) Bool.false_ne_true
  | str a =>
    obtain ⟨t', rfl⟩ := ry
    cases x with
    | non => cases rx; exact SeqAt.EqAt.str_none a t'
    | bl b => cases rx; exact SeqAt.EqAt.str_bool a t' b
    | int b => obtain ⟨t, rfl⟩ := rx; exact SeqAt.EqAt.str_int a t' b t
    | str b => obtain ⟨t, rfl⟩ := rx; exact SeqAt.EqAt.str_str a t' b t
    | _ => exact absurd (show false = true from fx) Bool.false_ne_true
  | _ => exact absurd (show false = true from fy) Bool.false_ne_true
/-- the items' answers, read off the values (a value's own answer does not lean on its token) -/
def eqU (x : V) (u : Value) : Bool := match u with
  | .none => eqV .non x
  | .bool b => eqV (.bl b) x
  | .int i _ => eqV (.int i) x
  | .str z _ => eqV (.str z) x
  | _ => false
theorem eqU_of {x y : V} {u : Value} (r : RelV y u) (f : flatV y = true) : eqU x u = eqV y x := by
  cases y with
  | non => cases r; rfl
  | bl b => cases r; rfl
  | int i => obtain ⟨t, rfl⟩ := r; rfl
  | str z => obtain ⟨t, rfl⟩ := r; rfl
  | _ => exact absurd (show false = true from f) Bool.false_ne_true
theorem any_eqU {x : V} : ∀ {xs : List V} {us : List Value}, Vals xs us → xs.all flatV = true → us.any (eqU x) = xs.any fun y => eqV y x
  | _, _, .nil, _ => rfl
  | y :: xs, u :: us, .cons r t, f => by
    rw [List.all_cons, Bool.and_eq_true] at f
    rw [List.any_cons, List.any_cons, eqU_of r f.1, any_eqU t f.2]
theorem mem_eqAt {A : Around} {s : Shared} {x : V} {v : Value} (rx : RelV x v) (fx : flatV x = true) : ∀ {xs : List V} {us : List Value}, Vals xs us → xs.all flatV = true → ∀ u ∈ us, SeqAt.EqAt A s u v (eqU x u)
  | _, _, .nil, _ => fun u hu => by cases hu
  | y :: xs, u :: us, .cons r t, f => fun u' hu => by
    rw [List.all_cons, Bool.and_eq_true] at f
    rcases List.mem_cons.mp hu with rfl | hu
    · rw [eqU_of r f.1]; exact eqAt_V r rx f.1 fx
    · exact mem_eqAt rx fx t f.2 u' hu
def inV (x : V) (xs : List V) : Bool := xs.any fun y => eqV y x
/-- x in a list or tuple of flat items -/
def rIn (K : PySem.W.Frag) (neg : Bool) : R2 := fun x y H Q => ∃ p xs, y = .ref p ∧ (SqL K H p xs ∨ SqT K H p xs) ∧ flatV x = true ∧ xs.all flatV = true ∧ Q (.bl (if neg then !inV x xs else inV x xs)) H
theorem op_notIn_seq : OpR X (compareOp .NotIn) (rIn X.K true) := by
  intro pins s σ H x y v u Q I rx ry h
  obtain ⟨p, xs, rfl, hq, fx, fs, q⟩ := h
  cases ry
  rcases hq with hq | hq
  · obtain ⟨its, r, pl, hz⟩ := I.list hq
    refine SeqAt.notIn_listAt (eqU x) pl.isList (fun w hw => mem_eqAt rx fx r fs w (by simpa using hw)) ⟨.bl _, H, I, rfl, ?_⟩
    rw [show its.toArray.any (eqU x) = its.any (eqU x) by simp, any_eqU r fs]
    exact q
  · obtain ⟨its, r, pl, hz⟩ := I.tuple hq
    refine SeqAt.notIn_tupleAt (eqU x) pl (fun w hw => mem_eqAt rx fx r fs w (by simpa using hw)) ⟨.bl _, H, I, rfl, ?_⟩
    rw [show its.toArray.any (eqU x) = its.any (eqU x) by simp, any_eqU r fs]
    exact q

/-! ### len, list(x), tuple(x) of any list or tuple that is read -/
theorem call_len_seq : CallR X (.builtin "len") (fun xs H Q => ∃ p ys, xs = [.ref p] ∧ (SqL X.K H p ys ∨ SqT X.K H p ys) ∧ Q (.int ys.length) H) := by
  intro pins s σ H xs us Q I r h
  obtain ⟨p, ys, rfl, hq, q⟩ := h
  obtain ⟨u, rfl, rx⟩ := vals1 r
  cases rx
  have hn := line63
  rcases hq with hq | hq
  · obtain ⟨its, r', pl, hz⟩ := I.list hq
    have hlen := r'.length
    exact Calls.call_len_list pl.isList (by simp only [List.size_toArray] <;> omega) ⟨.int ys.length, H, I.tok _, ⟨s.toks + 1, by rw [List.size_toArray, hlen]⟩, q⟩
  · obtain ⟨its, r', pl, hz⟩ := I.tuple hq
    have hlen := r'.length
    exact len_tuple pl (by simp only [List.size_toArray] <;> omega) ⟨.int ys.length, H, I.tok _, ⟨s.toks + 1, by rw [List.size_toArray, hlen]⟩, q⟩
theorem call_list_of : CallR X (.type "list") (fun xs H Q => ∃ p ys, xs = [.ref p] ∧ (SqL X.K H p ys ∨ SqT X.K H p ys) ∧ ∀ l, H l = none → Q (.ref l) (upd H l (.lst ys))) := by
  intro pins s σ H xs us Q I r h
  obtain ⟨p, ys, rfl, hq, q⟩ := h
  obtain ⟨u, rfl, rx⟩ := vals1 r
  cases rx
  have fin : ∀ (its : List Value), Vals ys its → ys.length ≤ sizeLine → ∀ (h' : Heap) (c' : Nat), (∀ b o', s.heap.get? b = some o' → h'.get? b = some o') →
      h'.get? s.heap.objs.size = some { cls := .type "list", dict := none, data := .seq its.toArray c', slots := #[] } → EP X pins σ Q (.ref s.heap.objs.size) { s with heap := h' } := fun its r' hz h' c' kp e =>
    ⟨.ref s.heap.objs.size, _, I.laid (t' := s.toks) kp (Nat.le_refl _) (show ObjOk X.prog X.w _ h' _ (.lst ys) from ⟨hz, its, c', r', e⟩), rfl, q _ (I.hok.fresh (Nat.le_refl _))⟩
  rcases hq with hq | hq
  · obtain ⟨its, r', pl, hz⟩ := I.list hq
    have hlen := r'.length
    obtain ⟨o, ho, hc, n, hd⟩ := pl.isList
    exact call_list_seq p (.inl rfl) ho hc hd (fun h' c' kp e => fin its r' hz h' c' kp e) (by simp only [List.size_toArray] <;> omega)
  · obtain ⟨its, r', pl, hz⟩ := I.tuple hq
    have hlen := r'.length
    obtain ⟨o, ho, hc, n, hd⟩ := pl
    exact call_list_seq p (.inr rfl) ho hc hd (fun h' c' kp e => fin its r' hz h' c' kp e) (by simp only [List.size_toArray] <;> omega)

/-! ### the call of a builtin's method: o.m(..) -/
/-- the value is of that builtin type -/
def tyV (K : PySem.W.Frag) (T : String) (x : V) (H : Hp) : Prop := match x with
  | .str _ => T = "str"
  | .int _ => T = "int"
  | .ref p => (T = "list" ∧ ∃ xs, SqL K H p xs) ∨ (T = "tuple" ∧ ∃ o, K.lookup p = some o ∧ o.cls = .type "tuple" ∧ o.dict = none) ∨
      (T = "dict" ∧ ((∃ kvs, H p = some (.dK kvs)) ∨ ∃ kvs, H p = some (.dT kvs))) ∨ (T = "set" ∧ ∃ S n, H p = some (.set S n))
  | _ => False
theorem tyV_is {pins : List (Addr × Obj)} {σ : St} {H : Hp} {s : Shared} {T : String} {x : V} {v : Value} (I : Inv X pins σ H s) (r : RelV x v) (ty : tyV X.K T x H) :
    s.TypeIs v T ∧ ∀ a, v = .ref a → ∃ ob, s.heap.get? a = some ob ∧ ob.dict = none := by
  cases x with
  | str z =>
    obtain ⟨t, rfl⟩ := r
    cases (show T = "str" from ty)
    exact ⟨typeIs_str s z t, fun _ e => nomatch e⟩
  | int i =>
    obtain ⟨t, rfl⟩ := r
    cases (show T = "int" from ty)
    exact ⟨typeIs_int s i t, fun _ e => nomatch e⟩
  | ref p =>
    cases r
    rcases ty with ⟨rfl, xs, hq⟩ | ⟨rfl, o, hk, hc, hd⟩ | ⟨rfl, hk⟩ | ⟨rfl, S, n, hk⟩
    · obtain ⟨its, _, pl, _⟩ := I.list hq
      refine ⟨pl.isList.typeIs, fun a e => ?_⟩
      cases e
      obtain ⟨o, n, e, c, hd, _⟩ := pl
      exact ⟨o, e, hd⟩
    · refine ⟨⟨o, I.kIn p o hk, hc⟩, fun a e => ?_⟩
      cases e
      exact ⟨o, I.kIn _ o hk, hd⟩
    · have z : ∃ o, s.heap.get? p = some o ∧ o.ExactDict := by
        rcases hk with ⟨kvs, hk⟩ | ⟨kvs, hk⟩
        · obtain ⟨_, _, _, _, o, _, _, e, ex, _⟩ := I.hok p _ hk
          exact ⟨o, e, ex⟩
        · obtain ⟨_, _, _, _, o, _, _, e, ex, _⟩ := I.hok p _ hk
          exact ⟨o, e, ex⟩
      obtain ⟨o, e, ex⟩ := z
      refine ⟨⟨o, e, ex.1⟩, fun a e2 => ?_⟩
      cases e2
      exact ⟨o, e, ex.2.1⟩
    · obtain ⟨o, _, _, _, e, ex, _⟩ := I.hok p _ hk
      refine ⟨⟨o, e, ex.1⟩, fun a e2 => ?_⟩
      cases e2
      exact ⟨o, e, ex.2.1⟩
  | _ => exact False.elim ty
def tBM (K : PySem.W.Frag) (T : String) (r : V → List V → Hp → VK → Prop) (to : TE) (t : TA) : TE := fun σ H Q => to σ H fun x H1 => tyV K T x H1 ∧ t σ H1 fun xs H2 => r x xs H2 Q
variable {o e : Expr} {es : List Expr} {to : TE} {t : TA} {name : Str} {apos cpos : Pos} {T id : String} {r : V → List V → Hp → VK → Prop}
theorem pe_bm (pa : PlainAttrs T) (slot : Slot T name id) (hty : typeOf (.builtin id) = pure (.type "method_descriptor")) (hm : MtR X id r) (ho : PE X o to) (ha : PA X (e :: es) t)
    (hbase : attributeBase o name X.env (eval o X.env) = eval o X.env := by rfl)
    (hfew : ((backTo cpos (starEach (e :: es) X.env)).all (fun x => !x.1) && (backToKw cpos (keywordEach [] X.env)).all (fun x => x.1.isSome)
      && decide ((e :: es).length + ([] : List Keyword).length + (if ([] : List Keyword).isEmpty then 0 else 1) < 30)) = true := by rfl)
    (hline : (apos.endLine == cpos.line) = true := by rfl) (hs : starEach (e :: es) X.env = (false, eval e X.env) :: starEach es X.env := by rfl) (hplain : (backTo cpos (starEach es X.env)).any (·.1) = false := by rfl) :
    PE X (.Call (.Attribute o name apos) (e :: es) [] cpos) (tBM X.K T r to t) := by
  intro pins s σ H Q I h
  refine wpAny_Call_method_late hbase hfew hline rfl (thn (ho pins s σ H _ I h) fun v s1 ⟨x, H1, I1, r1, ty, q1⟩ => ?_)
  obtain ⟨h1, h2⟩ := tyV_is I1 r1 ty
  refine ⟨T, id, pa, slot, hty, h1, h2, ?_⟩
  have hA := ha cpos pins s1 σ H1 _ I1 q1
  rw [hs] at hA ⊢
  refine Calls.callWith_builtin (by show (false || (backTo cpos (starEach es X.env)).any (·.1)) = false; rw [hplain] <;> rfl) (Calls.evalArgs_plain ?_)
  exact thn hA fun us s2 ⟨vs, H2, I2, r2, q2⟩ => hm pins s2 σ H2 x vs v us Q I2 r1 r2 q2
/- xs.append(e), list.index on a module's tuple .. are MtR facts of 06m -/
end
end L2

namespace L2
open PySem PySem.Spec PyProof.Rows

def MtM (X : Cx) (id : String) (r : V → List V → Hp → VK → Prop) : Prop :=
  ∀ (pins : List (Addr × Obj)) (s : Shared) (σ : St) (H : Hp) (x : V) (xs : List V) (v : Value) (us : List Value) (Q : VK), Inv X pins σ H s → RelV x v → Vals xs us → r x xs H Q →
    wpAny (model X.prog X.w) X.A (call (.builtin id) (v :: us)) (EP X pins σ Q) X.xe s

/-! ### lists of values -/
theorem Vals.one : ∀ {x : V} {us : List Value}, Vals [x] us → ∃ u, us = [u] ∧ RelV x u
  | _, _, .cons r .nil => ⟨_, rfl, r⟩
theorem Vals.two : ∀ {x y : V} {us : List Value}, Vals [x, y] us → ∃ u v, us = [u, v] ∧ RelV x u ∧ RelV y v
  | _, _, _, .cons r (.cons q .nil) => ⟨_, _, rfl, r, q⟩
theorem Vals.eraseIdx : ∀ {xs : List V} {us : List Value} (i : Nat), Vals xs us → Vals (xs.eraseIdx i) (us.eraseIdx i)
  | _, _, _, .nil => .nil
  | _, _, 0, .cons _ t => t
  | _, _, i + 1, .cons r t => .cons r (Vals.eraseIdx i t)
theorem len_erase {α : Type} : ∀ (l : List α) (i : Nat), (l.eraseIdx i).length ≤ l.length
  | [], _ => Nat.le_refl _
  | _ :: _, 0 => Nat.le_succ _
  | _ :: r, i + 1 => Nat.succ_le_succ (len_erase r i)

section
variable {X : Cx} {pins : List (Addr × Obj)} {σ : St} {H : Hp} {s : Shared} {l b : Addr} {xs ys zs : List V}

/-! ### the two steps: a tracked list is rewritten, a new list is laid -/
theorem Inv.lset {its its' : List Value} {n : Nat} {f : Array Value → Array Value} {t' : Nat} (I : Inv X pins σ H s) (hH : H l = some (.lst xs))
    (e : s.heap.get? l = some { cls := .type "list", data := .seq its.toArray n }) (hf : f its.toArray = its'.toArray) (hv : Vals ys its') (hz : ys.length ≤ sizeLine) :
    Inv X pins σ (upd H l (.lst ys)) { s with heap := s.heap.update l (Obj.mapSeq f), toks := t' } := by
  have q := PySem.IsL.update e f
  rw [hf] at q
  refine I.write (x := l) (e := l) (by rw [hH]; exact trivial) (.inl rfl) (fun b' u hb hu => (Heap.get?_update_other s.heap (Obj.mapSeq f) (Ne.symm hb)).trans hu) ⟨_, q⟩ ?_
  exact ⟨hz, its', _, hv, q⟩
theorem Inv.fresh (I : Inv X pins σ H s) : H s.heap.objs.size = none := I.hok.fresh (Nat.le_refl _)
theorem Inv.lstM (I : Inv X pins σ H s) (hH : H l = some (.lst xs)) : xs.length ≤ sizeLine ∧ ∃ (its : List Value) (n : Nat), Vals xs its ∧ xs.length = its.length ∧ s.heap.get? l = some { cls := .type "list", data := .seq its.toArray n } := by
  obtain ⟨z, its, n, r, e⟩ := I.hok l _ hH
  exact ⟨z, its, n, r, r.length, e⟩

end

section
variable {X : Cx}

/-! ### methods -/
def rAppend : V → List V → Hp → VK → Prop := fun x vs H Q => ∃ l xs y, x = .ref l ∧ vs = [y] ∧ H l = some (.lst xs) ∧ xs.length < sizeLine ∧ Q .non (upd H l (.lst (xs ++ [y])))
theorem mt_append : MtM X "list.append" rAppend := by
  intro pins s σ H x vs v us Q I rx rv h
  obtain ⟨l, xs, y, rfl, rfl, hH, hz, q⟩ := h
  cases rx
  obtain ⟨u, rfl, ru⟩ := rv.one
  obtain ⟨z, its, n, r, hl, e⟩ := I.lstM hH
  refine call_meets F.slot_list_append ⟨_, e, rfl⟩ F.entry_list_append (F.args_list_append_2 _ _) (PySem.list_append l its.toArray n u (by rw [List.size_toArray]; omega)) ⟨e, ?_⟩
  refine ⟨.non, _, I.lset (its' := its ++ [u]) hH e (by simp) (r.append (.cons ru .nil)) ?_, rfl, q⟩
  rw [List.length_append, List.length_singleton]
  omega



def rPopAt : V → List V → Hp → VK → Prop := fun x vs H Q => ∃ l xs i k y, x = .ref l ∧ vs = [.int i] ∧ H l = some (.lst xs) ∧ -(2 ^ 63) ≤ i ∧ i < 2 ^ 63 ∧ seqIndex? i xs.length = some k ∧ xs[k]? = some y ∧ Q y (upd H l (.lst (xs.eraseIdx k)))
theorem mt_popAt : MtM X "list.pop" rPopAt := by
  intro pins s σ H x vs v us Q I rx rv h
  obtain ⟨l, xs, i, k, y, rfl, rfl, hH, h1, h2, hk, hy, q⟩ := h
  cases rx
  obtain ⟨u, rfl, ru⟩ := rv.one
  obtain ⟨t, rfl⟩ := ru
  obtain ⟨z, its, n, r, hl, e⟩ := I.lstM hH
  obtain ⟨w, hw, rw'⟩ := r.get hy
  refine call_meets F.slot_list_pop ⟨_, e, rfl⟩ F.entry_list_pop (F.args_list_pop_2 _ _)
    (MeetsSeq.list_pop_at l its.toArray n i t k w (fitsIndex_both h1 h2) (by rw [List.size_toArray, ← hl]; exact hk) (by rw [← Array.getElem?_toList]; exact hw) (by rw [List.size_toArray]; omega)) ⟨e, ?_⟩
  refine ⟨y, _, I.lset (its' := its.eraseIdx k) hH e ?_ (r.eraseIdx k) ?_, rw', q⟩
  · show its.toArray.eraseIdxIfInBounds k = (its.eraseIdx k).toArray
    rw [List.eraseIdxIfInBounds_toArray]
  · have := len_erase xs k
    omega



/-! ### list + list, list += list, list * int -/

/-! ### del xs[i] -/
end

/-! ### xs[a:b] = ys -/
section
variable {prog : Program} {w : World} {A : Around} {E : Value → Shared → Prop} {s : Shared}
end

section
variable {X : Cx}
end
end L2

namespace Att
open PySem PySem.W PySem.Calls PyProof.Rows

/-! ### the script -/
theorem ints_of_wellAll {P : Params} {h : Heap} : ∀ (ns : List Int) (vs : List Value), WellAll P h vs (ns.map WData.int) → IntsAre vs ns := by
  intro ns
  induction ns with
  | nil =>
    intro vs w
    rw [List.map_nil] at w
    cases w
    exact .nil
  | cons n ns ih =>
    intro vs w
    rw [List.map_cons] at w
    cases w with
    | cons a b =>
      cases a
      exact .cons _ _ (ih _ b)

theorem script_of {l : OpenLaw} {n : Nat} (hn : l.most = some n) {P : Params} {h : Heap} {args : List WData} {vals : List Value}
    (hpre : l.row.toRowW.claim.pre args = true) (hwl : WellAll P h vals args) :
    ∃ a vs ns, vals = [Value.ref a] ∧ args = [WData.list (ns.map WData.int)] ∧ h.get? a = some { cls := .type "list", data := .seq vs.toArray } ∧ IntsAre vs ns ∧ ns.length ≤ n := by
  have hsh : WShape.hasAll [] args [.list .int] = true := (pre_splitW hpre).1
  have hc : l.pre.holds [] { args := args } = true := (pre_splitW hpre).2
  obtain ⟨d, r, rfl, h1, h2⟩ := hasAllW_cons hsh
  obtain rfl := hasAllW_nil h2
  obtain ⟨xs, rfl, h3⟩ := hasW_list h1
  obtain ⟨ns, rfl⟩ := items_int h3
  have hlen : ns.length ≤ n := by
    unfold OpenLaw.pre at hc
    have h4 : (WTm.not (.lt (.lit (.int (n : Int))) (.len (.arg 0)))).holds [] { args := [.list (ns.map .int)] } = true := by
      have h4 := (holds_andW hc).1
      rw [hn] at h4
      exact h4
    have h5 := condW_of h4 (w_not (w_lt w_lit (w_len_list (w_arg rfl))))
    rw [List.length_map] at h5
    refine Nat.le_of_not_lt fun q => ?_
    have q' : (n : Int) < ((ns.length : Nat) : Int) := by omega
    first
      | (rw [decide_eq_true q'] at h5; exact absurd h5 (by decide))
      | (simp at h5; omega)
  cases hwl with
  | cons w1 w2 =>
    cases w2
    cases w1 with
    | list ho hall => exact ⟨_, _, ns, rfl, rfl, ho, ints_of_wellAll ns _ hall, hlen⟩

theorem post_true (l : OpenLaw) (args : List WData) : l.row.toRowW.claim.post args (.bool true) args = true :=
  postW_of (r := l.row.toRowW) (X := (true == true))
    (show WShape.has [] (.bool true) .bool = true by first | rfl | decide | simp [WShape.has, WShape.arms, WShape.armsAll])
    (show (WTm.eq .res (.lit (.bool true))).value [] { args := args, res := some (.bool true), after := args } = some (.bool (true == true)) from w_eq_bool (w_res rfl) w_lit) rfl

/-! ### the attachment: holds_open's last premise (the goal 'hc' behind k_head) from a wpAny of the law's body -/



/-! ### rules over ANY heap (no ledger) from facts about the written part K: the library's own take a ledger (News) for what they write -/
section
variable {prog : Program} {w : World} {A : Around} {E : Value → Shared → Prop} {s : Shared} {K : Frag}





/-! the whole heap as the ledger: makes every rule that writes through a ledger a rule over any heap -/

end
end Att

namespace L2
open PySem PySem.Spec PyProof.Rows

theorem vals_ints : ∀ {vs : List Value} {ns : List Int}, IntsAre vs ns → Vals (ns.map V.int) vs
  | _, _, .nil => .nil
  | _, _, .cons n t h => .cons ⟨t, rfl⟩ (vals_ints h)

/-- nothing is tracked but the script, known to the object (or it is an object of the module) -/
def Only (H : Hp) : Prop := ∀ b, H b = none ∨ ∃ o xs, H b = some (.frz o (.lst xs))

/-- THE HEAD: the law's promise, at the heap behind the top. F, the promise of the law's def, may use that base is part of the heap (so K.In base, base.Ns mainGlobals mg stand in Mod) -/
theorem law_call {P : Program} {w : World} {K : PySem.W.Frag} {mg mb : Str → Option Value} {CX : CXT} {k : Nat} {fa a : Addr} {fd : FuncData} {x : Str} {sp : Sp} {s₁ : Shared} {vs : List Value} {ns : List Int}
    (KX : K.In s₁.heap) (hns : s₁.heap.Ns mainGlobals mg) (hb : s₁.heap.Ns builtinsNs mb) (hbb : ∀ x : Str, x ≠ "__name__" → mb x = bootBuiltins x) (hlim : s₁.heap.NoLimit) (hg : s₁.gens = #[])
    (ha : s₁.heap.get? a = some { cls := .type "list", data := .seq vs.toArray }) (hi : IntsAre vs ns) (hl : ns.length ≤ sizeLine) (hr : Room k callerA)
    (F : ∀ base : Heap, K.In base → base.Ns mainGlobals mg → FnOk P w K mg base CX k fa fd [x] sp) (hbind : ∀ (s : Shared) (u : Value), BindsTo s fd ⟨[u], []⟩ [(x, u)])
    (hsp : ∀ H : Hp, Only H → SqL K H a (ns.map V.int) → sp [.ref a] H (fun v _ => v = .bl true) fun _ _ _ => False)
    (hCX : ∀ H e s', CX [] H s₁ (fun _ _ _ => False) e s' → False) :
    codeAny (model P w) callerA (.call (.ref fa) ⟨[.ref a], []⟩) (fun r s' => r = .ok (.ret (.bool true)) ∧ OldK s₁.heap s'.heap ∧ s'.os = s₁.os ∧ AllBare s'.gens) s₁ := by
  have rv := vals_ints hi
  have lenV := hi.length
  -- from an abstract heap in which nothing but the script may be tracked
  have core : ∀ H : Hp, Only H → SqL K H a (ns.map V.int) → HOk P w H s₁.heap → (∀ b, H b ≠ none → b = a) → (H a ≠ none → K.lookup a = none) →
      codeAny (model P w) callerA (.call (.ref fa) ⟨[.ref a], []⟩) (fun r s' => r = .ok (.ret (.bool true)) ∧ OldK s₁.heap s'.heap ∧ s'.os = s₁.os ∧ AllBare s'.gens) s₁ := by
    intro H hO hS hok hA hK
    have base_of : ∀ {b : Addr} {o : Obj}, s₁.heap.get? b = some o → H b = none → (hidT s₁.heap H).get? b = some o := fun e n => hidT_get e n
    have noA : ∀ {b : Addr} {o : Obj} {es : Array DictEntry} {ep : Nat}, s₁.heap.get? b = some o → o.data = .dict es ep → H b = none := fun {b o es ep} e d => by
      cases q : H b with
      | none => rfl
      | some u =>
        have e' : b = a := hA b (by rw [q]; simp)
        subst e'
        rw [ha] at e; cases e
        have d' : Data.seq vs.toArray _ = Data.dict es ep := d
        cases d'
    have nsK : ∀ {b : Addr} {m : Str → Option Value}, s₁.heap.Ns b m → (hidT s₁.heap H).Ns b m := fun {b m} ⟨o, es, ep, e, d, r⟩ => ⟨o, es, ep, base_of e (noA e d), d, r⟩
    have hKb : K.In (hidT s₁.heap H) := fun b o e => base_of (KX b o e) (by
      cases q : H b with
      | none => rfl
      | some u =>
        have e' : b = a := hA b (by rw [q]; simp)
        subst e'
        rw [hK (by rw [q]; simp)] at e; cases e)
    have hM : Mod K mg (hidT s₁.heap H) := ⟨hKb, nsK hns, ⟨mb, nsK hb, hbb⟩, let ⟨mc, h1, h2⟩ := hlim; ⟨mc, nsK h1, h2⟩⟩
    have e0 : Env0 P w K mg (hidT s₁.heap H) callerA [] s₁ H := ⟨rfl, hM, fun b o e => of_hidT e, Nat.le_of_eq (hidT_size _ _), trivial, fun b hb => absurd (show b ∈ ([] : List Addr) from hb) (by simp), hok, .of_eq hg⟩
    refine codeAny_mono ((F _ hKb (nsK hns)).run callerA [] s₁ H ⟨[.ref a], []⟩ [.ref a] [.ref a] _ _ hr e0 (hbind s₁ (.ref a)) (.cons rfl .nil) (hsp H hO hS)) fun r s' h => ?_
    cases r with
    | error e => exact (hCX H e s' h).elim
    | ok fl =>
      cases fl with
      | next => exact False.elim h
      | brk => exact False.elim h
      | cont => exact False.elim h
      | ret u =>
        obtain ⟨v, H', os, bare, un, hok', r', q⟩ := h
        have q' : v = .bl true := q
        subst q'
        obtain rfl : u = Value.bool true := r'
        refine ⟨rfl, OldK.of_keep fun b o e => ?_, os, bare⟩
        cases q : H b with
        | none => exact un.keep b o e q (by intro z; exact absurd (show b ∈ ([] : List Addr) from z) (by simp)) (by simp)
        | some u =>
          rcases hO b with z | ⟨ob, xs, z⟩
          · rw [q] at z; cases z
          · have z2 := un.frzs b ob _ z
            obtain ⟨e1, _⟩ := hok b _ z
            obtain ⟨e2, _⟩ := hok' b _ z2
            rw [e] at e1; cases e1
            exact e2
  cases hk : K.lookup a with
  | some o =>
    -- the script is one of the module's own objects
    have e := KX a o hk
    rw [ha] at e
    cases e
    refine core (fun _ => none) (fun _ => .inl rfl) (.inr ⟨_, vs.toArray, _, hk, rfl, rfl, rfl, by rw [List.size_toArray, lenV]; exact hl, by simpa using rv⟩) (fun b u z => by have z' : (none : Option HO) = some u := z; cases z') (fun b z => absurd rfl z) fun z => absurd rfl z
  | none =>
    refine core (fun b => if b = a then some (.frz { cls := .type "list", data := .seq vs.toArray } (.lst (ns.map V.int))) else none) (fun b => ?_) (.inl (.inr ⟨{ cls := .type "list", data := .seq vs.toArray }, if_pos rfl⟩)) (fun b u z => ?_) (fun b z => ?_) fun _ => hk
    · by_cases hb : b = a
      · exact .inr ⟨_, _, if_pos hb⟩
      · exact .inl (if_neg hb)
    · by_cases hb : b = a
      · have z' := (if_pos hb).symm.trans z
        cases z'
        subst hb
        exact ⟨ha, by rw [List.length_map]; exact hl, vs, _, rv, ha⟩
      · have z' := (if_neg hb).symm.trans z
        cases z'
    · by_cases hb : b = a
      · exact hb
      · exact absurd (if_neg hb) z
end L2

namespace L2
open PySem PySem.Spec PyProof.Rows


end L2

/- THE LAST THEOREM (shape; LID, My.* are yours):
   My.Adr: a structure of the addresses that your layer names (classes, functions); My.Txt K t: a structure (Prop) of the equations over K;
   My.txt_mk : {K} {implicit addresses ..} (e1 : nsIn K mainGlobals "law" = some (some (.ref f))) (e2 : K.lookup f = some ⟨oc, od, .func (fnOf "law" "law" params body scope dV kV doc pm an cdv ct), sl⟩) (e3 : codeIn K cdv "law" = true) .. : ∃ t, My.Txt K t

set_option maxRecDepth 100000 in
set_option maxHeartbeats 0 in
theorem PySem.Challenge.cw_LID_holds : PySem.Challenge.rw_LID.Holds := by
  w_on; o_law; k_head; (case hw => w_witness2)
  k_fill
  refine L2.walk_of (l := PySem.Challenge.rw_LID) (n := 63) (k := 40) (x := "script") (CX := fun w => ..) (sp := fun _ => My.sp_law) rfl (by decide) rfl ⟨rfl, by decide, by decide⟩ (fun w h Y => PySem.W.kIn_of Y) ?F ?S ?C
  case F =>
    intro w mg fa h KX G hmg
    have T : ∃ t, My.Txt (L2.KOf KX) t := by
      dsimp only [L2.KOf]                          -- K must stand as «<heap const> w.params» for k_is
      refine' My.txt_mk ?e1 ?e2 ?e3 ..
      (case e1 => PySem.W.k_is)                    -- in the order: a name -> its address -> its object -> its parts
      (case e2 => PySem.W.k_is)
      ..
    obtain ⟨t, T⟩ := T
    have e0 := hmg.symm.trans (PySem.W.mg_of KX G T.law)
    cases e0                                       -- fa is the law's own address
    exact ⟨_, fun s u => .of_eq rfl, fun base kb nb => My.law_fn T kb nb⟩     -- if «.of_eq rfl» comes too early: refine' ⟨_, ?b, fun base kb nb => My.law_fn T kb nb⟩; exact fun s u => .of_eq rfl
  case S => exact fun w H a ns hl hO hS => ..
  case C => exact ..
(the tactic k_is has no namespace: write k_is) -/

/-! SHORT WORDS over the layer: a def of the text, its body, what a loop and a test want. -/
namespace L2
open PySem PySem.Spec PyProof.Rows

/-! ### the text by places -/
/-- the j-th statement of a class's body -/
def inClass (s : Stmt) (j : Nat) : Stmt := match s with
  | .ClassDef _ _ _ body _ _ _ _ _ _ _ => body.getD j (.Pass ⟨0, 0, 0, 0⟩)
  | _ => .Pass ⟨0, 0, 0, 0⟩
def defArgs (s : Stmt) : Arguments := match s with
  | .FunctionDef _ a _ _ _ _ _ _ _ _ => a
  | _ => { posonlyargs := [], args := [], vararg := none, kwonlyargs := [], kw_defaults := [], kwarg := none, defaults := [] }
def defBody (s : Stmt) : List Stmt := match s with
  | .FunctionDef _ _ b _ _ _ _ _ _ _ => b
  | _ => []
def defScope (s : Stmt) : Scope := match s with
  | .FunctionDef _ _ _ _ _ _ sc _ _ _ => sc
  | _ => { kind := .function, names := [], isGenerator := false, isCoroutine := false }

/-! ### no exception leaves a def -/
abbrev CX0 : CXT := fun _ _ _ _ _ _ => False
abbrev E0 : XK := fun _ _ _ => False
theorem pass0 {X : Cx} : Passes CX0 X E0 := fun _ _ _ _ _ _ _ h => h.elim

/-! ### a def (or method) of the text as it stands behind the top -/
structure Fun (K : PySem.W.Frag) (x qual : Str) (st : Stmt) (f : Addr) (fd : FuncData) : Prop where
  ex : ∃ (oc : Value) (od : Option Addr) (kV doc pm : Value) (an : Option Addr) (cdv ct : Value) (osl : Array (Option Value)),
    fd = PySem.W.fnOf x qual (defArgs st) (defBody st) (defScope st) .none kV doc pm an cdv ct ∧ K.lookup f = some ⟨oc, od, .func fd, osl⟩ ∧ PySem.W.codeIn K cdv qual = true
  kp : PySem.W.keepIn K (.ref f) = true
section
variable {P : Program} {w : World} {K : PySem.W.Frag} {mg : Str → Option Value} {base : Heap}
/-- THE RULE for a def: its body as a term of rules, and the reading of that term -/
theorem Fun.ok {x qual : Str} {st : Stmt} {f : Addr} {fd : FuncData} {N ps : List Str} {k : Nat} {sp : Sp} (F : Fun K x qual st f fd) (S : FnScope N ps (defScope st)) (len : ∀ vs H Q E, sp vs H Q E → vs.length = ps.length)
    (hbody : ∀ (cdv : Value) (A : Around) (outer : List Env) (s : Shared) (H : Hp) (vs : List V) (Q : VK) (E : XK), Room k (A.deeper (envOfC qual (defScope st) s.heap.objs.size f cdv)) → sp vs H Q E →
      ∃ t, PSs (cxOf CX0 P w K mg base N qual (defScope st) f cdv A outer s H E).nox (defBody st) t ∧ t { nx := fun _ H' => Q .non H', rt := Q } (start N vs) H) : FnOk P w K mg base CX0 (k + 1) f fd ps sp := by
  obtain ⟨oc, od, kV, doc, pm, an, cdv, ct, osl, rfl, lk, hcd⟩ := F.ex
  refine fn_of lk hcd S len fun A outer s H vs Q E hr hsp => ?_
  obtain ⟨t, h, q⟩ := hbody cdv A outer s H vs Q E hr hsp
  exact ⟨t, h.nox, q⟩
/-- how its arguments bind (no defaults): h is «fun _ _ _ _ _ _ us hl => match us, hl with | [_, _], _ => rfl», one _ a parameter -/
theorem Fun.binds {x qual : Str} {st : Stmt} {f : Addr} {fd : FuncData} {ps : List Str} (F : Fun K x qual st f fd)
    (h : ∀ (kV doc pm : Value) (an : Option Addr) (cdv ct : Value) (us : List Value), us.length = ps.length → bindArgs (PySem.W.fnOf x qual (defArgs st) (defBody st) (defScope st) .none kV doc pm an cdv ct) ⟨us, []⟩ = pure (ps.zip us)) : Binds K fd ps [] := by
  obtain ⟨oc, od, kV, doc, pm, an, cdv, ct, osl, rfl, lk, hcd⟩ := F.ex
  exact .all (h kV doc pm an cdv ct)
theorem fun_mk {x qual : Str} {st : Stmt} {f : Addr} {oc : Value} {od an : Option Addr} {osl : Array (Option Value)} {kV doc pm cdv ct : Value} (l : K.lookup f = some ⟨oc, od, .func (PySem.W.fnOf x qual (defArgs st) (defBody st) (defScope st) .none kV doc pm an cdv ct), osl⟩)
    (c : PySem.W.codeIn K cdv qual = true) (k : PySem.W.keepIn K (.ref f) = true) : Fun K x qual st f (PySem.W.fnOf x qual (defArgs st) (defBody st) (defScope st) .none kV doc pm an cdv ct) := ⟨⟨oc, od, kV, doc, pm, an, cdv, ct, osl, rfl, l, c⟩, k⟩
end

/-! ### expressions in short: the name that stands in the i-th slot -/
section
variable {X : Cx}
theorem pv (i : Nat) {x : Str} {pos : Pos} (hN : X.N[i]? = some x := by rfl) (hv : Vis X.env.scope x := by first | exact Or.inl rfl | exact Or.inr (Or.inl rfl) | exact Or.inr (Or.inr rfl)) (hd : (x == ("__debug__" : Str)) = false := by decide)
    (hcd : (x == ("__classdict__" : Str)) = false := by decide) : PE X (.Name x pos) (tVar i) := pe_var hN hv hd hcd
end

/-! ### tests -/
theorem iteF {A B : Prop} (h : B) : if false = true then A else B := by
  rw [if_neg Bool.false_ne_true]
  exact h
theorem iteT {A B : Prop} (h : A) : if true = true then A else B := by
  rw [if_pos rfl]
  exact h
theorem ite2 {c A B : Prop} [Decidable c] (h1 : c → A) (h2 : ¬ c → B) : if c then A else B := by
  by_cases h : c
  · rw [if_pos h]
    exact h1 h
  · rw [if_neg h]
    exact h2 h

/-! ### heaps -/
/-- all that was tracked is as it was -/
def Same (H H' : Hp) : Prop := ∀ b o, H b = some o → H' b = some o
theorem Same.refl (H : Hp) : Same H H := fun _ _ h => h
theorem Same.trans {H H1 H2 : Hp} (a : Same H H1) (b : Same H1 H2) : Same H H2 := fun c o h => b c o (a c o h)
theorem Same.free {H H' : Hp} (e : Same H H') {l : Addr} (h : H' l = Option.none) : H l = Option.none := by
  cases q : H l with
  | none => rfl
  | some o =>
    rw [e l o q] at h
    cases h
theorem Same.seq {K : PySem.W.Frag} {H H' : Hp} {a : Addr} {xs : List V} (e : Same H H') (h : SqL K H a xs) : SqL K H' a xs := by
  rcases h with (h | ⟨o, h⟩) | h
  · exact .inl (.inl (e _ _ h))
  · exact .inl (.inr ⟨o, e _ _ h⟩)
  · exact .inr h

end L2

set_option Elab.async false
set_option linter.all false
set_option maxRecDepth 100000
namespace L2
open PySem PySem.Spec PyProof.Rows

/-! ### lists of pairs as tables -/
section
variable {κ : Type} [DecidableEq κ]
def valV (kvs : List (κ × V)) (k : κ) : Option V := (kvs.find? fun kv => decide (kv.1 = k)).map (·.2)
/-- in its place, or at the end -/
def putK (kvs : List (κ × V)) (k : κ) (v : V) : List (κ × V) :=
  if (kvs.any fun kv => decide (kv.1 = k)) = true then kvs.map (fun kv => if kv.1 = k then (kv.1, v) else kv) else kvs ++ [(k, v)]
def dropK (kvs : List (κ × V)) (k : κ) : List (κ × V) := kvs.filter fun kv => decide (kv.1 ≠ k)

theorem valV_pos {p : κ × V} {r : List (κ × V)} {k : κ} (e : p.1 = k) : valV (p :: r) k = some p.2 := by simp [valV, List.find?_cons, e]
theorem valV_neg {p : κ × V} {r : List (κ × V)} {k : κ} (e : ¬ p.1 = k) : valV (p :: r) k = valV r k := by simp [valV, List.find?_cons, e]
theorem valV_any (k : κ) : ∀ kvs : List (κ × V), (kvs.any fun kv => decide (kv.1 = k)) = (valV kvs k).isSome
  | [] => rfl
  | p :: r => by
    rw [List.any_cons]
    by_cases e : p.1 = k
    · simp only [valV_pos e, decide_eq_true e, Bool.true_or, Option.isSome_some]
    · rw [valV_neg e, decide_eq_false e, Bool.false_or]; exact valV_any k r
theorem length_putK (kvs : List (κ × V)) (k : κ) (v : V) : (putK kvs k v).length ≤ kvs.length + 1 := by
  unfold putK
  split
  · rw [List.length_map]; omega
  · rw [List.length_append, List.length_cons, List.length_nil]; omega
theorem putK_new {kvs : List (κ × V)} {k : κ} (v : V) (h : valV kvs k = none) : putK kvs k v = kvs ++ [(k, v)] := by
  unfold putK
  rw [valV_any, h]
  exact if_neg (by decide)

theorem RelO.isSome_eq {o : Option V} {u : Option Value} (r : RelO o u) : o.isSome = u.isSome := by
  cases o with
  | none => cases u with
    | none => rfl
    | some _ => exact (show False from r).elim
  | some _ => cases u with
    | none => exact (show False from r).elim
    | some _ => rfl

/-- raw tables of the same keys -/
theorem KV.val {kvs : List (κ × V)} {vs : List (κ × Value)} (r : KV kvs vs) (k : κ) : RelO (valV kvs k) (valueAt vs k) := by
  unfold KV at r
  induction r with
  | nil => exact True.intro
  | @cons p q ps qs h t ih =>
    obtain ⟨h1, h2⟩ := h
    by_cases e : p.1 = k
    · have e' : q.1 = k := h1.symm.trans e
      have b : valueAt (q :: qs) k = some q.2 := by simp [valueAt, List.find?_cons, e']
      rw [valV_pos e, b]; exact h2
    · have e' : ¬ q.1 = k := fun z => e (h1.trans z)
      have b : valueAt (q :: qs) k = valueAt qs k := by simp [valueAt, List.find?_cons, e']
      rw [valV_neg e, b]; exact ih
theorem KV.any {kvs : List (κ × V)} {vs : List (κ × Value)} (r : KV kvs vs) (k : κ) : (kvs.any fun kv => decide (kv.1 = k)) = vs.any fun kv => decide (kv.1 = k) := by
  unfold KV at r
  induction r with
  | nil => rfl
  | cons h t ih => rw [List.any_cons, List.any_cons, ih, h.1]
theorem KV.repl {kvs : List (κ × V)} {vs : List (κ × Value)} (r : KV kvs vs) (k : κ) {y : V} {u : Value} (ry : RelV y u) :
    KV (kvs.map fun kv => if kv.1 = k then (kv.1, y) else kv) (vs.map fun kv => if kv.1 = k then (kv.1, u) else kv) := by
  unfold KV at r ⊢
  induction r with
  | nil => exact .nil
  | @cons p q ps qs h t ih =>
    rw [List.map_cons, List.map_cons]
    refine .cons ?_ ih
    obtain ⟨h1, h2⟩ := h
    by_cases e : p.1 = k
    · rw [if_pos e, if_pos (h1.symm.trans e)]; exact ⟨h1, ry⟩
    · rw [if_neg e, if_neg (fun z => e (h1.trans z))]; exact ⟨h1, h2⟩
theorem KV.put {kvs : List (κ × V)} {vs : List (κ × Value)} (r : KV kvs vs) (k : κ) {y : V} {u : Value} (ry : RelV y u) : KV (putK kvs k y) (stored vs k u) := by
  unfold putK stored
  rw [r.any k]
  by_cases e : (vs.any fun kv => decide (kv.1 = k)) = true
  · rw [if_pos e, if_pos e]; exact r.repl k ry
  · rw [if_neg e, if_neg e]; exact Paired.snoc r ⟨rfl, ry⟩
theorem KV.drop {kvs : List (κ × V)} {vs : List (κ × Value)} (r : KV kvs vs) (k : κ) : KV (dropK kvs k) (without vs k) := by
  unfold KV at r ⊢
  unfold dropK without
  induction r with
  | nil => exact .nil
  | @cons p q ps qs h t ih =>
    obtain ⟨h1, h2⟩ := h
    rw [List.filter_cons, List.filter_cons]
    by_cases e : p.1 = k
    · have a : ¬ decide (p.1 ≠ k) = true := by simp [e]
      have b : ¬ decide (q.1 ≠ k) = true := by simp [h1.symm.trans e]
      rw [if_neg a, if_neg b]; exact ih
    · have e' : ¬ q.1 = k := fun z => e (h1.trans z)
      have a : decide (p.1 ≠ k) = true := by simp [e]
      have b : decide (q.1 ≠ k) = true := by simp [e']
      rw [if_pos a, if_pos b]; exact .cons ⟨h1, h2⟩ ih
theorem KV.length {kvs : List (κ × V)} {vs : List (κ × Value)} (r : KV kvs vs) : kvs.length = vs.length := Paired.length r
theorem dropK_le (kvs : List (κ × V)) (k : κ) : (dropK kvs k).length ≤ kvs.length := List.length_filter_le _ _
end


/-! ### a tracked dict, its keys ints and texts or tuples of these -/
theorem kV_is {P : Program} {w : World} {k : Key} {u : Value} (r : RelV (kV k) u) : (mixKind P w).is k u = true := by
  cases k with
  | inl i => obtain ⟨t, e⟩ := (show ∃ t, u = Value.int i t from r); subst e; exact mixKind_int P w i t
  | inr x => obtain ⟨t, e⟩ := (show ∃ t, u = Value.str x t from r); subst e; exact mixKind_str P w x t
theorem items_are {P : Program} {w : World} : ∀ {ks : List Key} {us : List Value}, Vals (ks.map kV) us → ItemsAre (mixKind P w) ks us
  | [], _, r => by rw [List.map_nil] at r; cases r; exact .nil
  | k :: ks, _, r => by
    rw [List.map_cons] at r
    cases r with
    | cons h t => exact .cons (kV_is h) (items_are t)

/-- raw entries of a dict with tuple keys -/
abbrev KT (H : Hp) : List (List Key × V) → List (List Key × Addr × Value) → Prop := Paired fun p q => p.1 = q.1 ∧ H q.2.1 = some (.tup (p.1.map kV)) ∧ RelV p.2 q.2.2
theorem KT.val {H : Hp} {kvs : List (List Key × V)} {xs : List (List Key × Addr × Value)} (r : KT H kvs xs) (k : List Key) : RelO (valV kvs k) ((atKey xs k).map (·.2)) := by
  induction r with
  | nil => exact True.intro
  | @cons p q ps qs h t ih =>
    obtain ⟨h1, _, h2⟩ := h
    by_cases e : p.1 = k
    · have e' : q.1 = k := h1.symm.trans e
      have b : atKey (q :: qs) k = some q.2 := by simp [atKey, List.find?_cons, e']
      rw [valV_pos e, b]; exact h2
    · have e' : ¬ q.1 = k := fun z => e (h1.trans z)
      have b : atKey (q :: qs) k = atKey qs k := by simp [atKey, List.find?_cons, e']
      rw [valV_neg e, b]; exact ih
theorem KT.repl {H : Hp} {kvs : List (List Key × V)} {xs : List (List Key × Addr × Value)} (r : KT H kvs xs) (k : List Key) {y : V} {u : Value} (ry : RelV y u) :
    KT H (kvs.map fun kv => if kv.1 = k then (kv.1, y) else kv) (xs.map (putAt k u)) := by
  induction r with
  | nil => exact .nil
  | @cons p q ps qs h t ih =>
    rw [List.map_cons, List.map_cons]
    refine .cons ?_ ih
    obtain ⟨h1, h2, h3⟩ := h
    unfold putAt
    by_cases e : p.1 = k
    · rw [if_pos e, if_pos (h1.symm.trans e)]; exact ⟨h1, h2, ry⟩
    · rw [if_neg e, if_neg (fun z => e (h1.trans z))]; exact ⟨h1, h2, h3⟩
theorem KT.put {H : Hp} {kvs : List (List Key × V)} {xs : List (List Key × Addr × Value)} (r : KT H kvs xs) (k : List Key) {b : Addr} {y : V} {u : Value} (hb : H b = some (.tup (k.map kV))) (ry : RelV y u) :
    KT H (putK kvs k y) (storedH xs k b u) := by
  have e : (kvs.any fun kv => decide (kv.1 = k)) = (atKey xs k).isSome := by
    rw [valV_any, (r.val k).isSome_eq, Option.isSome_map]
  unfold putK storedH
  rw [e]
  by_cases q : (atKey xs k).isSome = true
  · rw [if_pos q, if_pos q]; exact r.repl k ry
  · rw [if_neg q, if_neg q]; exact Paired.snoc r ⟨rfl, hb, ry⟩
theorem KT.keeps {H H' : Hp} {kvs : List (List Key × V)} {xs : List (List Key × Addr × Value)} (r : KT H kvs xs) (ht : ∀ b ys, H b = some (.tup ys) → H' b = some (.tup ys)) : KT H' kvs xs :=
  Paired.mapP r fun _ _ z => ⟨z.1, ht _ _ z.2.1, z.2.2⟩

section
variable {P : Program} {w : World} {H : Hp} {h : Heap} {a : Addr}
theorem rd_of {u : HO} (ok : HOk P w H h) (e : Rd H a u) : ObjOk P w H h a u := e.ok ok
theorem dk_rd {kvs : List (Key × V)} (ok : HOk P w H h) (e : Rd H a (.dK kvs)) : kvs.length ≤ sizeLine ∧ (a == sysModules) = false ∧ ∃ vs, KV kvs vs ∧ h.DictOf (mixKind P w) a vs :=
  show ObjOk P w H h a (.dK kvs) from rd_of ok e
theorem dk_of {kvs : List (Key × V)} (ok : HOk P w H h) (e : H a = some (.dK kvs)) : kvs.length ≤ sizeLine ∧ (a == sysModules) = false ∧ ∃ vs, KV kvs vs ∧ h.DictOf (mixKind P w) a vs := dk_rd ok (.inl e)
/-- a tracked tuple of ints and texts is a key -/
theorem key_of {ks : List Key} (ok : HOk P w H h) (e : H a = some (.tup (ks.map kV))) : (tupleKind (mixKind P w)).is h ks a := by
  obtain ⟨_, its, r, o, h1, h2, n, h3⟩ := (show ObjOk P w H h a (.tup (ks.map kV)) from ok a _ e)
  exact ⟨o, its.toArray, n, h1, h2, h3, by simpa using items_are r⟩
theorem dt_rd {kvs : List (List Key × V)} (ok : HOk P w H h) (e : Rd H a (.dT kvs)) : kvs.length ≤ sizeLine ∧ (a == sysModules) = false ∧
    ∃ xs, KT H kvs xs ∧ h.DictOfH (tupleKind (mixKind P w)) a xs := by
  obtain ⟨z, y, xs, r, o, es, ep, h1, h2, h3, h4, h5⟩ := (show ObjOk P w H h a (.dT kvs) from rd_of ok e)
  refine ⟨z, y, xs, r, o, es, ep, h1, h2, h3, h4, fun x hx => ?_, h5⟩
  have all : ∀ {l : List (List Key × V)} {m : List (List Key × Addr × Value)}, KT H l m → ∀ x ∈ m, (tupleKind (mixKind P w)).is h x.1 x.2.1 := by
    intro l m q
    induction q with
    | nil => intro x hx; exact nomatch hx
    | @cons p q ps qs hq t ih =>
      intro x hx
      rcases List.mem_cons.mp hx with e | hx
      · subst e
        exact key_of ok (by rw [← hq.1]; exact hq.2.1)
      · exact ih x hx
  exact all r x hx
theorem dt_of {kvs : List (List Key × V)} (ok : HOk P w H h) (e : H a = some (.dT kvs)) : kvs.length ≤ sizeLine ∧ (a == sysModules) = false ∧
    ∃ xs, KT H kvs xs ∧ h.DictOfH (tupleKind (mixKind P w)) a xs := dt_rd ok (.inl e)
end

/-- the heap behind a[y] = v -/
def DPut (H : Hp) (a : Addr) (y v : V) (H' : Hp) : Prop :=
  (∃ kvs k, H a = some (.dK kvs) ∧ y = kV k ∧ kvs.length < sizeLine ∧ H' = upd H a (.dK (putK kvs k v))) ∨
  ∃ kvs k b, H a = some (.dT kvs) ∧ y = .ref b ∧ H b = some (.tup (k.map kV)) ∧ kvs.length < sizeLine ∧ H' = upd H a (.dT (putK kvs k v))
theorem DPut.k {H : Hp} {a : Addr} {kvs : List (Key × V)} {k : Key} {v : V} (e : H a = some (.dK kvs)) (hl : kvs.length < sizeLine) : DPut H a (kV k) v (upd H a (.dK (putK kvs k v))) := .inl ⟨kvs, k, e, rfl, hl, rfl⟩


section
variable {X : Cx} {pins : List (Addr × Obj)} {σ : St} {H : Hp} {s : Shared} {a : Addr} {y v : V} {u r : Value} {o : Option V} {A : Around} {E : Value → Shared → Prop}

theorem Inv.big (I : Inv X pins σ H s) : sysModules < s.heap.objs.size := by
  have h : mainGlobals < s.heap.objs.size := (I.mod.glob.keeps I.bk).lt
  exact Nat.lt_trans (by decide) h

/-- a dict's object is replaced -/
theorem d_write {h' : Heap} {t' : Nat} {ob : HO} (I : Inv X pins σ H s) (mu : Mut (H a)) (hs : Heap.SameBut a s.heap h') (he : ∃ q, h'.get? a = some q) (new : ObjOk X.prog X.w (upd H a ob) h' a ob) :
    Inv X pins σ (upd H a ob) { s with heap := h', toks := t' } :=
  I.write (x := a) (e := a) mu (.inl rfl) (fun b q hb z => (hs.2 b hb).trans z) he new
theorem dk_new {P : Program} {w : World} {H' : Hp} {h' : Heap} {kvs : List (Key × V)} {vs : List (Key × Value)} (z : kvs.length ≤ sizeLine) (hd : (a == sysModules) = false) (rel : KV kvs vs) (dd : h'.DictOf (mixKind P w) a vs) :
    ObjOk P w H' h' a (.dK kvs) := ⟨z, hd, vs, rel, dd⟩
/-- d[y] = v -/
theorem d_setItem {H' : Hp} {Q : Unit → Shared → Prop} (hu : A.units + 1 < cLine) (I : Inv X pins σ H s) (g : DPut H a y v H') (ry : RelV y u) (rv : RelV v r) (h : ∀ s', Inv X pins σ H' s' → Q () s') :
    wpAny (model X.prog X.w) A (setItem (.ref a) u r) Q E s := by
  rcases g with ⟨kvs, k, e, ey, l, eH⟩ | ⟨kvs, k, b, e, ey, eb, l, eH⟩
  · subst ey eH
    obtain ⟨z, hd, vs, rel, dd⟩ := dk_of I.hok e
    have hz : vs.length ≤ sizeLine := by rw [← rel.length]; exact z
    have hl : (putK kvs k v).length ≤ sizeLine := by have := length_putK kvs k v; omega
    refine wpAny_setItem_pairs (hsz := hz) (kV_is ry) dd fun h' dd' hs => h _ ?_
    have he : ∃ q, h'.get? a = some q := let ⟨q, _, _, hq, _⟩ := dd'; ⟨q, hq⟩
    exact d_write I (by rw [e]; exact True.intro) hs he (dk_new hl hd (rel.put k rv) dd')
  · subst ey eH
    cases (show u = Value.ref b from ry)
    obtain ⟨z, hd, xs, rel, dd⟩ := dt_of I.hok e
    have hz : xs.length ≤ sizeLine := by rw [← Paired.length rel]; exact z
    have hl : (putK kvs k v).length ≤ sizeLine := by have := length_putK kvs k v; omega
    refine wpAny_setItem_heap (hsz := hz) (tupleKind_room_in1 hu) (key_of I.hok eb) dd fun h' dd' hs => h _ ?_
    obtain ⟨q, es, ep, hq, h2, h3, h4, _, h5⟩ := dd'
    refine d_write I (by rw [e]; exact True.intro) hs ⟨q, hq⟩ ⟨hl, hd, _, (rel.put k eb rv).keeps fun c ys ec => ?_, q, es, ep, hq, h2, h3, h4, h5⟩
    rw [upd_ne (ne_of ec e (fun z => nomatch z))]
    exact ec
end

section
variable {X : Cx} {pins : List (Addr × Obj)} {σ : St} {H : Hp} {s : Shared} {a : Addr} {kvs : List (Key × V)} {k : Key} {u : Value} {A : Around} {E : Value → Shared → Prop}
/-- d.pop(k[, x]), there -/
theorem d_pop {v : V} {more : List Value} {Q : Value → Shared → Prop} (I : Inv X pins σ H s) (e : H a = some (.dK kvs)) (ry : RelV (kV k) u) (l : valV kvs k = some v) (hm : more = [] ∨ ∃ x, more = [x])
    (h : ∀ w' s', Inv X pins σ (upd H a (.dK (dropK kvs k))) s' → RelV v w' → Q w' s') : wpAny (model X.prog X.w) A (call (.builtin "dict.pop") (.ref a :: u :: more)) Q E s := by
  obtain ⟨z, hd, vs, rel, dd⟩ := dk_of I.hok e
  obtain ⟨w', hw, rw'⟩ := RelO.some_of (v := v) (o := valueAt vs k) (by rw [← l]; exact rel.val k)
  have hp : (keyPart u).isSome = true := by
    cases k with
    | inl i => obtain ⟨t, q⟩ := (show ∃ t, u = Value.int i t from ry); subst q; rfl
    | inr x => obtain ⟨t, q⟩ := (show ∃ t, u = Value.str x t from ry); subst q; rfl
  have ha : argsOk "dict.pop" ⟨.ref a :: u :: more, []⟩ := by
    rcases hm with q | ⟨x, q⟩
    · subst q; exact PySem.F.args_dict_pop_2 _ _
    · subst q; exact PySem.F.args_dict_pop_3 _ _ _
  refine call_meetsIn PySem.F.slot_dict_pop dd.typeIs PySem.F.entry_dict_pop ha (meets_dict_pop_there (mixKind X.prog X.w) a (kV_is ry) more hm hp)
    ⟨vs, w', dd, by rw [← rel.length]; exact z, hw, fun h' dd' hs => h w' _ ?_ rw'⟩
  have he : ∃ q, h'.get? a = some q := let ⟨q, _, _, hq, _⟩ := dd'; ⟨q, hq⟩
  exact d_write I (by rw [e]; exact True.intro) hs he (dk_new (Nat.le_trans (dropK_le kvs k) z) hd (rel.drop k) dd')
/-- len(d) -/
theorem d_len {Q : Value → Shared → Prop} (I : Inv X pins σ H s) (e : Rd H a (.dK kvs)) (h : ∀ t s', Inv X pins σ H s' → Q (.int kvs.length t) s') : wpAny (model X.prog X.w) A (call (.builtin "len") [.ref a]) Q E s := by
  obtain ⟨z, hd, vs, rel, dd⟩ := dk_rd I.hok e
  refine call_len_dict hd dd (by rw [← rel.length]; rw [sizeLine_eq] at z; omega) ?_
  rw [← rel.length]
  exact h _ _ (I.tok _)
end


/-! ### readings and rules -/


/-- d[y] = v -/
def sDPut (td ty tv : TE) : TS := fun D σ H => tv σ H fun v H1 => td σ H1 fun x H2 => ty σ H2 fun y H3 => ∃ a H4, x = .ref a ∧ DPut H3 a y v H4 ∧ D.nx σ H4

section
variable {X : Cx} {o i e value : Expr} {pos pos' tpos : Pos} {td ty tv : TE}
theorem ps_dput (hu : X.A.units + 1 < cLine) (ho : PE X o td) (hi : PE X i ty) (hv : PE X value tv) (hs : swapsWith value (some (.Subscript o i pos')) pos.line X.env = pure false) :
    PS X (.Assign [.Subscript o i pos'] value pos) (sDPut td ty tv) := by
  intro pins s σ H D I h
  refine wpAny_Assign_Subscript (thn (hv pins s σ H _ I h) fun r s1 ⟨v, H1, I1, rv, q1⟩ => thn (ho pins s1 σ H1 _ I1 q1) fun u s2 ⟨x, H2, I2, rx, q2⟩ => thn (hi pins s2 σ H2 _ I2 q2) fun iv s3 ⟨y, H3, I3, ry, a, H4, ex, g, q3⟩ => ?_) hs
  subst ex
  obtain rfl : u = Value.ref a := rx
  exact d_setItem hu I3 g ry rv fun s4 I4 => ⟨σ, H4, I4, q3⟩
end


/-! ### displays -/
theorem dk_empty {P : Program} {w : World} {H : Hp} (h : Heap) (hb : sysModules < h.objs.size) : ObjOk P w H (h.push { cls := .type "dict", data := .dict #[] }) h.objs.size (.dK []) :=
  ⟨Nat.zero_le _, beq_eq_false_iff_ne.mpr (Ne.symm (Nat.ne_of_lt hb)), [], .nil, Heap.DictOf.new h⟩
/-- {}, to be a dict of the kind that is wanted -/
def tDNewK : TE := fun _ H Q => ∀ p, H p = none → Q (.ref p) (upd H p (.dK []))
section
variable {X : Cx} {pos : Pos}
theorem pe_dnewK : PE X (.Dict [] [] pos) tDNewK := fun pins s σ H Q I h =>
  wpAny_Dict_empty ⟨.ref s.heap.objs.size, _, I.laid (a := s.heap.objs.size) (o := .dK []) (t' := s.toks) (fun _ _ q => Heap.get?_push_of_some _ q) (Nat.le_refl _) (dk_empty s.heap I.big), rfl, h _ (I.hok.fresh (Nat.le_refl _))⟩
end




/-! ### methods -/
/-- a method call o.m(e) of a built-in, with one argument: what must be seen of the text -/
structure M1 (X : Cx) (o : Expr) (m : Str) (apos : Pos) (e : Expr) (cpos : Pos) : Prop where
  base : attributeBase o m X.env (eval o X.env) = eval o X.env
  few : ((backTo cpos (starEach [e] X.env)).all (fun x => !x.1) && (backToKw cpos (keywordEach [] X.env)).all (fun x => x.1.isSome)
    && decide (([e] : List Expr).length + ([] : List Keyword).length + (if ([] : List Keyword).isEmpty then 0 else 1) < 30)) = true
  line : (apos.endLine == cpos.line) = true
  trees : backTo cpos (starEach [e] X.env) = [(false, eval e X.env)]

/-- a is a dict, whatever its keys -/
def IsD (H : Hp) (a : Addr) : Prop := (∃ kvs, Rd H a (.dK kvs)) ∨ ∃ kvs, Rd H a (.dT kvs)
theorem isD_at {X : Cx} {pins : List (Addr × Obj)} {σ : St} {H : Hp} {s : Shared} {a : Addr} (I : Inv X pins σ H s) (d : IsD H a) :
    s.TypeIs (.ref a) "dict" ∧ (∀ b, Value.ref a = .ref b → ∃ ob, s.heap.get? b = some ob ∧ ob.dict = none) ∧ (a == sysModules) = false := by
  rcases d with ⟨kvs, e⟩ | ⟨kvs, e⟩
  · obtain ⟨_, hd, vs, _, dd⟩ := dk_rd I.hok e
    refine ⟨dd.typeIs, fun b q => ?_, hd⟩
    cases q
    obtain ⟨ob, _, _, h1, h2, _⟩ := dd
    exact ⟨ob, h1, h2.2.1⟩
  · obtain ⟨_, hd, xs, _, dd⟩ := dt_rd I.hok e
    refine ⟨dd.typeIs, fun b q => ?_, hd⟩
    cases q
    obtain ⟨ob, _, _, h1, h2, _⟩ := dd
    exact ⟨ob, h1, h2.2.1⟩

section
variable {X : Cx} {pins : List (Addr × Obj)} {σ : St} {H : Hp} {s : Shared} {a : Addr} {y d : V} {u r : Value} {o : Option V} {A : Around} {E : Value → Shared → Prop}
end

/-- d.pop(k): there; d.pop(k, x): there or not -/
def tDPop1 (td ty : TE) : TE := fun σ H Q => td σ H fun x H1 => ∃ a, x = .ref a ∧ IsD H1 a ∧ ty σ H1 fun y H2 => ∃ kvs k v, H2 a = some (.dK kvs) ∧ y = kV k ∧ valV kvs k = some v ∧ Q v (upd H2 a (.dK (dropK kvs k)))
section
variable {X : Cx} {o e f : Expr} {apos cpos : Pos} {td ty tx : TE}
theorem pe_dpop1 (ho : PE X o td) (he : PE X e ty) (m : M1 X o "pop" apos e cpos) : PE X (.Call (.Attribute o "pop" apos) [e] [] cpos) (tDPop1 td ty) := by
  intro pins s σ H Q I h
  refine wpAny_Call_method m.base m.few m.line PySem.F.plainAttrs_dict PySem.F.slot_dict_pop PySem.F.type_dict_pop (thn (ho pins s σ H _ I h) fun u s1 ⟨x, H1, I1, rx, a, ex, d, q1⟩ => ?_)
  subst ex
  obtain rfl : u = Value.ref a := rx
  obtain ⟨t1, t2, _⟩ := isD_at I1 d
  refine ⟨t1, t2, ?_⟩
  rw [m.trees]
  refine Calls.callWith_builtin rfl (Calls.evalArgs_plain (Calls.spliced_cons (thn (he pins s1 σ H1 _ I1 q1) fun iv s2 ⟨y, H2, I2, ry, kvs, k, v, ea, ey, l, q2⟩ => Calls.spliced_nil ?_)))
  subst ey
  exact d_pop I2 ea ry l (.inl rfl) fun w' s3 I3 rw' => ⟨v, _, I3, rw', q2⟩
end

/-! ### dict(d): a copy -/
section
variable {X : Cx} {pins : List (Addr × Obj)} {σ : St} {H : Hp} {s : Shared} {a : Addr} {kvs : List (Key × V)} {A : Around} {E : Value → Shared → Prop}
end


section
variable {X : Cx} {pins : List (Addr × Obj)} {σ : St} {H : Hp} {s : Shared} {a : Addr} {y : V} {u : Value} {A : Around} {E : Value → Shared → Prop}
end
end L2

namespace L2
open PySem PySem.Spec PyProof.Rows
section
variable {X : Cx}
/-- len of a dict -/
theorem call_lenD : CallR X (.builtin "len") (fun xs H Q => ∃ a kvs, xs = [V.ref a] ∧ H a = some (.dK kvs) ∧ Q (.int kvs.length) H) := by
  intro pins s σ H xs us Q I r h
  obtain ⟨a, kvs, rfl, ha, q⟩ := h
  obtain ⟨u, rfl, ru⟩ := vals1 r
  cases ru
  exact d_len I (.inl ha) fun t s' I' => ⟨.int kvs.length, H, I', ⟨t, rfl⟩, q⟩
end
/-! ### a dict's pairs: keys that differ -/
section
variable {κ : Type} [DecidableEq κ]
end
end L2

set_option Elab.async false
set_option linter.all false
set_option maxRecDepth 100000
namespace L2
open PySem PySem.Spec PyProof.Rows

/-! an object that was not tracked is tracked from now on -/
theorem HOk.track {P : Program} {w : World} {H : Hp} {h : Heap} {a : Addr} {o : HO} (ok : HOk P w H h) (n : H a = none) (new : ObjOk P w (upd H a o) h a o) : HOk P w (upd H a o) h := fun b u q => by
  by_cases hb : b = a
  · subst hb; rw [upd_same] at q; cases q; exact new
  · rw [upd_ne hb] at q
    exact (ok b u q).stay (fun _ _ _ r => r) (fun c r => by rw [upd_ne (ne_of_none r n)]; exact r) fun c xs r => by rw [upd_ne (ne_of_none r n)]; exact r

/-! ### the signs of a text, walked -/

/-! ### a walk of a known row of values -/
structure Wk (J : It) (xs : List V) (P : Hp → Prop) : Prop where
  go : ∀ i H, i < xs.length → P H → J.go i H
  yld : ∀ i H x H', P H → J.yld i H x H' → H' = H ∧ (i < xs.length → xs[i]? = some x)
  stop : ∀ H, P H → J.stop xs.length H
theorem wk_list (K : PySem.W.Frag) (a : Addr) (xs : List V) : Wk (Itl K a) xs (fun H => SqL K H a xs) :=
  ⟨fun i H hi h => ⟨xs, xs[i], h, by simp [hi]⟩, fun i H x H' h y => ⟨y.1, fun _ => y.2 xs h⟩, fun H h => ⟨xs, h, Nat.le_refl _⟩⟩
theorem wk_tup (K : PySem.W.Frag) (a : Addr) (xs : List V) : Wk (Itt K a) xs (fun H => SqT K H a xs) :=
  ⟨fun i H hi h => ⟨xs, xs[i], h, by simp [hi]⟩, fun i H x H' h y => ⟨y.1, fun _ => y.2 xs h⟩, fun H h => ⟨xs, h, Nat.le_refl _⟩⟩
def rangeV (lo : Int) (n : Nat) : List V := (List.range n).map fun (i : Nat) => V.int (lo + (i : Int))
theorem rangeV_length (lo : Int) (n : Nat) : (rangeV lo n).length = n := by simp [rangeV]
theorem wk_range (lo : Int) (n : Nat) : Wk (Itr lo n) (rangeV lo n) (fun _ => True) :=
  ⟨fun i H hi _ => by rw [rangeV_length] at hi; exact hi, fun i H v H' _ y => ⟨y.1, fun hi => by
    rw [rangeV_length] at hi
    obtain ⟨_, rfl⟩ := y
    unfold rangeV
    rw [List.getElem?_map, List.getElem?_range hi] <;> rfl⟩, fun H _ => by
    show n ≤ (rangeV lo n).length
    rw [rangeV_length]; exact Nat.le_refl _⟩
/-- a for over a known row -/
theorem for_wk {J : It} {xs : List V} {P : Hp → Prop} {g : TG} {tb : TS} {D : Ends} {σ : St} {H : Hp} (wk : Wk J xs P) (Pv : Nat → St → Hp → Prop) (h0 : Pv 0 σ H) (hl : ∀ i σ H, i ≤ xs.length → Pv i σ H → P H)
    (hs : ∀ i x σ H, xs[i]? = some x → Pv i σ H → g x σ H fun σ2 H2 => tb { D with nx := Pv (i + 1), ct := Pv (i + 1), bk := D.nx } σ2 H2) (hd : ∀ σ H, Pv xs.length σ H → D.nx σ H) :
    ∃ W : Nat → Nat → St → Hp → Prop, (∃ m, W 0 m σ H) ∧ ∀ i m σ H, W i m σ H →
      (J.stop i H ∧ D.nx σ H) ∨ (J.go i H ∧ ∃ N : St → Hp → Prop, (∀ σ' H', N σ' H' → ∃ m', m' < m ∧ W (i + 1) m' σ' H') ∧ ∀ x H', J.yld i H x H' → g x σ H' fun σ2 H2 => tb { D with nx := N, ct := N, bk := D.nx } σ2 H2) := by
  refine ⟨fun i m σ H => m = xs.length - i ∧ i ≤ xs.length ∧ Pv i σ H, ⟨xs.length, by simp, Nat.zero_le _, h0⟩, ?_⟩
  rintro i m σ H ⟨rfl, hi, p⟩
  have q := hl i σ H hi p
  by_cases hlt : i < xs.length
  · refine .inr ⟨wk.go i H hlt q, Pv (i + 1), fun σ' H' p' => ⟨xs.length - (i + 1), by omega, rfl, hlt, p'⟩, fun x H' y => ?_⟩
    obtain ⟨e, y2⟩ := wk.yld i H x H' q y
    subst e
    exact hs i x σ _ (y2 hlt) p
  · have e : i = xs.length := by omega
    subst e
    exact .inl ⟨wk.stop H q, hd σ H p⟩

/-! ### a list comprehension of one clause -/
def closOf (scope : Scope) (env : Env) : List (Str × Addr) := ((scope.names.filter fun y => y.2 == .free).map fun y => (y.1, (env.cells.lookup y.1).getD 0)).reverse
theorem clos_go (env : Env) : ∀ (l : List (Str × NameKind)) (cs : List (Str × Addr)), (∀ y ∈ l, y.2 = .free → ∃ c, env.cells.lookup y.1 = some c) →
    (forIn l cs fun (x : Str × NameKind) (r : List (Str × Addr)) => if (x.2 == NameKind.free) = true then (cellOf env x.1 >>= fun c => pure (ForInStep.yield ((x.1, c) :: r)) : Sem (ForInStep (List (Str × Addr)))) else pure (ForInStep.yield r))
      = (pure (((l.filter fun y => y.2 == .free).map fun y => (y.1, (env.cells.lookup y.1).getD 0)).reverse ++ cs) : Sem (List (Str × Addr)))
  | [], cs, _ => by simp
  | y :: l, cs, h => by
    rw [List.forIn_cons]
    have ih := fun cs => clos_go env l cs fun z hz => h z (List.mem_cons_of_mem _ hz)
    by_cases hk : (y.2 == NameKind.free) = true
    · obtain ⟨c, hc⟩ := h y List.mem_cons_self (by simpa using hk)
      have ec : cellOf env y.1 = pure c := by unfold cellOf; rw [hc]
      rw [if_pos hk, ec]
      show (forIn l ((y.1, c) :: cs) _ : Sem _) = _
      rw [ih]
      rw [List.filter_cons_of_pos (by simpa using hk), List.map_cons, List.reverse_cons, hc]
      simp
    · rw [if_neg hk]
      show (forIn l cs _ : Sem _) = _
      rw [ih, List.filter_cons_of_neg (by simpa using hk)]
theorem closureFor_eq {scope : Scope} {env : Env} (h : ∀ y ∈ scope.names, y.2 = .free → ∃ c, env.cells.lookup y.1 = some c) : closureFor scope env = pure (closOf scope env) := by
  have e := clos_go env scope.names [] h
  rw [List.append_nil] at e
  unfold closureFor
  show (forIn scope.names [] _ >>= fun r => pure r : Sem _) = _
  exact (congrArg (fun t : Sem (List (Str × Addr)) => t >>= fun r => pure r) e).trans rfl
theorem mem_closOf {scope : Scope} {env : Env} {p : Str × Addr} (h : p ∈ closOf scope env) : ∃ y ∈ scope.names, y.2 = .free ∧ p = (y.1, (env.cells.lookup y.1).getD 0) := by
  unfold closOf at h
  rw [List.mem_reverse, List.mem_map] at h
  obtain ⟨y, hy, e⟩ := h
  rw [List.mem_filter] at hy
  exact ⟨y, hy.1, by simpa using hy.2, e.symm⟩
theorem lookup_closOf {scope : Scope} {env : Env} (h : ∀ y ∈ scope.names, y.2 = .free → ∃ c, env.cells.lookup y.1 = some c) {y : Str} {c : Addr} (e : (closOf scope env).lookup y = some c) : env.cells.lookup y = some c := by
  obtain ⟨z, hz, hf, q⟩ := mem_closOf (PySem.mem_of_lookup e)
  obtain ⟨d, hd⟩ := h z hz hf
  have q1 : y = z.1 := congrArg Prod.fst q
  have q2 : c = (env.cells.lookup z.1).getD 0 := congrArg Prod.snd q
  rw [hd] at q2
  rw [q1, hd, q2] <;> rfl
theorem has_closOf {scope : Scope} {env : Env} {y : Str} (e : (y, NameKind.free) ∈ scope.names) : ∃ c, (closOf scope env).lookup y = some c := by
  have m : (y, (env.cells.lookup y).getD 0) ∈ closOf scope env := by
    unfold closOf
    rw [List.mem_reverse, List.mem_map]
    exact ⟨(y, .free), List.mem_filter.mpr ⟨e, by rfl⟩, rfl⟩
  cases q : (closOf scope env).lookup y with
  | some c => exact ⟨c, rfl⟩
  | none =>
    rw [List.lookup_eq_none_iff] at q
    have := q _ m
    simp at this
theorem lookup_relabel_free {env : Env} (hk : env.scope.kind = .function) : ∀ {names : List (Str × NameKind)} {x : Str}, names.lookup x = some .free → env.kindOf x = some .cell →
    (names.map fun (n, k) => if (k == NameKind.free && env.scope.kind == .function && env.kindOf n == some .cell) then (n, NameKind.cell) else (n, k)).lookup x = some .cell
  | [], _, h, _ => by simp at h
  | (n, k) :: r, x, h, hc => by
    have ih := @lookup_relabel_free env hk r x
    show List.lookup x ((if (k == NameKind.free && env.scope.kind == .function && env.kindOf n == some .cell) = true then (n, NameKind.cell) else (n, k)) :: _) = _
    cases hx : x == n with
    | true =>
      have hxn : x = n := by simpa using hx
      simp only [List.lookup_cons, hx] at h
      cases h
      rw [if_pos (by rw [hk, ← hxn, hc]; rfl)]
      simp [List.lookup_cons, hx]
    | false =>
      simp only [List.lookup_cons, hx] at h
      by_cases hc' : (k == NameKind.free && env.scope.kind == .function && env.kindOf n == some .cell) = true
      · rw [if_pos hc']; simp only [List.lookup_cons, hx]; exact ih h hc
      · rw [if_neg hc']; simp only [List.lookup_cons, hx]; exact ih h hc
theorem relabel_back {env : Env} : ∀ {names : List (Str × NameKind)} {x : Str} {k : NameKind},
    (names.map fun (n, k) => if (k == NameKind.free && env.scope.kind == .function && env.kindOf n == some .cell) then (n, NameKind.cell) else (n, k)).lookup x = some k → (k = .cell ∨ k = .free) →
    (x, NameKind.free) ∈ names ∨ (x, NameKind.cell) ∈ names
  | [], _, _, h, _ => by simp at h
  | (n, k0) :: r, x, k, h, hk => by
    have ih := @relabel_back env r x k
    change List.lookup x ((if (k0 == NameKind.free && env.scope.kind == .function && env.kindOf n == some .cell) = true then (n, NameKind.cell) else (n, k0)) :: _) = _ at h
    cases hx : x == n with
    | true =>
      have hxn : x = n := by simpa using hx
      subst hxn
      by_cases hc' : (k0 == NameKind.free && env.scope.kind == .function && env.kindOf x == some .cell) = true
      · have : k0 = .free := by
          rw [Bool.and_eq_true, Bool.and_eq_true] at hc'
          simpa using hc'.1.1
        subst this
        exact .inl List.mem_cons_self
      · rw [if_neg hc'] at h
        simp only [List.lookup_cons, hx] at h
        cases h
        rcases hk with rfl | rfl
        · exact .inr List.mem_cons_self
        · exact .inl List.mem_cons_self
    | false =>
      have h' : (r.map fun (n, k) => if (k == NameKind.free && env.scope.kind == .function && env.kindOf n == some .cell) then (n, NameKind.cell) else (n, k)).lookup x = some k := by
        by_cases hc' : (k0 == NameKind.free && env.scope.kind == .function && env.kindOf n == some .cell) = true
        · rw [if_pos hc'] at h; simp only [List.lookup_cons, hx] at h; exact h
        · rw [if_neg hc'] at h; simp only [List.lookup_cons, hx] at h; exact h
      rcases ih h' hk with z | z
      · exact .inl (List.mem_cons_of_mem _ z)
      · exact .inr (List.mem_cons_of_mem _ z)
end L2

set_option Elab.async false
set_option linter.all false
set_option maxRecDepth 100000
namespace L2
open PySem PySem.Spec PyProof.Rows

/-- the context of a comprehension's block: C its own names' dict, s₀ and H₀ as it begins, ex the iterator's objects -/
def cxComp (X : Cx) (scope : Scope) (N : List Str) (C : Addr) (s₀ : Shared) (H₀ : Hp) (ex : List Addr) : Cx where
  prog := X.prog
  w := X.w
  K := X.K
  mg := X.mg
  base := X.base
  A := X.A
  N := N
  s₀ := s₀
  H₀ := H₀
  env := compEnvC scope (closOf scope X.env) C X.env
  outer := X.stack
  stack := X.stack
  ex := ex
  fn := fun _ => false
  calm := X.calm
  pn := []
  xe := fun _ _ => False

/-- the tests of a clause -/
def PTs (X : Cx) (ifs : List Expr) (t : TT) : Prop :=
  ∀ (pins : List (Addr × Obj)) (s : Shared) (σ : St) (H : Hp) (Q : Bool → Hp → Prop), Inv X pins σ H s → t σ H Q →
    wpAny (model X.prog X.w) X.A (forIn ifs true fun c r => if r = true then do let ok ← isTrue c X.env (eval c X.env); pure (ForInStep.yield ok) else pure (ForInStep.yield r)) (TP X pins σ Q) X.xe s
def tTrue : TT := fun _ H Q => Q true H
theorem pts_nil {X : Cx} : PTs X [] tTrue := fun _ _ _ H _ I h => wpAny_tests_nil ⟨H, I, h⟩
theorem pts_one {X : Cx} {c : Expr} {t : TT} (h : PT X c t) : PTs X [c] t := fun pins s σ H Q I q => wpAny_tests_one (h pins s σ H Q I q)

section
variable {prog : Program} {w : World} {A : Around} {R : Result → Shared → Prop} {s : Shared}
theorem comp_loop {elt target iter : Expr} {ifs : List Expr} {scope : Scope} {pos : Pos} {it acc : Value} {env : Env} (I : Nat → Shared → Prop)
    (turn : ∀ n s, I n s → wpAny (model prog w) A (pyNext it) (fun r s₁ => match r with
      | none => R (.ok .next) s₁
      | some v => wpAny (model prog w) A (letOwnedTupleGo target it v) (fun _ s₁' => wpAny (model prog w) A (assign target env v) (fun _ s₂ =>
          wpAny (model prog w) A (forIn ifs true fun c r => if r = true then do let ok ← isTrue c env (eval c env); pure (ForInStep.yield ok) else pure (ForInStep.yield r)) (fun ok s₃ =>
            if ok = true then wpAny (model prog w) A (eval elt env) (fun x s₄ =>
              wpAny (model prog w) A (call (.builtin "list.append") [acc, x]) (fun _ s₅ => ∃ m, m < n ∧ I m s₅) (notedBy (model prog w) A env fun e s' => R (.error e) s') s₄) (notedBy (model prog w) A env fun e s' => R (.error e) s') s₃
            else ∃ m, m < n ∧ I m s₃) (notedBy (model prog w) A env fun e s' => R (.error e) s') s₂) (notedBy (model prog w) A env fun e s' => R (.error e) s') s₁') (notedBy (model prog w) A env fun e s' => R (.error e) s') s₁) (notedBy (model prog w) A env fun e s' => R (.error e) s') s)
    (n : Nat) (h : I n s) :
    codeAny (model prog w) A (.compLoop (.ListComp elt [⟨target, iter, ifs, 0⟩] scope pos) 0 it acc env) R s := by
  refine codeAny_loop rfl I (fun n s hI => ?_) n h
  show wpAny _ A ((compTurn (.ListComp elt [⟨target, iter, ifs, 0⟩] scope pos) 0 it acc env).onRaise (fun x => do noteFrame x env; theTreesLotGoes x)) _ _ s
  refine wpAny_noted ?_
  rw [compTurn_list]
  refine wpAny_bind (wpAny_standAt (wpAny_bind (wpAny_mono (turn n s hI) (fun r s₁ h₁ => ?_) fun _ _ h' => h')))
  cases r with
  | none => exact wpAny_pure h₁
  | some v =>
    refine wpAny_bind (wpAny_mono h₁ (fun _ s₁' h₁' => ?_) fun _ _ h' => h')
    refine wpAny_bind (wpAny_mono h₁' (fun _ s₂ h₂ => wpAny_bind (wpAny_mono h₂ (fun ok s₃ h₃ => ?_) fun _ _ h' => h')) fun _ _ h' => h')
    cases ok with
    | false => exact wpAny_pure ⟨rfl, h₃⟩
    | true =>
      exact wpAny_bind (wpAny_bind (wpAny_mono h₃ (fun x s₄ h₄ => wpAny_bind (wpAny_mono h₄ (fun _ s₅ h₅ => wpAny_pure (wpAny_pure ⟨rfl, h₅⟩)) fun _ _ h' => h')) fun _ _ h' => h'))
end

/-- os: the block's own names; js: the slots of the captured names -/
def caps (σ : St) (js : List Nat) : St := js.map fun j => σ.getD j none
def tCompB (k : Nat) (js : List Nat) (g : TG) (tc : TT) (te : TE) (σ : St) (Q : VK) (J : It) (H1 : Hp) : Prop :=
  ∃ W : Nat → Nat → List V → Hp → Prop, (∃ m, W 0 m [] H1) ∧ ∀ i m ys H, W i m ys H →
    (J.stop i H ∧ ys.length ≤ sizeLine ∧ ∀ D, H D = none → Q (.ref D) (upd H D (.lst ys))) ∨
    (J.go i H ∧ ys.length < sizeLine ∧ ∀ x H', J.yld i H x H' → ∀ os : St, os.length = k → g x (os ++ caps σ js) H' fun σ2 H2 => (∃ os' : St, os'.length = k ∧ σ2 = os' ++ caps σ js) ∧
        tc σ2 H2 fun b H3 => if b = true then te σ2 H3 fun y H4 => ∃ m', m' < m ∧ W (i + 1) m' (ys ++ [y]) H4 else ∃ m', m' < m ∧ W (i + 1) m' ys H3)
def tComp (k : Nat) (js : List Nat) (wi : TI) (g : TG) (tc : TT) (te : TE) : TE := fun σ H Q => wi σ H (tCompB k js g tc te σ Q)

theorem caps_get {σ : St} {js : List Nat} {i : Nat} {v : V} (h : (caps σ js)[i]? = some (some v)) : ∃ j, js[i]? = some j ∧ σ[j]? = some (some v) := by
  unfold caps at h
  rw [List.getElem?_map] at h
  cases e : js[i]? with
  | none => rw [e] at h; cases h
  | some j =>
    rw [e] at h
    have h' : σ.getD j none = some v := Option.some.inj h
    refine ⟨j, rfl, ?_⟩
    rw [List.getD_eq_getElem?_getD] at h'
    cases q : σ[j]? with
    | none => rw [q] at h'; cases h'
    | some o => rw [q] at h'; exact congrArg some h'

set_option maxHeartbeats 1000000 in
theorem pe_comp {X : Cx} {elt iter tg : Expr} {pos : Pos} {ifs : List Expr} {scope : Scope} {wi : TI} {g : TG} {tc : TT} {te : TE} (own : List Str) (js : List Nat) (N' : List Str) (hc : X.calm = true)
    (hi : PI X tg iter wi)
    (hg : ∀ C s₀ H₀ ex, PG (cxComp X scope N' C s₀ H₀ ex) tg g)
    (ht : ∀ C s₀ H₀ ex, PTs (cxComp X scope N' C s₀ H₀ ex) ifs tc)
    (he : ∀ C s₀ H₀ ex, PE (cxComp X scope N' C s₀ H₀ ex) elt te)
    (hN' : N' = own ++ js.map fun j => X.N.getD j Str.empty := by rfl)
    (hk : scope.kind = .function := by rfl)
    (hcell : ∀ y ∈ scope.names, y.2 ≠ .cell := by decide +kernel)
    (hnames : ∀ y ∈ scope.names, y.2 = .local → scope.names.lookup y.1 = some .local := by decide +kernel)
    (hfr : (scope.names.all fun y => y.2 != .free || X.env.scope.names.lookup y.1 == some .cell) = true := by rfl)
    (hjs : (js.all fun j => scope.names.lookup (X.N.getD j Str.empty) == some .free && (X.N[j]?).isSome) = true := by rfl)
    (hs : ∀ z, foldedSetIterable iter X.env z = pure z := by intro _; rfl) :
    PE X (.ListComp elt [⟨tg, iter, ifs, 0⟩] scope pos) (tComp own.length js wi g tc te) := by
  intro pins s σ H Q I h
  have free_cell : ∀ y ∈ scope.names, y.2 = .free → X.env.kindOf y.1 = some .cell := fun y hy hf => by
    have := List.all_eq_true.mp hfr y hy
    rw [hf] at this
    simp at this
    exact this
  have hcl : ∀ y ∈ scope.names, y.2 = .free → ∃ c, X.env.cells.lookup y.1 = some c := fun y hy hf => I.ok.has y.1 (.inl (free_cell y hy hf))
  rw [eval_ListComp]
  refine wpAny_comprehension_free (use := none) rfl hs (closureFor_eq hcl) hk hnames ?_
  refine thn (hi pins s σ H _ I h) fun v s1 h1 => thn h1 fun itv s2 h2 => ?_
  obtain ⟨it, fp, tn, J, H2, e, I2, T, st2, f2, W, ⟨m0, w0⟩, turn⟩ := h2
  subst e
  refine wpAny_newObj_type (wpAny_newFunctionEnv hcell (by intro y hy; simp at hy) (fun h₁ hns₁ hsb₁ => ?_) hk)
  dsimp only at hns₁ hsb₁ ⊢
  generalize hG : s2.heap.push { cls := .type "list", dict := none, data := .seq ([] : List Value).toArray } = G at hns₁ hsb₁ ⊢
  have hC : G.objs.size = s2.heap.objs.size + 1 := by rw [← hG, Heap.size_push]
  have hDC : s2.heap.objs.size ≠ G.objs.size := by rw [hC]; exact Nat.ne_of_lt (Nat.lt_succ_self _)
  have below : ∀ b, b < s2.heap.objs.size → b ≠ G.objs.size ∧ b ≠ s2.heap.objs.size := fun b hb => ⟨by rw [hC]; exact Nat.ne_of_lt (Nat.lt_succ_of_lt hb), Nat.ne_of_lt hb⟩
  have old : ∀ b o, s2.heap.get? b = some o → h₁.get? b = some o := fun b o e => hsb₁.extBut b o (below b (Heap.lt_size e)).1 (Heap.get?_push_of_some _ (hG ▸ Heap.get?_push_of_some _ e))
  have hacc : h₁.get? s2.heap.objs.size = some { cls := .type "list", data := .seq ([] : List Value).toArray 0 } := hsb₁.extBut _ _ hDC (Heap.get?_push_of_some _ (hG ▸ Heap.get?_push_size _ rfl))
  have fplt : ∀ b ∈ fp, b < s2.heap.objs.size := fun b hb => let ⟨_, e, _⟩ := T.obj _ _ st2 b hb; Heap.lt_size e
  have ok' : (cxComp X scope N' G.objs.size s2 H2 fp).Ok := by
    refine ⟨I2.ok.mod, hk, I2.ok.glob, I2.ok.blt, by show s2.heap.objs.size ≤ G.objs.size; rw [hC]; exact Nat.le_succ _, fun x y c e1 e2 => I2.ok.inj x y c (lookup_closOf hcl e1) (lookup_closOf hcl e2), fun x hx => ?_,
      fun x c hx _ => (nomatch hx), I2.ok.hd, I2.ok.frames, .inl rfl, fun b hb => ⟨(below b (fplt b hb)).1, fun x c e => (f2 b hb).2.2.2.2.1 x c (lookup_closOf hcl e)⟩, I2.bs, Nat.le_trans I2.ok.bsz I2.sz, fun b o e hb => ?_, fun b hb z => ?_, I2.stack, I2.stkFree⟩
    · have hx' : (relabel scope X.env).names.lookup x = some .cell ∨ (relabel scope X.env).names.lookup x = some .free := hx
      have : (x, NameKind.free) ∈ scope.names ∨ (x, NameKind.cell) ∈ scope.names := by
        rcases hx' with z | z
        · exact relabel_back z (.inl rfl)
        · exact relabel_back z (.inr rfl)
      rcases this with z | z
      · exact has_closOf z
      · exact absurd rfl (hcell _ z)
    · rcases (f2 b hb).2.2.2.1 with z | z
      · exact I2.ok.noex b o e z
      · have h1 : b < X.base.objs.size := Heap.lt_size e
        exact absurd (Nat.lt_of_lt_of_le h1 (Nat.le_trans I2.ok.bsz z)) (Nat.lt_irrefl _)
    · rcases List.mem_cons.mp (I2.stkSub b z) with e | e
      · exact (f2 b hb).2.1 e
      · exact (f2 b hb).2.2.1 e
  have kindCap : ∀ i y, (js.map fun j => X.N.getD j Str.empty)[i]? = some y → ∃ j, js[i]? = some j ∧ X.N[j]? = some y ∧ scope.names.lookup y = some .free := fun i y e => by
    rw [List.getElem?_map] at e
    cases q : js[i]? with
    | none => rw [q] at e; cases e
    | some j =>
      rw [q] at e
      have e' : X.N.getD j Str.empty = y := Option.some.inj e
      have hj := List.all_eq_true.mp hjs j (List.mem_of_getElem? q)
      rw [Bool.and_eq_true] at hj
      obtain ⟨hj1, hj2⟩ := hj
      rw [e'] at hj1
      obtain ⟨z, hz⟩ := Option.isSome_iff_exists.mp hj2
      rw [List.getD_eq_getElem?_getD, hz] at e'
      exact ⟨j, q, by rw [hz]; exact congrArg some e', by simpa using hj1⟩
  have I0 : ∀ tk : Nat, Inv (cxComp X scope N' G.objs.size s2 H2 fp) [(s2.heap.objs.size, { cls := .type "list", data := .seq ([] : List Value).toArray 0 })] (List.replicate own.length none ++ caps σ js) H2 { s2 with heap := h₁, toks := tk } := fun tk => by
    refine ⟨ok', rfl, I2.bare, Un.kept old, ⟨_, hns₁, fun i y v e1 e2 e3 => ?_⟩, fun x c e => ?_, I2.hok.fresh (by show s2.heap.objs.size ≤ G.objs.size; rw [hC]; exact Nat.le_succ _), fun x c e => I2.freeC x c (lookup_closOf hcl e), fun p hp => ?_, I2.hok.kept old, ?_⟩
    · by_cases hlt : i < own.length
      · rw [List.getElem?_append_left (by simpa using hlt), List.getElem?_replicate] at e2
        split at e2 <;> cases e2
      · have e1' : N'[i]? = some y := e1
        rw [hN', List.getElem?_append_right (by omega)] at e1'
        rw [List.getElem?_append_right (by simpa using hlt), List.length_replicate] at e2
        obtain ⟨j, hj, hs2⟩ := caps_get e2
        obtain ⟨j', hj', hN, hfree⟩ := kindCap _ _ e1'
        rw [hj] at hj'; cases hj'
        obtain ⟨m, hm, hl⟩ := I2.loc
        have hcell' : X.env.kindOf y = some .cell := free_cell (y, .free) (PySem.mem_of_lookup hfree) rfl
        obtain ⟨u, r, l⟩ := hl j y v hN hs2 (.inr (.inl hcell'))
        refine ⟨u, r, ?_⟩
        rcases l with ⟨hk', _⟩ | ⟨hk', c, hc', z⟩
        · rw [hcell'] at hk'; cases hk'
        · obtain ⟨c', e'⟩ := has_closOf (env := X.env) (PySem.mem_of_lookup hfree)
          have := lookup_closOf hcl e'
          rw [hc'] at this; cases this
          refine .inr ⟨.inl (lookup_relabel_free I2.ok.kind hfree hcell'), c, e', ?_⟩
          obtain ⟨o, ho, hd⟩ := z
          exact ⟨o, old _ _ ho, hd⟩
    · obtain ⟨v, o, ho, hd⟩ := I2.cell x c (lookup_closOf hcl e)
      exact ⟨v, o, old _ _ ho, hd⟩
    · have hp' : p = (s2.heap.objs.size, { cls := .type "list", data := .seq ([] : List Value).toArray 0 }) := by
        rcases List.mem_append.mp hp with z | z
        · exact absurd (show p ∈ ([] : List (Addr × Obj)) from z) (by simp)
        · simpa using z
      subst hp'
      refine ⟨hacc, I2.hok.fresh (Nat.le_refl _), hDC, fun z => ?_, fun v z => by cases z⟩
      exact absurd (show s2.heap.objs.size ∈ frs X.stack from z) fun z => by
        rcases List.mem_cons.mp (I2.stkSub _ z) with e | e
        · have := I2.lt
          rw [← e] at this
          exact Nat.lt_irrefl _ this
        · exact I2.nofs (Nat.le_refl _) e
    · show _ = N'.length
      rw [hN']
      simp [caps]
  have stat : ∀ {H' : Hp} {ob : Obj}, (∀ b ∈ fp, H' b = none) → ∀ b ∈ fp, FpOk (cxComp X scope N' G.objs.size s2 H2 fp) [(s2.heap.objs.size, ob)] H' b := fun {H' ob} hn b hb =>
    ⟨hn b hb, (below b (fplt b hb)).1, fun z => ok'.exfs b hb z, .inl hb, fun x c e => (f2 b hb).2.2.2.2.1 x c (lookup_closOf hcl e), fun p hp => by
      have hp' : p = (s2.heap.objs.size, ob) := by
        rcases List.mem_append.mp hp with z | z
        · exact absurd (show p ∈ ([] : List (Addr × Obj)) from z) (by simp)
        · simpa using z
      subst hp'
      exact Ne.symm (below b (fplt b hb)).2⟩
  have loop : ∀ s₃ : Shared, s₃ = { s2 with heap := h₁, toks := s2.toks + ([] : List (Str × Value)).length } →
      codeAny (model X.prog X.w) X.A (.compLoop (.ListComp elt [⟨tg, iter, ifs, 0⟩] scope pos) 0 (.ref it) (.ref s2.heap.objs.size) (compEnvC scope (closOf scope X.env) G.objs.size X.env))
        (compPost (model X.prog X.w) X.A X.xe none (EP X pins σ Q) (.ref s2.heap.objs.size) G.objs.size) s₃ := by
    rintro s₃ rfl
    refine comp_loop (fun n s' => ∃ (i : Nat) (os : St) (H' : Hp) (ys : List V) (its : List Value) (k : Nat), os.length = own.length ∧
      Inv (cxComp X scope N' G.objs.size s2 H2 fp) [(s2.heap.objs.size, { cls := .type "list", data := .seq its.toArray k })] (os ++ caps σ js) H' s' ∧ tn i s'.heap ∧ (∀ b ∈ fp, H' b = none) ∧ Vals ys its ∧ W i n ys H') ?_ m0
      ⟨0, _, H2, [], [], 0, by simp, I0 _, T.keep _ _ _ st2 fun b _ o e => old b o e, fun b hb => (f2 b hb).1, .nil, w0⟩
    rintro n s3 ⟨i, os, H3, ys, its, k, hos, I3, st3, fr3, rv3, w3⟩
    have pinD : ∀ {σ' : St} {H' : Hp} {s' : Shared}, Inv (cxComp X scope N' G.objs.size s2 H2 fp) [(s2.heap.objs.size, { cls := .type "list", data := .seq its.toArray k })] σ' H' s' → s'.heap.get? s2.heap.objs.size = some { cls := .type "list", data := .seq its.toArray k } ∧ H' s2.heap.objs.size = none :=
      fun I => let q := I.pin (s2.heap.objs.size, { cls := .type "list", data := .seq its.toArray k }) (List.mem_append_right _ (by simp)); ⟨q.1, q.2.1⟩
    rcases turn i n ys H3 w3 with ⟨stop, hz, qn⟩ | ⟨go, hz, step⟩
    · refine thn (T.done (cxComp X scope N' G.objs.size s2 H2 fp) rfl rfl rfl hc i _ s3 _ H3 _ I3 (stat fr3) st3 stop) fun r s4 ⟨hr, I4⟩ => ?_
      subst hr
      obtain ⟨hD4, hn4⟩ := pinD I4
      obtain ⟨m, hm, _⟩ := I4.loc
      refine ⟨m, hm, fun h' hsb => ?_⟩
      have b4 := I4.base
      have nC : ∀ b o, s2.heap.get? b = some o → b ≠ G.objs.size := fun b o e => (below b (Heap.lt_size e)).1
      have nD : ∀ b o, s2.heap.get? b = some o → b ≠ s2.heap.objs.size := fun b o e => (below b (Heap.lt_size e)).2
      have hok' : HOk X.prog X.w H3 h' := fun b ob e => by
        refine (I4.hok b ob e).stay (fun c w' hc' q => (hsb.2 c ?_).trans q) (fun _ q => q) fun _ _ q => q
        rintro rfl
        rcases hc' with hc' | hc'
        · rw [← hc', show H3 G.objs.size = none from I4.free] at e; cases e
        · rw [show H3 G.objs.size = none from I4.free] at hc'; cases hc'
      have hD' : h'.get? s2.heap.objs.size = some { cls := .type "list", data := .seq its.toArray k } := (hsb.2 _ hDC).trans hD4
      refine ⟨.ref s2.heap.objs.size, upd H3 s2.heap.objs.size (.lst ys), ?_, rfl, qn _ hn4⟩
      refine I2.call' (ch := fp) I4.os ⟨fun b o e n hb hx => ?_, fun b o e n hb hx => ?_, fun b o e n hx => ?_, fun b o e hx => ?_, fun b xs q => ?_, fun b o u q => ?_, fun b ps q => ?_⟩ (hok'.track hn4 ⟨hz, its, k, rv3, hD'⟩) I4.bare fun b hb => ⟨(f2 b hb).2.2.2.1, (f2 b hb).2.1, (f2 b hb).2.2.2.2.1, (f2 b hb).2.2.2.2.2⟩
      · exact (hsb.2 b (nC b o e)).trans (b4.keep b o e n hb hx)
      · obtain ⟨sl, e1⟩ := b4.slot b o e n hb hx
        exact ⟨sl, (hsb.2 b (nC b o e)).trans e1⟩
      · rw [upd_ne (nD b o e)]; exact b4.free b o e n hx
      · obtain ⟨o', e1⟩ := b4.there b o e hx
        exact ⟨o', (hsb.2 b (nC b o e)).trans e1⟩
      · have z := b4.tups b xs q
        rw [upd_ne (ne_of_none z hn4)]; exact z
      · have z := b4.frzs b o u q
        rw [upd_ne (ne_of_none z hn4)]; exact z
      · obtain ⟨more, z⟩ := b4.tbls b ps q
        exact ⟨more, by rw [upd_ne (ne_of_none z hn4)]; exact z⟩
    · refine thn (T.item (cxComp X scope N' G.objs.size s2 H2 fp) rfl rfl rfl hc i _ s3 _ H3 _ I3 (stat fr3) st3 go) fun r s4 ⟨u, hr, h4⟩ => ?_
      subst hr
      refine thn h4 fun _ s5 ⟨x, H5, I5, r5, y5, st5, fr5⟩ => ?_
      have fpo := T.obj _ _ st5
      have I5' := I5.pinned (stat fr5) fpo
      refine wpAny_mono (hg _ _ _ _ _ s5 _ H5 x u _ I5' r5 (step x H5 y5 os hos)) (fun _ s6 ⟨σ6, H6, I6, ⟨os', hos', e6⟩, q6⟩ => ?_) fun _ _ z => False.elim z
      subst e6
      refine wpAny_mono (ht _ _ _ _ _ s6 _ H6 _ I6 q6) (fun ok s7 ⟨H7, I7, q7⟩ => ?_) fun _ _ z => False.elim z
      have keepFp : ∀ {σ' : St} {H' : Hp} {s' : Shared}, Inv (cxComp X scope N' G.objs.size s2 H2 fp) ([(s2.heap.objs.size, { cls := .type "list", data := .seq its.toArray k })] ++ pinsAt fp s5.heap) σ' H' s' → tn (i + 1) s'.heap ∧ ∀ b ∈ fp, H' b = none := fun I => by
        refine ⟨T.keep _ _ _ st5 fun b hb o e => (I.pin (b, o) (List.mem_append_right _ (List.mem_append_right _ (mem_pinsAt hb e)))).1, fun b hb => ?_⟩
        obtain ⟨o, e, d⟩ := fpo b hb
        exact (I.pin (b, o) (List.mem_append_right _ (List.mem_append_right _ (mem_pinsAt hb e)))).2.1
      cases ok with
      | false =>
        obtain ⟨m', hm', w'⟩ := q7
        obtain ⟨k1, k2⟩ := keepFp I7
        exact ⟨m', hm', i + 1, os', H7, ys, its, k, hos', I7.unpinned, k1, k2, rv3, w'⟩
      | true =>
        rw [if_pos rfl]
        refine wpAny_mono (he _ _ _ _ _ s7 _ H7 _ I7 q7) (fun yv s8 ⟨y, H8, I8, r8, q8⟩ => ?_) fun _ _ z => False.elim z
        obtain ⟨m', hm', w'⟩ := q8
        obtain ⟨k1, k2⟩ := keepFp I8
        have I8' := I8.unpinned
        obtain ⟨hD8, hn8⟩ := pinD I8'
        have hil : its.length < sizeLine := by rw [← rv3.length]; exact hz
        refine call_meets F.slot_list_append ⟨_, hD8, rfl⟩ F.entry_list_append (F.args_list_append_2 _ _) (PySem.list_append _ its.toArray k yv (by rw [List.size_toArray]; omega)) ⟨hD8, ?_⟩
        have q : (s8.heap.update s2.heap.objs.size (Obj.mapSeq fun a => a.push yv)).get? s2.heap.objs.size = some { cls := .type "list", data := .seq (its ++ [yv]).toArray (if (its.toArray.push yv).size == its.toArray.size then k else k + 1) } := by
          have q0 := PySem.IsL.update hD8 (fun a : Array Value => a.push yv)
          have ea : its.toArray.push yv = (its ++ [yv]).toArray := by simp
          rw [← ea]
          exact q0
        refine ⟨m', hm', i + 1, os', H8, ys ++ [y], its ++ [yv], (if (its.toArray.push yv).size == its.toArray.size then k else k + 1), hos', ?_, T.keep _ _ _ k1 fun b hb o e => (Heap.get?_update_other s8.heap _ (below b (fplt b hb)).2.symm).trans e, k2, rv3.append (.cons r8 .nil), w'⟩
        have In : Inv (cxComp X scope N' G.objs.size s2 H2 fp) [] (os' ++ caps σ js) H8 s8 := I8'.pins_of fun p hp => absurd hp (by simp)
        have It : Inv (cxComp X scope N' G.objs.size s2 H2 fp) [] (os' ++ caps σ js) H8 { s8 with heap := s8.heap.update s2.heap.objs.size (Obj.mapSeq fun a => a.push yv) } :=
          In.turned (it := s2.heap.objs.size) (t' := s8.toks) (fun b o hb e => (Heap.get?_update_other s8.heap _ (Ne.symm hb)).trans e) hn8 hDC (.inr (Nat.le_refl _)) (fun x c e z => by
            obtain ⟨v, o, ho, hd⟩ := I8'.cell x c e
            rw [z, hD8] at ho
            cases ho
            cases hd) fun p hp => absurd hp (by simp [cxComp])
        refine It.pins_of fun p hp => ?_
        have hp' : p = (s2.heap.objs.size, { cls := .type "list", data := .seq (its ++ [yv]).toArray (if (its.toArray.push yv).size == its.toArray.size then k else k + 1) }) := List.mem_singleton.mp hp
        subst hp'
        exact ⟨q, hn8, hDC, (I8'.pin _ (List.mem_append_right _ (List.mem_singleton.mpr rfl))).2.2.2.1, fun v z => by cases z⟩
  exact codeAny_compStart_list (loop _ rfl) (T.self _ 0 _ _ _ (T.keep _ _ _ st2 fun b _ o e => old b o e) (loop _ rfl))
end L2

set_option Elab.async false
set_option linter.all false
set_option maxRecDepth 100000
namespace L2
open PySem PySem.Spec PyProof.Rows
section
variable {X : Cx}

/-! isinstance(x, T), T a built-in type -/
theorem call_isi : CallR X (.builtin "isinstance") (fun xs H Q => ∃ x n t b, xs = [x, .ty n] ∧ TyOf X.K H x t ∧ PySem.W.kitOne X.K t (.type n) = some b ∧ Q (.bl b) H) := by
  intro pins s σ H xs us Q I r h
  obtain ⟨x, n, t, b, rfl, ty, e, q⟩ := h
  obtain ⟨u, c, rfl, rx, rc⟩ := r.two
  cases (show c = Value.type n from rc)
  exact isinst_ok I rx ty e fun tk => ⟨.bl b, H, I.tok tk, rfl, q⟩

/-! `x is c`, c True or False -/

/-! all(xs), any(xs) of a list of truths -/

/-! texts: split, join, index, slices, int() -/

/-! == and != of two lists of flat items -/
def eqL : List V → List V → Bool
  | [], [] => true
  | x :: xs, y :: ys => eqV x y && eqL xs ys
  | _, _ => false
theorem eqL_len : ∀ {xs ys : List V}, xs.length ≠ ys.length → eqL xs ys = false
  | [], [], h => absurd rfl h
  | [], _ :: _, _ => rfl
  | _ :: _, [], _ => rfl
  | x :: xs, y :: ys, h => by
    unfold eqL
    rw [eqL_len (fun e => h (by simp [e])), Bool.and_false]
theorem eqL_range : ∀ {xs ys : List V}, xs.length = ys.length → ((List.range xs.length).all fun j => eqV (xs.getD j .non) (ys.getD j .non)) = eqL xs ys
  | [], [], _ => rfl
  | [], _ :: _, h => by simp at h
  | _ :: _, [], h => by simp at h
  | x :: xs, y :: ys, h => by
    have ih := eqL_range (xs := xs) (ys := ys) (by simpa using h)
    unfold eqL
    rw [← ih, List.length_cons, List.range_succ_eq_map, List.all_cons, List.all_map]
    rfl
theorem eqAt_items {A : Around} {s : Shared} : ∀ {xs ys : List V} {us ws : List Value}, Vals xs us → Vals ys ws → xs.all flatV = true → ys.all flatV = true →
    ∀ j (h1 : j < us.toArray.size) (h2 : j < ws.toArray.size), SeqAt.EqAt A s us.toArray[j] ws.toArray[j] (eqV (xs.getD j .non) (ys.getD j .non))
  | _, _, _, _, .nil, _, _, _ => fun j h1 _ => by simp at h1
  | _, _, _, _, .cons _ _, .nil, _, _ => fun j _ h2 => by simp at h2
  | x :: xs, y :: ys, u :: us, w :: ws, .cons r t, .cons r' t', f, f' => fun j h1 h2 => by
    rw [List.all_cons, Bool.and_eq_true] at f f'
    cases j with
    | zero => exact eqAt_V r r' f.1 f'.1
    | succ j =>
      have := eqAt_items (A := A) (s := s) t t' f.2 f'.2 j (by simpa using h1) (by simpa using h2)
      simpa using this
def rEqL (K : PySem.W.Frag) (neg : Bool) : R2 := fun x y H Q => ∃ a b xs ys, x = .ref a ∧ y = .ref b ∧ SqL K H a xs ∧ SqL K H b ys ∧ xs.all flatV = true ∧ ys.all flatV = true ∧ Q (.bl (if neg then !eqL xs ys else eqL xs ys)) H
theorem op_eqL (hu : X.A.units < cLine) : OpR X (compareOp .Eq) (rEqL X.K false) := by
  intro pins s σ H x y v u Q I rx ry h
  obtain ⟨a, b, xs, ys, rfl, rfl, ha, hb, fx, fy, q⟩ := h
  cases rx
  cases ry
  obtain ⟨its, r1, p1, _⟩ := I.list ha
  obtain ⟨its2, r2, p2, _⟩ := I.list hb
  have l1 := r1.length
  have l2 := r2.length
  by_cases hl : xs.length = ys.length
  · refine SeqAt.eq_listAt p1.isList p2.isList (by simp only [List.size_toArray]; omega) hu (eqAt_items r1 r2 fx fy) ⟨.bl _, H, I, ?_, q⟩
    rw [List.size_toArray, ← l1, eqL_range hl]
    rfl
  · refine SeqAt.eq_list_lengthsAt p1.isList p2.isList (by simp only [List.size_toArray]; simp; omega) hu ⟨.bl _, H, I, ?_, q⟩
    rw [eqL_len hl]
    rfl
theorem op_neL (hu : X.A.units < cLine) : OpR X (compareOp .NotEq) (rEqL X.K true) := by
  intro pins s σ H x y v u Q I rx ry h
  obtain ⟨a, b, xs, ys, rfl, rfl, ha, hb, fx, fy, q⟩ := h
  cases rx
  cases ry
  obtain ⟨its, r1, p1, _⟩ := I.list ha
  obtain ⟨its2, r2, p2, _⟩ := I.list hb
  have l1 := r1.length
  have l2 := r2.length
  by_cases hl : xs.length = ys.length
  · refine EqBoolInt.of_rcne (SeqAt.RcNeAt.lists p1.isList p2.isList (by simp only [List.size_toArray]; omega) hu (eqAt_items r1 r2 fx fy)) ⟨.bl _, H, I, ?_, q⟩
    rw [List.size_toArray, ← l1, eqL_range hl]
    rfl
  · refine EqBoolInt.of_rcne (SeqAt.RcNeAt.lists_lengths p1.isList p2.isList (by simp only [List.size_toArray]; simp; omega) hu) ⟨.bl _, H, I, ?_, q⟩
    rw [eqL_len hl]
    rfl
theorem eqV_refl : ∀ {x : V}, flatV x = true → eqV x x = true
  | .non, _ => rfl
  | .bl b, _ => by cases b <;> rfl
  | .int i, _ => by show (i == i) = true; simp
  | .str x, _ => by show (x == x) = true; simp
end
end L2

set_option Elab.async false
set_option linter.all false
set_option maxRecDepth 100000
namespace L2
open PySem PySem.Spec PyProof.Rows

/-! a def of the text, and what is known of it -/
structure Def (K : PySem.W.Frag) (mg : Str → Option Value) (x : Str) (st : Stmt) (ps : List Str) : Prop where
  ex : ∃ f fd, Fun K x x st f fd ∧ mg x = some (.ref f) ∧ Binds K fd ps []
def Knows (P : Program) (w : World) (K : PySem.W.Frag) (mg : Str → Option Value) (base : Heap) (k : Nat) (x : Str) (ps : List Str) (sp : Sp) : Prop :=
  ∃ f fd, mg x = some (.ref f) ∧ PySem.W.keepIn K (.ref f) = true ∧ Binds K fd ps [] ∧ FnOk P w K mg base CX0 k f fd ps sp
section
variable {P : Program} {w : World} {K : PySem.W.Frag} {mg : Str → Option Value} {base : Heap}
/-- a def by its body: N its names, t the reading -/
theorem Def.ok {x : Str} {st : Stmt} {N ps : List Str} {k : Nat} {sp : Sp} (D : Def K mg x st ps) (S : FnScope N ps (defScope st)) (len : ∀ vs H Q E, sp vs H Q E → vs.length = ps.length)
    (hbody : ∀ (f : Addr) (cdv : Value) (A : Around) (outer : List Env) (s : Shared) (H : Hp) (vs : List V) (Q : VK) (E : XK), Room k (A.deeper (envOfC x (defScope st) s.heap.objs.size f cdv)) → sp vs H Q E →
      ∃ t, PSs (cxOf CX0 P w K mg base N x (defScope st) f cdv A outer s H E).nox (defBody st) t ∧ t { nx := fun _ H' => Q .non H', rt := Q } (start N vs) H) : Knows P w K mg base (k + 1) x ps sp := by
  obtain ⟨f, fd, F, hm, hb⟩ := D.ex
  exact ⟨f, fd, hm, F.kp, hb, F.ok S len fun cdv A outer s H vs Q E hr h => hbody f cdv A outer s H vs Q E hr h⟩
end
section
variable {X : Cx} {x : Str} {ps : List Str} {sp : Sp} {k : Nat} {e : Expr} {es : List Expr} {t : TA} {p pos : Pos}
theorem pe_callN (F : Knows X.prog X.w X.K X.mg X.base k x ps sp) (hr : Room k X.A) (ha : PA X (e :: es) t) (hg : Gl X x := by rfl) (hdb : (x == ("__debug__" : Str)) = false := by decide)
    (he : starEach (e :: es) X.env = (false, eval e X.env) :: starEach es X.env := by rfl) (hpl : (backTo pos (starEach es X.env)).any (·.1) = false := by rfl) : PE X (.Call (.Name x p) (e :: es) [] pos) (tCall sp [] E0 t) := by
  obtain ⟨f, fd, hm, hk, hb, F⟩ := F
  exact pe_call F hr hg hm hk hb .nil pass0 ha hdb he hpl
end

/-! built-in names -/
structure Bltn (mg : Str → Option Value) : Prop where
  isi : mg "isinstance" = none
  len : mg "len" = none
  all : mg "all" = none
  int : mg "int" = none
  bool : mg "bool" = none
  str : mg "str" = none
  list : mg "list" = none
  range : mg "range" = none
def rIsi (K : PySem.W.Frag) (n : String) : List V → Hp → VK → Prop := fun xs H Q => ∃ x t b, xs = [x, .ty n] ∧ TyOf K H x t ∧ PySem.W.kitOne K t (.type n) = some b ∧ Q (.bl b) H
section
variable {X : Cx} {a : Expr} {ta : TE} {p pos p2 : Pos}
theorem call_isiN (n : String) : CallR X (.builtin "isinstance") (rIsi X.K n) := by
  intro pins s σ H xs us Q I r h
  obtain ⟨x, t, b, rfl, ty, e, q⟩ := h
  exact call_isi pins s σ H _ us Q I r ⟨x, n, t, b, rfl, ty, e, q⟩
theorem pe_isi {T : Str} {n : String} (h : X.mg "isinstance" = none) (hT : X.mg T = none) (hv : bootBuiltins T = some (.type n)) (ha : PE X a ta) (hg : Gl X "isinstance" := by rfl) (hg2 : Gl X T := by rfl)
    (hn : T ≠ "__name__" := by decide) (hd : (T == ("__debug__" : Str)) = false := by decide)
    (he : starEach [a, .Name T p2] X.env = (false, eval a X.env) :: starEach [.Name T p2] X.env := by rfl) (he2 : starEach [.Name T p2] X.env = (false, eval (.Name T p2) X.env) :: starEach [] X.env := by rfl) (hpl : (backTo pos (starEach [.Name T p2] X.env)).any (·.1) = false := by rfl) :
    PE X (.Call (.Name "isinstance" p) [a, .Name T p2] [] pos) (tCB (rIsi X.K n) (tCons ta (tCons (tC (.ty n)) tNil))) :=
  pe_callB (call_isiN n) hg h boot_isinstance (pa_cons ha (pa_cons (pe_bltn (v := .ty n) hg2 hT hv rfl hn hd) pa_nil he2) he) (by decide) (by decide) he hpl
end
/-- a built-in type's kinds -/
def isI : V → Bool
  | .int _ => true
  | _ => false
def isIB : V → Bool
  | .int _ => true
  | .bl _ => true
  | _ => false
def isBl : V → Bool
  | .bl _ => true
  | _ => false
theorem isiI {K : PySem.W.Frag} {H : Hp} {x : V} {m : String} (ty : TyOf K H x (.type m)) : PySem.W.kitOne K (.type m) (.type "int") = some (isIB x) := by
  cases ty <;> kernel_rfl
theorem isiB {K : PySem.W.Frag} {H : Hp} {x : V} {m : String} (ty : TyOf K H x (.type m)) : PySem.W.kitOne K (.type m) (.type "bool") = some (isBl x) := by
  cases ty <;> kernel_rfl
/-! a comprehension of one own name -/
theorem pe_comp1 {X : Cx} {elt iter : Expr} {x : Str} {px pos : Pos} {ifs : List Expr} {scope : Scope} {wi : TI} {tc : TT} {te : TE} (js : List Nat) (N' : List Str) (hc : X.calm = true)
    (hi : PI X (.Name x px) iter wi)
    (ht : ∀ C s₀ H₀ ex, PTs (cxComp X scope N' C s₀ H₀ ex) ifs tc)
    (he : ∀ C s₀ H₀ ex, PE (cxComp X scope N' C s₀ H₀ ex) elt te)
    (nd : N'.Nodup := by decide +kernel)
    (hx : scope.names.lookup x = some .local := by rfl)
    (hN' : N' = [x] ++ js.map fun j => X.N.getD j Str.empty := by rfl)
    (hk : scope.kind = .function := by rfl)
    (hcell : ∀ y ∈ scope.names, y.2 ≠ .cell := by decide +kernel)
    (hnames : ∀ y ∈ scope.names, y.2 = .local → scope.names.lookup y.1 = some .local := by decide +kernel)
    (hfr : (scope.names.all fun y => y.2 != .free || X.env.scope.names.lookup y.1 == some .cell) = true := by rfl)
    (hjs : (js.all fun j => scope.names.lookup (X.N.getD j Str.empty) == some .free && (X.N[j]?).isSome) = true := by rfl)
    (hs : ∀ z, foldedSetIterable iter X.env z = pure z := by intro _; rfl) :
    PE X (.ListComp elt [⟨.Name x px, iter, ifs, 0⟩] scope pos) (tComp 1 js wi (gName 0) tc te) :=
  pe_comp [x] js N' hc hi (fun C s₀ H₀ ex => pg_name (X := cxComp X scope N' C s₀ H₀ ex) (i := 0) nd (by show N'[0]? = some x; rw [hN']; rfl) (Or.inl (lookup_relabel_local hx)) (.inr (lookup_relabel_local hx))) ht he hN' hk hcell hnames hfr hjs hs
/-! over a known row -/
theorem comp1_wk {js : List Nat} {J : It} {xs : List V} {Pp : Hp → Prop} {σ : St} {H1 : Hp} {tc : TT} {te : TE} {Q : VK} (wk : Wk J xs Pp) (Pv : Nat → List V → Hp → Prop) (h0 : Pv 0 [] H1) (hP : ∀ i ys H, i ≤ xs.length → Pv i ys H → Pp H ∧ ys.length ≤ i) (hsz : xs.length ≤ sizeLine)
    (hs : ∀ i x ys H (Nx : List V → Hp → Prop), xs[i]? = some x → Pv i ys H → (∀ ys' H', Pv (i + 1) ys' H' → Nx ys' H') → tc (some x :: caps σ js) H fun b H3 => if b = true then te (some x :: caps σ js) H3 fun y H4 => Nx (ys ++ [y]) H4 else Nx ys H3)
    (hd : ∀ ys H, Pv xs.length ys H → ∀ D, H D = none → Q (.ref D) (upd H D (.lst ys))) :
    tCompB 1 js (gName 0) tc te σ Q J H1 := by
  refine ⟨fun i m ys H => m = xs.length - i ∧ i ≤ xs.length ∧ Pv i ys H, ⟨xs.length, by simp, Nat.zero_le _, h0⟩, ?_⟩
  rintro i m ys H ⟨rfl, hi, p⟩
  obtain ⟨q, hl⟩ := hP i ys H hi p
  by_cases hlt : i < xs.length
  · refine .inr ⟨wk.go i H hlt q, by omega, fun x H' y os hos => ?_⟩
    obtain ⟨e, y2⟩ := wk.yld i H x H' q y
    subst e
    match os, hos with
    | [v0], _ =>
      exact ⟨⟨[some x], rfl, rfl⟩, hs i x ys _ (fun ys' H' => ∃ m', m' < xs.length - i ∧ m' = xs.length - (i + 1) ∧ i + 1 ≤ xs.length ∧ Pv (i + 1) ys' H') (y2 hlt) p fun ys' H' p' => ⟨xs.length - (i + 1), by omega, rfl, hlt, p'⟩⟩
  · have e : i = xs.length := by omega
    subst e
    exact .inl ⟨wk.stop H q, by omega, hd ys H p⟩
/-! an expression's value by what is true of it, then the rest -/
theorem tTrue_use {σ : St} {H : Hp} {A B : Hp → Prop} (h : A H) : tTrue σ H fun b H3 => if b = true then A H3 else B H3 := by
  show if true = true then A H else B H
  exact iteT h
end L2

set_option Elab.async false
set_option linter.all false
set_option maxRecDepth 100000
namespace L2
open PySem PySem.Spec PyProof.Rows
/-! no starred argument: told once -/
def notStar : Expr → Bool
  | .Starred _ _ => false
  | _ => true
theorem star_cons {e : Expr} {es : List Expr} {env : Env} (h : notStar e = true) : starEach (e :: es) env = (false, eval e env) :: starEach es env := by
  cases e <;> first | rfl | (exact absurd (show false = true from h) Bool.false_ne_true)
theorem star_none {pos : Pos} {env : Env} : ∀ {es : List Expr}, es.all notStar = true → (backTo pos (starEach es env)).any (·.1) = false
  | [], _ => rfl
  | e :: es, h => by
    rw [List.all_cons, Bool.and_eq_true] at h
    rw [star_cons h.1]
    show (false || (backTo pos (starEach es env)).any (·.1)) = false
    rw [star_none h.2]
    rfl
section
variable {X : Cx} {x : Str} {ps : List Str} {sp : Sp} {j k : Nat} {e : Expr} {es : List Expr} {te : TE} {t : TA} {p pos : Pos} {id T : String} {r : List V → Hp → VK → Prop}
theorem pa_c (ha : PE X e te) (hr : PA X es t) (hn : notStar e = true := by rfl) : PA X (e :: es) (tCons te t) := pa_cons ha hr (star_cons hn)
theorem pe_callM (F : Knows X.prog X.w X.K X.mg X.base j x ps sp) (hr : Room k X.A) (ha : PA X (e :: es) t) (hjk : j ≤ k := by decide) (hg : Gl X x := by rfl) (hdb : (x == ("__debug__" : Str)) = false := by decide)
    (he : notStar e = true := by rfl) (hpl : es.all notStar = true := by rfl) : PE X (.Call (.Name x p) (e :: es) [] pos) (tCall sp [] E0 t) :=
  pe_callN F (hr.mono hjk) ha hg hdb (star_cons he) (star_none hpl)
theorem pe_bcall (hc : CallR X (.builtin id) r) (hg : Gl X x) (hm : X.mg x = none) (hv : bootBuiltins x = some (.builtin id)) (ha : PA X (e :: es) t) (hn : x ≠ "__name__" := by decide) (hdb : (x == ("__debug__" : Str)) = false := by decide)
    (he : notStar e = true := by rfl) (hpl : es.all notStar = true := by rfl) : PE X (.Call (.Name x p) (e :: es) [] pos) (tCB r t) := pe_callB hc hg hm hv ha hn hdb (star_cons he) (star_none hpl)
theorem pe_tcall (hc : CallR X (.type T) r) (hg : Gl X x) (hm : X.mg x = none) (hv : bootBuiltins x = some (.type T)) (ha : PA X (e :: es) t) (hn : x ≠ "__name__" := by decide) (hdb : (x == ("__debug__" : Str)) = false := by decide)
    (he : notStar e = true := by rfl) (hpl : es.all notStar = true := by rfl) : PE X (.Call (.Name x p) (e :: es) [] pos) (tCB r t) := pe_callTy hc hg hm hv ha hn hdb (star_cons he) (star_none hpl)
end
section
variable {X : Cx} {o e : Expr} {es : List Expr} {to : TE} {t : TA} {name : Str} {apos cpos : Pos} {T id : String} {r : V → List V → Hp → VK → Prop}
theorem star_few {pos : Pos} {env : Env} : ∀ {es : List Expr}, es.all notStar = true → (backTo pos (starEach es env)).all (fun x => !x.1) = true
  | [], _ => rfl
  | e :: es, h => by
    rw [List.all_cons, Bool.and_eq_true] at h
    rw [star_cons h.1]
    show (true && (backTo pos (starEach es env)).all (fun x => !x.1)) = true
    rw [star_few h.2]
    rfl
theorem pe_mcall (pa : PlainAttrs T) (slot : Slot T name id) (hty : typeOf (.builtin id) = pure (.type "method_descriptor")) (hm : MtR X id r) (ho : PE X o to) (ha : PA X (e :: es) t)
    (hbase : attributeBase o name X.env (eval o X.env) = eval o X.env := by rfl) (he : notStar e = true := by rfl) (hpl : es.all notStar = true := by rfl) (hlen : (e :: es).length < 30 := by decide)
    (hline : (apos.endLine == cpos.line) = true := by rfl) : PE X (.Call (.Attribute o name apos) (e :: es) [] cpos) (tBM X.K T r to t) := by
  refine pe_bm pa slot hty hm ho ha hbase ?_ hline (star_cons he) (star_none hpl)
  rw [star_few (by rw [List.all_cons, he, hpl]; rfl)]
  show (true && true && decide ((e :: es).length + 0 + 0 < 30)) = true
  rw [decide_eq_true (by omega)]
  rfl
end
section
variable {X : Cx} {a : Expr} {ta : TE} {p pos p2 : Pos}
theorem pe_isiM {T : Str} {n : String} (h : X.mg "isinstance" = none) (hT : X.mg T = none) (hv : bootBuiltins T = some (.type n)) (ha : PE X a ta) (hg : Gl X "isinstance" := by rfl) (hg2 : Gl X T := by rfl)
    (hn : T ≠ "__name__" := by decide) (hd : (T == ("__debug__" : Str)) = false := by decide) (he : notStar a = true := by rfl) :
    PE X (.Call (.Name "isinstance" p) [a, .Name T p2] [] pos) (tCB (rIsi X.K n) (tCons ta (tCons (tC (.ty n)) tNil))) :=
  pe_isi h hT hv ha hg hg2 hn hd (star_cons he) (star_cons rfl) (star_none rfl)
theorem ix_tupC {K0 : PySem.W.Frag} (hK : X.K = K0) : IxR X (rIxT K0) := by subst hK; exact ix_tup
theorem notIn_seqC {K0 : PySem.W.Frag} (hK : X.K = K0) : OpR X (compareOp .NotIn) (rIn K0 true) := by subst hK; exact op_notIn_seq
end
theorem atI_mem {α : Type} {xs : List α} {i : Int} (h0 : 0 ≤ i) (h1 : i < xs.length) : ∃ v, atI xs i = some v ∧ v ∈ xs ∧ xs[i.toNat]? = some v := by
  have hj : i.toNat < xs.length := by omega
  refine ⟨xs[i.toNat], ?_, List.getElem_mem hj, by simp [hj]⟩
  have h := atI_nat (xs := xs) (j := i.toNat) (v := xs[i.toNat]) (by simp [hj])
  rwa [show ((i.toNat : Nat) : Int) = i by omega] at h
theorem ite_b {c : Bool} {A B : Prop} (h1 : c = true → A) (h2 : c = false → B) : if c = true then A else B := by
  cases c
  · exact iteF (h2 rfl)
  · exact iteT (h1 rfl)
theorem if_use {c : TT} {t u r : TS} {D : Ends} {σ : St} {H : Hp} (Post : Bool → Hp → Prop) (hc : ∀ Q', (∀ b H', Post b H' → Q' b H') → c σ H Q') (kt : ∀ H', Post true H' → t { D with nx := r D } σ H') (kf : ∀ H', Post false H' → u { D with nx := r D } σ H') : tSeq (tIfS c t u) r D σ H := hc _ fun b H' p => by
  cases b
  · exact iteF (kf H' p)
  · exact iteT (kt H' p)
theorem seq_use {te : TE} {g : TG} {u : TS} {D : Ends} {σ : St} {H : Hp} (Post : V → Hp → Prop) (hg : ∀ Q', (∀ v H', Post v H' → Q' v H') → te σ H Q') (k : ∀ v H', Post v H' → g v σ H' (u D)) : tSeq (tAsg te g) u D σ H := hg _ k
end L2

set_option Elab.async false
set_option linter.all false
set_option maxRecDepth 100000
namespace L2
open PySem PySem.Spec PyProof.Rows

/-! data: flat values, lists and tuples of data, as trees -/
inductive D where
  | a (v : V)
  | l (xs : List D)
  | t (xs : List D)
mutual
inductive Rep (K : PySem.W.Frag) (H : Hp) : V → D → Prop
  | a {v : V} (f : flatV v = true) : Rep K H v (.a v)
  | l {p : Addr} {vs : List V} {ds : List D} (h : SqL K H p vs) (r : Reps K H vs ds) : Rep K H (.ref p) (.l ds)
  | t {p : Addr} {vs : List V} {ds : List D} (h : SqT K H p vs) (r : Reps K H vs ds) : Rep K H (.ref p) (.t ds)
inductive Reps (K : PySem.W.Frag) (H : Hp) : List V → List D → Prop
  | nil : Reps K H [] []
  | cons {v : V} {d : D} {vs : List V} {ds : List D} (r : Rep K H v d) (rs : Reps K H vs ds) : Reps K H (v :: vs) (d :: ds)
end
mutual
def eqD : D → D → Bool
  | .a v, .a w => eqV v w
  | .l xs, .l ys => eqDs xs ys
  | .t xs, .t ys => eqDs xs ys
  | _, _ => false
def eqDs : List D → List D → Bool
  | [], [] => true
  | x :: xs, y :: ys => eqD x y && eqDs xs ys
  | _, _ => false
end
mutual
def depD : D → Nat
  | .a _ => 0
  | .l xs => depDs xs + 1
  | .t xs => depDs xs + 1
def depDs : List D → Nat
  | [] => 0
  | x :: xs => max (depD x) (depDs xs)
end
mutual
def flatD : D → Bool
  | .a v => flatV v
  | .l xs => flatDs xs
  | .t xs => flatDs xs
def flatDs : List D → Bool
  | [] => true
  | x :: xs => flatD x && flatDs xs
end
mutual
theorem eqD_refl : ∀ d : D, flatD d = true → eqD d d = true
  | .a v, h => by
    unfold eqD
    exact eqV_refl (by unfold flatD at h; exact h)
  | .l xs, h => by
    unfold eqD
    exact eqDs_refl xs (by unfold flatD at h; exact h)
  | .t xs, h => by
    unfold eqD
    exact eqDs_refl xs (by unfold flatD at h; exact h)
theorem eqDs_refl : ∀ ds : List D, flatDs ds = true → eqDs ds ds = true
  | [], _ => by unfold eqDs; rfl
  | d :: ds, h => by
    unfold flatDs at h
    rw [Bool.and_eq_true] at h
    unfold eqDs
    rw [eqD_refl d h.1, eqDs_refl ds h.2]
    rfl
end
theorem Reps.len {K : PySem.W.Frag} {H : Hp} : ∀ {vs : List V} {ds : List D}, Reps K H vs ds → vs.length = ds.length
  | _, _, .nil => rfl
  | _, _, .cons _ t => by rw [List.length_cons, List.length_cons, t.len]
mutual
theorem Rep.flat {K : PySem.W.Frag} {H : Hp} : ∀ {v : V} {d : D}, Rep K H v d → flatD d = true
  | _, _, .a f => by unfold flatD; exact f
  | _, _, .l _ r => by unfold flatD; exact r.flat
  | _, _, .t _ r => by unfold flatD; exact r.flat
theorem Reps.flat {K : PySem.W.Frag} {H : Hp} : ∀ {vs : List V} {ds : List D}, Reps K H vs ds → flatDs ds = true
  | _, _, .nil => by unfold flatDs; rfl
  | _, _, .cons r t => by
    unfold flatDs
    rw [r.flat, t.flat]
    rfl
end
theorem depDs_mem : ∀ {ds : List D} {d : D}, d ∈ ds → depD d ≤ depDs ds
  | d :: ds, e, h => by
    unfold depDs
    rcases List.mem_cons.mp h with rfl | h
    · exact Nat.le_max_left _ _
    · exact Nat.le_trans (depDs_mem h) (Nat.le_max_right _ _)
theorem eqDs_len : ∀ {xs ys : List D}, xs.length ≠ ys.length → eqDs xs ys = false
  | [], [], h => absurd rfl h
  | [], _ :: _, _ => by unfold eqDs; rfl
  | _ :: _, [], _ => by unfold eqDs; rfl
  | x :: xs, y :: ys, h => by
    unfold eqDs
    rw [eqDs_len (fun e => h (by simp [e])), Bool.and_false]
theorem eqDs_range : ∀ {xs ys : List D}, xs.length = ys.length → ((List.range xs.length).all fun j => eqD (xs.getD j (.l [])) (ys.getD j (.l []))) = eqDs xs ys
  | [], [], _ => by unfold eqDs; rfl
  | [], _ :: _, h => by simp at h
  | _ :: _, [], h => by simp at h
  | x :: xs, y :: ys, h => by
    have ih := eqDs_range (xs := xs) (ys := ys) (by simpa using h)
    unfold eqDs
    rw [← ih, List.length_cons, List.range_succ_eq_map, List.all_cons, List.all_map]
    rfl
section
variable {X : Cx} {pins : List (Addr × Obj)} {σ : St} {H : Hp} {s : Shared}
theorem SqL.notT (I : Inv X pins σ H s) {p : Addr} {xs ys : List V} (h : SqL X.K H p xs) (h' : SqT X.K H p ys) : False := by
  obtain ⟨_, _, pl, _⟩ := I.list h
  obtain ⟨_, _, pt, _⟩ := I.tuple h'
  exact SeqAt.ne_of_list_tuple pl.isList pt rfl
mutual
theorem Rep.inj (I : Inv X pins σ H s) : ∀ {v : V} {d e : D}, Rep X.K H v d → Rep X.K H v e → d = e
  | _, _, _, .a f, .a _ => rfl
  | _, _, _, .a f, .l _ _ => absurd (show false = true from f) Bool.false_ne_true
  | _, _, _, .a f, .t _ _ => absurd (show false = true from f) Bool.false_ne_true
  | _, _, _, .l _ _, .a f => absurd (show false = true from f) Bool.false_ne_true
  | _, _, _, .t _ _, .a f => absurd (show false = true from f) Bool.false_ne_true
  | _, _, _, .l h r, .l h' r' => by
    have e := I.list_inj h h'
    subst e
    rw [Reps.inj I r r']
  | _, _, _, .t h r, .t h' r' => by
    have e := I.tuple_inj h h'
    subst e
    rw [Reps.inj I r r']
  | _, _, _, .l h _, .t h' _ => (SqL.notT I h h').elim
  | _, _, _, .t h _, .l h' _ => (SqL.notT I h' h).elim
theorem Reps.inj (I : Inv X pins σ H s) : ∀ {vs : List V} {ds es : List D}, Reps X.K H vs ds → Reps X.K H vs es → ds = es
  | _, _, _, .nil, .nil => rfl
  | _, _, _, .cons r t, .cons r' t' => by rw [Rep.inj I r r', Reps.inj I t t']
end
theorem rc_flat {A : Around} {y x : V} {u v : Value} (ry : RelV y u) (rx : RelV x v) (fy : flatV y = true) (fx : flatV x = true) : SeqAt.RcAt A s u v (eqV y x) := by
  cases y with
  | non =>
    cases ry
    cases x with
    | non => cases rx; exact SeqAt.RcAt.none_none
    | bl b => cases rx; exact SeqAt.RcAt.none_bool b
    | int b => obtain ⟨t, rfl⟩ := rx; exact SeqAt.RcAt.none_int b t
    | str b => obtain ⟨t, rfl⟩ := rx; exact SeqAt.RcAt.none_str b t
    | _ => exact absurd (show false = true from fx) Bool.false_ne_true
  | bl c =>
    cases ry
    cases x with
    | non => cases rx; exact SeqAt.RcAt.bool_none c
    | bl b => cases rx; exact SeqAt.RcAt.bool_bool c b
    | int b => obtain ⟨t, rfl⟩ := rx; exact SeqAt.RcAt.bool_int c b t
    | str b => obtain ⟨t, rfl⟩ := rx; exact SeqAt.RcAt.bool_str c b t
    | _ => exact absurd (show false = true from fx) Bool.false_ne_true
  | int c =>
    obtain ⟨t', rfl⟩ := ry
    cases x with
    | non => cases rx; exact SeqAt.RcAt.int_none c t'
    | bl b => cases rx; exact SeqAt.RcAt.int_bool c t' b
    | int b => obtain ⟨t, rfl⟩ := rx; exact SeqAt.RcAt.int_int c t' b t
    | str b => obtain ⟨t, rfl⟩ := rx; exact SeqAt.RcAt.int_str c t' b t
    | _ => exact absurd (show false = true from fx) Bool.false_ne_true
  | str c =>
    obtain ⟨t', rfl⟩ := ry
    cases x with
    | non => cases rx; exact SeqAt.RcAt.str_none c t'
    | bl b => cases rx; exact SeqAt.RcAt.str_bool c t' b
    | int b => obtain ⟨t, rfl⟩ := rx; exact SeqAt.RcAt.str_int c t' b t
    | str b => obtain ⟨t, rfl⟩ := rx; exact SeqAt.RcAt.str_str c t' b t
    | _ => exact absurd (show false = true from fx) Bool.false_ne_true
  | _ => exact absurd (show false = true from fy) Bool.false_ne_true
end
end L2
namespace L2
open PySem PySem.Spec PyProof.Rows
section
variable {X : Cx} {pins : List (Addr × Obj)} {σ : St} {H : Hp} {s : Shared} {A : Around} {x : V} {u : Value} {p : Addr} {items : Array Value}
theorem eqAt_fl (f : flatV x = true) (r : RelV x u) (hl : s.heap.IsList p items) (hu : A.units < cLine) : SeqAt.EqAt A s u (.ref p) false := by
  cases x with
  | non => cases r; exact .none_list hl hu
  | bl b => cases r; exact .bool_list b hl hu
  | int b => obtain ⟨t, rfl⟩ := r; exact .int_list b t hl hu
  | str b => obtain ⟨t, rfl⟩ := r; exact .str_list b t hl hu
  | _ => exact absurd (show false = true from f) Bool.false_ne_true
theorem eqAt_lf (f : flatV x = true) (r : RelV x u) (hl : s.heap.IsList p items) (hu : A.units < cLine) : SeqAt.EqAt A s (.ref p) u false := by
  cases x with
  | non => cases r; exact .list_none hl hu
  | bl b => cases r; exact .list_bool b hl hu
  | int b => obtain ⟨t, rfl⟩ := r; exact .list_int b t hl hu
  | str b => obtain ⟨t, rfl⟩ := r; exact .list_str b t hl hu
  | _ => exact absurd (show false = true from f) Bool.false_ne_true
theorem eqAt_ft (f : flatV x = true) (r : RelV x u) (hl : s.heap.IsTuple p items) (hu : A.units < cLine) : SeqAt.EqAt A s u (.ref p) false := by
  cases x with
  | non => cases r; exact .none_tuple hl hu
  | bl b => cases r; exact .bool_tuple b hl hu
  | int b => obtain ⟨t, rfl⟩ := r; exact .int_tuple b t hl hu
  | str b => obtain ⟨t, rfl⟩ := r; exact .str_tuple b t hl hu
  | _ => exact absurd (show false = true from f) Bool.false_ne_true
theorem eqAt_tf (f : flatV x = true) (r : RelV x u) (hl : s.heap.IsTuple p items) (hu : A.units < cLine) : SeqAt.EqAt A s (.ref p) u false := by
  cases x with
  | non => cases r; exact .tuple_none hl hu
  | bl b => cases r; exact .tuple_bool b hl hu
  | int b => obtain ⟨t, rfl⟩ := r; exact .tuple_int b t hl hu
  | str b => obtain ⟨t, rfl⟩ := r; exact .tuple_str b t hl hu
  | _ => exact absurd (show false = true from f) Bool.false_ne_true
theorem rc_fl (f : flatV x = true) (r : RelV x u) (hl : s.heap.IsList p items) (hu : A.units < cLine) : SeqAt.RcAt A s u (.ref p) false := by
  cases x with
  | non => cases r; exact .none_list hl hu
  | bl b => cases r; exact .bool_list b hl hu
  | int b => obtain ⟨t, rfl⟩ := r; exact .int_list b t hl hu
  | str b => obtain ⟨t, rfl⟩ := r; exact .str_list b t hl hu
  | _ => exact absurd (show false = true from f) Bool.false_ne_true
theorem rc_lf (f : flatV x = true) (r : RelV x u) (hl : s.heap.IsList p items) (hu : A.units < cLine) : SeqAt.RcAt A s (.ref p) u false := by
  cases x with
  | non => cases r; exact .list_none hl hu
  | bl b => cases r; exact .list_bool b hl hu
  | int b => obtain ⟨t, rfl⟩ := r; exact .list_int b t hl hu
  | str b => obtain ⟨t, rfl⟩ := r; exact .list_str b t hl hu
  | _ => exact absurd (show false = true from f) Bool.false_ne_true
theorem rc_ft (f : flatV x = true) (r : RelV x u) (hl : s.heap.IsTuple p items) (hu : A.units < cLine) : SeqAt.RcAt A s u (.ref p) false := by
  cases x with
  | non => cases r; exact .none_tuple hl hu
  | bl b => cases r; exact .bool_tuple b hl hu
  | int b => obtain ⟨t, rfl⟩ := r; exact .int_tuple b t hl hu
  | str b => obtain ⟨t, rfl⟩ := r; exact .str_tuple b t hl hu
  | _ => exact absurd (show false = true from f) Bool.false_ne_true
theorem rc_tf (f : flatV x = true) (r : RelV x u) (hl : s.heap.IsTuple p items) (hu : A.units < cLine) : SeqAt.RcAt A s (.ref p) u false := by
  cases x with
  | non => cases r; exact .tuple_none hl hu
  | bl b => cases r; exact .tuple_bool b hl hu
  | int b => obtain ⟨t, rfl⟩ := r; exact .tuple_int b t hl hu
  | str b => obtain ⟨t, rfl⟩ := r; exact .tuple_str b t hl hu
  | _ => exact absurd (show false = true from f) Bool.false_ne_true
theorem getD_rep {K : PySem.W.Frag} : ∀ {vs : List V} {us : List Value} {ds : List D} (j : Nat) (h1 : j < us.toArray.size), Vals vs us → Reps K H vs ds → ∃ v, RelV v us.toArray[j] ∧ Rep K H v (ds.getD j (.l [])) ∧ (ds.getD j (.l [])) ∈ ds
  | _, _, _, j, h1, .nil, _ => by simp at h1
  | _, _, _, 0, _, .cons r _, .cons q _ => ⟨_, r, q, by simp⟩
  | v :: vs, u :: us, d :: ds, j + 1, h1, .cons _ t, .cons _ t' => by
    obtain ⟨v, a, b, c⟩ := getD_rep j (by simpa using h1) t t'
    exact ⟨v, by simpa using a, by simpa using b, List.mem_cons_of_mem _ (by simpa using c)⟩
/-- == by RcAt, of data no deeper than n -/
theorem eqD_at (I : Inv X pins σ H s) : ∀ (n : Nat) {A : Around} {d e : D} {x y : V} {u w : Value}, depD d ≤ n → A.units + n < cLine → Rep X.K H x d → Rep X.K H y e → RelV x u → RelV y w → SeqAt.RcAt A s u w (eqD d e) ∧ SeqAt.EqAt A s u w (eqD d e) := by
  intro n
  induction n with
  | zero =>
    intro A d e x y u w hd hu rx ry ru rw
    have hu' : A.units < cLine := by omega
    cases rx with
    | a f =>
      cases ry with
      | a f' => unfold eqD; exact ⟨rc_flat ru rw f f', eqAt_V ru rw f f'⟩
      | l h r => cases rw; obtain ⟨_, _, pl, _⟩ := I.list h; unfold eqD; exact ⟨rc_fl f ru pl.isList hu', eqAt_fl f ru pl.isList hu'⟩
      | t h r => cases rw; obtain ⟨_, _, pl, _⟩ := I.tuple h; unfold eqD; exact ⟨rc_ft f ru pl hu', eqAt_ft f ru pl hu'⟩
    | l h r => unfold depD at hd; omega
    | t h r => unfold depD at hd; omega
  | succ n ih =>
    intro A d e x y u w hd hu rx ry ru rw
    have hu' : A.units < cLine := by omega
    have hin : A.in1.units + n < cLine := by show A.units + 1 + n < cLine; omega
    cases rx with
    | a f =>
      cases ry with
      | a f' => unfold eqD; exact ⟨rc_flat ru rw f f', eqAt_V ru rw f f'⟩
      | l h r => cases rw; obtain ⟨_, _, pl, _⟩ := I.list h; unfold eqD; exact ⟨rc_fl f ru pl.isList hu', eqAt_fl f ru pl.isList hu'⟩
      | t h r => cases rw; obtain ⟨_, _, pl, _⟩ := I.tuple h; unfold eqD; exact ⟨rc_ft f ru pl hu', eqAt_ft f ru pl hu'⟩
    | @l p vs ds h r =>
      cases ru
      obtain ⟨its, rv, pl, _⟩ := I.list h
      cases ry with
      | a f' => unfold eqD; exact ⟨rc_lf f' rw pl.isList hu', eqAt_lf f' rw pl.isList hu'⟩
      | @t p' vs' ds' h' r' =>
        cases rw
        obtain ⟨its', rv', pt, _⟩ := I.tuple h'
        unfold eqD
        exact ⟨.list_tuple pl.isList pt hu', .list_tuple pl.isList pt hu'⟩
      | @l p' vs' ds' h' r' =>
        cases rw
        obtain ⟨its', rv', pl', _⟩ := I.list h'
        have e1 := rv.length
        have e2 := rv'.length
        have e3 := r.len
        have e4 := r'.len
        have rc : SeqAt.RcAt A s (.ref p) (.ref p') (eqD (.l ds) (.l ds')) := by
          unfold eqD
          by_cases hl : ds.length = ds'.length
          · have := SeqAt.RcAt.lists (A := A) (e := fun j => eqD (ds.getD j (.l [])) (ds'.getD j (.l []))) pl.isList pl'.isList (by simp only [List.size_toArray]; omega) hu' (fun j h1 h2 => by
              obtain ⟨v1, a1, b1, c1⟩ := getD_rep j h1 rv r
              obtain ⟨v2, a2, b2, c2⟩ := getD_rep j h2 rv' r'
              have hdj : depD (ds.getD j (.l [])) ≤ n := Nat.le_trans (depDs_mem c1) (by unfold depD at hd; omega)
              exact (ih hdj hin b1 b2 a1 a2).2)
            rw [List.size_toArray, ← e1, e3, eqDs_range hl] at this
            exact this
          · rw [eqDs_len hl]
            exact .lists_lengths pl.isList pl'.isList (by simp only [List.size_toArray]; simp; omega) hu'
        refine ⟨rc, ?_⟩
        by_cases hp : p = p'
        · subst hp
          have e5 := I.list_inj h h'
          subst e5
          have e6 := Reps.inj I r r'
          subst e6
          rw [eqD_refl _ (by unfold flatD; exact r.flat)]
          exact .same _
        · exact .of_refs hp rc
    | @t p vs ds h r =>
      cases ru
      obtain ⟨its, rv, pl, _⟩ := I.tuple h
      cases ry with
      | a f' => unfold eqD; exact ⟨rc_tf f' rw pl hu', eqAt_tf f' rw pl hu'⟩
      | @l p' vs' ds' h' r' =>
        cases rw
        obtain ⟨its', rv', pl', _⟩ := I.list h'
        unfold eqD
        exact ⟨.tuple_list pl pl'.isList hu', .tuple_list pl pl'.isList hu'⟩
      | @t p' vs' ds' h' r' =>
        cases rw
        obtain ⟨its', rv', pl', _⟩ := I.tuple h'
        have e1 := rv.length
        have e2 := rv'.length
        have e3 := r.len
        have e4 := r'.len
        have rc : SeqAt.RcAt A s (.ref p) (.ref p') (eqD (.t ds) (.t ds')) := by
          unfold eqD
          have := SeqAt.RcAt.tuples (A := A) (e := fun j => eqD (ds.getD j (.l [])) (ds'.getD j (.l []))) pl pl' hu' (fun j h1 h2 => by
              obtain ⟨v1, a1, b1, c1⟩ := getD_rep j h1 rv r
              obtain ⟨v2, a2, b2, c2⟩ := getD_rep j h2 rv' r'
              have hdj : depD (ds.getD j (.l [])) ≤ n := Nat.le_trans (depDs_mem c1) (by unfold depD at hd; omega)
              exact (ih hdj hin b1 b2 a1 a2).2)
          by_cases hl : ds.length = ds'.length
          · have em : min its.toArray.size its'.toArray.size = ds.length := by simp only [List.size_toArray]; omega
            have eb : (its.toArray.size == its'.toArray.size) = true := by simp only [List.size_toArray]; simp; omega
            rw [em, eb, Bool.and_true, eqDs_range hl] at this
            exact this
          · have eb : (its.toArray.size == its'.toArray.size) = false := by simp only [List.size_toArray]; simp; omega
            rw [eb, Bool.and_false] at this
            rw [eqDs_len hl]
            exact this
        refine ⟨rc, ?_⟩
        by_cases hp : p = p'
        · subst hp
          have e5 := I.tuple_inj h h'
          subst e5
          have e6 := Reps.inj I r r'
          subst e6
          rw [eqD_refl _ (by unfold flatD; exact r.flat)]
          exact .same _
        · exact .of_refs hp rc
def rEqD (K : PySem.W.Frag) : R2 := fun x y H Q => ∃ d e, Rep K H x d ∧ Rep K H y e ∧ depD d ≤ 60 ∧ Q (.bl (eqD d e)) H
theorem op_eqD (hu : X.A.units + 64 < cLine) : OpR X (compareOp .Eq) (rEqD X.K) := by
  intro pins s σ H x y v u Q I rx ry h
  obtain ⟨d, e, r1, r2, hd, q⟩ := h
  exact (eqD_at I 60 hd (by omega) r1 r2 rx ry).1 _ _ _ _ ⟨.bl _, H, I, rfl, q⟩
end
end L2

set_option Elab.async false
set_option linter.all false
set_option maxRecDepth 100000
set_option maxHeartbeats 2000000
namespace L2
open PySem
/-! ### a run has one end -/
end L2

set_option Elab.async false
set_option linter.all false
set_option maxRecDepth 100000
namespace L2
open PySem
end L2

set_option Elab.async false
set_option linter.all false
set_option maxRecDepth 100000
namespace L2
open PySem
/-! ### what leaves an exception's context as it is -/
end L2

set_option Elab.async false
set_option linter.all false
set_option maxRecDepth 100000
namespace L2
open PySem PySem.Spec PyProof.Rows

/-! ### exceptions: how one lies behind a call -/


section
variable {P : Program} {w : World} {K : PySem.W.Frag} {mg : Str → Option Value} {base : Heap} {N : List Str} {qual : Str} {scope : Scope} {f : Addr} {cd : Value} {A : Around} {outer : List Env} {s₀ : Shared} {H₀ : Hp} {E : XK}
  {pins : List (Addr × Obj)} {σ : St} {H : Hp} {s : Shared}
end
end L2

set_option Elab.async false
set_option linter.all false
set_option maxRecDepth 100000
namespace L2
open PySem PySem.Spec PyProof.Rows

/-! ### raise C(..) -/
section
variable {P : Program} {w : World} {K : PySem.W.Frag} {mg : Str → Option Value} {base : Heap} {N : List Str} {qual : Str} {scope : Scope} {f : Addr} {cd : Value} {A : Around} {outer : List Env} {s₀ : Shared} {H₀ : Hp} {E : XK}
end

/-! ### a def that may raise, and its contract -/
section
variable {P : Program} {w : World} {K : PySem.W.Frag} {mg : Str → Option Value} {base : Heap}
/-- a method of a class -/
def KnowsM (CX : CXT) (P : Program) (w : World) (K : PySem.W.Frag) (mg : Str → Option Value) (base : Heap) (k : Nat) (C : Addr) (m : Str) (ps : List Str) (sp : Sp) : Prop :=
  ∃ f fd, Meth K C m f ∧ Binds K fd ps [] ∧ FnOk P w K mg base CX k f fd ps sp
end
section
variable {X : Cx} {CX : CXT} {x m : Str} {ps : List Str} {sp : Sp} {j k : Nat} {e o : Expr} {es : List Expr} {ta : TE} {t : TA} {p pos apos : Pos} {E : XK} {C : Addr}
theorem pe_methM {pl : Sem Bool} (F : KnowsM CX X.prog X.w X.K X.mg X.base j C m ps sp) (c : Cls X.K C) (hr : Room k X.A) (hx : Passes CX X E) (ho : PE X o ta) (ha : PA X (e :: es) t) (hjk : j ≤ k := by decide)
    (he : notStar e = true := by rfl) (hpl : es.all notStar = true := by rfl)
    (ht : eval (.Call (.Attribute o m apos) (e :: es) [] pos) X.env = (do
      let ov ← eval o X.env
      standAt apos.atName
      let (f, first) ← holding [ov] (getMethod ov m pl)
      callWith pos f first (backTo pos (starEach (e :: es) X.env)) (backToKw pos (keywordEach [] X.env))) := by rfl) : PE X (.Call (.Attribute o m apos) (e :: es) [] pos) (tMeth C m sp [] E ta t) := by
  obtain ⟨f, fd, hm, hb, F⟩ := F
  exact pe_meth (pl := pl) ho c hm F (hr.mono hjk) hb .nil hx ha (star_cons he) (star_none hpl) ht
theorem pe_methM0 {pl : Sem Bool} (F : KnowsM CX X.prog X.w X.K X.mg X.base j C m ps sp) (c : Cls X.K C) (hr : Room k X.A) (hx : Passes CX X E) (ho : PE X o ta) (hjk : j ≤ k := by decide)
    (ht : eval (.Call (.Attribute o m apos) [] [] pos) X.env = (do
      let ov ← eval o X.env
      standAt apos.atName
      let (f, first) ← holding [ov] (getMethod ov m pl)
      callWith pos f first (backTo pos (starEach [] X.env)) (backToKw pos (keywordEach [] X.env))) := by rfl) : PE X (.Call (.Attribute o m apos) [] [] pos) (tMeth C m sp [] E ta tNil) := by
  obtain ⟨f, fd, hm, hb, F⟩ := F
  exact pe_meth0 (pl := pl) ho c hm F (hr.mono hjk) hb .nil hx ht
end
end L2

set_option Elab.async false
set_option linter.all false
set_option maxRecDepth 100000
namespace L2
open PySem PySem.Spec PyProof.Rows

/-! ### try: .. except NAME: .. -/
section
variable {X : Cx} {pins : List (Addr × Obj)} {σ : St} {H : Hp} {s : Shared} {xe : Value → Shared → Prop} {a : Addr}
end
section
variable {X : Cx} {x : Str} {np hpos pos : Pos} {body : List Stmt} {b₀ : Stmt} {suite : List Stmt} {Dc : Addr} {tb : (St → XK) → TS} {ts : TS}
end
end L2

set_option Elab.async false
set_option linter.all false
set_option maxRecDepth 100000
namespace L2
open PySem PySem.Spec PyProof.Rows

/-! ### calls within a try's suite -/
section
variable {X : Cx} {k j : Nat} {f C : Addr} {fd : FuncData} {ps : List Str} {sp : Sp} {Eb : St → XK} {x m : Str} {p pos apos : Pos} {e o : Expr} {es : List Expr} {ta : TE} {t : TA}
end
end L2

set_option Elab.async false
set_option linter.all false
set_option maxRecDepth 100000
namespace L2
open PySem PySem.Spec PyProof.Rows

/-! ### for k, x in enumerate(xs) -/
def Ite (K : PySem.W.Frag) (l : Addr) : It :=
  ⟨fun i H => ∃ xs x, SqL K H l xs ∧ xs[i]? = some x, fun i H v H' => ∃ T x, H T = none ∧ v = .ref T ∧ H' = upd H T (.tup [.int i, x]) ∧ ∀ xs, SqL K H l xs → xs[i]? = some x, fun i H => ∃ xs, SqL K H l xs ∧ xs.length ≤ i⟩
theorem turn_enum {P : Program} {w : World} {K : PySem.W.Frag} {elts : List Expr} {k : Nat} {tpos : Pos} (l e it : Addr) (hne : e ≠ it) :
    Turn P w K (.Tuple elts k tpos) (Ite K l) [e, it] e (fun i h => (∃ old, IsEnum h e it i old) ∧ h.IsListIter it l i) where
  mem := by simp
  obj := fun i h st b hb => by
    obtain ⟨⟨old, he⟩, o, ho, hc, hd⟩ := st
    rcases List.mem_cons.mp hb with rfl | hb
    · exact ⟨_, he, fun v z => by cases z⟩
    · rw [List.mem_singleton.mp hb]
      exact ⟨o, ho, fun v z => by rw [hd] at z; cases z⟩
  keep := fun i h h' st kk => by
    obtain ⟨⟨old, he⟩, hi⟩ := st
    exact ⟨⟨old, kk e (by simp) _ he⟩, hi.at fun o q => kk it (by simp) o q⟩
  item := by
    intro X hP hw hK hc i pins s σ H E I hf st hg
    subst hP hw hK
    obtain ⟨⟨old, he⟩, hi⟩ := st
    obtain ⟨xs, x, hq, hx⟩ := hg
    obtain ⟨its, rv, p, hz⟩ := I.list hq
    obtain ⟨u, hu, ru⟩ := rv.get hx
    have hfe := hf e (by simp)
    have hfi := hf it (by simp)
    refine wpAny_pyNext_enum_item he hi p.isList (x := u) (by simpa using hu) hne fun h1 heo hi1 hT hsz hk => ⟨_, rfl, ?_⟩
    refine wpAny_letOwnedTupleGo_enum heo fun h2 he2 hs2 => ?_
    have hTn : H s.heap.objs.size = none := I.fresh
    have hTe : s.heap.objs.size ≠ e := Nat.ne_of_gt (Heap.lt_size he)
    have keep : ∀ b o, b ≠ e → b ≠ it → s.heap.get? b = some o → h2.get? b = some o := fun b o h1' h2' q => (hs2.2 b h1').trans (hk b o h1' h2' q)
    have new : ∀ b o, s.heap.get? b = some o → b ≠ s.heap.objs.size := fun b o q => Nat.ne_of_lt (Heap.lt_size q)
    have trk : ∀ b o, H b = some o → b ≠ e ∧ b ≠ it := fun b o q => ⟨(fun z => by rw [z, hfe.1] at q; cases q), (fun z => by rw [z, hfi.1] at q; cases q)⟩
    have hT2 : h2.get? s.heap.objs.size = some { cls := .type "tuple", data := .seq #[.int i s.toks, u] } := (hs2.2 _ hTe).trans hT
    have ok2 : HOk X.prog X.w (upd H s.heap.objs.size (.tup [.int i, x])) h2 := fun b v q => by
      by_cases hb : b = s.heap.objs.size
      · subst hb
        rw [upd_same] at q; cases q
        exact ⟨by show 2 ≤ sizeLine; decide, [.int i s.toks, u], .cons ⟨_, rfl⟩ (.cons ru .nil), _, hT2, rfl, 0, rfl⟩
      · rw [upd_ne hb] at q
        refine (I.hok b v q).stay (fun c y hc' r => ?_) (fun c r => by rw [upd_ne (ne_of_none r hTn)]; exact r) fun c ys r => by rw [upd_ne (ne_of_none r hTn)]; exact r
        have : ∃ o, H c = some o := by
          rcases hc' with rfl | hc'
          · exact ⟨_, q⟩
          · exact ⟨_, hc'⟩
        obtain ⟨o, ho⟩ := this
        exact keep c y (trk c o ho).1 (trk c o ho).2 r
    have I2 : Inv X pins σ (upd H s.heap.objs.size (.tup [.int i, x])) { s with heap := h2, toks := s.toks + 1 } := by
      refine I.call (g' := s.gens) (d' := s.drawn) (t' := s.toks + 1) (ch := [e, it]) ⟨fun b o q n hb hx => ?_, fun b o q n hb hx => ?_, fun b o q n hx => ?_, fun b o q hx => ?_, fun b ys q => ?_, fun b o ys q => ?_, fun b ys q => ?_⟩ ok2 I.bare (fun b hb => ?_)
      · exact keep b o (fun z => hx (by simp [z])) (fun z => hx (by simp [z])) q
      · exact ⟨o.slots, keep b o (fun z => hx (by simp [z])) (fun z => hx (by simp [z])) q⟩
      · rw [upd_ne (new b o q)]; exact n
      · exact ⟨o, keep b o (fun z => hx (by simp [z])) (fun z => hx (by simp [z])) q⟩
      · rw [upd_ne (ne_of_none q hTn)]; exact q
      · rw [upd_ne (ne_of_none q hTn)]; exact q
      · exact ⟨#[], by rw [upd_ne (ne_of_none q hTn), q]; simp⟩
      · obtain ⟨f0, f1, f2, f3, f4, f5⟩ := hf b hb
        exact ⟨f3, f1, f4, f5⟩
    refine ⟨.ref s.heap.objs.size, _, I2, rfl, ⟨_, x, hTn, rfl, rfl, fun ys hy => by rw [I.list_inj hy hq]; exact hx⟩, ⟨⟨_, by simpa using he2⟩, ?_⟩, fun b hb => ?_⟩
    · obtain ⟨o, ho, hr⟩ := hi1
      exact ⟨o, (hs2.2 it (Ne.symm hne)).trans ho, hr⟩
    · rw [upd_ne (fun z => ?_)]
      · exact (hf b hb).1
      · rcases List.mem_cons.mp hb with rfl | hb
        · exact hTe z.symm
        · rw [List.mem_singleton.mp hb] at z
          obtain ⟨o, ho, _⟩ := hi
          exact new it o ho z
  done := by
    intro X hP hw hK hc i pins s σ H E I hf st hg
    subst hP hw hK
    obtain ⟨⟨old, he⟩, hi⟩ := st
    obtain ⟨xs, hq, hx⟩ := hg
    obtain ⟨its, rv, p, hz⟩ := I.list hq
    obtain ⟨f0, f1, f2, f3, f4, f5⟩ := hf it (by simp)
    have hl := rv.length
    exact wpAny_pyNext_enum_end (I.ok.hd hc) he hi p.isList (by simp; omega) fun h' eb => ⟨rfl, I.turned (t' := s.toks) (fun b o hb q => eb b o hb q) f0 f1 f3 f4 f5⟩
  self := fun _ _ _ _ _ st h => by
    obtain ⟨⟨old, he⟩, _⟩ := st
    exact wpAny_pyIter_enum he h
def iEnum (K : PySem.W.Frag) (tl : TE) : TI := fun σ H R => tl σ H fun x H1 => ∃ a, x = .ref a ∧ (∃ xs, SqL K H1 a xs) ∧ R (Ite K a) H1
theorem pi_enumC {X : Cx} {K0 : PySem.W.Frag} {elts : List Expr} {k : Nat} {tpos p pos : Pos} {l : Expr} {tl : TE} (hK : X.K = K0) (hm : X.mg "enumerate" = none) (hl : PE X l tl) (hg : Gl X "enumerate" := by rfl) (hs : notStar l = true := by rfl) :
    PI X (.Tuple elts k tpos) (.Call (.Name "enumerate" p) [l] [] pos) (iEnum K0 tl) := by
  subst hK
  intro pins s σ H R I h
  refine wpAny_Call_Name_kw (ld_blt I hg hm boot_enumerate ?_)
  have h' : (tCons tl tNil) σ H (fun vs H1 => match vs with | [x] => (∃ a, x = .ref a ∧ (∃ xs, SqL X.K H1 a xs) ∧ R (Ite X.K a) H1) | _ => False) := h
  refine PyProof.Rows.callWith_type1 (thn ((pa_c hl pa_nil hs) pos pins s σ H _ I h') fun us s1 ⟨vs, H1, I1, r1, q1⟩ => ?_) (star_cons hs) (star_none rfl)
  match vs, q1, r1 with
  | [x], q1, r1 =>
  obtain ⟨a, rfl, ⟨xs, hq⟩, q⟩ := q1
  obtain ⟨u, rfl, ru⟩ := r1.one
  cases ru
  obtain ⟨its, rv, pl, hz⟩ := I1.list hq
  refine call_enumerate_list pl.isList fun h2 he hi hsz hk => ?_
  refine wpAny_pyIter_enum he ?_
  have I2 : Inv X pins σ H1 { s1 with heap := h2 } := I1.kept (t' := s1.toks) hk
  have hne : s1.heap.objs.size + 1 ≠ s1.heap.objs.size := Nat.succ_ne_self _
  refine ⟨_, _, _, _, H1, rfl, I2, turn_enum a (s1.heap.objs.size + 1) s1.heap.objs.size hne, ⟨⟨_, he⟩, hi⟩, fun b hb => ?_, q⟩
  have hb2 : s1.heap.objs.size ≤ b := by
    rcases List.mem_cons.mp hb with rfl | hb
    · exact Nat.le_succ _
    · rw [List.mem_singleton.mp hb]; exact Nat.le_refl _
  have f := I1.fpOk hb2 (I1.hok.fresh hb2)
  exact f
theorem pi_enum {X : Cx} {elts : List Expr} {k : Nat} {tpos p pos : Pos} {l : Expr} {tl : TE} (hm : X.mg "enumerate" = none) (hl : PE X l tl) (hg : Gl X "enumerate" := by rfl) (hs : notStar l = true := by rfl) :
    PI X (.Tuple elts k tpos) (.Call (.Name "enumerate" p) [l] [] pos) (iEnum X.K tl) := pi_enumC rfl hm hl hg hs
theorem for_enum {K : PySem.W.Frag} {l : Addr} {xs : List V} {g : TG} {tb : TS} {D : Ends} {σ : St} {H : Hp} (Pv : Nat → St → Hp → Prop) (h0 : Pv 0 σ H) (hl : ∀ i σ H, i ≤ xs.length → Pv i σ H → SqL K H l xs)
    (hs : ∀ i x σ H T, xs[i]? = some x → Pv i σ H → H T = none → g (.ref T) σ (upd H T (.tup [.int i, x])) fun σ2 H2 => tb { D with nx := Pv (i + 1), ct := Pv (i + 1), bk := D.nx } σ2 H2) (hd : ∀ σ H, Pv xs.length σ H → D.nx σ H) :
    ∃ W : Nat → Nat → St → Hp → Prop, (∃ m, W 0 m σ H) ∧ ∀ i m σ H, W i m σ H →
      ((Ite K l).stop i H ∧ D.nx σ H) ∨ ((Ite K l).go i H ∧ ∃ N : St → Hp → Prop, (∀ σ' H', N σ' H' → ∃ m', m' < m ∧ W (i + 1) m' σ' H') ∧ ∀ x H', (Ite K l).yld i H x H' → g x σ H' fun σ2 H2 => tb { D with nx := N, ct := N, bk := D.nx } σ2 H2) := by
  refine ⟨fun i m σ H => m = xs.length - i ∧ i ≤ xs.length ∧ Pv i σ H, ⟨xs.length, by simp, Nat.zero_le _, h0⟩, ?_⟩
  rintro i m σ H ⟨rfl, hi, p⟩
  have q := hl i σ H hi p
  by_cases hlt : i < xs.length
  · refine .inr ⟨⟨xs, xs[i], q, by simp [hlt]⟩, Pv (i + 1), fun σ' H' p' => ⟨xs.length - (i + 1), by omega, rfl, hlt, p'⟩, fun x H' y => ?_⟩
    obtain ⟨T, x', hT, rfl, rfl, hx⟩ := y
    exact hs i x' σ H T (hx xs q) p hT
  · have e : i = xs.length := by omega
    subst e
    exact .inl ⟨⟨xs, q, Nat.le_refl _⟩, hd σ H p⟩
end L2

set_option Elab.async false
set_option linter.all false
set_option maxRecDepth 100000
namespace L2
open PySem PySem.Spec PyProof.Rows
open PySem.AutoSeq1 (wpAny_loadPart')
open PySem.MeetsSeq

/-! ### in, not in, != of data -/
theorem eqD_l (xs ys : List D) : eqD (.l xs) (.l ys) = eqDs xs ys := by unfold eqD; rfl
theorem eqD_t (xs ys : List D) : eqD (.t xs) (.t ys) = eqDs xs ys := by unfold eqD; rfl
section
variable {X : Cx}
theorem rcne_fl {s : Shared} {A : Around} {x : V} {u : Value} {p : Addr} {items : Array Value} (f : flatV x = true) (r : RelV x u) (hl : s.heap.IsList p items) (hu : A.units < cLine) : SeqAt.RcNeAt A s u (.ref p) true := by
  cases x with
  | non => cases r; exact .none_list hl hu
  | bl b => cases r; exact .bool_list b hl hu
  | int b => obtain ⟨t, rfl⟩ := r; exact .int_list b t hl hu
  | str b => obtain ⟨t, rfl⟩ := r; exact .str_list b t hl hu
  | _ => exact absurd (show false = true from f) Bool.false_ne_true
theorem rcne_lf {s : Shared} {A : Around} {x : V} {u : Value} {p : Addr} {items : Array Value} (f : flatV x = true) (r : RelV x u) (hl : s.heap.IsList p items) (hu : A.units < cLine) : SeqAt.RcNeAt A s (.ref p) u true := by
  cases x with
  | non => cases r; exact .list_none hl hu
  | bl b => cases r; exact .list_bool b hl hu
  | int b => obtain ⟨t, rfl⟩ := r; exact .list_int b t hl hu
  | str b => obtain ⟨t, rfl⟩ := r; exact .list_str b t hl hu
  | _ => exact absurd (show false = true from f) Bool.false_ne_true
theorem rcne_ft {s : Shared} {A : Around} {x : V} {u : Value} {p : Addr} {items : Array Value} (f : flatV x = true) (r : RelV x u) (hl : s.heap.IsTuple p items) (hu : A.units < cLine) : SeqAt.RcNeAt A s u (.ref p) true := by
  cases x with
  | non => cases r; exact .none_tuple hl hu
  | bl b => cases r; exact .bool_tuple b hl hu
  | int b => obtain ⟨t, rfl⟩ := r; exact .int_tuple b t hl hu
  | str b => obtain ⟨t, rfl⟩ := r; exact .str_tuple b t hl hu
  | _ => exact absurd (show false = true from f) Bool.false_ne_true
theorem rcne_tf {s : Shared} {A : Around} {x : V} {u : Value} {p : Addr} {items : Array Value} (f : flatV x = true) (r : RelV x u) (hl : s.heap.IsTuple p items) (hu : A.units < cLine) : SeqAt.RcNeAt A s (.ref p) u true := by
  cases x with
  | non => cases r; exact .tuple_none hl hu
  | bl b => cases r; exact .tuple_bool b hl hu
  | int b => obtain ⟨t, rfl⟩ := r; exact .tuple_int b t hl hu
  | str b => obtain ⟨t, rfl⟩ := r; exact .tuple_str b t hl hu
  | _ => exact absurd (show false = true from f) Bool.false_ne_true
theorem rcne_flat {s : Shared} {A : Around} {y x : V} {u v : Value} (ry : RelV y u) (rx : RelV x v) (fy : flatV y = true) (fx : flatV x = true) : SeqAt.RcNeAt A s u v (!eqV y x) := by
  cases y with
  | non =>
    cases ry
    cases x with
    | non => cases rx; exact SeqAt.RcNeAt.none_none
    | bl b => cases rx; exact SeqAt.RcNeAt.none_bool b
    | int b => obtain ⟨t, rfl⟩ := rx; exact SeqAt.RcNeAt.none_int b t
    | str b => obtain ⟨t, rfl⟩ := rx; exact SeqAt.RcNeAt.none_str b t
    | _ => exact absurd (show false = true from fx) Bool.false_ne_true
  | bl c =>
    cases ry
    cases x with
    | non => cases rx; exact SeqAt.RcNeAt.bool_none c
    | bl b => cases rx; exact SeqAt.RcNeAt.bool_bool c b
    | int b => obtain ⟨t, rfl⟩ := rx; exact SeqAt.RcNeAt.bool_int c b t
    | str b => obtain ⟨t, rfl⟩ := rx; exact SeqAt.RcNeAt.bool_str c b t
    | _ => exact absurd (show false = true from fx) Bool.false_ne_true
  | int c =>
    obtain ⟨t', rfl⟩ := ry
    cases x with
    | non => cases rx; exact SeqAt.RcNeAt.int_none c t'
    | bl b => cases rx; exact SeqAt.RcNeAt.int_bool c t' b
    | int b => obtain ⟨t, rfl⟩ := rx; exact SeqAt.RcNeAt.int_int c t' b t
    | str b => obtain ⟨t, rfl⟩ := rx; exact SeqAt.RcNeAt.int_str c t' b t
    | _ => exact absurd (show false = true from fx) Bool.false_ne_true
  | str c =>
    obtain ⟨t', rfl⟩ := ry
    cases x with
    | non => cases rx; exact SeqAt.RcNeAt.str_none c t'
    | bl b => cases rx; exact SeqAt.RcNeAt.str_bool c t' b
    | int b => obtain ⟨t, rfl⟩ := rx; exact SeqAt.RcNeAt.str_int c t' b t
    | str b => obtain ⟨t, rfl⟩ := rx; exact SeqAt.RcNeAt.str_str c t' b t
    | _ => exact absurd (show false = true from fx) Bool.false_ne_true
  | _ => exact absurd (show false = true from fy) Bool.false_ne_true
def rNeD (K : PySem.W.Frag) : R2 := fun x y H Q => ∃ d e, Rep K H x d ∧ Rep K H y e ∧ depD d ≤ 60 ∧ Q (.bl (!eqD d e)) H
theorem op_neD (hu : X.A.units + 64 < cLine) : OpR X (compareOp .NotEq) (rNeD X.K) := by
  intro pins s σ H x y v u Q I rx ry h
  obtain ⟨d, e, r1, r2, hd, q⟩ := h
  have hu' : X.A.units < cLine := by omega
  have hin : X.A.in1.units + 60 < cLine := by show X.A.units + 1 + 60 < cLine; omega
  have fin : ∀ b, (!eqD d e) = b → EP X pins σ Q (.bool b) s := fun b hb => ⟨.bl b, H, I, rfl, by rw [← hb]; exact q⟩
  cases r1 with
  | a f =>
    cases r2 with
    | a f' => exact EqBoolInt.of_rcne (rcne_flat rx ry f f') (fin _ (by unfold eqD; rfl))
    | l h r => cases ry; obtain ⟨_, _, pl, _⟩ := I.list h; exact EqBoolInt.of_rcne (rcne_fl f rx pl.isList hu') (fin _ (by unfold eqD; rfl))
    | t h r => cases ry; obtain ⟨_, _, pl, _⟩ := I.tuple h; exact EqBoolInt.of_rcne (rcne_ft f rx pl hu') (fin _ (by unfold eqD; rfl))
  | @l p vs ds h r =>
    cases rx
    obtain ⟨its, rv, pl, _⟩ := I.list h
    cases r2 with
    | a f' => exact EqBoolInt.of_rcne (rcne_lf f' ry pl.isList hu') (fin _ (by unfold eqD; rfl))
    | @t p' vs' ds' h' r' =>
      cases ry
      obtain ⟨its', rv', pt, _⟩ := I.tuple h'
      exact EqBoolInt.of_rcne (.list_tuple pl.isList pt hu') (fin _ (by unfold eqD; rfl))
    | @l p' vs' ds' h' r' =>
      cases ry
      obtain ⟨its', rv', pl', _⟩ := I.list h'
      have e1 := rv.length
      have e2 := rv'.length
      have e3 := r.len
      have e4 := r'.len
      by_cases hl : ds.length = ds'.length
      · refine EqBoolInt.of_rcne (SeqAt.RcNeAt.lists (e := fun j => eqD (ds.getD j (.l [])) (ds'.getD j (.l []))) pl.isList pl'.isList (by simp only [List.size_toArray]; omega) hu' (fun j h1 h2 => ?_)) (fin _ ?_)
        · obtain ⟨v1, a1, b1, c1⟩ := getD_rep j h1 rv r
          obtain ⟨v2, a2, b2, c2⟩ := getD_rep j h2 rv' r'
          have hdj : depD (ds.getD j (.l [])) ≤ 60 := Nat.le_trans (depDs_mem c1) (by unfold depD at hd; omega)
          exact (eqD_at I 60 hdj hin b1 b2 a1 a2).2
        · rw [eqD_l, List.size_toArray, ← e1, e3, eqDs_range hl]
      · refine EqBoolInt.of_rcne (SeqAt.RcNeAt.lists_lengths pl.isList pl'.isList (by simp only [List.size_toArray]; simp; omega) hu') (fin _ ?_)
        rw [eqD_l, eqDs_len hl]
        rfl
  | @t p vs ds h r =>
    cases rx
    obtain ⟨its, rv, pl, _⟩ := I.tuple h
    cases r2 with
    | a f' => exact EqBoolInt.of_rcne (rcne_tf f' ry pl hu') (fin _ (by unfold eqD; rfl))
    | @l p' vs' ds' h' r' =>
      cases ry
      obtain ⟨its', rv', pl', _⟩ := I.list h'
      exact EqBoolInt.of_rcne (.tuple_list pl pl'.isList hu') (fin _ (by unfold eqD; rfl))
    | @t p' vs' ds' h' r' =>
      cases ry
      obtain ⟨its', rv', pl', _⟩ := I.tuple h'
      have e1 := rv.length
      have e2 := rv'.length
      have e3 := r.len
      have e4 := r'.len
      refine EqBoolInt.of_rcne (SeqAt.RcNeAt.tuples (e := fun j => eqD (ds.getD j (.l [])) (ds'.getD j (.l []))) pl pl' hu' (fun j h1 h2 => ?_)) (fin _ ?_)
      · obtain ⟨v1, a1, b1, c1⟩ := getD_rep j h1 rv r
        obtain ⟨v2, a2, b2, c2⟩ := getD_rep j h2 rv' r'
        have hdj : depD (ds.getD j (.l [])) ≤ 60 := Nat.le_trans (depDs_mem c1) (by unfold depD at hd; omega)
        exact (eqD_at I 60 hdj hin b1 b2 a1 a2).2
      · rw [eqD_t]
        by_cases hl : ds.length = ds'.length
        · have em : min its.toArray.size its'.toArray.size = ds.length := by simp only [List.size_toArray]; omega
          have eb : (its.toArray.size == its'.toArray.size) = true := by simp only [List.size_toArray]; simp; omega
          rw [em, eb, Bool.and_true, eqDs_range hl]
        · have eb : (its.toArray.size == its'.toArray.size) = false := by simp only [List.size_toArray]; simp; omega
          rw [eb, Bool.and_false, eqDs_len hl]
/-! ### xs.insert(i, y), xs.remove(y), a ** n -/
def rInsert : V → List V → Hp → VK → Prop := fun x vs H Q => ∃ (l : Addr) (xs : List V) (i : Int) (y : V), x = .ref l ∧ vs = [.int i, y] ∧ H l = some (.lst xs) ∧ 0 ≤ i ∧ i ≤ xs.length ∧ xs.length < sizeLine ∧ Q .non (upd H l (.lst (xs.take i.toNat ++ y :: xs.drop i.toNat)))
theorem mt_insert : MtR X "list.insert" rInsert := by
  intro pins s σ H x vs v us Q I rx rv h
  obtain ⟨l, xs, i, y, rfl, rfl, hH, hi0, hi1, hz, q⟩ := h
  cases rx
  obtain ⟨u1, u2, rfl, ⟨t, rfl⟩, ru⟩ := rv.two
  obtain ⟨z, its, n, r, hl, e⟩ := I.lstM hH
  have hn := line63
  have hsz : its.toArray.size ≤ sizeLine := by rw [List.size_toArray]; omega
  have hfit : ¬ (!Builtin.List.listFitsIndex i) = true := by
    rw [fitsIndex_both (by omega) (by omega)]
    decide
  refine call_meets F.slot_list_insert ⟨_, e, rfl⟩ F.entry_list_insert (F.args_list_insert_3 _ _ _) (AutoSeq1.list_insert_list_int_val_1 l its.toArray n i t u2 hfit hsz) ⟨e, ?_⟩
  refine ⟨.non, _, I.lset (its' := its.take i.toNat ++ u2 :: its.drop i.toNat) hH e ?_ ((r.take i.toNat).append (.cons ru (r.drop i.toNat))) ?_, rfl, q⟩
  · have e1 : ¬ (i < 0) := by omega
    have e2 : min i.toNat its.toArray.size = i.toNat := by rw [List.size_toArray]; omega
    simp only [e1, if_false, e2]
    apply Array.ext'
    simp
    exact List.take_of_length_le (by rw [List.length_drop]; exact Nat.le_refl _)
  · rw [List.length_append, List.length_cons, List.length_take, List.length_drop]
    omega
end
end L2

set_option Elab.async false
set_option linter.all false
set_option maxRecDepth 100000
namespace L2
open PySem PySem.Spec PyProof.Rows
section
variable {X : Cx} {pos : Pos}
end

/-! ### the law's head, with the size of the script's ints -/
theorem weight_all {ns : List Int} : ∀ v ∈ ns, (PySem.W.WData.weight (.int v)) ≤ PySem.W.WData.weightAll (ns.map .int) := by
  intro v hv
  induction ns with
  | nil => cases hv
  | cons n r ih =>
    have e : PySem.W.WData.weightAll ((n :: r).map PySem.W.WData.int) = PySem.W.WData.weight (.int n) + 1 + PySem.W.WData.weightAll (r.map .int) := by
      rw [List.map_cons, PySem.W.WData.weightAll]
    rw [e]
    rcases List.mem_cons.mp hv with rfl | hv
    · omega
    · have := ih hv
      omega
end L2

set_option Elab.async false
set_option linter.all false
set_option maxRecDepth 100000
namespace Att
open PySem PySem.W PySem.Calls PyProof.Rows L2
theorem small_of {ns : List Int} (h : WData.layableAll [WData.list (ns.map WData.int)] = true) : ∀ v ∈ ns, Builtin.Int.intBits v ≤ 1048576 := by
  intro v hv
  unfold WData.layableAll at h
  rw [List.all_cons, Bool.and_eq_true] at h
  have h1 := h.1
  unfold WData.layable at h1
  rw [Bool.and_eq_true] at h1
  have h2 := of_decide_eq_true h1.2
  have e : WData.weight (WData.list (ns.map WData.int)) = WData.weightAll (ns.map WData.int) := by rw [WData.weight]
  rw [e] at h2
  have h3 := weight_all v hv
  have e2 : WData.weight (.int v) = Builtin.Int.intBits v := by
    rw [WData.weight]
    rfl
  rw [e2] at h3
  have : (2 : Nat) ^ 20 = 1048576 := by decide
  omega
theorem attach_callW {l : OpenLaw} {n : Nat} {q : Program} {loose : List Str} {XP : (Str → Option Value) → Heap → Prop} {YP : World → Heap → Prop} {d : DefRec}
    (hn : l.most = some n) (hdf : d.params.defaults = [])
    (call : ∀ (w : World) (s₀ s₁ : Shared) (mg mb : Str → Option Value) (fa : Addr) (o : Obj) (pm cd doc : Value) (a : Addr) (vs : List Value) (ns : List Int),
      Ground q loose [] XP w s₀ mg mb s₁.heap → YP w s₁.heap →
      s₁.heap.get? fa = some o → o.data = .func (docDef d.name d.params d.body d.scope pm cd doc) → s₁.heap.CodeRec cd d.name → mg d.name = some (.ref fa) →
      s₁.heap.get? a = some { cls := .type "list", data := .seq vs.toArray } → IntsAre vs ns → ns.length ≤ n → (∀ v ∈ ns, Builtin.Int.intBits v ≤ 1048576) → s₁.gens = #[] →
      codeAny (model l.prog w) callerA (.call (.ref fa) ⟨[.ref a], []⟩) (fun r s' => r = .ok (.ret (.bool true)) ∧ OldK s₁.heap s'.heap ∧ s'.os = s₁.os ∧ AllBare s'.gens) s₁) :
    WalkO q loose XP YP l.row.toRowW d [] (fun f vs => PySem.call f vs) := by
  intro w s₀ s₁ mg mb G Y fa o pm cd doc dV kV ho hd hcd hD hmg hg args vals as hpre hlay hrd hwl hlo
  obtain rfl : dV = .none := Dflts.none hD hdf
  obtain rfl : kV = .none := Dflts.noKw hD
  obtain ⟨a, vs, ns, rfl, rfl, hobj, hints, hlen⟩ := script_of hn hpre hwl
  refine enter_call (codeAny_mono (call w s₀ s₁ mg mb fa o pm cd doc a vs ns G Y ho (fd_plain hd) hcd hmg hobj hints hlen (small_of hlay) hg) fun r s' hq => ?_)
  obtain ⟨rfl, h2, h3, h4⟩ := hq
  exact ⟨.inl ⟨.bool true, .bool true, [], rfl, fun _ => rfl, .bool true, post_true l _, fun _ => ⟨List.Pairwise.nil, fun _ hm => (nomatch hm)⟩⟩, h2, h3, h4⟩
end Att
namespace L2
open PySem PySem.Spec PyProof.Rows
theorem walk_ofW {l : PySem.W.OpenLaw} {n k : Nat} {q : Program} {loose : List Str} {XP : (Str → Option Value) → Heap → Prop} {YP : World → Heap → Prop} {d : DefRec} {K : Params → PySem.W.Frag} {CX : World → CXT} {sp : World → Sp} {x : Str}
    (hn : l.most = some n) (hn2 : n ≤ sizeLine) (hdf : d.params.defaults = []) (hr : Room k callerA)
    (hY : ∀ (w : World) (h : Heap), YP w h → (K w.params).In h)
    (F : ∀ (w : World) (mg : Str → Option Value) (fa : Addr) (h : Heap), (K w.params).In h → h.Ns mainGlobals mg → mg d.name = some (.ref fa) →
      ∃ fd : FuncData, (∀ (s : Shared) (u : Value), BindsTo s fd ⟨[u], []⟩ [(x, u)]) ∧
        ∀ base : Heap, (K w.params).In base → base.Ns mainGlobals mg → FnOk l.prog w (K w.params) mg base (CX w) k fa fd [x] (sp w))
    (hsp : ∀ (w : World) (H : Hp) (a : Addr) (ns : List Int), ns.length ≤ n → (∀ v ∈ ns, Builtin.Int.intBits v ≤ 1048576) → Only H → SqL (K w.params) H a (ns.map V.int) → sp w [.ref a] H (fun v _ => v = .bl true) fun _ _ _ => False)
    (hCX : ∀ (w : World) (H : Hp) (s : Shared) (e : Value) (s' : Shared), CX w [] H s (fun _ _ _ => False) e s' → False) :
    PySem.W.WalkO q loose XP YP l.row.toRowW d [] (fun f vs => PySem.call f vs) := by
  refine Att.attach_callW hn hdf fun w s₀ s₁ mg mb fa o pm cd doc a vs ns G Y ho hd hcd hmg hobj hints hlen hsm hg => ?_
  have KX := hY w _ Y
  obtain ⟨fd, hb, hF⟩ := F w mg fa _ KX G.T.g hmg
  exact law_call KX G.T.g G.T.b G.T.builtins G.T.nolimit hg hobj hints (Nat.le_trans hlen hn2) hr hF hb (fun H hO hS => hsp w H a ns hlen hsm hO hS) fun H e s' => hCX w H s₁ e s'
end L2

set_option Elab.async false
set_option linter.all false
set_option maxRecDepth 100000
namespace L2
open PySem PySem.Spec PyProof.Rows
/-- a class of the text whose __init__ has a contract -/
def KnowsI (CX : CXT) (P : Program) (w : World) (K : PySem.W.Frag) (mg : Str → Option Value) (base : Heap) (k : Nat) (C : Addr) (ps : List Str) (sp : Sp) : Prop :=
  ∃ f fd, Mk K C f ∧ Binds K fd ps [] ∧ FnOk P w K mg base CX k f fd ps sp
section
variable {X : Cx} {CX : CXT} {x : Str} {ps : List Str} {sp : Sp} {j k : Nat} {e : Expr} {es : List Expr} {t : TA} {p pos : Pos} {E : XK} {C : Addr}
theorem pe_makeM0 (F : KnowsI CX X.prog X.w X.K X.mg X.base j C ps sp) (hr : Room k X.A) (hm : X.mg x = some (.ref C)) (hx : Passes CX X E) (hjk : j + 1 ≤ k := by decide) (hg : Gl X x := by rfl)
    (hdb : (x == ("__debug__" : Str)) = false := by decide) : PE X (.Call (.Name x p) [] [] pos) (tMake C sp [] E tNil) := by
  obtain ⟨f, fd, M, hb, F⟩ := F
  exact pe_make0 M F (hr.mono hjk) hg hm hb .nil hx hdb
end
end L2

set_option Elab.async false
set_option linter.all false
set_option maxRecDepth 100000
namespace L2
open PySem PySem.Spec PyProof.Rows
theorem def_mk {K : PySem.W.Frag} {h : Heap} {mg : Str → Option Value} (X : K.In h) (G : h.Ns mainGlobals mg) {x : Str} {st : Stmt} {ps : List Str} {f : Addr} {oc : Value} {od an : Option Addr} {osl : Array (Option Value)} {kV doc pm cdv ct : Value}
    (a : PySem.W.nsIn K mainGlobals x = some (some (.ref f))) (l : K.lookup f = some ⟨oc, od, .func (PySem.W.fnOf x x (defArgs st) (defBody st) (defScope st) .none kV doc pm an cdv ct), osl⟩) (c : PySem.W.codeIn K cdv x = true) (k : PySem.W.keepIn K (.ref f) = true)
    (b : ∀ (kV doc pm : Value) (an : Option Addr) (cdv ct : Value) (us : List Value), us.length = ps.length → bindArgs (PySem.W.fnOf x x (defArgs st) (defBody st) (defScope st) .none kV doc pm an cdv ct) ⟨us, []⟩ = pure (ps.zip us)) : Def K mg x st ps :=
  ⟨⟨_, _, fun_mk l c k, PySem.W.mg_of X G a, (fun_mk l c k).binds b⟩⟩
/-- a method's def -/
structure MDef (K : PySem.W.Frag) (C : Addr) (m qual : Str) (st : Stmt) (ps : List Str) : Prop where
  ex : ∃ f fd, Meth K C m f ∧ Fun K m qual st f fd ∧ Binds K fd ps []
/-- the def of __init__ of a class that is called -/
structure IDef (K : PySem.W.Frag) (C : Addr) (qual : Str) (st : Stmt) (ps : List Str) : Prop where
  ex : ∃ f fd, Mk K C f ∧ Fun K "__init__" qual st f fd ∧ Binds K fd ps []
theorem meth_mk {K : PySem.W.Frag} {C : Addr} {m qual : Str} {st : Stmt} {ps : List Str} {f : Addr} {oc : Value} {od an : Option Addr} {osl : Array (Option Value)} {kV doc pm cdv ct : Value}
    (a : PySem.W.findIn K (.ref C) m = some (some (.ref f))) (n : PySem.W.isFn K (.ref f) = true) (l : K.lookup f = some ⟨oc, od, .func (PySem.W.fnOf m qual (defArgs st) (defBody st) (defScope st) .none kV doc pm an cdv ct), osl⟩) (c : PySem.W.codeIn K cdv qual = true) (k : PySem.W.keepIn K (.ref f) = true)
    (b : ∀ (kV doc pm : Value) (an : Option Addr) (cdv ct : Value) (us : List Value), us.length = ps.length → bindArgs (PySem.W.fnOf m qual (defArgs st) (defBody st) (defScope st) .none kV doc pm an cdv ct) ⟨us, []⟩ = pure (ps.zip us)) : MDef K C m qual st ps :=
  ⟨⟨f, _, ⟨a, n, k⟩, fun_mk l c k, (fun_mk l c k).binds b⟩⟩
theorem init_mk {K : PySem.W.Frag} {C : Addr} {qual : Str} {st : Stmt} {ps : List Str} {f : Addr} {oc : Value} {od an : Option Addr} {osl : Array (Option Value)} {kV doc pm cdv ct : Value}
    (a : PySem.W.findIn K (.ref C) "__init__" = some (some (.ref f))) (n : PySem.W.isFn K (.ref f) = true) (l : K.lookup f = some ⟨oc, od, .func (PySem.W.fnOf "__init__" qual (defArgs st) (defBody st) (defScope st) .none kV doc pm an cdv ct), osl⟩) (c : PySem.W.codeIn K cdv qual = true) (k : PySem.W.keepIn K (.ref f) = true)
    (mk : PySem.W.makesIn K C = true) (kC : PySem.W.keepIn K (.ref C) = true)
    (b : ∀ (kV doc pm : Value) (an : Option Addr) (cdv ct : Value) (us : List Value), us.length = ps.length → bindArgs (PySem.W.fnOf "__init__" qual (defArgs st) (defBody st) (defScope st) .none kV doc pm an cdv ct) ⟨us, []⟩ = pure (ps.zip us)) : IDef K C qual st ps :=
  ⟨⟨f, _, ⟨mk, a, n, kC⟩, fun_mk l c k, (fun_mk l c k).binds b⟩⟩
section
variable {P : Program} {w : World} {K : PySem.W.Frag} {mg : Str → Option Value} {base : Heap} {C : Addr}
theorem MDef.knows {CX : CXT} {m qual : Str} {st : Stmt} {ps : List Str} {k : Nat} {sp : Sp} (D : MDef K C m qual st ps) (h : ∀ f fd, Fun K m qual st f fd → FnOk P w K mg base CX k f fd ps sp) : KnowsM CX P w K mg base k C m ps sp := by
  obtain ⟨f, fd, hm, F, hb⟩ := D.ex
  exact ⟨f, fd, hm, hb, h f fd F⟩
theorem IDef.knows {CX : CXT} {qual : Str} {st : Stmt} {ps : List Str} {k : Nat} {sp : Sp} (D : IDef K C qual st ps) (h : ∀ f fd, Fun K "__init__" qual st f fd → FnOk P w K mg base CX k f fd ps sp) : KnowsI CX P w K mg base k C ps sp := by
  obtain ⟨f, fd, hm, F, hb⟩ := D.ex
  exact ⟨f, fd, hm, hb, h f fd F⟩
end
end L2

set_option Elab.async false
set_option linter.all false
set_option maxRecDepth 100000
namespace L2
open PySem PySem.Spec PyProof.Rows
section
variable {X : Cx}
theorem kvLen {κ : Type} : ∀ {a : List (κ × V)} {b : List (κ × Value)}, KV a b → a.length = b.length
  | _, _, .nil => rfl
  | _, _, .cons _ r => by rw [List.length_cons, List.length_cons, kvLen r]
end
end L2

set_option Elab.async false
set_option linter.all false
set_option maxRecDepth 100000
namespace L2
open PySem PySem.Spec PyProof.Rows
set_option maxHeartbeats 1000000 in
/-- what is known of the block's own dict at its end -/
structure CEnd (X : Cx) (pins : List (Addr × Obj)) (H : Hp) (C : Addr) : Prop where
  no : H C = none
  ne : C ≠ X.env.locals
  new : X.s₀.heap.objs.size ≤ C
  cl : ∀ x c, X.env.cells.lookup x = some c → c ≠ C
  pn : ∀ p ∈ X.pn ++ pins, p.1 ≠ C
set_option maxHeartbeats 1000000 in
theorem comp_gen {X : Cx} {elt iter tg : Expr} {pos ppos : Pos} {ifs : List Expr} {scope : Scope} {wi : TI} {g : TG} {tc : TT} {te : TE} {use : Option (Value → Sem Unit)} {Qf : Value → Shared → Prop} (own : List Str) (js : List Nat) (N' : List Str) (hc : X.calm = true)
    (hi : PI X tg iter wi)
    (hg : ∀ C s₀ H₀ ex, PG (cxComp X scope N' C s₀ H₀ ex) tg g)
    (ht : ∀ C s₀ H₀ ex, PTs (cxComp X scope N' C s₀ H₀ ex) ifs tc)
    (he : ∀ C s₀ H₀ ex, PE (cxComp X scope N' C s₀ H₀ ex) elt te)
    (hN' : N' = own ++ js.map fun j => X.N.getD j Str.empty)
    (hk : scope.kind = .function)
    (hcell : ∀ y ∈ scope.names, y.2 ≠ .cell)
    (hnames : ∀ y ∈ scope.names, y.2 = .local → scope.names.lookup y.1 = some .local)
    (hfr : (scope.names.all fun y => y.2 != .free || X.env.scope.names.lookup y.1 == some .cell) = true)
    (hjs : (js.all fun j => scope.names.lookup (X.N.getD j Str.empty) == some .free && (X.N[j]?).isSome) = true)
    (hs : ∀ z, foldedSetIterable iter X.env z = pure z)
    {pins : List (Addr × Obj)} {s : Shared} {σ : St} {H : Hp} {Q : VK} (I : Inv X pins σ H s) (h : tComp own.length js wi g tc te σ H Q)
    (fin : ∀ (D C : Addr) (H' : Hp) (s4 : Shared) (m : Str → Option Value), Inv X pins σ H' s4 → Q (.ref D) H' → s4.heap.Ns C m → CEnd X pins H' C → compPost (model X.prog X.w) X.A X.xe use Qf (.ref D) C (.ok .next) s4) :
    wpAny (model X.prog X.w) X.A (comprehension (.ListComp elt [⟨tg, iter, ifs, 0⟩] scope pos) scope X.env ppos (newList []) false (eval iter X.env) use) Qf X.xe s := by
  have free_cell : ∀ y ∈ scope.names, y.2 = .free → X.env.kindOf y.1 = some .cell := fun y hy hf => by
    have := List.all_eq_true.mp hfr y hy
    rw [hf] at this
    simp at this
    exact this
  have hcl : ∀ y ∈ scope.names, y.2 = .free → ∃ c, X.env.cells.lookup y.1 = some c := fun y hy hf => I.ok.has y.1 (.inl (free_cell y hy hf))
  refine wpAny_comprehension_free (use := use) rfl hs (closureFor_eq hcl) hk hnames ?_
  refine thn (hi pins s σ H _ I h) fun v s1 h1 => thn h1 fun itv s2 h2 => ?_
  obtain ⟨it, fp, tn, J, H2, e, I2, T, st2, f2, W, ⟨m0, w0⟩, turn⟩ := h2
  subst e
  refine wpAny_newObj_type (wpAny_newFunctionEnv hcell (by intro y hy; simp at hy) (fun h₁ hns₁ hsb₁ => ?_) hk)
  dsimp only at hns₁ hsb₁ ⊢
  generalize hG : s2.heap.push { cls := .type "list", dict := none, data := .seq ([] : List Value).toArray } = G at hns₁ hsb₁ ⊢
  have hC : G.objs.size = s2.heap.objs.size + 1 := by rw [← hG, Heap.size_push]
  have hDC : s2.heap.objs.size ≠ G.objs.size := by rw [hC]; exact Nat.ne_of_lt (Nat.lt_succ_self _)
  have below : ∀ b, b < s2.heap.objs.size → b ≠ G.objs.size ∧ b ≠ s2.heap.objs.size := fun b hb => ⟨by rw [hC]; exact Nat.ne_of_lt (Nat.lt_succ_of_lt hb), Nat.ne_of_lt hb⟩
  have old : ∀ b o, s2.heap.get? b = some o → h₁.get? b = some o := fun b o e => hsb₁.extBut b o (below b (Heap.lt_size e)).1 (Heap.get?_push_of_some _ (hG ▸ Heap.get?_push_of_some _ e))
  have hacc : h₁.get? s2.heap.objs.size = some { cls := .type "list", data := .seq ([] : List Value).toArray 0 } := hsb₁.extBut _ _ hDC (Heap.get?_push_of_some _ (hG ▸ Heap.get?_push_size _ rfl))
  have fplt : ∀ b ∈ fp, b < s2.heap.objs.size := fun b hb => let ⟨_, e, _⟩ := T.obj _ _ st2 b hb; Heap.lt_size e
  have ok' : (cxComp X scope N' G.objs.size s2 H2 fp).Ok := by
    refine ⟨I2.ok.mod, hk, I2.ok.glob, I2.ok.blt, by show s2.heap.objs.size ≤ G.objs.size; rw [hC]; exact Nat.le_succ _, fun x y c e1 e2 => I2.ok.inj x y c (lookup_closOf hcl e1) (lookup_closOf hcl e2), fun x hx => ?_,
      fun x c hx _ => (nomatch hx), I2.ok.hd, I2.ok.frames, .inl rfl, fun b hb => ⟨(below b (fplt b hb)).1, fun x c e => (f2 b hb).2.2.2.2.1 x c (lookup_closOf hcl e)⟩, I2.bs, Nat.le_trans I2.ok.bsz I2.sz, fun b o e hb => ?_, fun b hb z => ?_, I2.stack, I2.stkFree⟩
    · have hx' : (relabel scope X.env).names.lookup x = some .cell ∨ (relabel scope X.env).names.lookup x = some .free := hx
      have : (x, NameKind.free) ∈ scope.names ∨ (x, NameKind.cell) ∈ scope.names := by
        rcases hx' with z | z
        · exact relabel_back z (.inl rfl)
        · exact relabel_back z (.inr rfl)
      rcases this with z | z
      · exact has_closOf z
      · exact absurd rfl (hcell _ z)
    · rcases (f2 b hb).2.2.2.1 with z | z
      · exact I2.ok.noex b o e z
      · have h1 : b < X.base.objs.size := Heap.lt_size e
        exact absurd (Nat.lt_of_lt_of_le h1 (Nat.le_trans I2.ok.bsz z)) (Nat.lt_irrefl _)
    · rcases List.mem_cons.mp (I2.stkSub b z) with e | e
      · exact (f2 b hb).2.1 e
      · exact (f2 b hb).2.2.1 e
  have kindCap : ∀ i y, (js.map fun j => X.N.getD j Str.empty)[i]? = some y → ∃ j, js[i]? = some j ∧ X.N[j]? = some y ∧ scope.names.lookup y = some .free := fun i y e => by
    rw [List.getElem?_map] at e
    cases q : js[i]? with
    | none => rw [q] at e; cases e
    | some j =>
      rw [q] at e
      have e' : X.N.getD j Str.empty = y := Option.some.inj e
      have hj := List.all_eq_true.mp hjs j (List.mem_of_getElem? q)
      rw [Bool.and_eq_true] at hj
      obtain ⟨hj1, hj2⟩ := hj
      rw [e'] at hj1
      obtain ⟨z, hz⟩ := Option.isSome_iff_exists.mp hj2
      rw [List.getD_eq_getElem?_getD, hz] at e'
      exact ⟨j, q, by rw [hz]; exact congrArg some e', by simpa using hj1⟩
  have I0 : ∀ tk : Nat, Inv (cxComp X scope N' G.objs.size s2 H2 fp) [(s2.heap.objs.size, { cls := .type "list", data := .seq ([] : List Value).toArray 0 })] (List.replicate own.length none ++ caps σ js) H2 { s2 with heap := h₁, toks := tk } := fun tk => by
    refine ⟨ok', rfl, I2.bare, Un.kept old, ⟨_, hns₁, fun i y v e1 e2 e3 => ?_⟩, fun x c e => ?_, I2.hok.fresh (by show s2.heap.objs.size ≤ G.objs.size; rw [hC]; exact Nat.le_succ _), fun x c e => I2.freeC x c (lookup_closOf hcl e), fun p hp => ?_, I2.hok.kept old, ?_⟩
    · by_cases hlt : i < own.length
      · rw [List.getElem?_append_left (by simpa using hlt), List.getElem?_replicate] at e2
        split at e2 <;> cases e2
      · have e1' : N'[i]? = some y := e1
        rw [hN', List.getElem?_append_right (by omega)] at e1'
        rw [List.getElem?_append_right (by simpa using hlt), List.length_replicate] at e2
        obtain ⟨j, hj, hs2⟩ := caps_get e2
        obtain ⟨j', hj', hN, hfree⟩ := kindCap _ _ e1'
        rw [hj] at hj'; cases hj'
        obtain ⟨m, hm, hl⟩ := I2.loc
        have hcell' : X.env.kindOf y = some .cell := free_cell (y, .free) (PySem.mem_of_lookup hfree) rfl
        obtain ⟨u, r, l⟩ := hl j y v hN hs2 (.inr (.inl hcell'))
        refine ⟨u, r, ?_⟩
        rcases l with ⟨hk', _⟩ | ⟨hk', c, hc', z⟩
        · rw [hcell'] at hk'; cases hk'
        · obtain ⟨c', e'⟩ := has_closOf (env := X.env) (PySem.mem_of_lookup hfree)
          have := lookup_closOf hcl e'
          rw [hc'] at this; cases this
          refine .inr ⟨.inl (lookup_relabel_free I2.ok.kind hfree hcell'), c, e', ?_⟩
          obtain ⟨o, ho, hd⟩ := z
          exact ⟨o, old _ _ ho, hd⟩
    · obtain ⟨v, o, ho, hd⟩ := I2.cell x c (lookup_closOf hcl e)
      exact ⟨v, o, old _ _ ho, hd⟩
    · have hp' : p = (s2.heap.objs.size, { cls := .type "list", data := .seq ([] : List Value).toArray 0 }) := by
        rcases List.mem_append.mp hp with z | z
        · exact absurd (show p ∈ ([] : List (Addr × Obj)) from z) (by simp)
        · simpa using z
      subst hp'
      refine ⟨hacc, I2.hok.fresh (Nat.le_refl _), hDC, fun z => ?_, fun v z => by cases z⟩
      exact absurd (show s2.heap.objs.size ∈ frs X.stack from z) fun z => by
        rcases List.mem_cons.mp (I2.stkSub _ z) with e | e
        · have := I2.lt
          rw [← e] at this
          exact Nat.lt_irrefl _ this
        · exact I2.nofs (Nat.le_refl _) e
    · show _ = N'.length
      rw [hN']
      simp [caps]
  have stat : ∀ {H' : Hp} {ob : Obj}, (∀ b ∈ fp, H' b = none) → ∀ b ∈ fp, FpOk (cxComp X scope N' G.objs.size s2 H2 fp) [(s2.heap.objs.size, ob)] H' b := fun {H' ob} hn b hb =>
    ⟨hn b hb, (below b (fplt b hb)).1, fun z => ok'.exfs b hb z, .inl hb, fun x c e => (f2 b hb).2.2.2.2.1 x c (lookup_closOf hcl e), fun p hp => by
      have hp' : p = (s2.heap.objs.size, ob) := by
        rcases List.mem_append.mp hp with z | z
        · exact absurd (show p ∈ ([] : List (Addr × Obj)) from z) (by simp)
        · simpa using z
      subst hp'
      exact Ne.symm (below b (fplt b hb)).2⟩
  have loop : ∀ s₃ : Shared, s₃ = { s2 with heap := h₁, toks := s2.toks + ([] : List (Str × Value)).length } →
      codeAny (model X.prog X.w) X.A (.compLoop (.ListComp elt [⟨tg, iter, ifs, 0⟩] scope pos) 0 (.ref it) (.ref s2.heap.objs.size) (compEnvC scope (closOf scope X.env) G.objs.size X.env))
        (compPost (model X.prog X.w) X.A X.xe use Qf (.ref s2.heap.objs.size) G.objs.size) s₃ := by
    rintro s₃ rfl
    refine comp_loop (fun n s' => ∃ (i : Nat) (os : St) (H' : Hp) (ys : List V) (its : List Value) (k : Nat), os.length = own.length ∧
      Inv (cxComp X scope N' G.objs.size s2 H2 fp) [(s2.heap.objs.size, { cls := .type "list", data := .seq its.toArray k })] (os ++ caps σ js) H' s' ∧ tn i s'.heap ∧ (∀ b ∈ fp, H' b = none) ∧ Vals ys its ∧ W i n ys H') ?_ m0
      ⟨0, _, H2, [], [], 0, by simp, I0 _, T.keep _ _ _ st2 fun b _ o e => old b o e, fun b hb => (f2 b hb).1, .nil, w0⟩
    rintro n s3 ⟨i, os, H3, ys, its, k, hos, I3, st3, fr3, rv3, w3⟩
    have pinD : ∀ {σ' : St} {H' : Hp} {s' : Shared}, Inv (cxComp X scope N' G.objs.size s2 H2 fp) [(s2.heap.objs.size, { cls := .type "list", data := .seq its.toArray k })] σ' H' s' → s'.heap.get? s2.heap.objs.size = some { cls := .type "list", data := .seq its.toArray k } ∧ H' s2.heap.objs.size = none :=
      fun I => let q := I.pin (s2.heap.objs.size, { cls := .type "list", data := .seq its.toArray k }) (List.mem_append_right _ (by simp)); ⟨q.1, q.2.1⟩
    rcases turn i n ys H3 w3 with ⟨stop, hz, qn⟩ | ⟨go, hz, step⟩
    · refine thn (T.done (cxComp X scope N' G.objs.size s2 H2 fp) rfl rfl rfl hc i _ s3 _ H3 _ I3 (stat fr3) st3 stop) fun r s4 ⟨hr, I4⟩ => ?_
      subst hr
      obtain ⟨hD4, hn4⟩ := pinD I4
      obtain ⟨m, hm, _⟩ := I4.loc
      have hsb : Heap.SameBut G.objs.size s4.heap s4.heap := ⟨rfl, fun _ _ => rfl⟩
      have b4 := I4.base
      have nC : ∀ b o, s2.heap.get? b = some o → b ≠ G.objs.size := fun b o e => (below b (Heap.lt_size e)).1
      have nD : ∀ b o, s2.heap.get? b = some o → b ≠ s2.heap.objs.size := fun b o e => (below b (Heap.lt_size e)).2
      have hok' : HOk X.prog X.w H3 s4.heap := fun b ob e => by
        refine (I4.hok b ob e).stay (fun c w' hc' q => (hsb.2 c ?_).trans q) (fun _ q => q) fun _ _ q => q
        rintro rfl
        rcases hc' with hc' | hc'
        · rw [← hc', show H3 G.objs.size = none from I4.free] at e; cases e
        · rw [show H3 G.objs.size = none from I4.free] at hc'; cases hc'
      have hD' : s4.heap.get? s2.heap.objs.size = some { cls := .type "list", data := .seq its.toArray k } := (hsb.2 _ hDC).trans hD4
      have hCn : H3 G.objs.size = none := I4.free
      have hC2 : s2.heap.objs.size ≤ G.objs.size := by rw [hC]; exact Nat.le_succ _
      refine fin s2.heap.objs.size G.objs.size (upd H3 s2.heap.objs.size (.lst ys)) s4 m ?_ (qn _ hn4) hm ⟨by rw [upd_ne (Ne.symm hDC)]; exact hCn, fun z => ?_, Nat.le_trans I2.sz hC2, fun x c e z => ?_, fun p hp z => ?_⟩
      rotate_left
      · have h9 := I2.lt
        rw [← z] at h9
        exact Nat.lt_irrefl _ (Nat.lt_of_lt_of_le h9 hC2)
      · obtain ⟨v, o, ho, _⟩ := I2.cell x c e
        have h9 := Heap.lt_size ho
        rw [z] at h9
        exact Nat.lt_irrefl _ (Nat.lt_of_lt_of_le h9 hC2)
      · have h9 := Heap.lt_size (I2.pin p hp).1
        rw [z] at h9
        exact Nat.lt_irrefl _ (Nat.lt_of_lt_of_le h9 hC2)
      refine I2.call' (ch := fp) I4.os ⟨fun b o e n hb hx => ?_, fun b o e n hb hx => ?_, fun b o e n hx => ?_, fun b o e hx => ?_, fun b xs q => ?_, fun b o u q => ?_, fun b ps q => ?_⟩ (hok'.track hn4 ⟨hz, its, k, rv3, hD'⟩) I4.bare fun b hb => ⟨(f2 b hb).2.2.2.1, (f2 b hb).2.1, (f2 b hb).2.2.2.2.1, (f2 b hb).2.2.2.2.2⟩
      · exact (hsb.2 b (nC b o e)).trans (b4.keep b o e n hb hx)
      · obtain ⟨sl, e1⟩ := b4.slot b o e n hb hx
        exact ⟨sl, (hsb.2 b (nC b o e)).trans e1⟩
      · rw [upd_ne (nD b o e)]; exact b4.free b o e n hx
      · obtain ⟨o', e1⟩ := b4.there b o e hx
        exact ⟨o', (hsb.2 b (nC b o e)).trans e1⟩
      · have z := b4.tups b xs q
        rw [upd_ne (ne_of_none z hn4)]; exact z
      · have z := b4.frzs b o u q
        rw [upd_ne (ne_of_none z hn4)]; exact z
      · obtain ⟨more, z⟩ := b4.tbls b ps q
        exact ⟨more, by rw [upd_ne (ne_of_none z hn4)]; exact z⟩
    · refine thn (T.item (cxComp X scope N' G.objs.size s2 H2 fp) rfl rfl rfl hc i _ s3 _ H3 _ I3 (stat fr3) st3 go) fun r s4 ⟨u, hr, h4⟩ => ?_
      subst hr
      refine thn h4 fun _ s5 ⟨x, H5, I5, r5, y5, st5, fr5⟩ => ?_
      have fpo := T.obj _ _ st5
      have I5' := I5.pinned (stat fr5) fpo
      refine wpAny_mono (hg _ _ _ _ _ s5 _ H5 x u _ I5' r5 (step x H5 y5 os hos)) (fun _ s6 ⟨σ6, H6, I6, ⟨os', hos', e6⟩, q6⟩ => ?_) fun _ _ z => False.elim z
      subst e6
      refine wpAny_mono (ht _ _ _ _ _ s6 _ H6 _ I6 q6) (fun ok s7 ⟨H7, I7, q7⟩ => ?_) fun _ _ z => False.elim z
      have keepFp : ∀ {σ' : St} {H' : Hp} {s' : Shared}, Inv (cxComp X scope N' G.objs.size s2 H2 fp) ([(s2.heap.objs.size, { cls := .type "list", data := .seq its.toArray k })] ++ pinsAt fp s5.heap) σ' H' s' → tn (i + 1) s'.heap ∧ ∀ b ∈ fp, H' b = none := fun I => by
        refine ⟨T.keep _ _ _ st5 fun b hb o e => (I.pin (b, o) (List.mem_append_right _ (List.mem_append_right _ (mem_pinsAt hb e)))).1, fun b hb => ?_⟩
        obtain ⟨o, e, d⟩ := fpo b hb
        exact (I.pin (b, o) (List.mem_append_right _ (List.mem_append_right _ (mem_pinsAt hb e)))).2.1
      cases ok with
      | false =>
        obtain ⟨m', hm', w'⟩ := q7
        obtain ⟨k1, k2⟩ := keepFp I7
        exact ⟨m', hm', i + 1, os', H7, ys, its, k, hos', I7.unpinned, k1, k2, rv3, w'⟩
      | true =>
        rw [if_pos rfl]
        refine wpAny_mono (he _ _ _ _ _ s7 _ H7 _ I7 q7) (fun yv s8 ⟨y, H8, I8, r8, q8⟩ => ?_) fun _ _ z => False.elim z
        obtain ⟨m', hm', w'⟩ := q8
        obtain ⟨k1, k2⟩ := keepFp I8
        have I8' := I8.unpinned
        obtain ⟨hD8, hn8⟩ := pinD I8'
        have hil : its.length < sizeLine := by rw [← rv3.length]; exact hz
        refine call_meets F.slot_list_append ⟨_, hD8, rfl⟩ F.entry_list_append (F.args_list_append_2 _ _) (PySem.list_append _ its.toArray k yv (by rw [List.size_toArray]; omega)) ⟨hD8, ?_⟩
        have q : (s8.heap.update s2.heap.objs.size (Obj.mapSeq fun a => a.push yv)).get? s2.heap.objs.size = some { cls := .type "list", data := .seq (its ++ [yv]).toArray (if (its.toArray.push yv).size == its.toArray.size then k else k + 1) } := by
          have q0 := PySem.IsL.update hD8 (fun a : Array Value => a.push yv)
          have ea : its.toArray.push yv = (its ++ [yv]).toArray := by simp
          rw [← ea]
          exact q0
        refine ⟨m', hm', i + 1, os', H8, ys ++ [y], its ++ [yv], (if (its.toArray.push yv).size == its.toArray.size then k else k + 1), hos', ?_, T.keep _ _ _ k1 fun b hb o e => (Heap.get?_update_other s8.heap _ (below b (fplt b hb)).2.symm).trans e, k2, rv3.append (.cons r8 .nil), w'⟩
        have In : Inv (cxComp X scope N' G.objs.size s2 H2 fp) [] (os' ++ caps σ js) H8 s8 := I8'.pins_of fun p hp => absurd hp (by simp)
        have It : Inv (cxComp X scope N' G.objs.size s2 H2 fp) [] (os' ++ caps σ js) H8 { s8 with heap := s8.heap.update s2.heap.objs.size (Obj.mapSeq fun a => a.push yv) } :=
          In.turned (it := s2.heap.objs.size) (t' := s8.toks) (fun b o hb e => (Heap.get?_update_other s8.heap _ (Ne.symm hb)).trans e) hn8 hDC (.inr (Nat.le_refl _)) (fun x c e z => by
            obtain ⟨v, o, ho, hd⟩ := I8'.cell x c e
            rw [z, hD8] at ho
            cases ho
            cases hd) fun p hp => absurd hp (by simp [cxComp])
        refine It.pins_of fun p hp => ?_
        have hp' : p = (s2.heap.objs.size, { cls := .type "list", data := .seq (its ++ [yv]).toArray (if (its.toArray.push yv).size == its.toArray.size then k else k + 1) }) := List.mem_singleton.mp hp
        subst hp'
        exact ⟨q, hn8, hDC, (I8'.pin _ (List.mem_append_right _ (List.mem_singleton.mpr rfl))).2.2.2.1, fun v z => by cases z⟩
  exact codeAny_compStart_list (loop _ rfl) (T.self _ 0 _ _ _ (T.keep _ _ _ st2 fun b _ o e => old b o e) (loop _ rfl))
/-- y = [elt for x in iter if ..], y a local name of the def: it is stored ahead of the block's own names' end -/
theorem ps_setC {X : Cx} {elt iter : Expr} {x y : Str} {px py pos spos : Pos} {ifs : List Expr} {scope : Scope} {wi : TI} {tc : TT} {te : TE} {i : Nat} (js : List Nat) (N' : List Str) (hN : X.N.Nodup) (hy : X.N[i]? = some y) (hl : Loc X.env.scope y) (hc : X.calm = true)
    (hi : PI X (.Name x px) iter wi)
    (ht : ∀ C s₀ H₀ ex, PTs (cxComp X scope N' C s₀ H₀ ex) ifs tc)
    (he : ∀ C s₀ H₀ ex, PE (cxComp X scope N' C s₀ H₀ ex) elt te)
    (hsw : swapsWith (.ListComp elt [⟨.Name x px, iter, ifs, 0⟩] scope pos) (some (.Name y py)) spos.line X.env = pure true := by rfl)
    (hf : X.fn y = true ∨ X.env.scope.names.lookup y = some .local := by first | exact .inl rfl | exact .inr rfl | assumption)
    (nd : N'.Nodup := by decide +kernel)
    (hx : scope.names.lookup x = some .local := by rfl)
    (hN' : N' = [x] ++ js.map fun j => X.N.getD j Str.empty := by rfl)
    (hk : scope.kind = .function := by rfl)
    (hcell : ∀ y ∈ scope.names, y.2 ≠ .cell := by decide +kernel)
    (hnames : ∀ y ∈ scope.names, y.2 = .local → scope.names.lookup y.1 = some .local := by decide +kernel)
    (hfr : (scope.names.all fun y => y.2 != .free || X.env.scope.names.lookup y.1 == some .cell) = true := by rfl)
    (hjs : (js.all fun j => scope.names.lookup (X.N.getD j Str.empty) == some .free && (X.N[j]?).isSome) = true := by rfl)
    (hs : ∀ z, foldedSetIterable iter X.env z = pure z := by intro _; rfl) :
    PS X (.Assign [.Name y py] (.ListComp elt [⟨.Name x px, iter, ifs, 0⟩] scope pos) spos) (tAsg (tComp 1 js wi (gName 0) tc te) (gName i)) := by
  intro pins s σ H D I h
  rw [exec_Assign_Name_used _ _ _ _ hsw]
  refine wpAny_bind (wpAny_standAt (wpAny_bind ?_))
  show wpAny _ _ (do let _ ← comprehension (.ListComp elt [⟨.Name x px, iter, ifs, 0⟩] scope pos) scope X.env _ (newList []) false (eval iter X.env) (some (assign (.Name y py) X.env))) _ _ s
  refine wpAny_bind (wpAny_mono (comp_gen (use := some (assign (.Name y py) X.env)) (Qf := fun _ s' => SP X pins D .next s') [x] js N' hc hi (fun C s₀ H₀ ex => pg_name (X := cxComp X scope N' C s₀ H₀ ex) (i := 0) nd (by show N'[0]? = some x; rw [hN']; rfl) (Or.inl (lookup_relabel_local hx)) (.inr (lookup_relabel_local hx)))
    ht he hN' hk hcell hnames hfr hjs hs I h ?_) (fun _ s' hq => wpAny_pure (wpAny_pure hq)) fun _ _ e => e)
  intro B C H' s4 m I4 q hn ce
  refine wpAny_assign_Name (store_ok2 I4 hN hy hl (v := .ref B) rfl (fun s5 I5 ⟨a, sb, ha⟩ => ?_) hf)
  have hne : C ≠ a := by
    rcases ha with rfl | ha
    · exact ce.ne
    · exact Ne.symm (ce.cl _ _ ha)
  refine ⟨m, hn.sameBut sb hne, fun h' hsb => ⟨_, H', I5.turned (t' := s5.toks) (it := C) (fun b o hb e => (hsb.2 b hb).trans e) ce.no ce.ne (.inr ce.new) ce.cl ce.pn, q⟩⟩
end L2

set_option Elab.async false
set_option linter.all false
set_option maxRecDepth 100000
set_option maxHeartbeats 1000000
namespace L2
open PySem PySem.Spec PyProof.Rows
/-! ### for x, y in zip(t, u), t and u tuples -/
section
variable {P : Program} {w : World} {A : Around} {E : Value → Shared → Prop} {s : Shared}
end
end L2

set_option Elab.async false
set_option linter.all false
set_option maxRecDepth 100000
set_option maxHeartbeats 3200000
namespace L2
open PySem PySem.Spec PyProof.Rows
/-! ### the unlike ones of a row of keys -/
section
variable {P : Program} {w : World} {A : Around} {R : Result → Shared → Prop} {I : Addr} {fp wr : List Addr} {G : Array GenState → Array GenState → Prop} {n : Nat} {Pr : Nat → Value → Prop} {St : Nat → Shared → Prop}
end
section
variable {P : Program} {w : World} {A : Around} {E : Value → Shared → Prop} {s : Shared}
end
end L2

set_option Elab.async false
set_option linter.all false
set_option maxRecDepth 100000
set_option maxHeartbeats 1000000
namespace L2
open PySem PySem.Spec PyProof.Rows
/-! ### len(set(l)), sum(l), list(range(n)), l[a:b:c] -/
section
variable {X : Cx} {e l : Expr} {te tl : TE} {p pos p2 pos2 : Pos}
variable {lo hi : Option Expr} {st : Expr} {t1 t2 t3 : TO}
end
/-! ### isinstance(x, (T, ..)) -/
section
variable {X : Cx} {pins : List (Addr × Obj)} {σ : St} {H : Hp} {s : Shared}
end
end L2

set_option Elab.async false
set_option linter.all false
set_option maxRecDepth 100000
set_option maxHeartbeats 1000000
namespace L2
open PySem PySem.Spec PyProof.Rows
/-! ### a class of the text that is called with keywords, defaults left out -/
section
variable {P : Program} {w : World} {K : PySem.W.Frag} {mg : Str → Option Value} {base : Heap}
end
section
variable {X : Cx} {CX : CXT} {x : Str} {ps ks : List Str} {sp : Sp} {j k np : Nat} {T : List Bi} {e : Expr} {es : List Expr} {kws : List Keyword} {t tk : TA} {p pos : Pos} {E : XK} {C f : Addr} {fd : FuncData} {Bs : PySem.W.Frag → FuncData → Prop}
end
end L2

set_option Elab.async false
set_option linter.all false
set_option maxRecDepth 100000
set_option maxHeartbeats 3200000
namespace L2
open PySem PySem.Spec PyProof.Rows
/-! ### dict(l), l a list of pairs -/
section
variable {P : Program} {w : World} {A : Around} {E : Value → Shared → Prop} {s : Shared}
end
namespace F
end F
section
variable {P : Program} {w : World} {A : Around} {R : Result → Shared → Prop} {I : Addr} {fp wr : List Addr} {G : Array GenState → Array GenState → Prop} {n : Nat} {Pr : Nat → Value → Prop} {St : Nat → Shared → Prop}
end
section
variable {P : Program} {w : World} {A : Around} {E : Value → Shared → Prop} {s : Shared}
end
section
variable {X : Cx}
end
end L2

set_option Elab.async false
set_option linter.all false
set_option maxRecDepth 100000
set_option maxHeartbeats 1000000
namespace L2
open PySem PySem.Spec PyProof.Rows
section
variable {X : Cx}
theorem boot_sorted' : bootBuiltins "sorted" = some (.builtin "sorted") := by kernel_rfl
end
/-! ### isinstance(x, C), C a class of the text -/
section
variable {X : Cx} {pins : List (Addr × Obj)} {σ : St} {H : Hp} {s : Shared}
end
end L2

set_option Elab.async false
set_option linter.all false
set_option maxRecDepth 100000
namespace L2
open PySem PySem.Spec PyProof.Rows
end L2

set_option Elab.async false
set_option linter.all false
set_option maxRecDepth 100000
namespace L2
open PySem PySem.Spec PyProof.Rows
/-! ### a method of an object whose class is one of some -/
section
variable {X : Cx} {CX : CXT} {ι : Type} {c : ι → Addr} {m : Str} {ps : List Str} {sp : ι → Sp} {j k : Nat} {o e : Expr} {es : List Expr} {ta : TE} {t : TA} {apos pos : Pos} {E : XK}
end
/-! ### a comprehension over a list of pairs, with a test -/
end L2

set_option Elab.async false
set_option linter.all false
set_option maxRecDepth 100000
namespace L2
open PySem PySem.Spec PyProof.Rows
/-! ### what is being handled, if anything is, has no context of its own -/
section
variable {prog : Program} {w : World} {A : Around} {E : Value → Shared → Prop} {s : Shared}
end
end L2

set_option Elab.async false
set_option linter.all false
set_option maxRecDepth 100000
namespace L2
open PySem PySem.Spec PyProof.Rows
/-! ### an exception that is being handled, tracked -/
section
variable {X : Cx}
end
end L2

set_option Elab.async false
set_option linter.all false
set_option maxRecDepth 100000
namespace L2
open PySem PySem.Spec PyProof.Rows
section
variable {prog : Program} {w : World} {A : Around} {E : Value → Shared → Prop} {s : Shared}
end
/-! ### the exception that is handled is tracked -/
section
variable {X : Cx} {pins : List (Addr × Obj)} {σ : St} {H : Hp} {s : Shared}
end
end L2

set_option Elab.async false
set_option linter.all false
set_option maxRecDepth 100000
namespace L2
open PySem PySem.Spec PyProof.Rows
/-! ### comprehensions where an exception is handled -/
end L2

set_option Elab.async false
set_option linter.all false
set_option maxRecDepth 100000
namespace L2
open PySem PySem.Spec PyProof.Rows
/-! ### a def that is called where an exception is handled -/


section
variable {X : Cx} {x : Str} {ps : List Str} {sp : Sp} {j k : Nat} {e : Expr} {es : List Expr} {t : TA} {p pos : Pos}
end
end L2

set_option Elab.async false
set_option linter.all false
set_option maxRecDepth 100000
namespace L2
open PySem PySem.Spec PyProof.Rows
/-! ### try: .. except NAME as n: return .. -/
section
variable {X : Cx} {pins : List (Addr × Obj)} {σ : St} {H : Hp} {s : Shared} {a : Addr}
end
section
variable {X : Cx} {x n : Str} {i : Nat} {np hpos pos : Pos} {body : List Stmt} {b₀ : Stmt} {suite : List Stmt} {Dc : Addr} {tb : (St → XK) → TS} {ts : Addr → TS}
end
end L2

set_option Elab.async false
set_option linter.all false
set_option maxRecDepth 100000
namespace L2
open PySem PySem.Spec PyProof.Rows
end L2

set_option Elab.async false
set_option linter.all false
set_option maxRecDepth 100000
namespace WM
open PySem PySem.StrLaws

end WM

set_option Elab.async false
set_option linter.all false
set_option maxRecDepth 100000
namespace L2
open PySem PySem.Spec PyProof.Rows
/-! ### any(xs) of a list of truths -/
section
variable {X : Cx}
end
/-! ### a def that a name of the frame holds -/
section
variable {X : Cx} {x y : Str} {ps : List Str} {sp : Sp} {j k : Nat} {e : Expr} {es : List Expr} {t : TA} {p pos : Pos} {f : Addr}
end
/-! ### a comprehension over a zip of two tuples -/
end L2

set_option Elab.async false
set_option linter.all false
set_option maxRecDepth 100000
namespace L2
open PySem PySem.Spec PyProof.Rows
open PySem.AutoSeq1 (wpAny_loadPart')
section
variable {s : Shared} {A : Around} {l : Addr} {o : Obj} {es : Array DictEntry} {ep : Nat}
end
end L2

set_option Elab.async false
set_option linter.all false
set_option maxRecDepth 100000
namespace L2
open PySem PySem.Spec PyProof.Rows
section
variable {X : Cx}
end
end L2

set_option Elab.async false
set_option linter.all false
set_option maxRecDepth 100000
namespace L2
open PySem PySem.Spec PyProof.Rows
/-! ### d.values() -/
structure M0 (X : Cx) (o : Expr) (m : Str) (apos : Pos) (cpos : Pos) : Prop where
  base : attributeBase o m X.env (eval o X.env) = eval o X.env
  few : ((backTo cpos (starEach [] X.env)).all (fun x => !x.1) && (backToKw cpos (keywordEach [] X.env)).all (fun x => x.1.isSome)
    && decide (([] : List Expr).length + ([] : List Keyword).length + (if ([] : List Keyword).isEmpty then 0 else 1) < 30)) = true
  line : (apos.endLine == cpos.line) = true
  trees : backTo cpos (starEach [] X.env) = []
/-- a view of the dict at d -/
def ViewO (r d : Addr) : HO := .ext fun h => h.IsValuesView r d
def tDVals (td : TE) : TE := fun σ H Q => td σ H fun x H1 => ∃ d kvs, x = .ref d ∧ H1 d = some (.dK kvs) ∧ ∀ r, H1 r = none → Q (.ref r) (upd H1 r (ViewO r d))
section
variable {X : Cx} {o : Expr} {td : TE} {apos cpos : Pos}
theorem pe_dvals (ho : PE X o td) (m : M0 X o "values" apos cpos) : PE X (.Call (.Attribute o "values" apos) [] [] cpos) (tDVals td) := by
  intro pins s σ H Q I h
  refine wpAny_Call_method m.base m.few m.line PySem.F.plainAttrs_dict PySem.F.slot_dict_values PySem.F.type_dict_values (thn (ho pins s σ H _ I h) fun u s1 ⟨x, H1, I1, rx, d, kvs, ex, e1, q1⟩ => ?_)
  subst ex
  obtain rfl : u = Value.ref d := rx
  obtain ⟨t1, t2, hs⟩ := isD_at I1 (.inl ⟨kvs, .inl e1⟩)
  refine ⟨t1, t2, ?_⟩
  rw [m.trees]
  refine Calls.callWith_builtin rfl (PySem.evalArgs_none ?_)
  obtain ⟨_, hd, vs, rel, dd⟩ := dk_of I1.hok e1
  refine call_meetsIn PySem.F.slot_dict_values dd.typeIs PySem.F.entry_dict_values (PySem.F.args_dict_values_1 _) (meets_dict_values (mixKind X.prog X.w) d hd) ⟨⟨vs, dd⟩, ?_⟩
  refine ⟨.ref s1.heap.objs.size, _, I1.laid (t' := s1.toks) (o := ViewO s1.heap.objs.size d) (fun b ob q => Heap.get?_push_of_some _ q) (Nat.le_refl _) ?_, rfl, q1 _ (I1.hok.fresh (Nat.le_refl _))⟩
  have v : (s1.heap.push { cls := .type "dict_values", data := .fields #[.ref d] }).IsValuesView s1.heap.objs.size d := ⟨_, Heap.get?_push_size _ rfl, rfl, rfl⟩
  refine ⟨v, ⟨_, Heap.get?_push_size _ rfl⟩, fun h1 h2 p st => ?_⟩
  obtain ⟨ob, e, r⟩ := p
  exact ⟨ob, st ob e, r⟩
theorem kvVal {κ : Type} : ∀ {a : List (κ × V)} {b : List (κ × Value)} {i : Nat} {p : κ × V} {k : κ} {x : Value}, KV a b → a[i]? = some p → b[i]? = some (k, x) → RelV p.2 x
  | _, _, _, _, _, _, .nil, h, _ => by simp at h
  | _, _, 0, _, _, _, .cons h _, h1, h2 => by
    simp at h1 h2
    rw [← h1]
    have := h.2
    rw [h2] at this
    exact this
  | _, _, i + 1, _, _, _, .cons _ r, h1, h2 => kvVal r (i := i) (by simpa using h1) (by simpa using h2)
/-! ### a dict frozen while its values are walked -/
end
/-! ### the walk -/
end L2

set_option Elab.async false
set_option linter.all false
set_option maxRecDepth 100000
namespace L2
open PySem PySem.Spec PyProof.Rows
/-! ### f'..' -/
section
variable {X : Cx} {e a b : Expr} {es : List Expr} {te : TE} {t : Str → TE} {pos : Pos}
end
end L2

set_option Elab.async false
set_option linter.all false
set_option maxRecDepth 100000
namespace L2
open PySem PySem.Spec PyProof.Rows
/-! ### a class called within a try's suite -/
section
variable {X : Cx} {k j : Nat} {f C : Addr} {fd : FuncData} {ps : List Str} {sp : Sp} {Eb : St → XK} {x m : Str} {p pos apos : Pos} {e o : Expr} {es : List Expr} {ta : TE} {t : TA}
end
end L2

set_option Elab.async false
set_option linter.all false
set_option maxRecDepth 100000
set_option maxHeartbeats 1000000
namespace L2
open PySem PySem.Spec PyProof.Rows
section
variable {X : Cx}
end
end L2

set_option Elab.async false
set_option linter.all false
set_option maxRecDepth 100000
set_option maxHeartbeats 1000000
/-! ### the sort of fewer than 64 things, by a strict order: the tree of its questions -/
namespace L2.Srt
open PySem PySem.W PyProof.Rows
def g (p : Array Nat) (i : Nat) : Nat := p.getD i 0
structure Ord (n : Nat) (lt : Nat → Nat → Bool) : Prop where
  tr : ∀ i j k, i < n → j < n → k < n → lt i j = true → lt j k = true → lt i k = true
  tot : ∀ i j, i < n → j < n → i ≠ j → lt i j = false → lt j i = true
  asym : ∀ i j, i < n → j < n → lt i j = true → lt j i = false
def Pm (n : Nat) (p : Array Nat) : Prop := p.toList.Perm (List.range n)
theorem Pm.size {n : Nat} {p : Array Nat} (h : Pm n p) : p.size = n := by
  have := h.length_eq
  rw [List.length_range] at this
  rw [← Array.length_toList]
  exact this
theorem g_eq {p : Array Nat} {i : Nat} (h : i < p.size) : g p i = p.toList[i]'(by rw [Array.length_toList]; exact h) := by
  unfold g
  simp [h]
theorem Pm.lt {n : Nat} {p : Array Nat} (h : Pm n p) {i : Nat} (hi : i < n) : g p i < n := by
  rw [g_eq (by rw [h.size]; exact hi)]
  exact List.mem_range.mp (h.mem_iff.mp (List.getElem_mem _))
theorem Pm.ne {n : Nat} {p : Array Nat} (h : Pm n p) {i j : Nat} (hi : i < n) (hj : j < n) (e : i ≠ j) : g p i ≠ g p j := by
  rw [g_eq (by rw [h.size]; exact hi), g_eq (by rw [h.size]; exact hj)]
  have nd : p.toList.Nodup := h.nodup_iff.mpr List.nodup_range
  exact fun z => e ((List.getElem_inj nd).mp z)
theorem Pm.perm {n : Nat} {p q : Array Nat} (h : Pm n p) (e : q.Perm p) : Pm n q := List.Perm.trans (Array.perm_iff_toList_perm.mp e) h
section
variable {n : Nat} {lt : Nat → Nat → Bool} {s : Shared} {cmp : Nat → Nat → (Bool → Shared → Prop) → Shared → Prop}
def Asc (lt : Nat → Nat → Bool) (p : Array Nat) (m : Nat) : Prop := ∀ i j, i < j → j < m → lt (g p i) (g p j) = true
def Dsc (lt : Nat → Nat → Bool) (p : Array Nat) (m : Nat) : Prop := ∀ i j, i < j → j < m → lt (g p j) (g p i) = true
theorem asc_ok (O : Ord n lt) (hc : ∀ i j (C : Bool → Shared → Prop), i < n → j < n → C (lt i j) s → cmp i j C s) {p : Array Nat} (hp : Pm n p) {Q : Nat → Shared → Prop} : ∀ (f m : Nat), 1 ≤ m → m + f ≤ n → Asc lt p m →
    (∀ m', m ≤ m' → m' ≤ m + f → Asc lt p m' → (m' = m + f ∨ lt (g p m') (g p (m' - 1)) = true) → Q m' s) → (kas_asc p f m).kasWp cmp Q s
  | 0, m, h1, h2, ha, k => k m (Nat.le_refl _) (Nat.le_refl _) ha (.inl rfl)
  | f + 1, m, h1, h2, ha, k => by
    show cmp (g p m) (g p (m - 1)) _ s
    refine hc _ _ _ (hp.lt (by omega)) (hp.lt (by omega)) ?_
    cases c : lt (g p m) (g p (m - 1)) with
    | true => exact k m (Nat.le_refl _) (by omega) ha (.inr c)
    | false =>
      have c' := O.tot _ _ (hp.lt (by omega)) (hp.lt (by omega)) (hp.ne (by omega) (by omega) (by omega)) c
      refine asc_ok O hc hp f (m + 1) (by omega) (by omega) (fun i j hij hj => ?_) (fun m' a b d e => k m' (by omega) (by omega) d (by rcases e with e | e; exact .inl (by omega); exact .inr e))
      by_cases hjm : j < m
      · exact ha i j hij hjm
      · obtain rfl : j = m := by omega
        by_cases him : i = j - 1
        · rw [him]; exact c'
        · exact O.tr _ _ _ (hp.lt (by omega)) (hp.lt (by omega)) (hp.lt (by omega)) (ha i (j - 1) (by omega) (by omega)) c'
theorem desc_ok (O : Ord n lt) (hc : ∀ i j (C : Bool → Shared → Prop), i < n → j < n → C (lt i j) s → cmp i j C s) {p : Array Nat} (hp : Pm n p) {Q : Array Nat × Nat × Nat → Shared → Prop} : ∀ (f k : Nat), 1 ≤ k → k + f ≤ n → Dsc lt p k →
    (∀ k', k ≤ k' → k' ≤ k + f → Dsc lt p k' → Q (p, k', 0) s) → (kas_desc f p k 0).kasWp cmp Q s
  | 0, k, h1, h2, hd, q => q k (Nat.le_refl _) (Nat.le_refl _) hd
  | f + 1, k, h1, h2, hd, q => by
    show cmp (g p k) (g p (k - 1)) _ s
    refine hc _ _ _ (hp.lt (by omega)) (hp.lt (by omega)) ?_
    cases c : lt (g p k) (g p (k - 1)) with
    | true =>
      refine desc_ok O hc hp f (k + 1) (by omega) (by omega) (fun i j hij hj => ?_) (fun k' a b d => q k' (by omega) (by omega) d)
      by_cases hjk : j < k
      · exact hd i j hij hjk
      · obtain rfl : j = k := by omega
        by_cases him : i = j - 1
        · rw [him]; exact c
        · exact O.tr _ _ _ (hp.lt (by omega)) (hp.lt (by omega)) (hp.lt (by omega)) c (hd i (j - 1) (by omega) (by omega))
    | false =>
      have c' := O.tot _ _ (hp.lt (by omega)) (hp.lt (by omega)) (hp.ne (by omega) (by omega) (by omega)) c
      show cmp (g p (k - 1)) (g p k) _ s
      refine hc _ _ _ (hp.lt (by omega)) (hp.lt (by omega)) ?_
      rw [c']
      exact q k (Nat.le_refl _) (by omega) hd
theorem g_rev {p : Array Nat} {k : Nat} (hk : k ≤ p.size) {i : Nat} (hi : i < k) : g (kas_rev p 0 k) i = g p (k - 1 - i) := by
  have e := getElem?_mirror_all (xs := p) (i := 0) hk i
  rw [if_pos ⟨Nat.zero_le _, hi⟩] at e
  unfold g kas_rev
  rw [Array.getD_eq_getD_getElem?, e, Array.getD_eq_getD_getElem?]
  congr 2
  omega
theorem tail3_ok (O : Ord n lt) (hc : ∀ i j (C : Bool → Shared → Prop), i < n → j < n → C (lt i j) s → cmp i j C s) {p : Array Nat} (hp : Pm n p) {k : Nat} (h1 : 1 ≤ k) (h2 : k ≤ n) (hd : Dsc lt p k) {Q : Nat × Array Nat → Shared → Prop}
    (q : ∀ m p', Pm n p' → 1 ≤ m → m ≤ n → Asc lt p' m → Q (m, p') s) : (kas_tail3 k n p).kasWp cmp Q s := by
  unfold kas_tail3
  rw [KasT.kasWp_bind]
  have hp' : Pm n (kas_rev p 0 k) := hp.perm (mirror_perm _ _ _ _)
  refine asc_ok O hc hp' (n - k) k h1 (by omega) (fun i j hij hj => ?_) (fun m a b d _ => q m _ hp' (by omega) (by omega) d)
  rw [g_rev (by rw [hp.size]; exact h2) (by omega), g_rev (by rw [hp.size]; exact h2) hj]
  exact hd _ _ (by omega) (by omega)
theorem count_ok (O : Ord n lt) (hc : ∀ i j (C : Bool → Shared → Prop), i < n → j < n → C (lt i j) s → cmp i j C s) {p : Array Nat} (hp : Pm n p) (hn : 1 ≤ n) {Q : Nat × Array Nat → Shared → Prop}
    (q : ∀ m p', Pm n p' → 1 ≤ m → m ≤ n → Asc lt p' m → Q (m, p') s) : (kas_count n p).kasWp cmp Q s := by
  unfold kas_count
  rw [KasT.kasWp_bind]
  refine asc_ok O hc hp (n - 1) 1 (Nat.le_refl _) (by omega) (fun i j hij hj => by omega) (fun m a b d e => ?_)
  by_cases hm : m = n
  · rw [if_pos (by rw [hm]; simp)]
    exact q m p hp a (by omega) d
  · rw [if_neg (by simpa using hm)]
    by_cases hm1 : m > 1
    · rw [if_pos hm1]
      show cmp (g p 0) (g p (m - 1)) _ s
      refine hc _ _ _ (hp.lt (by omega)) (hp.lt (by omega)) ?_
      rw [d 0 (m - 1) (by omega) (by omega)]
      exact q m p hp a (by omega) d
    · rw [if_neg hm1]
      obtain rfl : m = 1 := by omega
      have e' : lt (g p 1) (g p 0) = true := by
        rcases e with e | e
        · exact absurd (show 1 = n by omega) hm
        · exact e
      unfold kas_descPart
      rw [KasT.kasWp_bind]
      refine desc_ok O hc hp (n - (1 + 1)) (1 + 1) (by omega) (by omega) (fun i j hij hj => ?_) (fun k' a b d => ?_)
      · obtain rfl : i = 0 := by omega
        obtain rfl : j = 1 := by omega
        exact e'
      · show (if 0 > 0 then _ else kas_tail3 k' n p).kasWp cmp Q s
        rw [if_neg (by omega)]
        exact tail3_ok O hc hp (by omega) (by omega) d q
theorem place_ok (O : Ord n lt) (hc : ∀ i j (C : Bool → Shared → Prop), i < n → j < n → C (lt i j) s → cmp i j C s) {p : Array Nat} (hp : Pm n p) {k : Nat} (hk : k < n) (ha : Asc lt p k) {Q : Nat → Shared → Prop} : ∀ (f l r : Nat), l ≤ r → r ≤ k → r - l ≤ f →
    (∀ i, i < l → lt (g p i) (g p k) = true) → (∀ i, r ≤ i → i < k → lt (g p k) (g p i) = true) → (∀ l', l' ≤ k → (∀ i, i < l' → lt (g p i) (g p k) = true) → (∀ i, l' ≤ i → i < k → lt (g p k) (g p i) = true) → Q l' s) → (kas_place p k f l r).kasWp cmp Q s
  | 0, l, r, h1, h2, h3, a, b, q => q l (by omega) a (fun i hi hik => b i (by omega) hik)
  | f + 1, l, r, h1, h2, h3, a, b, q => by
    unfold kas_place
    by_cases h : l ≥ r
    · rw [if_pos h]
      exact q l (by omega) a (fun i hi hik => b i (by omega) hik)
    · rw [if_neg h]
      show cmp (g p k) (g p ((l + r) / 2)) _ s
      have hm : (l + r) / 2 < k := by omega
      refine hc _ _ _ (hp.lt hk) (hp.lt (by omega)) ?_
      cases c : lt (g p k) (g p ((l + r) / 2)) with
      | true =>
        refine place_ok O hc hp hk ha f l ((l + r) / 2) (by omega) (by omega) (by omega) a (fun i hi hik => ?_) q
        by_cases him : i = (l + r) / 2
        · rw [him]; exact c
        · exact O.tr _ _ _ (hp.lt hk) (hp.lt (by omega)) (hp.lt (by omega)) c (ha _ _ (by omega) hik)
      | false =>
        have c' := O.tot _ _ (hp.lt hk) (hp.lt (by omega)) (hp.ne hk (by omega) (by omega)) c
        refine place_ok O hc hp hk ha f ((l + r) / 2 + 1) r (by omega) (by omega) (by omega) (fun i hi => ?_) b q
        by_cases him : i = (l + r) / 2
        · rw [him]; exact c'
        · exact O.tr _ _ _ (hp.lt (by omega)) (hp.lt (by omega)) (hp.lt hk) (ha i _ (by omega) hm) c'
theorem g_bub {p : Array Nat} {k l : Nat} (hk : k < p.size) (hl : l ≤ k) (i : Nat) : g (bubble p k (k - l)) i = if i = l then g p k else if l < i ∧ i ≤ k then g p (i - 1) else g p i := by
  have e := getElem?_bubble hk (k - l) (by omega) i
  have e1 : k - (k - l) = l := by omega
  rw [e1] at e
  unfold g
  rw [Array.getD_eq_getD_getElem?, e]
  by_cases h1 : i = l
  · rw [if_pos h1, if_pos h1, Array.getD_eq_getD_getElem?]
  · rw [if_neg h1, if_neg h1]
    by_cases h2 : l < i ∧ i ≤ k
    · rw [if_pos h2, if_pos h2, Array.getD_eq_getD_getElem?]
    · rw [if_neg h2, if_neg h2, Array.getD_eq_getD_getElem?]
theorem bin_ok (O : Ord n lt) (hc : ∀ i j (C : Bool → Shared → Prop), i < n → j < n → C (lt i j) s → cmp i j C s) {Q : Array Nat → Shared → Prop} (q : ∀ p', Pm n p' → Asc lt p' n → Q p' s) : ∀ (f k : Nat) (p : Array Nat), Pm n p → k + f = n → Asc lt p k → (kas_bin f p k).kasWp cmp Q s
  | 0, k, p, hp, hk, ha => q p hp (show Asc lt p n from (show k = n by omega) ▸ ha)
  | f + 1, k, p, hp, hk, ha => by
    unfold kas_bin
    rw [KasT.kasWp_bind]
    refine place_ok O hc hp (by omega) ha k 0 k (Nat.zero_le _) (Nat.le_refl _) (by omega) (fun i hi => by omega) (fun i h1 h2 => by omega) (fun l hl a b => ?_)
    refine bin_ok O hc q f (k + 1) (bubble p k (k - l)) (hp.perm (bubble_perm _ _ _)) (by omega) (fun i j hij hj => ?_)
    have hk' : k < p.size := by rw [hp.size]; omega
    rw [g_bub hk' hl, g_bub hk' hl]
    by_cases i1 : i = l
    · rw [if_pos i1, if_neg (by omega), if_pos (by omega)]
      exact b _ (by omega) (by omega)
    · rw [if_neg i1]
      by_cases j1 : j = l
      · rw [if_pos j1, if_neg (by omega)]
        exact a _ (by omega)
      · rw [if_neg j1]
        by_cases i2 : l < i ∧ i ≤ k
        · rw [if_pos i2, if_pos (by omega)]
          exact ha _ _ (by omega) (by omega)
        · rw [if_neg i2]
          by_cases j2 : l < j ∧ j ≤ k
          · rw [if_pos j2]
            exact ha _ _ (by omega) (by omega)
          · rw [if_neg j2]
            exact ha _ _ hij (by omega)
theorem sort_ok (O : Ord n lt) (hc : ∀ i j (C : Bool → Shared → Prop), i < n → j < n → C (lt i j) s → cmp i j C s) (hn : 1 ≤ n) {Q : Array Nat → Shared → Prop} (q : ∀ p', Pm n p' → Asc lt p' n → Q p' s) : (kas_sort n).kasWp cmp Q s := by
  unfold kas_sort
  rw [KasT.kasWp_bind]
  refine count_ok O hc (show Pm n (List.toArray (List.range n)) from List.Perm.refl _) hn (fun m p' hp h1 h2 ha => ?_)
  show (if m < n then kas_bin (n - max m 1) p' (max m 1) else KasT.ret p').kasWp cmp Q s
  have hm : max m 1 = m := by omega
  rw [hm]
  by_cases h : m < n
  · rw [if_pos h]
    exact bin_ok O hc q _ _ _ hp (by omega) ha
  · rw [if_neg h]
    exact q p' hp (show Asc lt p' n from (show m = n by omega) ▸ ha)
end
end L2.Srt

set_option Elab.async false
set_option linter.all false
set_option maxRecDepth 100000
set_option maxHeartbeats 2000000
namespace L2
open PySem PySem.Spec PyProof.Rows
/-! ### keys of three ints -/
abbrev K3 := Int × Int × Int
def lt3 (a b : K3) : Bool := if a.1 = b.1 then (if a.2.1 = b.2.1 then decide (a.2.2 < b.2.2) else decide (a.2.1 < b.2.1)) else decide (a.1 < b.1)
def k3 (a : K3) : List V := [.int a.1, .int a.2.1, .int a.2.2]
theorem lt3_iff (a b : K3) : lt3 a b = true ↔ (a.1 < b.1 ∨ (a.1 = b.1 ∧ (a.2.1 < b.2.1 ∨ (a.2.1 = b.2.1 ∧ a.2.2 < b.2.2)))) := by
  unfold lt3
  by_cases h1 : a.1 = b.1
  · rw [if_pos h1]
    by_cases h2 : a.2.1 = b.2.1
    · rw [if_pos h2]
      simp only [decide_eq_true_eq]
      omega
    · rw [if_neg h2]
      simp only [decide_eq_true_eq]
      omega
  · rw [if_neg h1]
    simp only [decide_eq_true_eq]
    omega
theorem lt3_tr {a b c : K3} (h1 : lt3 a b = true) (h2 : lt3 b c = true) : lt3 a c = true := by
  rw [lt3_iff] at h1 h2 ⊢
  omega
theorem lt3_asym {a b : K3} (h : lt3 a b = true) : lt3 b a = false := by
  cases e : lt3 b a with
  | false => rfl
  | true =>
    rw [lt3_iff] at h e
    omega
theorem lt3_tot {a b : K3} (hne : a ≠ b) (h : lt3 a b = false) : lt3 b a = true := by
  have h' : ¬ lt3 a b = true := by rw [h]; exact Bool.false_ne_true
  rw [lt3_iff] at h' ⊢
  have : ¬ (a.1 = b.1 ∧ a.2.1 = b.2.1 ∧ a.2.2 = b.2.2) := fun ⟨x, y, z⟩ => hne (Prod.ext x (Prod.ext y z))
  omega
theorem vals3 {a b c : Int} {its : List Value} (r : Vals [.int a, .int b, .int c] its) : ∃ t u v, its = [.int a t, .int b u, .int c v] := by
  cases r with
  | cons h1 r =>
    cases r with
    | cons h2 r =>
      cases r with
      | cons h3 r =>
        cases r
        obtain ⟨t, rfl⟩ := h1
        obtain ⟨u, rfl⟩ := h2
        obtain ⟨v, rfl⟩ := h3
        exact ⟨t, u, v, rfl⟩
section
variable {X : Cx} {pins : List (Addr × Obj)} {σ : St} {H : Hp} {s : Shared}
theorem lt_k3 (I : Inv X pins σ H s) {x y : Addr} {a b : K3} (hx : H x = some (.tup (k3 a))) (hy : H y = some (.tup (k3 b))) {A : Around} {Q : Bool → Shared → Prop} {E : Value → Shared → Prop} (h : Q (lt3 a b) s) : wpAny (model X.prog X.w) A (keyLt' (tuples' true) (.ref x) (.ref y)) Q E s := by
  obtain ⟨its, r, ⟨ox, ex, cx, nx, dx⟩, _⟩ := I.tuple (SqT.of hx)
  obtain ⟨jts, r', ⟨oy, ey, cy, ny, dy⟩, _⟩ := I.tuple (SqT.of hy)
  obtain ⟨t1, t2, t3, rfl⟩ := vals3 r
  obtain ⟨u1, u2, u3, rfl⟩ := vals3 r'
  refine PySem.W.kat_lt ex dx ey dy ?_
  show PySem.W.KatLex X.prog X.w A true (decide (3 < 3)) Q [(Value.int a.1 t1, Value.int b.1 u1), (Value.int a.2.1 t2, Value.int b.2.1 u2), (Value.int a.2.2 t3, Value.int b.2.2 u3)] 0 s
  unfold lt3 at h
  refine PySem.W.kat_cons (SeqAt.EqAt.int_int _ _ _ _ _ _ _ _ ?_)
  refine PySem.W.kat_go (fun e1 => PySem.W.kat_yes ?_) (fun e1 => PySem.W.kat_no ?_)
  · have e1' : a.1 = b.1 := by simpa using e1
    rw [if_pos e1'] at h
    refine PySem.W.kat_cons (SeqAt.EqAt.int_int _ _ _ _ _ _ _ _ ?_)
    refine PySem.W.kat_go (fun e2 => PySem.W.kat_yes ?_) (fun e2 => PySem.W.kat_no ?_)
    · have e2' : a.2.1 = b.2.1 := by simpa using e2
      rw [if_pos e2'] at h
      refine PySem.W.kat_cons (SeqAt.EqAt.int_int _ _ _ _ _ _ _ _ ?_)
      refine PySem.W.kat_go (fun e3 => PySem.W.kat_yes ?_) (fun e3 => PySem.W.kat_no ?_)
      · have e3' : a.2.2 = b.2.2 := by simpa using e3
        refine PySem.W.kat_nil ?_
        rw [e3', decide_eq_false (Int.lt_irrefl _)] at h
        exact h
      · exact PySem.W.kat_one _ _ (lt_int h)
    · have e2' : ¬ a.2.1 = b.2.1 := by simpa using e2
      rw [if_neg e2'] at h
      exact PySem.W.kat_one _ _ (lt_int h)
  · have e1' : ¬ a.1 = b.1 := by simpa using e1
    rw [if_neg e1'] at h
    exact oneLt_int h
/-! ### a context further in -/
def inX (X : Cx) : Cx := { X with A := X.A.in1.in1, xe := fun _ _ => False }
theorem Inv.inn (I : Inv X pins σ H s) : Inv (inX X) pins σ H s :=
  ⟨⟨I.ok.mod, I.ok.kind, I.ok.glob, I.ok.blt, I.ok.above, I.ok.inj, I.ok.has, I.ok.cab, I.ok.hd, I.ok.frames, I.ok.stk, I.ok.exf, I.ok.bs, I.ok.bsz, I.ok.noex, I.ok.exfs, I.ok.funs, I.ok.frf⟩, I.os, I.bare, I.base, I.loc, I.cell, I.free, I.freeC, I.pin, I.hok, I.len⟩
theorem Inv.out (I : Inv (inX X) pins σ H s) (hok : X.Ok) : Inv X pins σ H s :=
  ⟨hok, I.os, I.bare, I.base, I.loc, I.cell, I.free, I.freeC, I.pin, I.hok, I.len⟩
/-- an object of ours that was not tracked is tracked from now on -/
theorem Inv.adopt {D : Addr} {o : HO} (I : Inv X pins σ H s) (hn : H D = none) (hL : D ≠ X.env.locals) (h1 : D ∈ X.ex ∨ X.s₀.heap.objs.size ≤ D) (h2 : ∀ x c, X.env.cells.lookup x = some c → c ≠ D) (h3 : ∀ p ∈ X.pn ++ pins, p.1 ≠ D)
    (new : ObjOk X.prog X.w (upd H D o) s.heap D o) : Inv X pins σ (upd H D o) s := by
  have ne : ∀ b u, H b = some u → b ≠ D := fun b u e z => by rw [z, hn] at e; cases e
  refine I.step (g' := s.gens) (d' := s.drawn) (t' := s.toks) (h' := s.heap) (ch := [D]) (fun b hb => ?_) (fun b o _ _ _ e _ => e) (fun b o _ _ _ e _ => ⟨o.slots, e⟩) (fun b o hc e n => ?_) (fun b o _ e => ⟨o, e⟩) (fun b xs e => ?_) (fun b ob u e => ?_) (fun b ps e => ⟨#[], ?_⟩) (fun m hm => hm) (fun b u e => ?_) I.bare
  · obtain rfl : b = D := by simpa using hb
    exact ⟨h1, hL, h2, h3⟩
  · rw [upd_ne (fun z => hc (by simp [z]))]
    exact n
  · rw [upd_ne (ne _ _ e)]
    exact e
  · rw [upd_ne (ne _ _ e)]
    exact e
  · rw [upd_ne (ne _ _ e), e]
    simp
  · by_cases hb : b = D
    · subst hb
      rw [upd_same] at e
      cases e
      exact new
    · rw [upd_ne hb] at e
      exact (I.hok b u e).stay (fun _ _ _ q => q) (fun c q => by rw [upd_ne (ne _ _ q)]; exact q) fun c xs q => by rw [upd_ne (ne _ _ q)]; exact q
end
end L2

set_option Elab.async false
set_option linter.all false
set_option maxRecDepth 100000
set_option maxHeartbeats 400000
namespace L2
open PySem PySem.Spec PyProof.Rows
section
variable {X : Cx} {pins : List (Addr × Obj)} {σ : St} {H : Hp} {s : Shared} {D kS : Addr}
/-- what never changes of an address of ours -/
structure Ours (X : Cx) (pins : List (Addr × Obj)) (D : Addr) : Prop where
  nl : D ≠ X.env.locals
  nf : D ∉ X.fs
  ex : D ∈ X.ex ∨ X.s₀.heap.objs.size ≤ D
  ce : ∀ x c, X.env.cells.lookup x = some c → c ≠ D
  pn : ∀ p ∈ X.pn ++ pins, p.1 ≠ D
theorem Ours.of {H' : Hp} (h : FpOk X pins H' D) : Ours X pins D := by
  obtain ⟨_, a, b, c, d, e⟩ := h
  exact ⟨a, b, c, d, e⟩
abbrev pinsOf (pins : List (Addr × Obj)) (D kS : Addr) (e1 : Nat) (ks : List Addr) (e : Nat) : List (Addr × Obj) := pins ++ [(D, seqObj "list" #[] e1), (kS, seqObj "list" (ks.map Value.ref).toArray e)]
structure KeysAt (ts ks : List Addr) (kf : Addr → K3) (H : Hp) : Prop where
  at_ : ∀ (j : Nat) (t k : Addr), ts[j]? = some t → ks[j]? = some k → H k = some (.tup (k3 (kf t)))
variable {ts : List Addr} {kf : Addr → K3}
theorem tail_ok {e1 e : Nat} {ks out : List Addr} {st : SortSt} {P : PySem.Fin → Shared → Prop} {A : Around} {E : Value → Shared → Prop} {H1 : Hp} (oD : Ours X pins D) (oK : Ours X pins kS) (hne : D ≠ kS) (J : Inv (inX X) (pinsOf pins D kS e1 ks e) σ H1 s) (hok : X.Ok)
    (hout : (arrOf st).map (·.2) = (out.map Value.ref).toArray) (hf : failedOf st = none) (hz : out.length < 64) (hkz : ks.length < 64)
    (fin : ∀ s', Inv X pins σ (upd H1 D (.lst (out.map V.ref))) s' → H1 D = none → P (.done (.ret .none)) s') : wpAny (model X.prog X.w) A (ksk_tail D false e1 (.ref kS) st) P E s := by
  obtain ⟨nD, fD, _⟩ := J.pin (D, seqObj "list" #[] e1) (List.mem_append_right _ (List.mem_append_right _ (.head _)))
  obtain ⟨nk, fk, _⟩ := J.pin (kS, seqObj "list" (ks.map Value.ref).toArray e) (List.mem_append_right _ (List.mem_append_right _ (.tail _ (.head _))))
  have J0 : Inv X pins σ H1 s := (J.pins_of (pins' := pins) fun p hp => by
    obtain ⟨a, b, c, d, f⟩ := J.pin p (List.mem_append_right _ (List.mem_append_left _ hp))
    exact ⟨a, b, c, d, f⟩).out hok
  unfold ksk_tail
  dsimp only
  rw [hout]
  have s1 := Heap.SameBut.update s.heap kS (Obj.mapSeq fun _ => (#[] : Array Value))
  have J1 : Inv X pins σ H1 { s with heap := s.heap.update kS (Obj.mapSeq fun _ => (#[] : Array Value)) } := J0.turned (it := kS) (t' := s.toks) (fun b o hb e => (s1.2 b hb).trans e) fk oK.nl oK.ex oK.ce oK.pn
  have nD1 : (s.heap.update kS (Obj.mapSeq fun _ => (#[] : Array Value))).get? D = some (seqObj "list" #[] e1) := (s1.2 D hne).trans nD
  refine wpAny_bind (listUpdate_at nk rfl ?_ (by rw [List.size_toArray, List.length_map, sizeLine_eq]; omega) (Nat.zero_le _))
  refine wpAny_bind (wpAny_letGo ?_)
  refine wpAny_bind (seqEpoch_at nD1 rfl ?_)
  have hsz : ((out.map Value.ref).toArray).size = out.length := by rw [List.size_toArray, List.length_map]
  refine wpAny_bind (listUpdate_at nD1 rfl ?_ (Nat.zero_le _) (Nat.le_trans (Nat.le_of_eq hsz) (by rw [sizeLine_eq]; omega)))
  rw [hf]
  simp only [bne_self_eq_false, Bool.false_eq_true, if_false]
  have s2 := Heap.SameBut.update (s.heap.update kS (Obj.mapSeq fun _ => (#[] : Array Value))) D (Obj.mapSeq fun _ => (out.map Value.ref).toArray)
  obtain ⟨c2, hc2⟩ : ∃ c2, ((s.heap.update kS (Obj.mapSeq fun _ => (#[] : Array Value))).update D (Obj.mapSeq fun _ => (out.map Value.ref).toArray)).get? D = some (seqObj "list" (out.map Value.ref).toArray c2) := ⟨_, get?_update_seq nD1 fun _ => (out.map Value.ref).toArray⟩
  have J2 : Inv X pins σ H1 { s with heap := (s.heap.update kS (Obj.mapSeq fun _ => (#[] : Array Value))).update D (Obj.mapSeq fun _ => (out.map Value.ref).toArray) } := Inv.turned (s := { s with heap := s.heap.update kS (Obj.mapSeq fun _ => (#[] : Array Value)) }) (it := D) (t' := s.toks) J1 (fun b o hb e => (s2.2 b hb).trans e) fD oD.nl oD.ex oD.ce oD.pn
  refine wpAny_pure (fin _ (J2.adopt fD oD.nl oD.ex oD.ce oD.pn ?_) fD)
  refine ⟨by rw [List.length_map, sizeLine_eq]; omega, out.map Value.ref, c2, ?_, hc2⟩
  have : ∀ l : List Addr, Vals (l.map V.ref) (l.map Value.ref) := fun l => by
    induction l with
    | nil => exact .nil
    | cons x r ih => exact .cons rfl ih
  exact this out
theorem map_getD (ts : List Addr) : (List.range ts.length).map (fun i => ts.getD i 0) = ts := by
  apply List.ext_getElem
  · simp
  · intro i h1 h2
    simp [h2]
theorem pw_small {R : Addr → Addr → Prop} : ∀ ts : List Addr, ts.length < 2 → ts.Pairwise R
  | [], _ => List.Pairwise.nil
  | [t], _ => List.pairwise_singleton _ _
  | _ :: _ :: _, h => absurd h (by simp)
theorem end_ok {e1 e : Nat} {ks : List Addr} {P : PySem.Fin → Shared → Prop} {A : Around} {E : Value → Shared → Prop} {H1 : Hp} (oD : Ours X pins D) (oK : Ours X pins kS) (hne : D ≠ kS) (J : Inv (inX X) (pinsOf pins D kS e1 ks e) σ H1 s) (hok : X.Ok)
    (hl : ks.length = ts.length) (hk : KeysAt ts ks kf H1) (h64 : ts.length < 64) (inj : (ts.map kf).Nodup)
    (fin : ∀ (s' : Shared) (out : List Addr), out.Perm ts → out.Pairwise (fun a b => lt3 (kf a) (kf b) = true) → Inv X pins σ (upd H1 D (.lst (out.map V.ref))) s' → H1 D = none → P (.done (.ret .none)) s') :
    wpAny (model X.prog X.w) A (ksk_end D false (ts.map Value.ref).toArray e1 (.ref kS) (ks.map Value.ref).toArray) P E s := by
  have hlen : (ks.map Value.ref).length = (ts.map Value.ref).length := by rw [List.length_map, List.length_map, hl]
  unfold ksk_end
  dsimp only
  simp only [Bool.false_eq_true, if_false]
  by_cases h2 : ts.length < 2
  · rw [if_pos (by rw [List.size_toArray, List.length_map]; exact h2), if_pos (by rw [List.size_toArray, List.length_map]; exact h2)]
    refine wpAny_bind (wpAny_pure ?_)
    rw [StateT.run_pure]
    refine wpAny_bind (wpAny_pure ?_)
    dsimp only
    refine tail_ok (st := SortSt.mk' general' ((ks.map Value.ref).toArray.zip (ts.map Value.ref).toArray) #[] 7 none) (out := ts) oD oK hne J hok ?_ rfl (by omega) (by omega) (fun s' I f => fin s' ts (List.Perm.refl _) ?_ I f)
    · rw [show arrOf (SortSt.mk' general' ((ks.map Value.ref).toArray.zip (ts.map Value.ref).toArray) #[] 7 none) = (ks.map Value.ref).toArray.zip (ts.map Value.ref).toArray from rfl]
      apply Array.toList_inj.mp
      rw [Array.toList_map, ksk_zip]
      simp only [List.map_snd_zip (Nat.le_of_eq hlen.symm)]
    · exact pw_small ts h2
  · rw [if_neg (by rw [List.size_toArray, List.length_map]; exact h2), if_neg (by rw [List.size_toArray, List.length_map]; exact h2)]
    have keyAt : ∀ j, j < ts.length → ∃ t k, ts[j]? = some t ∧ ks[j]? = some k ∧ H1 k = some (.tup (k3 (kf t))) := fun j hj => by
      have hj' : j < ks.length := by omega
      exact ⟨ts[j], ks[j], List.getElem?_eq_getElem hj, List.getElem?_eq_getElem hj', hk.at_ j _ _ (List.getElem?_eq_getElem hj) (List.getElem?_eq_getElem hj')⟩
    have tups : ∀ (l m : List Addr), l.length = m.length → (∀ (j : Nat) (t k : Addr), m[j]? = some t → l[j]? = some k → H1 k = some (.tup (k3 (kf t)))) → ∃ fs, PySem.W.KatTups s.heap (l.map Value.ref) fs ∧ fs.length = l.length ∧ ∀ v ∈ fs, ∃ n t, v = Value.int n t := fun l => by
      induction l with
      | nil => intro m _ _; exact ⟨[], PySem.W.KatTups.nil, rfl, fun v hv => by cases hv⟩
      | cons x r ih =>
        intro m hm h
        match m, hm with
        | t :: m, hm =>
          obtain ⟨fs, a, b, c⟩ := ih m (by simpa using hm) (fun j t' k' h1 h2 => h (j + 1) t' k' (by simpa using h1) (by simpa using h2))
          obtain ⟨its, rr, ⟨o, eo, co, no, dO⟩, _⟩ := J.tuple (SqT.of (h 0 t x rfl rfl))
          obtain ⟨t1, t2, t3, rfl⟩ := vals3 rr
          refine ⟨Value.int (kf t).1 t1 :: fs, PySem.W.KatTups.cons eo co dO rfl a, by simp [b], fun v hv => ?_⟩
          rcases List.mem_cons.mp hv with rfl | hv
          · exact ⟨_, _, rfl⟩
          · exact c v hv
    obtain ⟨fs, kt, hfl, hfi⟩ := tups ks ts hl (fun j t k a b => hk.at_ j t k a b)
    refine wpAny_bind (PySem.W.kat_kind (T := .type "int") kt (by omega) (fun v hv => ?_) rfl ?_)
    · obtain ⟨n, t, rfl⟩ := hfi v hv
      exact .now
    show wpAny (model X.prog X.w) A _ P E s
    refine wpAny_bind (wpAny_mono (PySem.W.kat_run (ks := ks.map Value.ref) (vs := ts.map Value.ref) (Q := fun st' s' => ∃ p : Array Nat, s' = s ∧ arrOf st' = p.map (PySem.W.kas_item ((ks.map Value.ref).toArray.zip (ts.map Value.ref).toArray)) ∧ failedOf st' = none ∧ Srt.Pm ts.length p ∧ Srt.Asc (fun i j => lt3 (kf (ts.getD i 0)) (kf (ts.getD j 0))) p ts.length)
      (G := fun p s' => s' = s ∧ Srt.Pm ts.length p ∧ Srt.Asc (fun i j => lt3 (kf (ts.getD i 0)) (kf (ts.getD j 0))) p ts.length)
      hlen (by rw [List.length_map]; omega) (by rw [List.length_map]; exact h64) (fun p st' s' a1 a2 a3 a4 => ⟨p, a4.1, a2, a3, a4.2⟩) ?_) ?_ fun _ _ x => x)
    · rw [List.length_map]
      have O : Srt.Ord ts.length (fun i j => lt3 (kf (ts.getD i 0)) (kf (ts.getD j 0))) := by
        refine ⟨fun i j k _ _ _ a b => lt3_tr a b, fun i j hi hj hij h => lt3_tot (fun e => hij ?_) h, fun i j _ _ h => lt3_asym h⟩
        have gi : ts.getD i 0 = ts[i] := by simp [hi]
        have gj : ts.getD j 0 = ts[j] := by simp [hj]
        rw [gi, gj] at e
        have hi' : i < (ts.map kf).length := by rw [List.length_map]; exact hi
        have hj' : j < (ts.map kf).length := by rw [List.length_map]; exact hj
        exact (List.getElem_inj (i := i) (j := j) (h₀ := hi') (h₁ := hj') inj).mp (by rw [List.getElem_map, List.getElem_map]; exact e)
      refine Srt.sort_ok O (fun i j C hi hj hC => ?_) (by omega) (fun p' a b => ⟨rfl, a, b⟩)
      obtain ⟨t, k, et, ek, eH⟩ := keyAt i hi
      obtain ⟨t', k', et', ek', eH'⟩ := keyAt j hj
      unfold PySem.W.kas_ask
      have g1 : (ks.map Value.ref).getD i Value.none = .ref k := by simp [ek]
      have g2 : (ks.map Value.ref).getD j Value.none = .ref k' := by simp [ek']
      have g3 : ts.getD i 0 = t := by simp [et]
      have g4 : ts.getD j 0 = t' := by simp [et']
      rw [g1, g2]
      rw [g3, g4] at hC
      exact lt_k3 J eH eH' hC
    · rintro ⟨⟨⟩, st'⟩ s' ⟨p, rfl, har, hf, pm, asc⟩
      dsimp only
      have hsz := pm.size
      refine tail_ok (out := p.toList.map fun i => ts.getD i 0) oD oK hne J hok ?_ hf (by rw [List.length_map, Array.length_toList]; omega) (by omega) (fun s' I f => fin s' _ ?_ ?_ I f)
      · rw [PySem.W.kat_snds hlen har, List.map_map]
        congr 1
        refine List.map_congr_left fun i hi => ?_
        have hi' : i < ts.length := List.mem_range.mp (pm.mem_iff.mp hi)
        simp [hi']
      · have := List.Perm.map (fun i => ts.getD i 0) pm
        rw [map_getD] at this
        exact this
      · rw [List.pairwise_map, List.pairwise_iff_getElem]
        intro i j hi hj hij
        rw [Array.length_toList] at hi hj
        have := asc i j hij (by omega)
        dsimp only at this
        rw [Srt.g_eq hi, Srt.g_eq hj] at this
        exact this
end
end L2

set_option Elab.async false
set_option linter.all false
set_option maxRecDepth 100000
set_option maxHeartbeats 400000
namespace L2
open PySem PySem.Spec PyProof.Rows
section
variable {X : Cx} {pins : List (Addr × Obj)} {σ : St} {H : Hp} {s : Shared} {D kS : Addr} {ts : List Addr} {kf : Addr → K3}
/-- the keys are asked for one by one, and the list is sorted by them -/
theorem rest_ok {y : Str} {ps : List Str} {sp : Sp} {j : Nat} {f : Addr} (F : Knows X.prog X.w X.K X.mg X.base j y ps sp) (hf : X.mg y = some (.ref f)) (hr : Room (j + 2) X.A) {e1 : Nat} {P : PySem.Fin → Shared → Prop} {E : Value → Shared → Prop} (oD : Ours X pins D) (oK : Ours X pins kS) (hne : D ≠ kS)
    (J : Inv X (pinsOf pins D kS e1 [] 0) σ H s) (h64 : ts.length < 64) (inj : (ts.map kf).Nodup)
    (hsp : ∀ t ∈ ts, ∀ H1, Same H H1 → ∀ Q' : VK, (∀ T H2, Same H1 H2 → H2 T = some (.tup (k3 (kf t))) → Q' (.ref T) H2) → sp [.ref t] H1 Q' E0)
    (fin : ∀ (s' : Shared) (H2 : Hp) (out : List Addr), Same H H2 → out.Perm ts → out.Pairwise (fun a b => lt3 (kf a) (kf b) = true) → Inv X pins σ (upd H2 D (.lst (out.map V.ref))) s' → H2 D = none → P (.done (.ret .none)) s') :
    wpAny (model X.prog X.w) X.A.in1.in1 (ksk_rest D (.ref f) false (ts.map Value.ref).toArray e1 (.ref kS)) P E s := by
  obtain ⟨f', fd, hm, hkp, hb, G⟩ := F
  rw [hf] at hm
  cases hm
  unfold ksk_rest
  refine wpAny_bind (wpAny_rule ?_)
  first
    | rw [List.forIn_toArray]
    | (rw [← Array.forIn_toList]; simp only [List.toList_toArray])
    | rw [← Array.forIn_toList]
  refine wpAny_bind (ksk_fold (fun i s' => ∃ (ks : List Addr) (e : Nat) (H1 : Hp), ks.length = i ∧ Inv (inX X) (pinsOf pins D kS e1 ks e) σ H1 s' ∧ Same H H1 ∧ KeysAt ts ks kf H1) (ts.map Value.ref) 0 s ⟨[], 0, H, rfl, J.inn, Same.refl _, ⟨fun j t k _ h => by simp at h⟩⟩ ?_ ?_)
  · rintro i x s1 hx ⟨ks, e, H1, hl, J1, sm, hk⟩
    rw [List.getElem?_map] at hx
    obtain ⟨t, ht, rfl⟩ := Option.map_eq_some_iff.mp hx
    have hlen : i < ts.length := (List.getElem?_eq_some_iff.mp ht).1
    have hrun := run_fn (X := inX X) (Q := fun v H2 => ∃ T, v = .ref T ∧ Same H1 H2 ∧ H2 T = some (.tup (k3 (kf t)))) G (show Room j (inX X).A from hr.in1.in1) hb .nil pass0 J1 (vs := [.ref t]) (us := [.ref t]) (.cons rfl .nil) (hsp t (List.mem_of_getElem? ht) H1 sm _ (fun T H2 s2 e2 => ⟨T, rfl, s2, e2⟩))
    refine wpAny_bind (wpAny_attempt (wpAny_mono hrun (fun u s2 hq => ?_) (fun _ _ hF => hF.elim)))
    obtain ⟨v, H2, J2, rv, T, rfl, sm2, eT⟩ := hq
    cases rv
    obtain ⟨nk, fk, lk, ffk, dk⟩ := J2.pin (kS, seqObj "list" (ks.map Value.ref).toArray e) (List.mem_append_right _ (List.mem_append_right _ (.tail _ (.head _))))
    have s3 := Heap.SameBut.update s2.heap kS (Obj.mapSeq (·.push (Value.ref T)))
    have ea : (ks.map Value.ref).toArray.push (Value.ref T) = ((ks ++ [T]).map Value.ref).toArray := by simp
    obtain ⟨c2, hc2⟩ : ∃ c2, (s2.heap.update kS (Obj.mapSeq (·.push (Value.ref T)))).get? kS = some (seqObj "list" ((ks ++ [T]).map Value.ref).toArray c2) := ⟨_, by rw [← ea]; exact get?_update_seq nk (·.push (Value.ref T))⟩
    have J3 : Inv (inX X) (pins ++ [(D, seqObj "list" #[] e1)]) σ H2 s2 := J2.pins_of fun p hp => by
      have hp' : p ∈ pinsOf pins D kS e1 ks e := by
        rcases List.mem_append.mp hp with h | h
        · exact List.mem_append_left _ h
        · rw [List.mem_singleton.mp h]
          exact List.mem_append_right _ (.head _)
      exact J2.pin p (List.mem_append_right _ hp')
    have J4 : Inv (inX X) (pins ++ [(D, seqObj "list" #[] e1)]) σ H2 { s2 with heap := s2.heap.update kS (Obj.mapSeq (·.push (Value.ref T))) } := J3.turned (it := kS) (t' := s2.toks) (fun b o hb e => (s3.2 b hb).trans e) fk oK.nl oK.ex oK.ce (fun p hp => by
      rcases List.mem_append.mp hp with h | h
      · exact oK.pn p (List.mem_append_left _ h)
      · rcases List.mem_append.mp h with h | h
        · exact oK.pn p (List.mem_append_right _ h)
        · rw [List.mem_singleton.mp h]
          exact hne)
    have J5 : Inv (inX X) (pinsOf pins D kS e1 (ks ++ [T]) c2) σ H2 { s2 with heap := s2.heap.update kS (Obj.mapSeq (·.push (Value.ref T))) } := J4.pins_of fun p hp => by
      rcases List.mem_append.mp hp with h | h
      · exact J4.pin p (List.mem_append_right _ (List.mem_append_left _ h))
      · rcases List.mem_cons.mp h with h | h
        · rw [h]
          exact J4.pin _ (List.mem_append_right _ (List.mem_append_right _ (.head _)))
        · rw [List.mem_singleton.mp h]
          exact ⟨hc2, fk, lk, ffk, fun v z => by cases z⟩
    refine wpAny_bind (listUpdate_at nk rfl ?_ (by rw [List.size_toArray, List.length_map, sizeLine_eq]; omega) (Nat.le_trans (Nat.le_of_eq (Array.size_push ..)) (by rw [List.size_toArray, List.length_map, sizeLine_eq]; omega)))
    refine wpAny_pure ⟨rfl, ks ++ [T], c2, H2, by rw [List.length_append]; simp; omega, J5, sm.trans sm2, ⟨fun j' t' k' h1 h2 => ?_⟩⟩
    by_cases hj : j' < ks.length
    · rw [List.getElem?_append_left hj] at h2
      exact sm2 _ _ (hk.at_ j' t' k' h1 h2)
    · rw [List.getElem?_append_right (by omega)] at h2
      have hj2 : j' - ks.length = 0 := by
        have := (List.getElem?_eq_some_iff.mp h2).1
        simp at this
        omega
      rw [hj2] at h2
      cases h2
      have : j' = i := by omega
      rw [this, ht] at h1
      cases h1
      exact eT
  · rintro s1 ⟨ks, e, H1, hl, J1, sm, hk⟩
    obtain ⟨nk, _⟩ := J1.pin (kS, seqObj "list" (ks.map Value.ref).toArray e) (List.mem_append_right _ (List.mem_append_right _ (.tail _ (.head _))))
    refine wpAny_bind (listItems_at nk rfl ?_)
    exact end_ok oD oK hne J1 J.ok (by rw [hl, List.length_map]; omega) hk h64 inj (fun s' out a b c d => fin s' H1 out sm a b c d)
theorem tree_ok {y : Str} {ps : List Str} {sp : Sp} {j : Nat} {f : Addr} (F : Knows X.prog X.w X.K X.mg X.base j y ps sp) (hf : X.mg y = some (.ref f)) (hr : Room (j + 2) X.A) {P : PySem.Fin → Shared → Prop} {E : Value → Shared → Prop} (oD : Ours X pins D) (hDn : H D = none)
    (ho : s.heap.get? D = some (seqObj "list" (ts.map Value.ref).toArray 0)) (I : Inv X pins σ H s) (h64 : ts.length < 64) (inj : (ts.map kf).Nodup)
    (hsp : ∀ t ∈ ts, ∀ H1, Same H H1 → ∀ Q' : VK, (∀ T H2, Same H1 H2 → H2 T = some (.tup (k3 (kf t))) → Q' (.ref T) H2) → sp [.ref t] H1 Q' E0)
    (fin : ∀ (s' : Shared) (H2 : Hp) (out : List Addr), Same H H2 → out.Perm ts → out.Pairwise (fun a b => lt3 (kf a) (kf b) = true) → Inv X pins σ (upd H2 D (.lst (out.map V.ref))) s' → H2 D = none → P (.done (.ret .none)) s') :
    wpAny (model X.prog X.w) X.A.in1.in1 (ksk_tree D (.ref f) false) P E s := by
  have hDs : D < s.heap.objs.size := Heap.lt_size ho
  have s1 := Heap.SameBut.update s.heap D (Obj.mapSeq fun _ => (#[] : Array Value))
  obtain ⟨e1, ho1⟩ : ∃ e1, (s.heap.update D (Obj.mapSeq fun _ => (#[] : Array Value))).get? D = some (seqObj "list" #[] e1) := ⟨_, get?_update_seq ho fun _ => #[]⟩
  have I1 : Inv X pins σ H { s with heap := s.heap.update D (Obj.mapSeq fun _ => (#[] : Array Value)) } := I.turned (it := D) (t' := s.toks) (fun b o hb e => (s1.2 b hb).trans e) hDn oD.nl oD.ex oD.ce oD.pn
  have I2 : Inv X pins σ H { s with heap := (s.heap.update D (Obj.mapSeq fun _ => (#[] : Array Value))).push (seqObj "tuple" (ts.map Value.ref).toArray 0) } := Inv.kept (s := { s with heap := s.heap.update D (Obj.mapSeq fun _ => (#[] : Array Value)) }) (t' := s.toks) I1 fun b o e => Heap.get?_push_of_some _ e
  have hkS : ((s.heap.update D (Obj.mapSeq fun _ => (#[] : Array Value))).push (seqObj "tuple" (ts.map Value.ref).toArray 0)).objs.size = s.heap.objs.size + 1 := by rw [size_push', Heap.size_update]
  have hne : D ≠ ((s.heap.update D (Obj.mapSeq fun _ => (#[] : Array Value))).push (seqObj "tuple" (ts.map Value.ref).toArray 0)).objs.size := by rw [hkS]; exact Nat.ne_of_lt (Nat.lt_succ_of_lt hDs)
  have hKn := I2.hok.fresh (Nat.le_refl _)
  have oK : Ours X pins ((s.heap.update D (Obj.mapSeq fun _ => (#[] : Array Value))).push (seqObj "tuple" (ts.map Value.ref).toArray 0)).objs.size := Ours.of (I2.fpOk (Nat.le_refl _) hKn)
  have I3 : Inv X pins σ H { s with heap := ((s.heap.update D (Obj.mapSeq fun _ => (#[] : Array Value))).push (seqObj "tuple" (ts.map Value.ref).toArray 0)).push (seqObj "list" #[] 0) } := Inv.kept (s := { s with heap := (s.heap.update D (Obj.mapSeq fun _ => (#[] : Array Value))).push (seqObj "tuple" (ts.map Value.ref).toArray 0) }) (t' := s.toks) I2 fun b o e => Heap.get?_push_of_some _ e
  unfold ksk_tree
  refine wpAny_bind (listItems_at ho rfl ?_)
  refine wpAny_bind (listUpdate_at ho rfl ?_ (by rw [List.size_toArray, List.length_map, sizeLine_eq]; omega) (Nat.zero_le _))
  refine wpAny_bind (seqEpoch_at ho1 rfl ?_)
  refine wpAny_bind (wpAny_newTuple ?_ (by show (ts.map Value.ref).length ≤ _; rw [List.length_map, sizeLine_eq]; omega))
  refine wpAny_bind (wpAny_newList ?_ (Nat.zero_le _))
  refine wpAny_holding ?_
  refine rest_ok F hf hr oD oK hne (Inv.pins_of I3 fun p hp => ?_) h64 inj hsp fin
  rcases List.mem_append.mp hp with h | h
  · exact I3.pin p (List.mem_append_right _ h)
  · rcases List.mem_cons.mp h with h | h
    · rw [h]
      exact ⟨Heap.get?_push_of_some _ (Heap.get?_push_of_some _ ho1), hDn, oD.nl, oD.nf, fun v z => by cases z⟩
    · rw [List.mem_singleton.mp h]
      exact ⟨Heap.get?_push_size _ rfl, hKn, oK.nl, oK.nf, fun v z => by cases z⟩
/-- sorted(d.values(), key=f), the keys tuples of three ints, no two alike -/
theorem sortedK_ok {y : Str} {ps : List Str} {sp : Sp} {j : Nat} {f : Addr} {Q : VK} (hc : X.calm = true) (F : Knows X.prog X.w X.K X.mg X.base j y ps sp) (hf : X.mg y = some (.ref f)) (hr : Room (j + 2) X.A) (I : Inv X pins σ H s) {r d : Addr} {kvs : List (Key × V)}
    (hv : H r = some (ViewO r d)) (hd : H d = some (.dK kvs)) (hts : kvs.map (·.2) = ts.map V.ref) (h64 : ts.length < 64) (inj : (ts.map kf).Nodup)
    (hsp : ∀ t ∈ ts, ∀ H1, Same H H1 → ∀ Q' : VK, (∀ T H2, Same H1 H2 → H2 T = some (.tup (k3 (kf t))) → Q' (.ref T) H2) → sp [.ref t] H1 Q' E0)
    (q : ∀ (D : Addr) (H2 : Hp) (out : List Addr), Same H H2 → H2 D = none → out.Perm ts → out.Pairwise (fun a b => lt3 (kf a) (kf b) = true) → Q (.ref D) (upd H2 D (.lst (out.map V.ref)))) :
    wpAny (model X.prog X.w) X.A (call (.builtin "sorted") [.ref r] [(Str.ofString "key", .ref f)]) (EP X pins σ Q) X.xe s := by
  obtain ⟨hz, lo, vs, kv, ob, es, ep, e1, e2, e3, e4⟩ := (show ObjOk X.prog X.w H s.heap d (.dK kvs) from I.hok d _ hd)
  have hat : s.heap.DictAt (mixKind X.prog X.w) d vs ep := ⟨ob, es, e1, e2, e3, e4⟩
  have hvw : s.heap.IsValuesView r d := (I.hok r _ hv).1
  have hlen : vs.length = kvs.length := (kvLen kv).symm
  have hln : kvs.length = ts.length := by have := congrArg List.length hts; simpa using this
  refine call_function_entry_kw kind_sorted plain_sorted entry_sorted (ksk_s1 _ _) ?_
  unfold Builtin.«sorted»
  refine wpAny_bind (m := checkCount "sorted" 1 1 _) (wpAny_pure ?_)
  refine wpAny_bind (PySem.W.kdu_collect (A := X.A.in1) (PySem.W.kdl_values (knd := mixKind X.prog X.w) (kvs := vs) (ep := ep)) (I.ok.hd hc) ⟨hvw, hat⟩ (by omega) fun h' tk acc hk hacc => ?_)
  have ha : acc.toList = ts.map Value.ref := by
    apply List.ext_getElem?
    intro i
    by_cases hi : i < ts.length
    · have hi' : i < acc.toList.length := by have := hacc.1; rw [Array.length_toList]; omega
      rw [List.getElem?_eq_getElem hi', List.getElem?_map, List.getElem?_eq_getElem hi]
      obtain ⟨k, hx⟩ := hacc.2 i acc.toList[i] (by rw [← Array.getElem?_toList]; exact List.getElem?_eq_getElem hi')
      have h1 : (kvs.map (·.2))[i]? = some (V.ref ts[i]) := by rw [hts, List.getElem?_map, List.getElem?_eq_getElem hi]; rfl
      rw [List.getElem?_map] at h1
      obtain ⟨pr, hp, e5⟩ := Option.map_eq_some_iff.mp h1
      have rr := kvVal kv hp hx
      rw [e5] at rr
      exact congrArg some rr
    · rw [List.getElem?_eq_none (by have := hacc.1; rw [Array.length_toList]; omega), List.getElem?_eq_none (by rw [List.length_map]; omega)]
  rw [ha]
  have I1 : Inv X pins σ H { s with heap := h', toks := tk } := I.kept (t' := tk) hk
  have hDn : H h'.objs.size = none := I1.hok.fresh (Nat.le_refl _)
  have oD : Ours X pins h'.objs.size := Ours.of (I1.fpOk (Nat.le_refl _) hDn)
  refine wpAny_bind (wpAny_newList ?_ (by rw [List.length_map, sizeLine_eq]; omega))
  have I2 : Inv X pins σ H { s with heap := h'.push (seqObj "list" (ts.map Value.ref).toArray 0), toks := tk } := Inv.kept (s := { s with heap := h', toks := tk }) (t' := tk) I1 fun b o e => Heap.get?_push_of_some _ e
  have hoL : (h'.push (seqObj "list" (ts.map Value.ref).toArray 0)).get? h'.objs.size = some (seqObj "list" (ts.map Value.ref).toArray 0) := Heap.get?_push_size _ rfl
  refine wpAny_bind (wpAny_holding (wpAny_call_entry_kw slot_list_sort ⟨_, hoL, rfl⟩ entry_list_sort ?body (ksk_l1 _ _)))
  case body =>
    show wpAny (model X.prog X.w) X.A.in1.in1 (Builtin.«list.sort» ⟨[.ref h'.objs.size], [(Str.ofString "key", .ref f)]⟩) _ _ _
    rw [ksk_t1]
    refine tree_ok (s := { s with heap := h'.push (seqObj "list" (ts.map Value.ref).toArray 0), toks := tk }) (kf := kf) F hf hr oD hDn hoL I2 h64 inj hsp (fun s' H2 out sm pm pw I' hn => ⟨_, rfl, ?_⟩)
    exact wpAny_pure ⟨_, rfl, .ref h'.objs.size, _, I', rfl, q _ H2 out sm hn pm pw⟩
end
end L2

set_option Elab.async false
set_option linter.all false
set_option maxRecDepth 100000
set_option maxHeartbeats 400000
namespace L2
open PySem PySem.Spec PyProof.Rows
def sortTail (sp : Sp) (Q : VK) (x : V) (H1 : Hp) : Prop := ∃ (r d : Addr) (kvs : List (Key × V)) (ts : List Addr) (kf : Addr → K3), x = .ref r ∧ H1 r = some (ViewO r d) ∧ H1 d = some (.dK kvs) ∧ kvs.map (·.2) = ts.map V.ref ∧ ts.length < 64 ∧ (ts.map kf).Nodup ∧
  (∀ t ∈ ts, ∀ H2, Same H1 H2 → ∀ Q' : VK, (∀ T H3, Same H2 H3 → H3 T = some (.tup (k3 (kf t))) → Q' (.ref T) H3) → sp [.ref t] H2 Q' E0) ∧
  ∀ (D : Addr) (H2 : Hp) (out : List Addr), Same H1 H2 → H2 D = none → out.Perm ts → out.Pairwise (fun a b => lt3 (kf a) (kf b) = true) → Q (.ref D) (upd H2 D (.lst (out.map V.ref)))
/-- sorted(v, key=f), v a view of a dict's values -/
def tSortK (sp : Sp) (te : TE) : TE := fun σ H Q => te σ H fun x H1 => sortTail sp Q x H1
def oneV (T : V → Hp → Prop) : List V → Hp → Prop
  | [x], H => T x H
  | _, _ => False
section
variable {X : Cx} {e : Expr} {te : TE} {p py kpos pos : Pos} {y : Str} {ps : List Str} {sp : Sp} {j k : Nat}
theorem pe_sortedK (hc : X.calm = true) (F : Knows X.prog X.w X.K X.mg X.base j y ps sp) (hr : Room k X.A) (hm : X.mg "sorted" = none) (he : PE X e te) (hjk : j + 2 ≤ k := by decide) (hg : Gl X "sorted" := by rfl) (hgy : Gl X y := by rfl) (hdy : (y == ("__debug__" : Str)) = false := by decide) (hst : notStar e = true := by rfl)
    (hb : backTo pos (starEach [e] X.env) = (false, eval e X.env) :: backTo pos (starEach [] X.env) := by rfl) (hpl : (backTo pos (starEach [e] X.env)).any (·.1) = false := by rfl)
    (hall : (backToKw pos (keywordEach [⟨some "key", .Name y py, kpos⟩] X.env)).all (·.1.isSome) = true := by rfl) (hkw : (backToKw pos (keywordEach [⟨some "key", .Name y py, kpos⟩] X.env)).any (·.1.isNone) = false := by rfl)
    (hks : (backToKw pos (keywordEach [⟨some "key", .Name y py, kpos⟩] X.env)).filterMap (·.1) = [Str.ofString "key"] := by rfl) :
    PE X (.Call (.Name "sorted" p) [e] [⟨some "key", .Name y py, kpos⟩] pos) (tSortK sp te) := by
  intro pins s σ H Q I h
  obtain ⟨f, fd, hm', hk', hb', G⟩ := id F
  refine wpAny_Call_Name_kw (ld_blt I hg hm boot_sorted' ?_)
  have ha : PA X [e] (tCons te tNil) := pa_cons he pa_nil (star_cons hst)
  have hkk : PK X [⟨some "key", .Name y py, kpos⟩] (tCons (tC (.ref f)) tNil) := pk_cons (pe_glob (v := .ref f) hgy hm' rfl hdy) pk_nil
  refine callWith_kw (thn (ha pos pins s σ H (oneV (sortTail sp Q)) I h) fun us s1 ⟨vs, H1, I1, r1, q1⟩ => ?_) hb hpl hall hkw
  match vs, r1, q1 with
  | [x], r1, q1 =>
    obtain ⟨r, d, kvs, ts, kf, rfl, e1, e2, e3, e4, e5, e6, e7⟩ := q1
    obtain ⟨u, rfl, rx⟩ := vals1 r1
    cases rx
    refine thn (hkk pos pins s1 σ H1 (fun zs H2 => zs = [.ref f] ∧ H2 = H1) I1 ⟨rfl, rfl⟩) fun ws s2 ⟨zs, H2, I2, rz, q2, q3⟩ => ?_
    subst q2 q3
    obtain ⟨u2, rfl, ru⟩ := vals1 rz
    cases ru
    rw [hks]
    exact sortedK_ok hc F hm' (hr.mono hjk) I2 e1 e2 e3 e4 e5 e6 e7
end
end L2

set_option Elab.async false
set_option linter.all false
set_option maxRecDepth 100000
namespace K15
open PySem L2
def top (i : Nat) : Stmt := PySem.Challenge.pw_buildhall_k15_whole_who_goes_first.main.body.getD i (.Pass ⟨0, 0, 0, 0⟩)
abbrev s_goes_by : Stmt := top 1
abbrev n_goes_by : List Str := ["row"]
theorem sc_goes_by : FnScope n_goes_by ["row"] (defScope s_goes_by) := ⟨rfl, rfl, rfl, by decide +kernel, rfl, by decide +kernel, by decide +kernel⟩
abbrev s_Readies___init__ : Stmt := inClass (top 2) 0
abbrev n_Readies___init__ : List Str := ["self"]
theorem sc_Readies___init__ : FnScope n_Readies___init__ ["self"] (defScope s_Readies___init__) := ⟨rfl, rfl, rfl, by decide +kernel, rfl, by decide +kernel, by decide +kernel⟩
abbrev s_Readies_put : Stmt := inClass (top 2) 1
abbrev n_Readies_put : List Str := ["self", "place", "rank", "turn"]
theorem sc_Readies_put : FnScope n_Readies_put ["self", "place", "rank", "turn"] (defScope s_Readies_put) := ⟨rfl, rfl, rfl, by decide +kernel, rfl, by decide +kernel, by decide +kernel⟩
abbrev s_Readies_take : Stmt := inClass (top 2) 2
abbrev n_Readies_take : List Str := ["self", "rows", "place"]
theorem sc_Readies_take : FnScope n_Readies_take ["self"] (defScope s_Readies_take) := ⟨rfl, rfl, rfl, by decide +kernel, rfl, by decide +kernel, by decide +kernel⟩
abbrev s_Readies_drop : Stmt := inClass (top 2) 3
abbrev n_Readies_drop : List Str := ["self", "place"]
theorem sc_Readies_drop : FnScope n_Readies_drop ["self", "place"] (defScope s_Readies_drop) := ⟨rfl, rfl, rfl, by decide +kernel, rfl, by decide +kernel, by decide +kernel⟩
abbrev s_Readies_rows : Stmt := inClass (top 2) 4
abbrev n_Readies_rows : List Str := ["self"]
theorem sc_Readies_rows : FnScope n_Readies_rows ["self"] (defScope s_Readies_rows) := ⟨rfl, rfl, rfl, by decide +kernel, rfl, by decide +kernel, by decide +kernel⟩
abbrev s_Readies_many : Stmt := inClass (top 2) 5
abbrev n_Readies_many : List Str := ["self"]
theorem sc_Readies_many : FnScope n_Readies_many ["self"] (defScope s_Readies_many) := ⟨rfl, rfl, rfl, by decide +kernel, rfl, by decide +kernel, by decide +kernel⟩
abbrev s__law_cell_at : Stmt := top 4
abbrev n__law_cell_at : List Str := ["_law_script", "_law_k"]
theorem sc__law_cell_at : FnScope n__law_cell_at ["_law_script", "_law_k"] (defScope s__law_cell_at) := ⟨rfl, rfl, rfl, by decide +kernel, rfl, by decide +kernel, by decide +kernel⟩
abbrev s__law_mixed : Stmt := top 5
abbrev n__law_mixed : List Str := ["_law_cell", "_law_k", "_law_number"]
theorem sc__law_mixed : FnScope n__law_mixed ["_law_cell", "_law_k"] (defScope s__law_mixed) := ⟨rfl, rfl, rfl, by decide +kernel, rfl, by decide +kernel, by decide +kernel⟩
abbrev s__law_whole : Stmt := top 6
abbrev n__law_whole : List Str := ["_law_thing"]
theorem sc__law_whole : FnScope n__law_whole ["_law_thing"] (defScope s__law_whole) := ⟨rfl, rfl, rfl, by decide +kernel, rfl, by decide +kernel, by decide +kernel⟩
abbrev s__law_ahead : Stmt := top 7
abbrev n__law_ahead : List Str := ["_law_one", "_law_other"]
theorem sc__law_ahead : FnScope n__law_ahead ["_law_one", "_law_other"] (defScope s__law_ahead) := ⟨rfl, rfl, rfl, by decide +kernel, rfl, by decide +kernel, by decide +kernel⟩
abbrev s__law_laid_in : Stmt := top 8
abbrev n__law_laid_in : List Str := ["_law_rows", "_law_row", "_law_at"]
theorem sc__law_laid_in : FnScope n__law_laid_in ["_law_rows", "_law_row"] (defScope s__law_laid_in) := ⟨rfl, rfl, rfl, by decide +kernel, rfl, by decide +kernel, by decide +kernel⟩
abbrev s__law_looked : Stmt := top 9
abbrev n__law_looked : List Str := ["_law_readies", "_law_rows", "_law_held", "_law_number", "_law_k", "_law_found", "_law_row"]
theorem sc__law_looked : FnScope n__law_looked ["_law_readies", "_law_rows", "_law_held", "_law_number"] (defScope s__law_looked) := ⟨rfl, rfl, rfl, by decide +kernel, rfl, by decide +kernel, by decide +kernel⟩
abbrev s__law_deed : Stmt := top 10
abbrev n__law_deed : List Str := ["_law_readies", "_law_rows", "_law_number", "_law_way", "_law_places", "_law_free", "_law_place", "_law_rank", "_law_turn", "_law_due", "_law_found"]
theorem sc__law_deed : FnScope n__law_deed ["_law_readies", "_law_rows", "_law_number"] (defScope s__law_deed) := ⟨rfl, rfl, rfl, by decide +kernel, rfl, by decide +kernel, by decide +kernel⟩
abbrev s_law : Stmt := top 11
abbrev n_law : List Str := ["_law_script", "_law_both", "_law_rows", "_law_held", "_law_k", "_law_cell", "_law_number", "_law_at", "_law_one"]
theorem sc_law : FnScope n_law ["_law_script"] (defScope s_law) := ⟨rfl, rfl, rfl, by decide +kernel, rfl, by decide +kernel, by decide +kernel⟩
end K15

set_option Elab.async false
set_option linter.all false
set_option maxRecDepth 100000
set_option maxHeartbeats 4000000
set_option pp.maxSteps 600
set_option pp.deepTerms false
local macro_rules | `(tactic| walk_at "m") => `(tactic| first | decide | (show (0 : Int) < _; decide) | (show L2.CDiv _ _; exact ⟨by decide, by decide⟩) | omega)
seal L2.PE L2.PT L2.PW L2.PA L2.PS L2.PSs L2.PI L2.PG L2.PGs L2.PSet L2.PTs L2.PC L2.PO L2.PK L2.OpR L2.UnR L2.CallR L2.IxR L2.SlR L2.PIp L2.PGet L2.InOp
namespace L2
open PySem
theorem stm_use {t u : TS} {D : Ends} {σ : St} {H : Hp} (Post : St → Hp → Prop) (hg : ∀ Q', (∀ σ' H', Post σ' H' → Q' σ' H') → t { D with nx := Q' } σ H) (k : ∀ σ' H', Post σ' H' → u D σ' H') : tSeq t u D σ H := hg _ k
theorem next_to {D : Ends} {σ : St} {H : Hp} (h : D.nx σ H) : tNext D σ H := h
end L2
namespace K15
open PySem L2 PyProof.Rows
theorem same_of {H : Hp} {p : Addr} {o : HO} (h : H p = none) : Same H (upd H p o) := fun b u e => by rw [upd_ne (ne_of_none e h)]; exact e
theorem ite_of {b d : Bool} {A B : Prop} (e : b = d) (h1 : d = true → A) (h2 : d = false → B) : if b = true then A else B := by
  subst e
  exact ite_b h1 h2
theorem hu1 {k : Nat} {A : Around} (hr : Room k A) : A.units + 1 < cLine := by have := hr.un; omega
/-- only the objects of S change -/
def Chg (S : List Addr) (H H' : Hp) : Prop := ∀ b o, b ∉ S → H b = some o → H' b = some o
theorem Chg.of {S : List Addr} {H H' : Hp} (s : Same H H') : Chg S H H' := fun b o _ e => s b o e
theorem Chg.trans {S : List Addr} {H H1 H2 : Hp} (a : Chg S H H1) (b : Chg S H1 H2) : Chg S H H2 := fun c o h e => b c o h (a c o h e)
def noT (H : Hp) (S : List Addr) : Prop := ∀ b ∈ S, ∀ xs, H b ≠ some (.tup xs)
theorem Chg.tup {S : List Addr} {H H' : Hp} (c : Chg S H H') (n : noT H S) {b : Addr} {xs : List V} (e : H b = some (.tup xs)) : H' b = some (.tup xs) := c b _ (fun hb => n b hb xs e) e
theorem Chg.wide {H H' : Hp} {S S' : List Addr} (c : Chg S H H') (h : ∀ b ∈ S, b ∈ S') : Chg S' H H' := fun b o hb e => c b o (fun z => hb (h b z)) e
/-- a thing of a built-in kind -/
def Any (K : PySem.W.Frag) (H : Hp) (x : V) : Prop := ∃ m, TyOf K H x (.type m)
/-- a row of a place, a rank and a turn, and where its tuple stands -/
structure Row where
  place : Int
  rank : Int
  turn : Int
  at_ : Addr
def Row.row (r : Row) : List V := [.int r.place, .int r.rank, .int r.turn]
def Row.core (r : Row) : Int × Int × Int := (r.place, r.rank, r.turn)
def kc (c : Int × Int × Int) : K3 := (-c.2.1, c.2.2, c.1)
def Row.key (r : Row) : K3 := kc r.core
def rowD (r : Row) : L2.D := .t [.a (.int r.place), .a (.int r.rank), .a (.int r.turn)]
def refs (rs : List Row) : List V := rs.map fun r => V.ref r.at_
def kvsR (rs : List Row) : List (Key × V) := rs.map fun r => (.inl r.place, .ref r.at_)
theorem kvs_len (rs : List Row) : (kvsR rs).length = rs.length := List.length_map ..
def Rows (H : Hp) (rs : List Row) : Prop := ∀ r ∈ rs, H r.at_ = some (.tup r.row)
theorem Rows.same {H H' : Hp} {rs : List Row} (h : Rows H rs) (s : Same H H') : Rows H' rs := fun r hr => s _ _ (h r hr)
structure RdAt (C : Addr) (H : Hp) (p hd : Addr) (rs : List Row) : Prop where
  obj : ∃ dx, H p = some (.ins C dx [("waiting", .ref hd)])
  tab : H hd = some (.dK (kvsR rs))
  row : Rows H rs
  nd : (rs.map (·.place)).Nodup
  len : rs.length ≤ 40
theorem RdAt.same {C p hd : Addr} {H H' : Hp} {rs : List Row} (h : RdAt C H p hd rs) (s : Same H H') : RdAt C H' p hd rs := by
  obtain ⟨⟨dx, a⟩, b, c, d, e⟩ := h
  exact ⟨⟨dx, s _ _ a⟩, s _ _ b, c.same s, d, e⟩
theorem RdAt.noT {C : Addr} {H : Hp} {p hd : Addr} {rs : List Row} (h : RdAt C H p hd rs) : noT H [p, hd] := fun b hb xs e => by
  obtain ⟨⟨dx, a⟩, b', _, _⟩ := h
  simp only [List.mem_cons, List.not_mem_nil, or_false] at hb
  rcases hb with rfl | rfl
  · rw [a] at e; cases e
  · rw [b'] at e; cases e
theorem RdAt.chg {S : List Addr} {C : Addr} {H H' : Hp} {p hd : Addr} {rs : List Row} (h : RdAt C H p hd rs) (c : Chg S H H') (n : K15.noT H S) (h1 : p ∉ S) (h2 : hd ∉ S) : RdAt C H' p hd rs := by
  obtain ⟨⟨dx, a⟩, b, r, d, e⟩ := h
  exact ⟨⟨dx, c _ _ h1 a⟩, c _ _ h2 b, fun l hl => c.tup n (r l hl), d, e⟩
/-- the row that stands at a place of the heap -/
def rowOf (H : Hp) (a : Addr) : Row := match H a with
  | some (.tup [.int x, .int y, .int z]) => ⟨x, y, z, a⟩
  | _ => ⟨0, 0, 0, a⟩
theorem rowOf_at (H : Hp) (a : Addr) : (rowOf H a).at_ = a := by
  unfold rowOf
  split <;> rfl
theorem rowOf_eq {H : Hp} {r : Row} (h : H r.at_ = some (.tup r.row)) : rowOf H r.at_ = r := by
  unfold rowOf
  rw [h]
  rfl
theorem rows_of {H : Hp} {rs : List Row} (h : Rows H rs) : (rs.map (·.at_)).map (rowOf H) = rs := by
  rw [List.map_map]
  conv => rhs; rw [← List.map_id rs]
  exact List.map_congr_left fun r hr => rowOf_eq (h r hr)
theorem key_nd {rs : List Row} (nd : (rs.map (·.place)).Nodup) : (rs.map Row.key).Nodup := by
  have e : (rs.map Row.key).map (·.2.2) = rs.map (·.place) := by
    rw [List.map_map]
    rfl
  rw [← e] at nd
  unfold List.Nodup at nd ⊢
  rw [List.pairwise_map] at nd
  exact nd.imp fun {a b} h z => h (by rw [z])
structure RCls (K : PySem.W.Frag) (mg : Str → Option Value) (C : Addr) : Prop where
  cl : Cls K C
  mgC : mg "Readies" = some (.ref C)
  n1 : NoAttr K C "waiting"
theorem val_kvs (rs : List Row) (n : Int) : valV (kvsR rs) (.inl n) = (rs.find? fun r => decide (r.place = n)).map fun r => V.ref r.at_ := by
  unfold valV kvsR
  rw [List.find?_map, Option.map_map]
  congr 1
  congr 1
  funext l
  show decide ((Sum.inl l.place : Key) = Sum.inl n) = decide (l.place = n)
  by_cases h : l.place = n <;> simp [h]
def out_ (rs : List Row) (a : Int) : List Row := rs.filter fun r => decide (r.place ≠ a)
theorem drop_kvs (rs : List Row) (a : Int) : dropK (kvsR rs) (.inl a) = kvsR (out_ rs a) := by
  unfold dropK kvsR out_
  rw [List.filter_map]
  congr 1
  congr 1
  funext x
  show decide ((Sum.inl x.place : Key) ≠ Sum.inl a) = decide (x.place ≠ a)
  by_cases h : x.place = a <;> simp [h]
theorem place_inj : ∀ {rs : List Row}, (rs.map (·.place)).Nodup → ∀ r ∈ rs, ∀ r' ∈ rs, r.place = r'.place → r = r'
  | [], _, r, h, _, _, _ => by cases h
  | a :: rs, nd, l, hl, l', hl', e => by
    rw [List.map_cons, List.nodup_cons] at nd
    rcases List.mem_cons.mp hl with h1 | h1
    · rcases List.mem_cons.mp hl' with h2 | h2
      · rw [h1, h2]
      · exact absurd (List.mem_map.mpr ⟨l', h2, by rw [← e, h1]⟩) nd.1
    · rcases List.mem_cons.mp hl' with h2 | h2
      · exact absurd (List.mem_map.mpr ⟨l, h1, by rw [e, h2]⟩) nd.1
      · exact place_inj nd.2 l h1 l' h2 e
theorem find_place {rs : List Row} (nd : (rs.map (·.place)).Nodup) {r : Row} (h : r ∈ rs) : (rs.find? fun x => decide (x.place = r.place)) = some r := by
  cases e : rs.find? fun x => decide (x.place = r.place) with
  | none => exact absurd (decide_eq_true rfl) (List.find?_eq_none.mp e r h)
  | some x =>
    have h1 := List.mem_of_find?_eq_some e
    have h2 := List.find?_some e
    rw [place_inj nd x h1 r h (by simpa using h2)]
section
variable {P : Program} {w : World} {K : PySem.W.Frag} {mg : Str → Option Value} {base : Heap} {C : Addr}
def spGoes : Sp := fun vs H Q _ => ∃ r : Row, vs = [.ref r.at_] ∧ H r.at_ = some (.tup r.row) ∧ ∀ T, H T = none → Q (.ref T) (upd H T (.tup (k3 r.key)))
theorem ok_goes (Df : Def K mg "goes_by" s_goes_by ["row"]) : Knows P w K mg base 1 "goes_by" ["row"] spGoes := by
  refine Df.ok sc_goes_by (fun vs H Q E h => ?_) (fun f cdv A outer s H vs Q E hr h => ?_)
  · obtain ⟨r, rfl, _⟩ := h
    rfl
  · obtain ⟨r, rfl, hH, q⟩ := h
    refine ⟨_, by exact (pss_one (ps_ret (pe_tup (pa_c (pe_un un_neg (pe_ix ix_tup (pv 0) pe_int (fun _ _ => rfl))) (pa_c (pe_ix ix_tup (pv 0) pe_int (fun _ _ => rfl)) (pa_c (pe_ix ix_tup (pv 0) pe_int (fun _ _ => rfl)) pa_nil)))))), ?_⟩
    refine ⟨_, rfl, r.at_, _, _, _, rfl, rfl, SqT.of hH, atI_nat (j := 1) rfl, _, rfl, _, rfl, r.at_, _, _, _, rfl, rfl, SqT.of hH, atI_nat (j := 2) rfl, _, rfl, r.at_, _, _, _, rfl, rfl, SqT.of hH, atI_nat (j := 0) rfl, by show 3 ≤ sizeLine; decide, q⟩
def spInit (C : Addr) : Sp := fun vs H Q _ => ∃ (p dx : Addr), vs = [.ref p] ∧ H p = some (.ins C dx []) ∧ ∀ hd H', H hd = none → Chg [p] H H' → RdAt C H' p hd [] → Q .non H'
theorem ok_init {f : Addr} {fd : FuncData} (F : Fun K "__init__" "Readies.__init__" s_Readies___init__ f fd) (S : RCls K mg C) : FnOk P w K mg base CX0 1 f fd ["self"] (spInit C) := by
  refine F.ok sc_Readies___init__ (fun vs H Q E h => ?_) (fun cdv A outer s H vs Q E hr h => ?_)
  · obtain ⟨p, dx, rfl, _⟩ := h
    rfl
  · obtain ⟨p, dx, rfl, hp, q⟩ := h
    refine ⟨_, by exact (pss_one (ps_fld (pv 0) pe_dnewK rfl)), ?_⟩
    refine fun hd hhd => ⟨_, rfl, p, C, dx, [], rfl, ?_, S.cl, S.n1, (by show 0 < 1000; decide), ?_⟩
    · rw [upd_ne (ne_of_none hp hhd)]
      exact hp
    · have hpd : p ≠ hd := ne_of_none hp hhd
      refine q hd _ hhd (fun b o hb e => ?_) ⟨⟨dx, upd_same⟩, ?_, (fun r hr => by cases hr), List.nodup_nil, Nat.zero_le _⟩
      · rw [upd_ne (fun z => hb (by simp [z])), upd_ne (ne_of_none e hhd)]
        exact e
      · rw [upd_ne (Ne.symm hpd)]
        exact upd_same
def spPut (C : Addr) : Sp := fun vs H Q _ => ∃ (p hd : Addr) (rs : List Row) (a b c : Int), vs = [.ref p, .int a, .int b, .int c] ∧ RdAt C H p hd rs ∧ rs.length < 40 ∧ (∀ r ∈ rs, r.place ≠ a) ∧ ∀ T H', Chg [p, hd] H H' → RdAt C H' p hd (rs ++ [⟨a, b, c, T⟩]) → Q .non H'
theorem ok_put {f : Addr} {fd : FuncData} (F : Fun K "put" "Readies.put" s_Readies_put f fd) (S : RCls K mg C) : FnOk P w K mg base CX0 1 f fd ["self", "place", "rank", "turn"] (spPut C) := by
  refine F.ok sc_Readies_put (fun vs H Q E h => ?_) (fun cdv A outer s H vs Q E hr h => ?_)
  · obtain ⟨p, hd, rs, a, b, c, rfl, _⟩ := h
    rfl
  · obtain ⟨p, hd, rs, a, b, c, rfl, L, hlt, hno, q⟩ := h
    obtain ⟨dx, hp⟩ := L.obj
    have hu := hu1 hr
    refine ⟨_, by exact (pss_one (ps_dput hu (pe_fld (pv 0) rfl) (pv 1) (pe_tup (pa_c (pv 1) (pa_c (pv 2) (pa_c (pv 3) pa_nil)))) rfl)), ?_⟩
    refine ⟨_, rfl, _, rfl, _, rfl, by show 3 ≤ sizeLine; decide, fun T hT => ?_⟩
    have s1 : Same H (upd H T (.tup [.int a, .int b, .int c])) := same_of hT
    have e1 : (upd H T (.tup [.int a, .int b, .int c])) T = some (.tup [.int a, .int b, .int c]) := upd_same
    generalize upd H T (.tup [.int a, .int b, .int c]) = H1 at s1 e1
    have L1 := L.same s1
    obtain ⟨dx1, hp1⟩ := L1.obj
    refine ⟨_, rfl, p, C, dx1, _, _, rfl, hp1, S.cl, S.n1, rfl, _, rfl, hd, _, rfl, DPut.k (k := .inl a) L1.tab (by rw [kvs_len]; exact Nat.lt_trans hlt (by decide)), ?_⟩
    have ep : putK (kvsR rs) (.inl a) (.ref T) = kvsR (rs ++ [⟨a, b, c, T⟩]) := by
      rw [putK_new]
      · unfold kvsR
        rw [List.map_append]
        rfl
      · rw [val_kvs]
        cases e : rs.find? fun r => decide (r.place = a) with
        | none => rfl
        | some r => exact absurd (by simpa using List.find?_some e) (hno r (List.mem_of_find?_eq_some e))
    rw [ep]
    have hpd : p ≠ hd := fun zz => by rw [zz, L1.tab] at hp1; cases hp1
    have tn : ∀ b xs, H1 b = some (.tup xs) → (upd H1 hd (.dK (kvsR (rs ++ [⟨a, b, c, T⟩])))) b = some (.tup xs) := fun b' xs e => by
      rw [upd_ne (fun zz => by rw [zz, L1.tab] at e; cases e)]
      exact e
    have tn' : ∀ b' xs, H1 b' = some (.tup xs) → (upd H1 hd (.dK (kvsR (rs ++ [⟨a, b, c, T⟩])))) b' = some (.tup xs) := fun b' xs e => by
      rw [upd_ne (fun zz => by rw [zz, L1.tab] at e; cases e)]
      exact e
    refine q T _ (fun b' o hb e => ?_) ⟨⟨dx1, ?_⟩, upd_same, fun r hr => ?_, ?_, ?_⟩
    · rw [upd_ne (fun zz => hb (by simp [zz]))]
      exact s1 _ _ e
    · rw [upd_ne hpd]
      exact hp1
    · rcases List.mem_append.mp hr with h | h
      · exact tn' _ _ (L1.row r h)
      · rw [List.mem_singleton.mp h]
        exact tn' _ _ e1
    · rw [List.map_append, List.nodup_append]
      refine ⟨L.nd, by simp, fun x hx y hy e => ?_⟩
      obtain ⟨r, hr, rfl⟩ := List.mem_map.mp hx
      have hy' : y = a := by simpa using hy
      exact hno r hr (e.trans hy')
    · rw [List.length_append]
      simp
      omega
def spDrop (C : Addr) : Sp := fun vs H Q _ => ∃ (p hd : Addr) (rs : List Row) (r : Row), vs = [.ref p, .int r.place] ∧ RdAt C H p hd rs ∧ r ∈ rs ∧ ∀ H', Chg [p, hd] H H' → RdAt C H' p hd (out_ rs r.place) → Q .non H'
theorem ok_drop {f : Addr} {fd : FuncData} (F : Fun K "drop" "Readies.drop" s_Readies_drop f fd) (S : RCls K mg C) : FnOk P w K mg base CX0 1 f fd ["self", "place"] (spDrop C) := by
  refine F.ok sc_Readies_drop (fun vs H Q E h => ?_) (fun cdv A outer s H vs Q E hr h => ?_)
  · obtain ⟨p, hd, rs, r, rfl, _⟩ := h
    rfl
  · obtain ⟨p, hd, rs, r, rfl, L, hr', q⟩ := h
    obtain ⟨dx, hp⟩ := L.obj
    refine ⟨_, by exact (pss_one (ps_expr (pe_dpop1 (pe_fld (pv 0) rfl) (pv 1) ⟨rfl, by rfl, rfl, rfl⟩))), ?_⟩
    have hpd : p ≠ hd := fun zz => by rw [zz, L.tab] at hp; cases hp
    refine ⟨_, rfl, p, C, dx, _, _, rfl, hp, S.cl, S.n1, rfl, hd, rfl, .inl ⟨_, .inl L.tab⟩, _, rfl, _, .inl r.place, .ref r.at_, L.tab, rfl, by rw [val_kvs, find_place L.nd hr']; rfl, ?_⟩
    rw [drop_kvs]
    refine q _ (fun b o hb e => ?_) ⟨⟨dx, ?_⟩, upd_same, fun x hx => ?_, ?_, ?_⟩
    · rw [upd_ne (fun zz => hb (by simp [zz]))]
      exact e
    · rw [upd_ne hpd]
      exact hp
    · have e := L.row x (List.mem_filter.mp hx).1
      rw [upd_ne (fun zz => by rw [zz, L.tab] at e; cases e)]
      exact e
    · exact L.nd.sublist (List.Sublist.map _ List.filter_sublist)
    · exact Nat.le_trans (List.length_filter_le _ _) L.len
def Sd (rs : List Row) : Prop := rs.Pairwise fun a b => lt3 a.key b.key = true
def spRows (C : Addr) : Sp := fun vs H Q _ => ∃ (p hd : Addr) (rs : List Row), vs = [.ref p] ∧ RdAt C H p hd rs ∧ ∀ q H' (o : List Row), Same H H' → H q = none → H' q = some (.lst (refs o)) → o.Perm rs → Sd o → Q (.ref q) H'
theorem ok_rows {f : Addr} {fd : FuncData} (F : Fun K "rows" "Readies.rows" s_Readies_rows f fd) (S : RCls K mg C) (hs : mg "sorted" = none) (k_goes : Knows P w K mg base 1 "goes_by" ["row"] spGoes) : FnOk P w K mg base CX0 4 f fd ["self"] (spRows C) := by
  refine F.ok sc_Readies_rows (fun vs H Q E h => ?_) (fun cdv A outer s H vs Q E hr h => ?_)
  · obtain ⟨p, hd, rs, rfl, _⟩ := h
    rfl
  · obtain ⟨p, hd, rs, rfl, L, q⟩ := h
    obtain ⟨dx, hp⟩ := L.obj
    refine ⟨_, by exact (pss_one (ps_ret (pe_sortedK rfl k_goes hr hs (pe_dvals (pe_fld (pv 0) rfl) ⟨rfl, by rfl, rfl, rfl⟩)))), ?_⟩
    refine ⟨_, rfl, p, C, dx, _, _, rfl, hp, S.cl, S.n1, rfl, hd, kvsR rs, rfl, L.tab, fun r hrn => ?_⟩
    have s1 : Same H (upd H r (ViewO r hd)) := same_of hrn
    have kf : ∀ x ∈ rs, (rowOf H x.at_).key = x.key := fun x hx => by rw [rowOf_eq (L.row x hx)]
    refine ⟨r, hd, kvsR rs, rs.map (·.at_), fun a => (rowOf H a).key, rfl, upd_same, s1 _ _ L.tab, ?_, by rw [List.length_map]; exact Nat.lt_of_le_of_lt L.len (by decide), ?_, fun t ht H2 s2 Q' k => ?_, fun D H2 o s2 hD pm pw => ?_⟩
    · unfold kvsR
      rw [List.map_map, List.map_map]
      rfl
    · have e : (rs.map (·.at_)).map (fun a => (rowOf H a).key) = rs.map Row.key := by
        rw [List.map_map]
        exact List.map_congr_left fun x hx => kf x hx
      rw [e]
      exact key_nd L.nd
    · obtain ⟨x, hx, rfl⟩ := List.mem_map.mp ht
      have hx2 := s2 _ _ (s1 _ _ (L.row x hx))
      refine ⟨x, rfl, hx2, fun T hT => k T _ (same_of hT) ?_⟩
      rw [upd_same]
      show _ = some (HO.tup (k3 (rowOf H x.at_).key))
      rw [kf x hx]
    · have s3 := s1.trans s2
      refine q D _ (o.map (rowOf H)) (s3.trans (same_of hD)) (s3.free hD) ?_ ?_ ?_
      · rw [upd_same]
        unfold refs
        rw [List.map_map]
        congr 2
        exact List.map_congr_left fun a _ => by show V.ref a = V.ref (rowOf H a).at_; rw [rowOf_at]
      · have := pm.map (rowOf H)
        rw [rows_of L.row] at this
        exact this
      · unfold Sd
        rw [List.pairwise_map]
        exact pw
def spTake (C : Addr) : Sp := fun vs H Q _ => ∃ (p hd : Addr) (rs : List Row), vs = [.ref p] ∧ RdAt C H p hd rs ∧ (rs = [] → ∀ H', Same H H' → Q .non H') ∧ (∀ r ∈ rs, (∀ r' ∈ rs, r' = r ∨ lt3 r.key r'.key = true) → ∀ H', Chg [p, hd] H H' → RdAt C H' p hd (out_ rs r.place) → Q (.int r.place) H')
theorem ok_take {f : Addr} {fd : FuncData} (F : Fun K "take" "Readies.take" s_Readies_take f fd) (S : RCls K mg C) (km_rows : KnowsM CX0 P w K mg base 4 C "rows" ["self"] (spRows C)) (km_drop : KnowsM CX0 P w K mg base 1 C "drop" ["self", "place"] (spDrop C)) : FnOk P w K mg base CX0 5 f fd ["self"] (spTake C) := by
  refine F.ok sc_Readies_take (fun vs H Q E h => ?_) (fun cdv A outer s H vs Q E hr h => ?_)
  · obtain ⟨p, hd, rs, rfl, _⟩ := h
    rfl
  · obtain ⟨p, hd, rs, rfl, L, q1, q2⟩ := h
    obtain ⟨dx, hp⟩ := L.obj
    refine ⟨_, by exact (pss_cons (ps_set (i := 1) sc_Readies_take.nd rfl (Or.inl rfl) (pe_methM0 km_rows S.cl hr pass0 (pv 0)))
      (pss_cons (ps_if (pt_not (pt_truth (pv 1) (fun _ => rfl))) (pss_one (ps_ret pe_non)) pss_nil)
      (pss_cons (ps_set (i := 2) sc_Readies_take.nd rfl (Or.inl rfl) (pe_ix ix_tup (pe_ix ix_list (pv 1) pe_int (fun _ _ => rfl)) pe_int (fun _ _ => rfl)))
      (pss_cons (ps_expr (pe_methM km_drop S.cl hr pass0 (pv 0) (pa_c (pv 2) pa_nil)))
      (pss_one (ps_ret (pv 2))))))), ?_⟩
    refine ⟨_, rfl, p, dx, _, rfl, hp, rfl, p, hd, rs, rfl, L, fun x H1 o s1 hx e1 pm sd => ?_⟩
    dsimp only [gName]
    have L1 := L.same s1
    obtain ⟨dx1, hp1⟩ := L1.obj
    cases o with
    | nil =>
      refine ⟨_, rfl, _, .inl ⟨_, SqL.of e1, rfl⟩, iteT ?_⟩
      exact q1 (List.Perm.nil_eq pm).symm _ s1
    | cons r o =>
      refine ⟨_, rfl, _, .inl ⟨_, SqL.of e1, rfl⟩, iteF (next_to ?_)⟩
      dsimp only
      have hr' : r ∈ rs := pm.mem_iff.mp (by simp)
      refine ⟨_, rfl, x, _, _, _, rfl, rfl, SqL.of e1, atI_nat (j := 0) rfl, r.at_, _, _, _, rfl, rfl, SqT.of (L1.row r hr'), atI_nat (j := 0) rfl, ?_⟩
      dsimp only [gName]
      refine ⟨_, rfl, p, dx1, _, rfl, hp1, rfl, _, rfl, p, hd, rs, r, rfl, L1, hr', fun H2 c2 L2 => ?_⟩
      refine ⟨_, rfl, q2 r hr' (fun r' hr2 => ?_) H2 ((Chg.of s1).trans c2) L2⟩
      rcases List.mem_cons.mp (pm.mem_iff.mpr hr2) with h | h
      · exact .inl h
      · exact .inr ((List.pairwise_cons.mp sd).1 r' h)
def spMany (C : Addr) : Sp := fun vs H Q _ => ∃ (p hd : Addr) (rs : List Row), vs = [.ref p] ∧ RdAt C H p hd rs ∧ Q (.int rs.length) H
theorem ok_many {f : Addr} {fd : FuncData} (F : Fun K "many" "Readies.many" s_Readies_many f fd) (S : RCls K mg C) (hl : mg "len" = none) : FnOk P w K mg base CX0 1 f fd ["self"] (spMany C) := by
  refine F.ok sc_Readies_many (fun vs H Q E h => ?_) (fun cdv A outer s H vs Q E hr h => ?_)
  · obtain ⟨p, hd, rs, rfl, _⟩ := h
    rfl
  · obtain ⟨p, hd, rs, rfl, L, q⟩ := h
    obtain ⟨dx, hp⟩ := L.obj
    refine ⟨_, by exact (pss_one (ps_ret (pe_bcall call_lenD rfl hl PySem.boot_len (pa_c (pe_fld (pv 0) rfl) pa_nil)))), ?_⟩
    refine ⟨_, rfl, p, C, dx, _, _, rfl, hp, S.cl, S.n1, rfl, hd, _, rfl, L.tab, ?_⟩
    rw [kvs_len]
    exact q
end
end K15

set_option Elab.async false
set_option linter.all false
set_option maxRecDepth 100000
set_option maxHeartbeats 4000000
set_option pp.maxSteps 600
set_option pp.deepTerms false
namespace K15
open PySem L2 PyProof.Rows
abbrev Sm (c : Int) : Prop := Builtin.Int.intBits c ≤ 1048576
theorem sm0 : Sm 0 := by decide
theorem boot_tuple : bootBuiltins "tuple" = some (.type "tuple") := by kernel_rfl
structure Bv (mg : Str → Option Value) : Prop where
  b : Bltn mg
  tuple : mg "tuple" = none
  sorted : mg "sorted" = none
  enum : mg "enumerate" = none
/-- the law's list of rows -/
structure LwAt (H : Hp) (lr : Addr) (L : List Row) : Prop where
  lst : H lr = some (.lst (refs L))
  row : Rows H L
  sd : Sd L
  len : L.length ≤ 40
theorem LwAt.same {H H' : Hp} {lr : Addr} {L : List Row} (h : LwAt H lr L) (s : Same H H') : LwAt H' lr L := ⟨s _ _ h.lst, h.row.same s, h.sd, h.len⟩
theorem LwAt.chg {S : List Addr} {H H' : Hp} {lr : Addr} {L : List Row} (h : LwAt H lr L) (c : Chg S H H') (n : noT H S) (h1 : lr ∉ S) : LwAt H' lr L := ⟨c _ _ h1 h.lst, fun r hr => c.tup n (h.row r hr), h.sd, h.len⟩
theorem refs_len (L : List Row) : (refs L).length = L.length := List.length_map ..
theorem refs_get (L : List Row) (i : Nat) : (refs L)[i]? = (L[i]?).map fun r => V.ref r.at_ := List.getElem?_map ..
/-- laid in at its place -/
theorem sd_insert {L : List Row} (sd : Sd L) {x : Row} {n : Nat} (hn : n ≤ L.length) (h1 : ∀ i (r : Row), i < n → L[i]? = some r → lt3 r.key x.key = true) (h2 : ∀ r, L[n]? = some r → lt3 x.key r.key = true) : Sd (L.take n ++ x :: L.drop n) := by
  unfold Sd at sd ⊢
  rw [List.pairwise_append]
  have sdd := sd
  rw [← List.take_append_drop n L, List.pairwise_append] at sdd
  refine ⟨sdd.1, ?_, fun a ha b hb => ?_⟩
  · rw [List.pairwise_cons]
    refine ⟨fun b hb => ?_, sdd.2.1⟩
    cases e : L.drop n with
    | nil => rw [e] at hb; cases hb
    | cons y r =>
      have hy : L[n]? = some y := by
        have : (L.drop n)[0]? = some y := by rw [e]; rfl
        rw [List.getElem?_drop] at this
        simpa using this
      have p := sdd.2.1
      rw [e] at hb p
      rcases List.mem_cons.mp hb with h | h
      · rw [h]; exact h2 y hy
      · exact lt3_tr (h2 y hy) ((List.pairwise_cons.mp p).1 b h)
  · have hax : lt3 a.key x.key = true := by
      obtain ⟨i, hi, rfl⟩ := List.getElem_of_mem ha
      have hi' : i < n ∧ i < L.length := by
        rw [List.length_take] at hi
        omega
      exact h1 i _ hi'.1 (by rw [List.getElem_take]; exact List.getElem?_eq_getElem hi'.2)
    rcases List.mem_cons.mp hb with h | h
    · rw [h]; exact hax
    · exact sdd.2.2 a ha b h
section
variable {P : Program} {w : World} {K : PySem.W.Frag} {mg : Str → Option Value} {base : Heap} {C : Addr}
def spCell (K : PySem.W.Frag) : Sp := fun vs H Q _ => ∃ (a : Addr) (ns : List Int) (k : Nat), vs = [.ref a, .int k] ∧ SqL K H a (ns.map V.int) ∧ (∀ v ∈ ns, Sm v) ∧ ∀ c, Sm c → Q (.int c) H
theorem ok_cell (D : Def K mg "_law_cell_at" s__law_cell_at ["_law_script", "_law_k"]) (B : Bltn mg) : Knows P w K mg base 1 "_law_cell_at" ["_law_script", "_law_k"] (spCell K) := by
  refine D.ok sc__law_cell_at (fun vs H Q E h => ?_) (fun f cdv A outer s H vs Q E hr h => ?_)
  · obtain ⟨a, ns, k, rfl, _⟩ := h
    rfl
  · obtain ⟨a, ns, k, rfl, hS, hsm, q⟩ := h
    refine ⟨_, by exact (pss_cons (ps_if (pt_cmpR op_lt (pv 1) (pe_bcall call_len_seq rfl B.len PySem.boot_len (pa_c (pv 0) pa_nil)) (nomark _)) (pss_one (ps_ret (pe_ix ix_list (pv 0) (pv 1) (fun _ _ => rfl)))) pss_nil)
      (pss_one (ps_ret pe_int))), ?_⟩
    refine ⟨_, rfl, _, rfl, a, _, rfl, .inl hS, _, _, rfl, rfl, _, rfl, ?_⟩
    refine ite2 (fun hlt => ?_) (fun _ => ?_)
    · have h1 : (k : Int) < (ns.map V.int).length := of_decide_eq_true hlt
      obtain ⟨v, hv, hmem, _⟩ := atI_mem (xs := ns.map V.int) (Int.natCast_nonneg k) h1
      obtain ⟨c, hc, rfl⟩ := List.mem_map.mp hmem
      exact ⟨_, rfl, _, rfl, a, _, _, _, rfl, rfl, hS, hv, q c (hsm c hc)⟩
    · exact q 0 sm0
def spMixed : Sp := fun vs H Q _ => ∃ (c : Int) (k : Nat), vs = [.int c, .int k] ∧ k ≤ 1000 ∧ ∀ m, Q (.int m) H
theorem ok_mixed (D : Def K mg "_law_mixed" s__law_mixed ["_law_cell", "_law_k"]) : Knows P w K mg base 1 "_law_mixed" ["_law_cell", "_law_k"] spMixed := by
  refine D.ok sc__law_mixed (fun vs H Q E h => ?_) (fun f cdv A outer s H vs Q E hr h => ?_)
  · obtain ⟨c, k, rfl, _⟩ := h
    rfl
  · obtain ⟨c, k, rfl, hk, q⟩ := h
    refine ⟨_, by exact (pss_cons (ps_set (i := 2) sc__law_mixed.nd rfl (Or.inl rfl) (pe_op op_mod (pe_op op_mul (pe_op op_add (pe_op op_add (pv 0) (pe_op op_mul pe_int (pv 1))) pe_int) pe_int) pe_int))
      (pss_one (ps_ret (pe_op op_mod (pe_op op_mul (pv 2) (pe_op op_add pe_int (pe_op op_mul (pv 1) (pv 1)))) pe_int)))), ?_⟩
    refine ⟨_, rfl, _, rfl, _, _, rfl, rfl, .inl ⟨by walk_at "m", by walk_at "m"⟩, _, _, rfl, rfl, _, _, rfl, rfl, _, _, rfl, rfl, .inr ⟨by walk_at "m", by walk_at "m"⟩, _, _, rfl, rfl, by walk_at "m", ?_⟩
    dsimp only [gName]
    have w0 := Int.emod_nonneg ((c + 7919 * (k : Int) + 3) * 48271) (show (2147483647 : Int) ≠ 0 by decide)
    have w1 := Int.emod_lt_of_pos ((c + 7919 * (k : Int) + 3) * 48271) (show (0 : Int) < 2147483647 by decide)
    exact ⟨_, rfl, _, rfl, _, rfl, _, _, rfl, rfl, .inl ⟨by omega, by omega⟩, _, _, rfl, rfl, _, _, rfl, rfl, .inl ⟨by omega, by omega⟩, _, _, rfl, rfl, by walk_at "m", q _⟩
def spWhole (K : PySem.W.Frag) : Sp := fun vs H Q _ => ∃ x, vs = [x] ∧ Any K H x ∧ Q (.bl (isI x)) H
theorem ok_whole (Df : Def K mg "_law_whole" s__law_whole ["_law_thing"]) (B : Bltn mg) : Knows P w K mg base 1 "_law_whole" ["_law_thing"] (spWhole K) := by
  refine Df.ok sc__law_whole (fun vs H Q E h => ?_) (fun f cdv A outer s H vs Q E hr h => ?_)
  · obtain ⟨x, rfl, _⟩ := h
    rfl
  · obtain ⟨x, rfl, ⟨m, ty⟩, q⟩ := h
    refine ⟨_, by exact (pss_one (ps_ret (pe_and (pe_isi B.isi B.int boot_int (pv 0)) (pe_one (pe_not (pe_isi B.isi B.bool boot_bool (pv 0))))))), ?_⟩
    refine ⟨_, rfl, _, _, _, rfl, ty, isiI ty, _, rfl, ?_⟩
    refine ite2 (fun hx => ?_) (fun hx => ?_)
    · refine ⟨_, rfl, _, _, _, rfl, ty, isiB ty, _, rfl, ?_⟩
      have e : isI x = !isBl x := by revert hx; cases x <;> simp [isI, isIB, isBl]
      rw [← e]
      exact q
    · have e : isI x = false := by revert hx; cases x <;> simp [isI, isIB]
      rw [e] at q
      exact q
def spAhead : Sp := fun vs H Q _ => ∃ r x : Row, vs = [.ref r.at_, .ref x.at_] ∧ H r.at_ = some (.tup r.row) ∧ H x.at_ = some (.tup x.row) ∧ Q (.bl (lt3 r.key x.key)) H
theorem dint (a b : Int) : decide (V.int a = V.int b) = decide (a = b) := by by_cases h : a = b <;> simp [h]
theorem ok_ahead (Df : Def K mg "_law_ahead" s__law_ahead ["_law_one", "_law_other"]) : Knows P w K mg base 1 "_law_ahead" ["_law_one", "_law_other"] spAhead := by
  refine Df.ok sc__law_ahead (fun vs H Q E h => ?_) (fun f cdv A outer s H vs Q E hr h => ?_)
  · obtain ⟨r, x, rfl, _⟩ := h
    rfl
  · obtain ⟨r, x, rfl, h1, h2, q⟩ := h
    refine ⟨_, by exact (pss_cons (ps_if (pt_cmpR op_ne (pe_ix ix_tup (pv 0) pe_int (fun _ _ => rfl)) (pe_ix ix_tup (pv 1) pe_int (fun _ _ => rfl)) (nomark _)) (pss_one (ps_ret (pe_cmpR op_gt (pe_ix ix_tup (pv 0) pe_int (fun _ _ => rfl)) (pe_ix ix_tup (pv 1) pe_int (fun _ _ => rfl)) (nomark _)))) pss_nil)
      (pss_cons (ps_if (pt_cmpR op_ne (pe_ix ix_tup (pv 0) pe_int (fun _ _ => rfl)) (pe_ix ix_tup (pv 1) pe_int (fun _ _ => rfl)) (nomark _)) (pss_one (ps_ret (pe_cmpR op_lt (pe_ix ix_tup (pv 0) pe_int (fun _ _ => rfl)) (pe_ix ix_tup (pv 1) pe_int (fun _ _ => rfl)) (nomark _)))) pss_nil)
      (pss_one (ps_ret (pe_cmpR op_lt (pe_ix ix_tup (pv 0) pe_int (fun _ _ => rfl)) (pe_ix ix_tup (pv 1) pe_int (fun _ _ => rfl)) (nomark _)))))), ?_⟩
    have q' : ∀ b : Bool, (b = true ↔ lt3 r.key x.key = true) → Q (.bl b) H := fun b e => by
      have : b = lt3 r.key x.key := by
        cases b <;> cases h : lt3 r.key x.key <;> simp [h] at e ⊢
      rw [this]
      exact q
    have kd : ∀ a : Row, a.key = (-a.rank, a.turn, a.place) := fun _ => rfl
    refine ⟨_, rfl, r.at_, _, _, _, rfl, rfl, SqT.of h1, atI_nat (j := 1) rfl, _, rfl, x.at_, _, _, _, rfl, rfl, SqT.of h2, atI_nat (j := 1) rfl, rfl, _, rfl, ite_of (d := !decide (r.rank = x.rank)) (by rw [dint]) (fun e1 => ?_) (fun e1 => next_to ?_)⟩
    · have e1' : ¬ r.rank = x.rank := by simpa using e1
      refine ⟨_, rfl, r.at_, _, _, _, rfl, rfl, SqT.of h1, atI_nat (j := 1) rfl, _, rfl, x.at_, _, _, _, rfl, rfl, SqT.of h2, atI_nat (j := 1) rfl, _, _, rfl, rfl, q' _ ?_⟩
      rw [lt3_iff, kd, kd, decide_eq_true_eq]
      dsimp only
      omega
    · have e1' : r.rank = x.rank := by simpa using e1
      dsimp only
      refine ⟨_, rfl, r.at_, _, _, _, rfl, rfl, SqT.of h1, atI_nat (j := 2) rfl, _, rfl, x.at_, _, _, _, rfl, rfl, SqT.of h2, atI_nat (j := 2) rfl, rfl, _, rfl, ite_of (d := !decide (r.turn = x.turn)) (by rw [dint]) (fun e2 => ?_) (fun e2 => next_to ?_)⟩
      · have e2' : ¬ r.turn = x.turn := by simpa using e2
        refine ⟨_, rfl, r.at_, _, _, _, rfl, rfl, SqT.of h1, atI_nat (j := 2) rfl, _, rfl, x.at_, _, _, _, rfl, rfl, SqT.of h2, atI_nat (j := 2) rfl, _, _, rfl, rfl, q' _ ?_⟩
        rw [lt3_iff, kd, kd, decide_eq_true_eq]
        dsimp only
        omega
      · have e2' : r.turn = x.turn := by simpa using e2
        dsimp only
        refine ⟨_, rfl, r.at_, _, _, _, rfl, rfl, SqT.of h1, atI_nat (j := 0) rfl, _, rfl, x.at_, _, _, _, rfl, rfl, SqT.of h2, atI_nat (j := 0) rfl, _, _, rfl, rfl, q' _ ?_⟩
        rw [lt3_iff, kd, kd, decide_eq_true_eq]
        dsimp only
        omega
def spLaid : Sp := fun vs H Q _ => ∃ (lr : Addr) (L : List Row) (x : Row), vs = [.ref lr, .ref x.at_] ∧ LwAt H lr L ∧ H x.at_ = some (.tup x.row) ∧ L.length < 40 ∧ (∀ r ∈ L, r.place ≠ x.place) ∧ ∀ (L' : List Row) H', Chg [lr] H H' → LwAt H' lr L' → L'.Perm (x :: L) → Q .non H'
theorem ok_laid (Df : Def K mg "_law_laid_in" s__law_laid_in ["_law_rows", "_law_row"]) (B : Bltn mg) (k_ahead : Knows P w K mg base 1 "_law_ahead" ["_law_one", "_law_other"] spAhead) : Knows P w K mg base 2 "_law_laid_in" ["_law_rows", "_law_row"] spLaid := by
  refine Df.ok sc__law_laid_in (fun vs H Q E h => ?_) (fun f cdv A outer s H vs Q E hr h => ?_)
  · obtain ⟨lr, L, x, rfl, _⟩ := h
    rfl
  · obtain ⟨lr, L, x, rfl, W, hx, hlt, hno, q⟩ := h
    refine ⟨_, by exact (pss_cons (ps_set (i := 2) sc__law_laid_in.nd rfl (Or.inl rfl) pe_int)
      (pss_cons (ps_while PassesOwn.never (PW.pt (pw_and (pt_cmpR op_lt (pv 2) (pe_bcall call_len_seq rfl B.len PySem.boot_len (pa_c (pv 0) pa_nil)) (nomark _)) (pw_and1 (pt_val (pe_callM k_ahead hr (pa_c (pe_ix ix_list (pv 0) (pv 2) (fun _ _ => rfl)) (pa_c (pv 1) pa_nil))))))) (pss_one (ps_set (i := 2) sc__law_laid_in.nd rfl (Or.inl rfl) (pe_op op_add (pv 2) pe_int))))
      (pss_one (ps_expr (pe_mcall PySem.F.plainAttrs_list PySem.F.slot_list_insert PySem.F.type_list_insert mt_insert (pv 0) (pa_c (pv 2) (pa_c (pv 1) pa_nil))))))), ?_⟩
    refine seq_use (fun v H' => v = .int 0 ∧ H = H') (fun Q' kk => kk _ _ ⟨rfl, rfl⟩) ?_
    rintro _ _ ⟨rfl, rfl⟩
    dsimp only [gName]
    refine stm_use (fun σ' H' => H = H' ∧ ∃ n : Nat, n ≤ L.length ∧ (∀ i (r : Row), i < n → L[i]? = some r → lt3 r.key x.key = true) ∧ (∀ r, L[n]? = some r → lt3 x.key r.key = true) ∧ σ' = [some (.ref lr), some (.ref x.at_), some (.int (n : Int))]) (fun Q' kk => ?_) ?_
    · refine ⟨fun m σ' H' => H = H' ∧ ∃ n : Nat, m = L.length - n ∧ n ≤ L.length ∧ (∀ i (r : Row), i < n → L[i]? = some r → lt3 r.key x.key = true) ∧ σ' = [some (.ref lr), some (.ref x.at_), some (.int (n : Int))], ⟨_, rfl, 0, rfl, Nat.zero_le _, (fun i r h => by omega), rfl⟩, ?_⟩
      rintro m σ' _ ⟨rfl, n, rfl, hn, h1, rfl⟩
      refine ⟨_, rfl, _, rfl, lr, _, rfl, .inl (SqL.of W.lst), _, _, rfl, rfl, _, rfl, ite_of (d := decide (n < L.length)) (by rw [refs_len]; by_cases h : n < L.length <;> simp [h]) (fun hd => ?_) (fun hd => ?_)⟩
      · have hlt' : n < L.length := of_decide_eq_true hd
        have hg : L[n]? = some L[n] := List.getElem?_eq_getElem hlt'
        refine ⟨_, rfl, _, rfl, lr, _, _, _, rfl, rfl, SqL.of W.lst, atI_nat (j := n) (by rw [refs_get, hg]; rfl), _, rfl, L[n], x, rfl, W.row _ (List.getElem_mem hlt'), hx, _, rfl, ?_⟩
        cases c : lt3 L[n].key x.key with
        | true =>
          refine iteT ⟨fun σ2 H2 => H = H2 ∧ σ2 = [some (.ref lr), some (.ref x.at_), some (.int ((n : Int) + 1))], ?_, ⟨_, rfl, _, _, rfl, rfl, rfl, rfl⟩⟩
          rintro σ2 _ ⟨rfl, rfl⟩
          refine ⟨L.length - (n + 1), by omega, rfl, n + 1, rfl, by omega, fun i r hi hr => ?_, by rw [show ((n + 1 : Nat) : Int) = (n : Int) + 1 by omega]⟩
          by_cases hin : i = n
          · rw [hin, hg] at hr
            cases hr
            exact c
          · exact h1 i r (by omega) hr
        | false =>
          refine iteF (kk _ _ ⟨rfl, n, hn, h1, fun r hr => ?_, rfl⟩)
          rw [hg] at hr
          cases hr
          refine lt3_tot (fun e => hno _ (List.getElem_mem hlt') ?_) c
          have := congrArg (fun k : K3 => k.2.2) e
          exact this
      · have hlt' : ¬ n < L.length := of_decide_eq_false hd
        refine iteF (kk _ _ ⟨rfl, n, hn, h1, fun r hr => ?_, rfl⟩)
        have := (List.getElem?_eq_some_iff.mp hr).1
        omega
    · rintro σ' _ ⟨rfl, n, hn, h1, h2, rfl⟩
      refine ⟨_, rfl, .inl ⟨rfl, _, SqL.of W.lst⟩, _, rfl, _, rfl, lr, _, _, _, rfl, rfl, W.lst, by omega, by rw [refs_len]; omega, by rw [refs_len]; exact Nat.lt_trans hlt (by decide), ?_⟩
      have er : (refs L).take ((n : Int).toNat) ++ V.ref x.at_ :: (refs L).drop ((n : Int).toNat) = refs (L.take n ++ x :: L.drop n) := by
        rw [Int.toNat_natCast]
        unfold refs
        rw [List.map_append, List.map_cons, List.map_take, List.map_drop]
      rw [er]
      have pm : (L.take n ++ x :: L.drop n).Perm (x :: L) := by
        have := List.perm_middle (a := x) (l₁ := L.take n) (l₂ := L.drop n)
        rw [List.take_append_drop] at this
        exact this
      have lne : ∀ b xs, H b = some (.tup xs) → b ≠ lr := fun b xs e z => by rw [z, W.lst] at e; cases e
      refine q (L.take n ++ x :: L.drop n) _ (fun b o hb e => ?_) ⟨upd_same, fun r hr' => ?_, sd_insert W.sd hn h1 h2, ?_⟩ pm
      · rw [upd_ne (fun z => hb (by simp [z]))]
        exact e
      · rcases List.mem_cons.mp (pm.mem_iff.mp hr') with h | h
        · rw [h, upd_ne (lne _ _ hx)]
          exact hx
        · rw [upd_ne (lne _ _ (W.row r h))]
          exact W.row r h
      · rw [pm.length_eq]
        simp
        omega
end
end K15

set_option Elab.async false
set_option linter.all false
set_option maxRecDepth 100000
set_option maxHeartbeats 4000000
set_option pp.maxSteps 600
set_option pp.deepTerms false
namespace K15
open PySem L2 PyProof.Rows
/-- the same rows but for their places in the heap and their order -/
def Pc (L rs : List Row) : Prop := (L.map Row.core).Perm (rs.map Row.core)
theorem Pc.len {L rs : List Row} (h : Pc L rs) : L.length = rs.length := by
  have := h.length_eq
  rwa [List.length_map, List.length_map] at this
theorem Pc.mem {L rs : List Row} (h : Pc L rs) {x : Row} (hx : x ∈ L) : ∃ r ∈ rs, r.core = x.core := by
  obtain ⟨r, hr, e⟩ := List.mem_map.mp (h.mem_iff.mp (List.mem_map.mpr ⟨x, hx, rfl⟩))
  exact ⟨r, hr, e⟩
theorem Pc.memR {L rs : List Row} (h : Pc L rs) {x : Row} (hx : x ∈ rs) : ∃ r ∈ L, r.core = x.core := by
  obtain ⟨r, hr, e⟩ := List.mem_map.mp (h.mem_iff.mpr (List.mem_map.mpr ⟨x, hx, rfl⟩))
  exact ⟨r, hr, e⟩
theorem core_place {a b : Row} (h : a.core = b.core) : a.place = b.place := congrArg (fun c : Int × Int × Int => c.1) h
theorem core_key {a b : Row} (h : a.core = b.core) : a.key = b.key := congrArg kc h
theorem Pc.no {L rs : List Row} (h : Pc L rs) {a : Int} (hn : ∀ r ∈ L, r.place ≠ a) : ∀ r ∈ rs, r.place ≠ a := fun r hr e => by
  obtain ⟨x, hx, ex⟩ := h.memR hr
  exact hn x hx ((core_place ex).trans e)
theorem Pc.add {L L' rs : List Row} (h : Pc L rs) {x : Row} {T : Addr} (pm : L'.Perm (x :: L)) : Pc L' (rs ++ [⟨x.place, x.rank, x.turn, T⟩]) := by
  unfold Pc
  refine (pm.map Row.core).trans ?_
  rw [List.map_append, List.map_cons]
  refine (List.Perm.cons _ h).trans ?_
  exact List.perm_append_comm (l₁ := [x.core]) (l₂ := rs.map Row.core)
theorem out_perm : ∀ {rs : List Row}, (rs.map (·.place)).Nodup → ∀ r ∈ rs, rs.Perm (r :: out_ rs r.place)
  | [], _, r, h => by cases h
  | a :: rs, nd, r, h => by
    rw [List.map_cons, List.nodup_cons] at nd
    rcases List.mem_cons.mp h with e | h1
    · subst e
      have : out_ (r :: rs) r.place = rs := by
        unfold out_
        rw [List.filter_cons_of_neg (by simp)]
        exact List.filter_eq_self.mpr fun x hx => by
          have : x.place ≠ r.place := fun e => nd.1 (List.mem_map.mpr ⟨x, hx, e⟩)
          simpa using this
      rw [this]
    · have hne : a.place ≠ r.place := fun e => nd.1 (List.mem_map.mpr ⟨r, h1, e.symm⟩)
      have : out_ (a :: rs) r.place = a :: out_ rs r.place := by
        unfold out_
        rw [List.filter_cons_of_pos (by simpa using hne)]
      rw [this]
      exact (List.Perm.cons a (out_perm nd.2 r h1)).trans (List.Perm.swap ..)
theorem erase_perm {α : Type} : ∀ {l : List α} {i : Nat} {x : α}, l[i]? = some x → l.Perm (x :: l.eraseIdx i)
  | [], i, x, h => by simp at h
  | a :: l, 0, x, h => by
    simp at h
    subst h
    exact List.Perm.refl _
  | a :: l, i + 1, x, h => by
    simp at h
    rw [List.eraseIdx_cons_succ]
    exact (List.Perm.cons a (erase_perm (by simpa using h))).trans (List.Perm.swap ..)
theorem Pc.erase {L rs : List Row} (h : Pc L rs) (nd : (rs.map (·.place)).Nodup) {i : Nat} {x : Row} (hx : L[i]? = some x) : ∃ r ∈ rs, r.core = x.core ∧ Pc (L.eraseIdx i) (out_ rs r.place) := by
  obtain ⟨r, hr, e⟩ := h.mem (List.mem_of_getElem? hx)
  refine ⟨r, hr, e, ?_⟩
  have h1 := (erase_perm hx).map Row.core
  have h2 := (out_perm nd r hr).map Row.core
  rw [List.map_cons] at h1 h2
  rw [e] at h2
  exact (h1.symm.trans (h.trans h2)).cons_inv
theorem Pc.first {L rs : List Row} (h : Pc L rs) (nd : (rs.map (·.place)).Nodup) {x : Row} {r : Row} (hL : L[0]? = some x) (sd : Sd L) (hr : r ∈ rs) (e : r.core = x.core) : ∀ r' ∈ rs, r' = r ∨ lt3 r.key r'.key = true := fun r' hr' => by
  obtain ⟨y, hy, ey⟩ := h.memR hr'
  cases L with
  | nil => cases hy
  | cons a L =>
    cases hL
    rcases List.mem_cons.mp hy with h1 | h1
    · left
      refine place_inj nd r' hr' r hr ?_
      rw [core_place e, ← core_place ey, h1]
    · right
      rw [core_key e, ← core_key ey]
      exact (List.pairwise_cons.mp sd).1 y h1
theorem sd_erase {L : List Row} (sd : Sd L) (i : Nat) : Sd (L.eraseIdx i) := sd.sublist (List.eraseIdx_sublist ..)
theorem map_erase {α β : Type} (f : α → β) : ∀ (l : List α) (i : Nat), (l.map f).eraseIdx i = (l.eraseIdx i).map f
  | [], _ => rfl
  | _ :: _, 0 => rfl
  | a :: l, i + 1 => by
    rw [List.map_cons, List.eraseIdx_cons_succ, List.eraseIdx_cons_succ, List.map_cons, map_erase f l i]
theorem refs_erase (L : List Row) (i : Nat) : (refs L).eraseIdx i = refs (L.eraseIdx i) := map_erase _ _ _
theorem LwAt.erase {H : Hp} {lr : Addr} {L : List Row} (W : LwAt H lr L) (i : Nat) : LwAt (upd H lr (.lst (refs (L.eraseIdx i)))) lr (L.eraseIdx i) := by
  refine ⟨upd_same, fun r hr => ?_, sd_erase W.sd i, Nat.le_trans (List.length_eraseIdx_le ..) W.len⟩
  have e := W.row r (List.mem_of_mem_eraseIdx hr)
  rw [upd_ne (fun z => by rw [z, W.lst] at e; cases e)]
  exact e
theorem chg_upd {H : Hp} {lr : Addr} {o : HO} : Chg [lr] H (upd H lr o) := fun b u hb e => by rw [upd_ne (fun z => hb (by simp [z]))]; exact e
theorem RdAt.lw {C : Addr} {H H' : Hp} {p hd lr : Addr} {rs : List Row} {xs : List V} (R : RdAt C H p hd rs) (hl : H lr = some (.lst xs)) (c : Chg [lr] H H') : RdAt C H' p hd rs := by
  obtain ⟨dx, hp⟩ := R.obj
  refine R.chg c (fun b hb ys e => by rw [List.mem_singleton.mp hb, hl] at e; cases e) (fun z => ?_) (fun z => ?_)
  · rw [List.mem_singleton.mp z, hl] at hp; cases hp
  · have e := R.tab
    rw [List.mem_singleton.mp z, hl] at e; cases e
theorem LwAt.rd {C : Addr} {H H' : Hp} {p hd lr : Addr} {rs L : List Row} (W : LwAt H lr L) (R : RdAt C H p hd rs) (c : Chg [p, hd] H H') : LwAt H' lr L := by
  obtain ⟨dx, hp⟩ := R.obj
  refine W.chg c R.noT (fun z => ?_)
  have e := W.lst
  simp only [List.mem_cons, List.not_mem_nil, or_false] at z
  rcases z with rfl | rfl
  · rw [hp] at e; cases e
  · rw [R.tab] at e; cases e
def plV (L : List Row) : List V := L.map fun r => V.int r.place
theorem plV_len (L : List Row) : (plV L).length = L.length := List.length_map ..
theorem plV_flat (L : List Row) : (plV L).all flatV = true := by
  unfold plV
  rw [List.all_map]
  exact List.all_eq_true.mpr fun _ _ => rfl
def fr (L : List Row) (i : Nat) : List Nat := (List.range i).filter fun k => !(L.any fun r => r.place == (k : Int))
theorem fr_no {L : List Row} {i k : Nat} (h : k ∈ fr L i) : ∀ r ∈ L, r.place ≠ (k : Int) := fun r hr e => by
  have h1 := (List.mem_filter.mp h).2
  have : (L.any fun r => r.place == (k : Int)) = true := List.any_eq_true.mpr ⟨r, hr, by rw [e]; simp⟩
  rw [this] at h1
  cases h1
theorem nodup_len {α : Type} [DecidableEq α] : ∀ {xs ys : List α}, xs.Nodup → (∀ x ∈ xs, x ∈ ys) → xs.length ≤ ys.length
  | [], _, _, _ => Nat.zero_le _
  | x :: xs, ys, nd, h => by
    rw [List.nodup_cons] at nd
    have hx : x ∈ ys := h x (by simp)
    have h1 := nodup_len (xs := xs) (ys := ys.erase x) nd.2 fun y hy => (List.mem_erase_of_ne (fun e => nd.1 (by rw [← e]; exact hy))).mpr (h y (by simp [hy]))
    have h2 := List.length_erase_of_mem hx
    have h3 := List.length_pos_of_mem hx
    rw [List.length_cons]
    omega
theorem fr_pos {L : List Row} (h : L.length < 40) : 0 < (fr L 40).length := by
  rcases Nat.eq_zero_or_pos (fr L 40).length with e | e
  · exfalso
    have e0 : fr L 40 = [] := List.length_eq_zero_iff.mp e
    have nd : ((List.range 40).map fun k : Nat => (k : Int)).Nodup := by
      unfold List.Nodup
      rw [List.pairwise_map]
      exact (List.nodup_range (n := 40)).imp fun {a b} h z => h (by omega)
    have := nodup_len (xs := (List.range 40).map fun k : Nat => (k : Int)) (ys := L.map (·.place)) nd fun x hx => by
      obtain ⟨k, hk, rfl⟩ := List.mem_map.mp hx
      have hk' := List.filter_eq_nil_iff.mp e0 k hk
      have : (L.any fun r => r.place == (k : Int)) = true := by simpa using hk'
      obtain ⟨r, hr, er⟩ := List.any_eq_true.mp this
      exact List.mem_map.mpr ⟨r, hr, by simpa using er⟩
    rw [List.length_map, List.length_map, List.length_range] at this
    omega
  · exact e
theorem at4 {a b c d i : Int} : ∃ x : Int, atI [V.int a, .int b, .int c, .int d] (i % 4) = some (.int x) := by
  obtain ⟨v, hv, hm, _⟩ := atI_mem (xs := [V.int a, .int b, .int c, .int d]) (i := i % 4) (Int.emod_nonneg _ (show (4 : Int) ≠ 0 by decide)) (Int.emod_lt_of_pos _ (show (0 : Int) < 4 by decide))
  simp only [List.mem_cons, List.not_mem_nil, or_false] at hm
  rcases hm with rfl | rfl | rfl | rfl
  · exact ⟨_, hv⟩
  · exact ⟨_, hv⟩
  · exact ⟨_, hv⟩
  · exact ⟨_, hv⟩
theorem w3 {p hd lr : Addr} : (∀ b ∈ [p, hd], b ∈ [p, hd, lr]) ∧ ∀ b ∈ [lr], b ∈ [p, hd, lr] := by
  refine ⟨fun b hb => ?_, fun b hb => ?_⟩
  · simp only [List.mem_cons, List.not_mem_nil, or_false] at hb ⊢
    rcases hb with h | h <;> simp [h]
  · rw [List.mem_singleton.mp hb]
    simp
section
variable {P : Program} {w : World} {K : PySem.W.Frag} {mg : Str → Option Value} {base : Heap} {C : Addr}
def spDeed (C : Addr) : Sp := fun vs H Q _ => ∃ (p hd lr : Addr) (rs L : List Row) (n : Int), vs = [.ref p, .ref lr, .int n] ∧ RdAt C H p hd rs ∧ LwAt H lr L ∧ Pc L rs ∧ ∀ (rs' L' : List Row) H', Chg [p, hd, lr] H H' → RdAt C H' p hd rs' → LwAt H' lr L' → Pc L' rs' → Q (.bl true) H'
theorem ok_deed (Df : Def K mg "_law_deed" s__law_deed ["_law_readies", "_law_rows", "_law_number"]) (B : Bv mg) (S : RCls K mg C) (k_laid : Knows P w K mg base 2 "_law_laid_in" ["_law_rows", "_law_row"] spLaid)
    (km_put : KnowsM CX0 P w K mg base 1 C "put" ["self", "place", "rank", "turn"] (spPut C)) (km_take : KnowsM CX0 P w K mg base 5 C "take" ["self"] (spTake C)) (km_drop : KnowsM CX0 P w K mg base 1 C "drop" ["self", "place"] (spDrop C)) :
    Knows P w K mg base 6 "_law_deed" ["_law_readies", "_law_rows", "_law_number"] (spDeed C) := by
  refine Df.ok sc__law_deed (fun vs H Q E h => ?_) (fun f cdv A outer s H vs Q E hr h => ?_)
  · obtain ⟨p, hd, lr, rs, L, n, rfl, _⟩ := h
    rfl
  · obtain ⟨p, hd, lr, rs, L, n, rfl, R, W, pc, q⟩ := h
    have hu0 := hr.units0
    refine ⟨_, by exact (pss_cons (ps_set (i := 3) sc__law_deed.nd rfl (Or.inl rfl) (pe_op op_mod (pv 2) pe_int))
      (pss_cons (ps_set (i := 4) sc__law_deed.nd rfl (Or.inr rfl) (pe_comp1 [] ["_law_row"] rfl (pi_list (pv 1)) (fun _ _ _ _ => pts_nil) (fun _ _ _ _ => (pe_ix (ix_tupC (K0 := K) rfl) (pv 0) pe_int (fun _ _ => rfl)))))
      (pss_cons (ps_if (PW.pt (pw_and (pt_cmpR op_lt (pv 3) pe_int (nomark _)) (pw_and1 (pt_cmpR op_lt (pe_bcall call_len_seq rfl B.b.len PySem.boot_len (pa_c (pv 4) pa_nil)) pe_int (nomark _))))) (pss_cons (ps_setC (i := 5) [4] ["_law_place", "_law_places"] sc__law_deed.nd rfl (Or.inl rfl) rfl (pi_range1 rfl B.b.range (pa_c pe_int pa_nil)) (fun _ _ _ _ => pts_one (pt_cmpR (notIn_seqC (K0 := K) rfl) (pv 0) (pv 1) (by with_unfolding_all rfl))) (fun _ _ _ _ => (pv 0)))
      (pss_cons (ps_set (i := 6) sc__law_deed.nd rfl (Or.inl rfl) (pe_ix ix_list (pv 5) (pe_op op_mod (pe_op op_fdiv (pv 2) pe_int) (pe_bcall call_len_seq rfl B.b.len PySem.boot_len (pa_c (pv 5) pa_nil))) (fun _ _ => rfl)))
      (pss_cons (ps_set (i := 7) sc__law_deed.nd rfl (Or.inl rfl) (pe_ix ix_list (pe_lst (pa_c (pe_op op_mod (pe_op op_fdiv (pv 2) pe_int) pe_int) (pa_c pe_int (pa_c pe_int (pa_c (pe_op op_mod (pe_op op_fdiv (pv 2) pe_int) pe_int) pa_nil))))) (pe_op op_mod (pe_op op_fdiv (pv 2) pe_int) pe_int) (fun _ _ => rfl)))
      (pss_cons (ps_set (i := 8) sc__law_deed.nd rfl (Or.inl rfl) (pe_ix ix_list (pe_lst (pa_c (pe_op op_mod (pe_op op_fdiv (pv 2) pe_int) pe_int) (pa_c (pe_op op_mod (pe_op op_fdiv (pv 2) pe_int) pe_int) (pa_c (pe_op op_mod (pe_op op_fdiv (pv 2) pe_int) pe_int) (pa_c pe_int pa_nil))))) (pe_op op_mod (pe_op op_fdiv (pv 2) pe_int) pe_int) (fun _ _ => rfl)))
      (pss_cons (ps_expr (pe_callM k_laid hr (pa_c (pv 1) (pa_c (pe_tup (pa_c (pv 6) (pa_c (pv 7) (pa_c (pv 8) pa_nil)))) pa_nil))))
      (pss_one (ps_ret (pe_cmpR op_isN (pe_methM km_put S.cl hr pass0 (pv 0) (pa_c (pv 6) (pa_c (pv 7) (pa_c (pv 8) pa_nil)))) pe_non (nomark _))))))))) pss_nil)
      (pss_cons (ps_if (PW.pt (pw_or (pt_cmpR op_lt (pv 3) pe_int (nomark _)) (pw_or1 (pt_cmpR (op_eqL hu0) (pv 4) (pe_lst pa_nil) (nomark _))))) (pss_cons (ps_set (i := 9) sc__law_deed.nd rfl (Or.inl rfl) pe_non)
      (pss_cons (ps_if (pt_cmpR (op_neL hu0) (pv 4) (pe_lst pa_nil) (nomark _)) (pss_one (ps_set (i := 9) sc__law_deed.nd rfl (Or.inl rfl) (pe_ix ix_tup (pe_mcall PySem.F.plainAttrs_list PySem.F.slot_list_pop PySem.F.type_list_pop mt_popAt (pv 1) (pa_c pe_int pa_nil)) pe_int (fun _ _ => rfl)))) pss_nil)
      (pss_cons (ps_set (i := 10) sc__law_deed.nd rfl (Or.inl rfl) (pe_methM0 km_take S.cl hr pass0 (pv 0)))
      (pss_one (ps_ret (pe_and (pe_not (pe_isiM B.b.isi B.b.bool boot_bool (pv 10))) (pe_one (pe_cmpR op_eq (pv 10) (pv 9) (nomark _))))))))) pss_nil)
      (pss_cons (ps_set (i := 6) sc__law_deed.nd rfl (Or.inl rfl) (pe_ix ix_list (pv 4) (pe_op op_mod (pe_op op_fdiv (pv 2) pe_int) (pe_bcall call_len_seq rfl B.b.len PySem.boot_len (pa_c (pv 4) pa_nil))) (fun _ _ => rfl)))
      (pss_cons (ps_expr (pe_mcall PySem.F.plainAttrs_list PySem.F.slot_list_pop PySem.F.type_list_pop mt_popAt (pv 1) (pa_c (pe_op op_mod (pe_op op_fdiv (pv 2) pe_int) (pe_bcall call_len_seq rfl B.b.len PySem.boot_len (pa_c (pv 4) pa_nil))) pa_nil)))
      (pss_one (ps_ret (pe_cmpR op_isN (pe_methM km_drop S.cl hr pass0 (pv 0) (pa_c (pv 6) pa_nil)) pe_non (nomark _)))))))))), ?_⟩
    refine ⟨_, rfl, _, _, rfl, rfl, by walk_at "m", ?_⟩
    dsimp only [gName]
    generalize n % 8 = way
    refine seq_use (fun v H' => ∃ pl, v = .ref pl ∧ H' pl = some (.lst (plV L)) ∧ Same H H' ∧ H pl = none) (fun Q' kk => ?_) ?_
    · refine ⟨_, rfl, lr, rfl, ⟨_, SqL.of W.lst⟩, ?_⟩
      refine comp1_wk (wk_list K lr (refs L)) (fun i ys H' => H' = H ∧ ys = plV (L.take i)) ⟨rfl, rfl⟩ (fun i ys H' _ h => ⟨by rw [h.1]; exact SqL.of W.lst, by rw [h.2, plV_len, List.length_take]; omega⟩) (by rw [refs_len]; exact Nat.le_trans W.len (by decide)) ?_ ?_
      · rintro i x ys H' Nx hx ⟨rfl, rfl⟩ hN
        rw [refs_get] at hx
        obtain ⟨r, hr', rfl⟩ := Option.map_eq_some_iff.mp hx
        refine tTrue_use ⟨_, rfl, r.at_, _, _, _, rfl, rfl, SqT.of (W.row r (List.mem_of_getElem? hr')), atI_nat (j := 0) rfl, hN _ _ ⟨rfl, ?_⟩⟩
        unfold plV
        rw [List.take_add_one, hr', List.map_append]
        rfl
      · rintro ys H' ⟨rfl, rfl⟩ pl hpl
        exact kk _ _ ⟨pl, rfl, by rw [upd_same, refs_len, List.take_length], same_of hpl, hpl⟩
    rintro _ H1 ⟨pl, rfl, epl, s1, npl⟩
    dsimp only [gName]
    have R1 := R.same s1
    have W1 := W.same s1
    have c1 : Chg [p, hd, lr] H H1 := Chg.of s1
    have npl2 : pl ≠ lr := fun z => by rw [z, W.lst] at npl; cases npl
    refine if_use (fun b H' => H1 = H' ∧ (b = true → L.length < 40)) (fun Q' kk => ?_) ?_ ?_
    · refine ⟨_, rfl, _, _, rfl, rfl, _, rfl, ite2 (fun h1 => ?_) (fun h1 => ?_)⟩
      · refine ⟨_, rfl, pl, _, rfl, .inl (SqL.of epl), _, _, rfl, rfl, _, rfl, kk _ _ ⟨rfl, fun hb => ?_⟩⟩
        have := of_decide_eq_true hb
        rw [plV_len] at this
        omega
      · exact kk _ _ ⟨rfl, fun hb => by cases hb⟩
    · rintro _ ⟨rfl, hlt⟩
      replace hlt := hlt rfl
      dsimp only
      refine seq_use (fun v H' => ∃ fl, v = .ref fl ∧ H' fl = some (.lst ((fr L 40).map fun k : Nat => V.int (k : Int))) ∧ Same H1 H') (fun Q' kk => ?_) ?_
      · refine ⟨40, rfl, by decide, by decide, ?_⟩
        refine comp1_wk (wk_range 0 40) (fun i ys H' => H' = H1 ∧ ys = (fr L i).map fun k : Nat => V.int (k : Int)) ⟨rfl, rfl⟩ (fun i ys H' _ h => ⟨trivial, by rw [h.2, List.length_map]; exact Nat.le_trans (List.length_filter_le _ _) (by rw [List.length_range]; exact Nat.le_refl _)⟩) (by rw [rangeV_length]; decide) ?_ ?_
        · rintro i x ys H' Nx hx ⟨rfl, rfl⟩ hN
          have hi := (List.getElem?_eq_some_iff.mp hx).1
          rw [rangeV_length] at hi
          obtain rfl : x = .int (i : Int) := by
            have h1 := (List.getElem?_eq_some_iff.mp hx).2
            rw [← h1]
            simp [rangeV]
          have ea : ((plV L).any fun y => eqV y (.int (i : Int))) = L.any fun r => r.place == (i : Int) := by
            unfold plV
            rw [List.any_map]
            rfl
          refine ⟨_, rfl, _, rfl, pl, plV L, rfl, .inl (SqL.of epl), rfl, plV_flat L, _, rfl, ?_⟩
          have es : fr L (i + 1) = fr L i ++ (if (!(L.any fun r => r.place == (i : Int))) = true then [i] else []) := by
            unfold fr
            rw [List.range_succ, List.filter_append]
            congr 1
            rw [List.filter_cons, List.filter_nil]
          refine ite_of (d := !(L.any fun r => r.place == (i : Int))) (by rw [← ea]; rfl) (fun h => ⟨_, rfl, hN _ _ ⟨rfl, ?_⟩⟩) (fun h => hN _ _ ⟨rfl, ?_⟩)
          · rw [es, if_pos h, List.map_append]
            rfl
          · rw [es, if_neg (by rw [h]; decide), List.append_nil]
        · rintro ys H' ⟨rfl, rfl⟩ fl hfl
          exact kk _ _ ⟨fl, rfl, by rw [upd_same, rangeV_length], same_of hfl⟩
      rintro _ H2 ⟨fl, rfl, efl, s2⟩
      dsimp only [gName]
      have hp0 := fr_pos hlt
      have hp1 : (0 : Int) < (((fr L 40).map fun k : Nat => V.int (k : Int)).length : Int) := by rw [List.length_map]; omega
      obtain ⟨v, hv, hm, _⟩ := atI_mem (xs := (fr L 40).map fun k : Nat => V.int (k : Int)) (i := n / 8 % (((fr L 40).map fun k : Nat => V.int (k : Int)).length : Int)) (Int.emod_nonneg _ (by omega)) (Int.emod_lt_of_pos _ hp1)
      obtain ⟨k, hk, rfl⟩ := List.mem_map.mp hm
      refine ⟨_, rfl, _, rfl, _, _, rfl, rfl, by walk_at "m", _, rfl, fl, _, rfl, .inl (SqL.of efl), _, _, rfl, rfl, hp1, fl, _, _, _, rfl, rfl, SqL.of efl, hv, ?_⟩
      dsimp only [gName]
      refine seq_use (fun v H' => Same H2 H' ∧ ∃ b : Int, v = .int b) (fun Q' kk => ?_) ?_
      · refine ⟨_, rfl, _, _, rfl, rfl, by walk_at "m", _, _, rfl, rfl, by walk_at "m", _, rfl, _, _, rfl, rfl, by walk_at "m", _, _, rfl, rfl, by walk_at "m", by show 4 ≤ sizeLine; decide, fun l hl => ?_⟩
        obtain ⟨x, hx⟩ := at4 (a := n / 320 % 3) (b := 0) (c := 99) (d := n / 320 % 100) (i := n / 8)
        exact ⟨_, rfl, _, _, rfl, rfl, by walk_at "m", _, _, rfl, rfl, by walk_at "m", l, _, _, _, rfl, rfl, SqL.of upd_same, hx, kk _ _ ⟨same_of hl, _, rfl⟩⟩
      rintro _ H3 ⟨s3, b, rfl⟩
      dsimp only [gName]
      refine seq_use (fun v H' => Same H3 H' ∧ ∃ b : Int, v = .int b) (fun Q' kk => ?_) ?_
      · refine ⟨_, rfl, _, _, rfl, rfl, by walk_at "m", _, _, rfl, rfl, by walk_at "m", _, rfl, _, _, rfl, rfl, by walk_at "m", _, _, rfl, rfl, by walk_at "m", _, rfl, _, _, rfl, rfl, by walk_at "m", _, _, rfl, rfl, by walk_at "m", by show 4 ≤ sizeLine; decide, fun l hl => ?_⟩
        obtain ⟨x, hx⟩ := at4 (a := n / 32000 % 3) (b := n / 32000 % 50) (c := n / 32 % 1000000001) (d := 1000000000) (i := n / 3)
        exact ⟨_, rfl, _, _, rfl, rfl, by walk_at "m", _, _, rfl, rfl, by walk_at "m", l, _, _, _, rfl, rfl, SqL.of upd_same, hx, kk _ _ ⟨same_of hl, _, rfl⟩⟩
      rintro _ H4 ⟨s4, c, rfl⟩
      dsimp only [gName]
      have s14 := (s2.trans s3).trans s4
      refine ⟨_, rfl, _, rfl, _, rfl, _, rfl, by show 3 ≤ sizeLine; decide, fun T hT => ?_⟩
      have s5 : Same H1 (upd H4 T (.tup [.int (k : Int), .int b, .int c])) := s14.trans (same_of hT)
      have e5 : (upd H4 T (.tup [.int (k : Int), .int b, .int c])) T = some (.tup [.int (k : Int), .int b, .int c]) := upd_same
      generalize upd H4 T (.tup [.int (k : Int), .int b, .int c]) = H5 at s5 e5
      have R5 := R1.same s5
      have W5 := W1.same s5
      refine ⟨lr, L, ⟨(k : Int), b, c, T⟩, rfl, W5, e5, hlt, fr_no hk, fun L' H6 c6 W6 pm => ?_⟩
      have R6 := R5.lw W5.lst c6
      obtain ⟨dx6, hp6⟩ := R6.obj
      have pc6 := pc.add (T := 0) pm
      refine ⟨_, rfl, p, dx6, _, rfl, hp6, rfl, _, rfl, _, rfl, _, rfl, p, hd, rs, (k : Int), b, c, rfl, R6, by rw [← pc.len]; exact hlt, pc.no (fr_no hk), fun T' H7 c7 R7 => ⟨rfl, ?_⟩⟩
      rw [decide_eq_true rfl]
      refine q _ L' H7 ((c1.trans (Chg.of s5)).trans ((c6.wide w3.2).trans (c7.wide w3.1))) R7 (W6.rd R6 c7) (pc.add pm)
    · rintro _ ⟨rfl, -⟩
      refine next_to ?_
      dsimp only
      refine if_use (fun b H' => Same H1 H' ∧ (b = false → L ≠ [])) (fun Q' kk => ?_) ?_ ?_
      · refine ⟨_, rfl, _, _, rfl, rfl, _, rfl, ite2 (fun h1 => kk _ _ ⟨Same.refl _, fun hb => by cases hb⟩) (fun h1 => ?_)⟩
        refine ⟨_, rfl, by show 0 ≤ sizeLine; decide, fun e he => ⟨pl, e, plV L, [], rfl, rfl, SqL.of (same_of he _ _ epl), SqL.of upd_same, plV_flat L, rfl, _, rfl, kk _ _ ⟨same_of he, fun hb hL => ?_⟩⟩⟩
        rw [hL] at hb
        cases hb
      · rintro H2 ⟨s2, -⟩
        dsimp only
        have R2 := R1.same s2
        have W2 := W1.same s2
        refine seq_use (fun v H' => v = .non ∧ H2 = H') (fun Q' kk => kk _ _ ⟨rfl, rfl⟩) ?_
        rintro _ _ ⟨rfl, rfl⟩
        dsimp only [gName]
        have epl2 := s2 _ _ epl
        cases L with
        | nil =>
          refine ⟨_, rfl, by show 0 ≤ sizeLine; decide, fun e he => ⟨pl, e, plV [], [], rfl, rfl, SqL.of (same_of he _ _ epl2), SqL.of upd_same, rfl, rfl, _, rfl, iteF (next_to ?_)⟩⟩
          dsimp only
          have s3 : Same H2 (upd H2 e (.lst [])) := same_of he
          generalize upd H2 e (.lst []) = H3 at s3
          have R3 := R2.same s3
          obtain ⟨dx3, hp3⟩ := R3.obj
          have hrs : rs = [] := by
            have := pc.len
            exact List.length_eq_zero_iff.mp this.symm
          refine ⟨_, rfl, p, dx3, _, rfl, hp3, rfl, p, hd, rs, rfl, R3, (fun _ H4 s4 => ?_), (fun r hr' => by rw [hrs] at hr'; cases hr')⟩
          dsimp only [gName]
          refine ⟨_, rfl, _, _, false, rfl, TyOf.non, by kernel_rfl, _, rfl, _, rfl, iteT ⟨_, rfl, _, rfl, rfl, ?_⟩⟩
          rw [decide_eq_true rfl]
          have s04 := (s2.trans s3).trans s4
          exact q rs [] H4 (c1.trans (Chg.of s04)) (R1.same s04) (W1.same s04) pc
        | cons x L' =>
          refine ⟨_, rfl, by show 0 ≤ sizeLine; decide, fun e he => ⟨pl, e, plV (x :: L'), [], rfl, rfl, SqL.of (same_of he _ _ epl2), SqL.of upd_same, plV_flat _, rfl, _, rfl, iteT ?_⟩⟩
          have s3 : Same H2 (upd H2 e (.lst [])) := same_of he
          generalize upd H2 e (.lst []) = H3 at s3
          have R3 := R2.same s3
          have W3 := W2.same s3
          have hx3 := W3.row x (by simp)
          refine ⟨_, rfl, .inl ⟨rfl, _, SqL.of W3.lst⟩, lr, _, 0, 0, .ref x.at_, rfl, rfl, W3.lst, by decide, by decide, (by unfold seqIndex?; simp [refs]), rfl, ?_⟩
          have er : (refs (x :: L')).eraseIdx 0 = refs ((x :: L').eraseIdx 0) := refs_erase _ _
          rw [er]
          have W4 := W3.erase 0
          have c4 : Chg [lr] H3 (upd H3 lr (.lst (refs ((x :: L').eraseIdx 0)))) := chg_upd
          have R4 := R3.lw W3.lst c4
          have hx4 : (upd H3 lr (.lst (refs ((x :: L').eraseIdx 0)))) x.at_ = some (.tup x.row) := by
            rw [upd_ne (fun z => by rw [z, W3.lst] at hx3; cases hx3)]
            exact hx3
          generalize upd H3 lr (.lst (refs ((x :: L').eraseIdx 0))) = H4 at W4 c4 R4 hx4
          refine ⟨x.at_, _, _, _, rfl, rfl, SqT.of hx4, atI_nat (j := 0) rfl, ?_⟩
          dsimp only [gName]
          obtain ⟨dx4, hp4⟩ := R4.obj
          obtain ⟨r, hr', er', pc'⟩ := pc.erase R.nd (i := 0) (x := x) rfl
          refine ⟨_, rfl, p, dx4, _, rfl, hp4, rfl, p, hd, rs, rfl, R4, (fun h0 => by rw [h0] at hr'; cases hr'), (fun r2 hr2 hfirst H5 c5 R5 => ?_)⟩
          obtain rfl : r2 = r := by
            rcases hfirst r hr' with h | h
            · exact h.symm
            · rcases pc.first R.nd (x := x) rfl W.sd hr' er' r2 hr2 with h2 | h2
              · exact h2
              · rw [lt3_asym h] at h2; cases h2
          dsimp only [gName]
          refine ⟨_, rfl, _, _, false, rfl, TyOf.int _, by kernel_rfl, _, rfl, _, rfl, iteT ⟨_, rfl, _, rfl, rfl, ?_⟩⟩
          rw [dint, decide_eq_true (core_place er')]
          exact q _ _ H5 (((c1.trans (Chg.of (s2.trans s3))).trans (c4.wide w3.2)).trans (c5.wide w3.1)) R5 (W4.rd R4 c5) pc'
      · rintro H2 ⟨s2, hne⟩
        replace hne := hne rfl
        refine next_to ?_
        dsimp only
        have R2 := R1.same s2
        have W2 := W1.same s2
        have epl2 := s2 _ _ epl
        have hp0 : 0 < L.length := List.length_pos_iff.mpr hne
        have hp1 : (0 : Int) < ((plV L).length : Int) := by rw [plV_len]; omega
        have w0 := Int.emod_nonneg (n / 8) (show ((plV L).length : Int) ≠ 0 by omega)
        have w1 := Int.emod_lt_of_pos (n / 8) hp1
        have ei : ∃ i : Nat, n / 8 % ((plV L).length : Int) = (i : Int) ∧ i < L.length := ⟨(n / 8 % ((plV L).length : Int)).toNat, by omega, by have e := plV_len L; omega⟩
        obtain ⟨i, ei, hi⟩ := ei
        have hx : L[i]? = some L[i] := List.getElem?_eq_getElem hi
        refine ⟨_, rfl, _, rfl, _, _, rfl, rfl, by walk_at "m", _, rfl, pl, _, rfl, .inl (SqL.of epl2), _, _, rfl, rfl, hp1, pl, _, _, .int L[i].place, rfl, rfl, SqL.of epl2, ?_, ?_⟩
        · rw [ei]
          exact atI_nat (by unfold plV; rw [List.getElem?_map, hx]; rfl)
        dsimp only [gName]
        refine ⟨_, rfl, .inl ⟨rfl, _, SqL.of W2.lst⟩, _, rfl, _, _, rfl, rfl, by walk_at "m", _, rfl, pl, _, rfl, .inl (SqL.of epl2), _, _, rfl, rfl, hp1, lr, _, (i : Int), i, .ref L[i].at_, rfl, (by show [V.int (n / 8 % ((plV L).length : Int))] = _; rw [ei]), W2.lst, by omega, by have := W.len; omega, ?_, by rw [refs_get, hx]; rfl, ?_⟩
        · rw [refs_len, PySem.StrLaws.seqIndex_nonneg (by omega) (by omega), Int.toNat_natCast]
        rw [refs_erase]
        have W3 := W2.erase i
        have c3 : Chg [lr] H2 (upd H2 lr (.lst (refs (L.eraseIdx i)))) := chg_upd
        have R3 := R2.lw W2.lst c3
        generalize upd H2 lr (.lst (refs (L.eraseIdx i))) = H3 at W3 c3 R3
        obtain ⟨dx3, hp3⟩ := R3.obj
        obtain ⟨r, hr', er', pc'⟩ := pc.erase R.nd hx
        refine ⟨_, rfl, p, dx3, _, rfl, hp3, rfl, _, rfl, p, hd, rs, r, by rw [core_place er']; rfl, R3, hr', fun H4 c4 R4 => ⟨rfl, ?_⟩⟩
        rw [decide_eq_true rfl]
        exact q _ _ H4 (((c1.trans (Chg.of s2)).trans (c3.wide w3.2)).trans (c4.wide w3.1)) R4 (W3.rd R3 c4) pc'
end
end K15

set_option Elab.async false
set_option linter.all false
set_option maxRecDepth 100000
set_option maxHeartbeats 4000000
set_option pp.maxSteps 600
set_option pp.deepTerms false
namespace K15
open PySem L2 PyProof.Rows
def tl (f : Bool) : List V := if f then [.non] else []
def tlD (f : Bool) : List L2.D := if f then [.a .non] else []
/-- what was told and perhaps changed; its lists are none of NL -/
def PairOk (H : Hp) (NL : List Addr) (t : Addr) : Prop := ∃ (a b : Addr) (o : List Row) (f : Bool), H t = some (.tup [.ref a, .ref b]) ∧ a ∉ NL ∧ b ∉ NL ∧ H a = some (.lst (refs o ++ tl f)) ∧ H b = some (.lst (refs o ++ tl f)) ∧ Rows H o
structure HeldAt (H : Hp) (NL : List Addr) (hl : Addr) (n : Nat) : Prop where
  ex : ∃ ts : List Addr, H hl = some (.lst (ts.map V.ref)) ∧ ts.length ≤ n ∧ ∀ t ∈ ts, PairOk H NL t
/-- what of S is a list is one of NL; no tuples -/
def Okc (H : Hp) (NL S : List Addr) : Prop := noT H S ∧ ∀ b ∈ S, b ∉ NL → ∀ xs, H b ≠ some (.lst xs)
theorem PairOk.chg {S NL : List Addr} {H H' : Hp} {t : Addr} (h : PairOk H NL t) (c : Chg S H H') (k : Okc H NL S) : PairOk H' NL t := by
  obtain ⟨a, b, o, f, h1, h2, h3, h4, h5, h6⟩ := h
  exact ⟨a, b, o, f, c.tup k.1 h1, h2, h3, c _ _ (fun z => k.2 a z h2 _ h4) h4, c _ _ (fun z => k.2 b z h3 _ h5) h5, fun r hr => c.tup k.1 (h6 r hr)⟩
theorem HeldAt.chg {S NL : List Addr} {H H' : Hp} {hl : Addr} {n : Nat} (h : HeldAt H NL hl n) (c : Chg S H H') (k : Okc H NL S) (hh : hl ∉ S) : HeldAt H' NL hl n := by
  obtain ⟨ts, h1, h2, h3⟩ := h
  exact ⟨ts, c _ _ hh h1, h2, fun t ht => (h3 t ht).chg c k⟩
theorem HeldAt.more {NL : List Addr} {H : Hp} {hl : Addr} {n n' : Nat} (h : HeldAt H NL hl n) (hle : n ≤ n') : HeldAt H NL hl n' := by
  obtain ⟨ts, h1, h2, h3⟩ := h
  exact ⟨ts, h1, Nat.le_trans h2 hle, h3⟩
theorem HeldAt.same {NL : List Addr} {H H' : Hp} {hl : Addr} {n : Nat} (h : HeldAt H NL hl n) (s : Same H H') : HeldAt H' NL hl n := h.chg (S := []) (Chg.of s) ⟨fun _ h => (by cases h), fun _ h => (by cases h)⟩ (by simp)
theorem row_rep {K : PySem.W.Frag} {H : Hp} {r : Row} (h : H r.at_ = some (.tup r.row)) : Rep K H (.ref r.at_) (rowD r) := .t (SqT.of h) (.cons (.a rfl) (.cons (.a rfl) (.cons (.a rfl) .nil)))
theorem rows_reps {K : PySem.W.Frag} {H : Hp} : ∀ {o : List Row}, Rows H o → Reps K H (refs o) (o.map rowD)
  | [], _ => .nil
  | x :: r, h => .cons (row_rep (h x (by simp))) (rows_reps fun l hl => h l (by simp [hl]))
theorem reps_app {K : PySem.W.Frag} {H : Hp} : ∀ {vs ws : List V} {ds es : List L2.D}, Reps K H vs ds → Reps K H ws es → Reps K H (vs ++ ws) (ds ++ es)
  | _, _, _, _, .nil, r => r
  | _, _, _, _, .cons h t, r => .cons h (reps_app t r)
theorem tl_reps {K : PySem.W.Frag} {H : Hp} (f : Bool) : Reps K H (tl f) (tlD f) := by
  cases f
  · exact .nil
  · exact .cons (.a rfl) .nil
theorem dep_rows (f : Bool) : ∀ o : List Row, depDs (o.map rowD ++ tlD f) ≤ 1
  | [] => by cases f <;> simp [depDs, depD, tlD]
  | x :: r => by
    have ih := dep_rows f r
    rw [List.map_cons, List.cons_append]
    unfold depDs
    have : depD (rowD x) = 1 := by simp [rowD, depD, depDs]
    omega
def coreD (c : Int × Int × Int) : L2.D := .t [.a (.int c.1), .a (.int c.2.1), .a (.int c.2.2)]
theorem rowD_core (o : List Row) : o.map rowD = (o.map Row.core).map coreD := by
  rw [List.map_map]
  rfl
theorem sd_core {o : List Row} (sd : Sd o) : (o.map Row.core).Pairwise fun a b => lt3 (kc a) (kc b) = true := by
  rw [List.pairwise_map]
  exact sd
/-- two sorted lists of the same rows are alike -/
theorem alike {o L rs : List Row} (pm : o.Perm rs) (so : Sd o) (sl : Sd L) (pc : Pc L rs) : o.map Row.core = L.map Row.core :=
  List.Perm.eq_of_pairwise (le := fun a b => lt3 (kc a) (kc b) = true) (fun a b _ _ h1 h2 => by rw [lt3_asym h1] at h2; cases h2) (sd_core so) (sd_core sl) ((pm.map Row.core).trans pc.symm)
section
variable {P : Program} {w : World} {K : PySem.W.Frag} {mg : Str → Option Value} {base : Heap} {C : Addr}
def spLooked (C : Addr) : Sp := fun vs H Q _ => ∃ (p hd lr hl : Addr) (NL : List Addr) (rs L : List Row) (n : Int) (k : Nat), vs = [.ref p, .ref lr, .ref hl, .int n] ∧ RdAt C H p hd rs ∧ LwAt H lr L ∧ Pc L rs ∧ HeldAt H NL hl k ∧ k < 100000 ∧ lr ≠ hl ∧ hl ∈ NL ∧ (∀ z ∈ NL, ∃ xs, H z = some (.lst xs)) ∧ ∀ H', Chg [hl] H H' → HeldAt H' NL hl (k + 2) → Q (.bl true) H'
theorem ok_looked (Df : Def K mg "_law_looked" s__law_looked ["_law_readies", "_law_rows", "_law_held", "_law_number"]) (B : Bv mg) (S : RCls K mg C) (k_whole : Knows P w K mg base 1 "_law_whole" ["_law_thing"] (spWhole K)) (km_rows : KnowsM CX0 P w K mg base 4 C "rows" ["self"] (spRows C)) (km_many : KnowsM CX0 P w K mg base 1 C "many" ["self"] (spMany C)) :
    Knows P w K mg base 5 "_law_looked" ["_law_readies", "_law_rows", "_law_held", "_law_number"] (spLooked C) := by
  refine Df.ok sc__law_looked (fun vs H Q E h => ?_) (fun f cdv A outer s H vs Q E hr h => ?_)
  · obtain ⟨p, hd, lr, hl, NL, rs, L, n, k, rfl, _⟩ := h
    rfl
  · obtain ⟨p, hd, lr, hl, NL, rs, L, n, k, rfl, R, W, pc, he, hk5, lrh, hNL, lNL, q⟩ := h
    have hu := hr.units
    refine ⟨_, by exact (pss_cons (ps_for PassesOwn.never rfl (pi_range1 rfl B.b.range (pa_c pe_int pa_nil)) (pg_name (i := 4) sc__law_looked.nd rfl (Or.inl rfl)) (pss_one (ps_if (pt_cmpR op_eq (pe_op op_mod (pe_op op_add (pv 3) (pv 4)) pe_int) pe_int (nomark _)) (pss_cons (ps_set (i := 5) sc__law_looked.nd rfl (Or.inl rfl) (pe_methM0 km_rows S.cl hr pass0 (pv 0)))
      (pss_cons (ps_if (PW.pt (pw_or (pt_not (pt_val (pe_isiM B.b.isi B.b.list boot_list (pv 5)))) (pw_or1 (pt_cmpR (op_neD hu) (pv 5) (pv 1) (nomark _))))) (pss_one (ps_ret pe_bl)) pss_nil)
      (pss_cons (ps_for PassesOwn.never rfl (pi_list (pv 5)) (pg_name (i := 6) sc__law_looked.nd rfl (Or.inl rfl)) (pss_one (ps_if (PW.pt (pw_or (pt_not (pt_val (pe_isiM B.b.isi B.tuple boot_tuple (pv 6)))) (pw_or1 (pt_cmpR (op_neD hu) (pe_comp1 [] ["_law_part"] rfl (pi_tup (pv 6)) (fun _ _ _ _ => pts_one (pt_not (pt_val (pe_callM k_whole hr (pa_c (pv 0) pa_nil))))) (fun _ _ _ _ => (pv 0))) (pe_lst pa_nil) (nomark _))))) (pss_one (ps_ret pe_bl)) pss_nil)))
      (pss_cons (ps_if (pt_cmpR op_eq (pe_op op_mod (pe_op op_fdiv (pv 3) pe_int) pe_int) pe_int (nomark _)) (pss_one (ps_expr (pe_mcall PySem.F.plainAttrs_list PySem.F.slot_list_append PySem.F.type_list_append mt_append (pv 5) (pa_c pe_non pa_nil)))) pss_nil)
      (pss_one (ps_expr (pe_mcall PySem.F.plainAttrs_list PySem.F.slot_list_append PySem.F.type_list_append mt_append (pv 2) (pa_c (pe_tup (pa_c (pv 5) (pa_c (pe_tcall call_list_of rfl B.b.list boot_list (pa_c (pv 5) pa_nil)) pa_nil))) pa_nil)))))))) (pss_one (ps_if (PW.pt (pw_or (pt_not (pt_val (pe_callM k_whole hr (pa_c (pe_methM0 km_many S.cl hr pass0 (pv 0)) pa_nil)))) (pw_or1 (pt_cmpR op_ne (pe_methM0 km_many S.cl hr pass0 (pv 0)) (pe_bcall call_len_seq rfl B.b.len PySem.boot_len (pa_c (pv 1) pa_nil)) (nomark _))))) (pss_one (ps_ret pe_bl)) pss_nil)))))
      (pss_one (ps_ret pe_bl))), ?_⟩
    refine ⟨2, rfl, by decide, by decide, ?_⟩
    refine for_range (n := 2) (fun i σ H' => Chg [hl] H H' ∧ HeldAt H' NL hl (k + i) ∧ ∃ v4 v5 v6, σ = [some (.ref p), some (.ref lr), some (.ref hl), some (.int n), v4, v5, v6]) ⟨Chg.of (Same.refl _), he, _, _, _, rfl⟩ ?_ (fun σ H1 h => q _ h.1 h.2.1)
    rintro i σ H1 hi ⟨c1, he1, v4, v5, v6, rfl⟩
    obtain ⟨ts0, eh0, _⟩ := he.ex
    obtain ⟨ts, eh, hts, pk⟩ := he1.ex
    have R1 : RdAt C H1 p hd rs := R.lw eh0 c1
    have W1 : LwAt H1 lr L := W.chg c1 (fun b hb ys e => by rw [List.mem_singleton.mp hb, eh0] at e; cases e) (fun z => lrh (List.mem_singleton.mp z))
    obtain ⟨dx, hp⟩ := R1.obj
    have lNL1 : ∀ z ∈ NL, ∃ xs, H1 z = some (.lst xs) := fun z hz => by
      by_cases e : z = hl
      · exact ⟨_, by rw [e]; exact eh⟩
      · obtain ⟨xs, ex⟩ := lNL z hz
        exact ⟨xs, c1 _ _ (fun y => e (List.mem_singleton.mp y)) ex⟩
    refine ⟨_, rfl, _, rfl, _, _, rfl, rfl, _, _, rfl, rfl, by walk_at "m", rfl, _, rfl, ite2 (fun _ => ?_) (fun _ => ?_)⟩
    · refine ⟨_, rfl, p, dx, _, rfl, hp, rfl, p, hd, rs, rfl, R1, fun x H2 o s2 nx ex pm sd => ?_⟩
      dsimp only [gName]
      have R2 := R1.same s2
      have W2 := W1.same s2
      have ro : Rows H2 o := fun r hr' => R2.row r (pm.mem_iff.mp hr')
      refine if_use (fun b H' => b = false ∧ H2 = H') (fun Q' kk => ?_) (fun H' h => by cases h.1) ?_
      · refine ⟨_, rfl, _, _, true, rfl, TyOf.lst ex, by kernel_rfl, _, rfl, iteF ?_⟩
        refine ⟨_, rfl, _, rfl, .l (o.map rowD), .l (L.map rowD), .l (SqL.of ex) (rows_reps ro), .l (SqL.of W2.lst) (rows_reps W2.row), ?_, _, rfl, ?_⟩
        · have := dep_rows false o
          simp only [tlD, Bool.false_eq_true, if_false, List.append_nil] at this
          simp only [depD]
          omega
        · have fl := (rows_reps (K := K) ro).flat
          rw [rowD_core L, ← alike pm sd W.sd pc, ← rowD_core o, eqD_refl _ (by unfold flatD; exact fl)]
          exact kk _ _ ⟨rfl, rfl⟩
      rintro _ ⟨-, rfl⟩
      refine next_to ?_
      dsimp only
      refine stm_use (fun σ' H' => Same H2 H' ∧ ∃ v6, σ' = [some (.ref p), some (.ref lr), some (.ref hl), some (.int n), some (.int (0 + (i : Int))), some (.ref x), v6]) (fun Q' kk => ?_) ?_
      · refine ⟨_, rfl, x, rfl, ⟨_, SqL.of ex⟩, ?_⟩
        refine for_wk (wk_list K x (refs o)) (fun j σ H' => Same H2 H' ∧ ∃ v6, σ = [some (.ref p), some (.ref lr), some (.ref hl), some (.int n), some (.int (0 + (i : Int))), some (.ref x), v6]) ⟨Same.refl _, _, rfl⟩ (fun j σ H' _ h => SqL.of (h.1 _ _ ex)) ?_ (fun σ H' h => kk _ _ h)
        rintro j y σ H3 hy ⟨s3, v6', rfl⟩
        rw [refs_get] at hy
        obtain ⟨r, hr', rfl⟩ := Option.map_eq_some_iff.mp hy
        have er := s3 _ _ (ro r (List.mem_of_getElem? hr'))
        refine ⟨_, rfl, _, _, true, rfl, TyOf.tup er, by kernel_rfl, _, rfl, iteF ?_⟩
        refine ⟨_, rfl, r.at_, rfl, ⟨_, SqT.of er⟩, ?_⟩
        refine comp1_wk (wk_tup K r.at_ r.row) (fun i ys H' => H' = H3 ∧ ys = []) ⟨rfl, rfl⟩ (fun i ys H' _ h => ⟨by rw [h.1]; exact SqT.of er, by rw [h.2]; exact Nat.zero_le _⟩) (by show 3 ≤ sizeLine; decide) ?_ ?_
        · rintro i' y ys H' Nx hy' ⟨rfl, rfl⟩ hN
          have hint : ∃ z : Int, y = .int z := by
            have := List.mem_of_getElem? hy'
            unfold Row.row at this
            simp only [List.mem_cons, List.not_mem_nil, or_false] at this
            rcases this with h | h | h
            · exact ⟨_, h⟩
            · exact ⟨_, h⟩
            · exact ⟨_, h⟩
          obtain ⟨z, rfl⟩ := hint
          exact ⟨_, rfl, .int z, rfl, ⟨_, TyOf.int _⟩, _, rfl, iteF (hN _ _ ⟨rfl, rfl⟩)⟩
        · rintro ys H' ⟨rfl, rfl⟩ e he'
          refine ⟨by show 0 ≤ sizeLine; decide, fun e' he2 => ⟨.l [], .l [], .l (SqL.of (same_of he2 _ _ upd_same)) .nil, .l (SqL.of upd_same) .nil, by simp [depD, depDs], _, rfl, ?_⟩⟩
          have e0 : eqD (.l []) (.l []) = true := by unfold eqD eqDs; rfl
          rw [e0]
          exact iteF ⟨(s3.trans (same_of he')).trans (same_of he2), _, rfl⟩
      rintro σ' H3 ⟨s3, v6', rfl⟩
      have ex3 := s3 _ _ ex
      have s13 := s2.trans s3
      have hxl : x ≠ hl := fun z => by rw [z, eh] at nx; cases nx
      have nNL : ∀ a, H1 a = none → a ∉ NL := fun a ha z => by
        obtain ⟨xs, e⟩ := lNL1 a z
        rw [ha] at e
        cases e
      refine stm_use (fun σ' H' => (∃ f : Bool, H' x = some (.lst (refs o ++ tl f))) ∧ (∀ b u, b ≠ x → H3 b = some u → H' b = some u) ∧ σ' = [some (.ref p), some (.ref lr), some (.ref hl), some (.int n), some (.int (0 + (i : Int))), some (.ref x), v6']) (fun Q' kk => ?_) ?_
      · refine ⟨_, rfl, _, _, rfl, rfl, by walk_at "m", _, _, rfl, rfl, by walk_at "m", rfl, _, rfl, ite2 (fun _ => ?_) (fun _ => ?_)⟩
        · refine ⟨_, rfl, .inl ⟨rfl, _, SqL.of ex3⟩, x, _, _, rfl, rfl, ex3, ?_, kk _ _ ⟨⟨true, upd_same⟩, (fun b u hb e => by rw [upd_ne hb]; exact e), rfl⟩⟩
          rw [refs_len, pm.length_eq]
          exact Nat.lt_of_le_of_lt R.len (by decide)
        · exact kk _ _ ⟨⟨false, by rw [ex3]; unfold tl; simp⟩, (fun b u _ e => e), rfl⟩
      rintro σ' H4 ⟨⟨fl, e4⟩, k4, rfl⟩
      have eh4 := k4 _ _ (Ne.symm hxl) (s13 _ _ eh)
      refine ⟨_, rfl, .inl ⟨rfl, _, SqL.of eh4⟩, _, rfl, _, rfl, x, _, rfl, .inl (SqL.of e4), fun l2 hl2 => ⟨by show 2 ≤ sizeLine; decide, fun tt htt => ?_⟩⟩
      have s5 : Same H4 (upd H4 l2 (.lst (refs o ++ tl fl))) := same_of hl2
      have e5 : (upd H4 l2 (.lst (refs o ++ tl fl))) l2 = some (.lst (refs o ++ tl fl)) := upd_same
      generalize upd H4 l2 (.lst (refs o ++ tl fl)) = H5 at s5 e5 htt
      have s6 : Same H5 (upd H5 tt (.tup [.ref x, .ref l2])) := same_of htt
      have e6 : (upd H5 tt (.tup [.ref x, .ref l2])) tt = some (.tup [.ref x, .ref l2]) := upd_same
      generalize upd H5 tt (.tup [.ref x, .ref l2]) = H6 at s6 e6
      have s46 := s5.trans s6
      have l2n : H1 l2 = none := by
        cases e : H1 l2 with
        | none => rfl
        | some u =>
          have hne : l2 ≠ x := fun z => by rw [z, nx] at e; cases e
          rw [k4 _ _ hne (s13 _ _ e)] at hl2
          cases hl2
      have l2h : l2 ≠ hl := fun z => by rw [z, eh4] at hl2; cases hl2
      refine ⟨hl, _, _, rfl, rfl, s46 _ _ eh4, by rw [List.length_map]; exact Nat.lt_of_le_of_lt (Nat.le_trans hts (show k + i ≤ 100002 by omega)) (by decide), ?_⟩
      have k7 : ∀ b u, b ≠ hl → H6 b = some u → (upd H6 hl (.lst (ts.map V.ref ++ [.ref tt]))) b = some u := fun b u hb e => by rw [upd_ne hb]; exact e
      have e7 : (upd H6 hl (.lst (ts.map V.ref ++ [.ref tt]))) hl = some (.lst ((ts ++ [tt]).map V.ref)) := by rw [upd_same, List.map_append]; rfl
      generalize upd H6 hl (.lst (ts.map V.ref ++ [.ref tt])) = H7 at k7 e7
      have c17 : Chg [hl] H1 H7 := fun b u hb e => by
        have hb1 : b ≠ hl := fun z => hb (by simp [z])
        have hb2 : b ≠ x := fun z => by rw [z, nx] at e; cases e
        exact k7 _ _ hb1 (s46 _ _ (k4 _ _ hb2 (s13 _ _ e)))
      have okc : Okc H1 NL [hl] := ⟨fun b hb xs e => (by rw [List.mem_singleton.mp hb, eh] at e; cases e), fun b hb hn => absurd (by rw [List.mem_singleton.mp hb]; exact hNL) hn⟩
      have tne : tt ≠ hl := fun z => by rw [z, s46 _ _ eh4] at e6; cases e6
      have ro7 : Rows H7 o := fun r hr' => c17.tup okc.1 (R1.row r (pm.mem_iff.mp hr'))
      refine ⟨c1.trans c17, ⟨ts ++ [tt], e7, by rw [List.length_append]; simp; omega, fun u hu' => ?_⟩, _, _, _, rfl⟩
      rcases List.mem_append.mp hu' with h | h
      · exact (pk u h).chg c17 okc
      · rw [List.mem_singleton.mp h]
        exact ⟨x, l2, o, fl, k7 _ _ tne e6, nNL x nx, nNL l2 l2n, k7 _ _ hxl (s46 _ _ e4), k7 _ _ l2h (s6 _ _ e5), ro7⟩
    · refine ⟨_, rfl, p, dx, _, rfl, hp, rfl, p, hd, rs, rfl, R1, .int _, rfl, ⟨_, TyOf.int _⟩, _, rfl, iteF ?_⟩
      refine ⟨_, rfl, p, dx, _, rfl, hp, rfl, p, hd, rs, rfl, R1, _, rfl, lr, _, rfl, .inl (SqL.of W1.lst), rfl, _, rfl, ite_of (d := false) ?_ (fun h => by cases h) (fun _ => ⟨c1, he1.more (by omega), _, _, _, rfl⟩)⟩
      rw [dint, refs_len, pc.len, decide_eq_true rfl]
      rfl
end
end K15

set_option Elab.async false
set_option linter.all false
set_option maxRecDepth 100000
set_option maxHeartbeats 4000000
set_option pp.maxSteps 600
set_option pp.deepTerms false
namespace K15
open PySem L2 PyProof.Rows
theorem op_neDC {X : Cx} {K0 : PySem.W.Frag} (hK : X.K = K0) (hu : X.A.units + 64 < cLine) : OpR X (compareOp .NotEq) (rNeD K0) := by subst hK; exact op_neD hu
def two2 {α : Type} (x y : α) : Nat → α
  | 0 => x
  | _ => y
/-- what of S is a list is one of NL; no tuples, nothing frozen -/
def Frm (H : Hp) (NL S : List Addr) : Prop := ∀ b ∈ S, (∀ xs, H b ≠ some (.tup xs)) ∧ (b ∉ NL → ∀ o, H b = some o → (∀ xs, o ≠ .lst xs) ∧ ∀ x u, o ≠ .frz x u)
theorem Frm.okc {H : Hp} {NL S : List Addr} (h : Frm H NL S) : Okc H NL S := ⟨fun b hb xs => (h b hb).1 xs, fun b hb hn xs e => ((h b hb).2 hn _ e).1 _ rfl⟩
theorem Frm.lst {H H' : Hp} {NL S : List Addr} (h : Frm H NL S) (c : Chg S H H') {z : Addr} {xs : List V} (e : H z = some (.lst xs)) (hz : z ∉ NL) : H' z = some (.lst xs) := c _ _ (fun y => ((h z y).2 hz _ e).1 _ rfl) e
def Scr (K : PySem.W.Frag) (H : Hp) (a : Addr) (NL : List Addr) (xs : List V) : Prop := (Rd H a (.lst xs) ∧ a ∉ NL) ∨ ∀ H', SqL K H' a xs
theorem Scr.sq {K : PySem.W.Frag} {H : Hp} {a : Addr} {NL : List Addr} {xs : List V} (h : Scr K H a NL xs) : SqL K H a xs := by
  rcases h with h | h
  · exact .inl h.1
  · exact h H
theorem Scr.same {K : PySem.W.Frag} {H H' : Hp} {a : Addr} {NL : List Addr} {xs : List V} (h : Scr K H a NL xs) (s : Same H H') : Scr K H' a NL xs := by
  rcases h with ⟨h, n⟩ | h
  · refine .inl ⟨?_, n⟩
    rcases h with h | ⟨o, h⟩
    · exact .inl (s _ _ h)
    · exact .inr ⟨o, s _ _ h⟩
  · exact .inr h
theorem Scr.chg {K : PySem.W.Frag} {H H' : Hp} {a : Addr} {NL : List Addr} {xs : List V} {S : List Addr} (h : Scr K H a NL xs) (c : Chg S H H') (f : Frm H NL S) : Scr K H' a NL xs := by
  rcases h with ⟨h, n⟩ | h
  · refine .inl ⟨?_, n⟩
    rcases h with h | ⟨o, h⟩
    · exact .inl (c _ _ (fun z => ((f a z).2 n _ h).1 _ rfl) h)
    · exact .inr ⟨o, c _ _ (fun z => ((f a z).2 n _ h).2 _ _ rfl) h⟩
  · exact .inr h
theorem Scr.of {K : PySem.W.Frag} {H : Hp} {a : Addr} {NL : List Addr} {xs : List V} (h : SqL K H a xs) (hn : ∀ z ∈ NL, H z = none) : Scr K H a NL xs := by
  rcases h with h | h
  · refine .inl ⟨h, fun e => ?_⟩
    have := hn a e
    rcases h with h | ⟨o, h⟩
    · rw [this] at h; cases h
    · rw [this] at h; cases h
  · exact .inr fun H' => .inr h
structure Sep (p hd lr : Nat → Addr) (hl bo rw : Addr) : Prop where
  two : ∀ i j, i < 2 → j < 2 → i ≠ j → p i ≠ p j ∧ hd i ≠ hd j ∧ lr i ≠ lr j
  nh : ∀ i, i < 2 → lr i ≠ hl
  nb : bo ∉ [hl, lr 0, lr 1]
  nr : rw ∉ [hl, lr 0, lr 1]
structure All (K : PySem.W.Frag) (C : Addr) (H : Hp) (p hd lr : Nat → Addr) (rs L : Nat → List Row) (hl bo rw a : Addr) (xs : List V) (n : Nat) : Prop where
  r : ∀ i, i < 2 → RdAt C H (p i) (hd i) (rs i)
  l : ∀ i, i < 2 → LwAt H (lr i) (L i)
  pc : ∀ i, i < 2 → Pc (L i) (rs i)
  bo : H bo = some (.lst [.ref (p 0), .ref (p 1)])
  rw : H rw = some (.lst [.ref (lr 0), .ref (lr 1)])
  he : HeldAt H [hl, lr 0, lr 1] hl n
  sc : Scr K H a [hl, lr 0, lr 1] xs
def putF2 (m : Nat → List Row) (i : Nat) (x : List Row) : Nat → List Row := fun j => if j = i then x else m j
section
variable {K : PySem.W.Frag} {C : Addr} {H H' : Hp} {p hd lr : Nat → Addr} {rs L : Nat → List Row} {hl bo rw a : Addr} {xs : List V} {n n' : Nat}
theorem inNL {i : Nat} (hi : i < 2) : lr i ∈ [hl, lr 0, lr 1] := by
  match i, hi with
  | 0, _ => simp
  | 1, _ => simp
theorem All.same (A : All K C H p hd lr rs L hl bo rw a xs n) (s : Same H H') : All K C H' p hd lr rs L hl bo rw a xs n :=
  ⟨fun i hi => (A.r i hi).same s, fun i hi => (A.l i hi).same s, A.pc, s _ _ A.bo, s _ _ A.rw, A.he.same s, A.sc.same s⟩
theorem All.lists (A : All K C H p hd lr rs L hl bo rw a xs n) : ∀ z ∈ [hl, lr 0, lr 1], ∃ ys, H z = some (.lst ys) := fun z hz => by
  simp only [List.mem_cons, List.not_mem_nil, or_false] at hz
  rcases hz with rfl | rfl | rfl
  · obtain ⟨ts, h, _⟩ := A.he.ex
    exact ⟨_, h⟩
  · exact ⟨_, (A.l 0 (by decide)).lst⟩
  · exact ⟨_, (A.l 1 (by decide)).lst⟩
theorem All.frm (A : All K C H p hd lr rs L hl bo rw a xs n) {i : Nat} (hi : i < 2) : Frm H [hl, lr 0, lr 1] [p i, hd i, lr i] := fun b hb => by
  obtain ⟨dx, hp⟩ := (A.r i hi).obj
  have ht := (A.r i hi).tab
  have hl' := (A.l i hi).lst
  simp only [List.mem_cons (a := b), List.not_mem_nil, or_false] at hb
  rcases hb with rfl | rfl | rfl
  · exact ⟨fun ys e => (by rw [hp] at e; cases e), fun _ o e => (by rw [hp] at e; cases e; exact ⟨fun _ z => (by cases z), fun _ _ z => (by cases z)⟩)⟩
  · exact ⟨fun ys e => (by rw [ht] at e; cases e), fun _ o e => (by rw [ht] at e; cases e; exact ⟨fun _ z => (by cases z), fun _ _ z => (by cases z)⟩)⟩
  · exact ⟨fun ys e => (by rw [hl'] at e; cases e), fun hn => absurd (inNL hi) hn⟩
theorem All.frh (A : All K C H p hd lr rs L hl bo rw a xs n) : Frm H [hl, lr 0, lr 1] [hl] := fun b hb => by
  obtain ⟨ts, h, _⟩ := A.he.ex
  obtain rfl := List.mem_singleton.mp hb
  exact ⟨fun ys e => (by rw [h] at e; cases e), fun hn => absurd (by simp) hn⟩
theorem All.deed (A : All K C H p hd lr rs L hl bo rw a xs n) (S : Sep p hd lr hl bo rw) {i : Nat} (hi : i < 2) {rs' L' : List Row} (c : Chg [p i, hd i, lr i] H H') (R : RdAt C H' (p i) (hd i) rs') (W : LwAt H' (lr i) L') (pc : Pc L' rs') :
    All K C H' p hd lr (putF2 rs i rs') (putF2 L i L') hl bo rw a xs n := by
  have f := A.frm hi
  obtain ⟨dx, hp⟩ := (A.r i hi).obj
  have ht := (A.r i hi).tab
  have hl' := (A.l i hi).lst
  have hh : hl ∉ [p i, hd i, lr i] := fun z => by
    obtain ⟨ts, h, _⟩ := A.he.ex
    simp only [List.mem_cons, List.not_mem_nil, or_false] at z
    rcases z with e | e | e
    · rw [e, hp] at h; cases h
    · rw [e, ht] at h; cases h
    · exact S.nh i hi e.symm
  refine ⟨fun j hj => ?_, fun j hj => ?_, fun j hj => ?_, f.lst c A.bo S.nb, f.lst c A.rw S.nr, A.he.chg c f.okc hh, A.sc.chg c f⟩
  · unfold putF2
    by_cases h : j = i
    · rw [if_pos h, h]; exact R
    · rw [if_neg h]
      obtain ⟨s1, s2, s3⟩ := S.two j i hj hi h
      obtain ⟨dy, hq⟩ := (A.r j hj).obj
      have e := (A.r j hj).tab
      refine (A.r j hj).chg c f.okc.1 ?_ ?_
      · simp only [List.mem_cons, List.not_mem_nil, or_false, not_or]
        exact ⟨s1, (fun z => by rw [z, ht] at hq; cases hq), (fun z => by rw [z, hl'] at hq; cases hq)⟩
      · simp only [List.mem_cons, List.not_mem_nil, or_false, not_or]
        exact ⟨(fun z => by rw [z, hp] at e; cases e), s2, (fun z => by rw [z, hl'] at e; cases e)⟩
  · unfold putF2
    by_cases h : j = i
    · rw [if_pos h, h]; exact W
    · rw [if_neg h]
      obtain ⟨s1, s2, s3⟩ := S.two j i hj hi h
      have e := (A.l j hj).lst
      refine (A.l j hj).chg c f.okc.1 ?_
      simp only [List.mem_cons, List.not_mem_nil, or_false, not_or]
      exact ⟨(fun z => by rw [z, hp] at e; cases e), (fun z => by rw [z, ht] at e; cases e), s3⟩
  · unfold putF2
    by_cases h : j = i
    · rw [if_pos h, if_pos h]; exact pc
    · rw [if_neg h, if_neg h]; exact A.pc j hj
theorem All.look (A : All K C H p hd lr rs L hl bo rw a xs n) (S : Sep p hd lr hl bo rw) (c : Chg [hl] H H') (he : HeldAt H' [hl, lr 0, lr 1] hl n') : All K C H' p hd lr rs L hl bo rw a xs n' := by
  have f := A.frh
  obtain ⟨ts, eh, _⟩ := A.he.ex
  refine ⟨fun j hj => (A.r j hj).lw eh c, fun j hj => (A.l j hj).chg c f.okc.1 (fun z => S.nh j hj (List.mem_singleton.mp z)), A.pc, f.lst c A.bo S.nb, f.lst c A.rw S.nr, he, A.sc.chg c f⟩
end
theorem two_at {p : Nat → Addr} {i : Nat} (hi : i < 2) : atI [V.ref (p 0), V.ref (p 1)] (i : Int) = some (.ref (p i)) := by
  match i, hi with
  | 0, _ => exact atI_nat (j := 0) rfl
  | 1, _ => exact atI_nat (j := 1) rfl
section
variable {P : Program} {w : World} {K : PySem.W.Frag} {mg : Str → Option Value} {base : Heap} {C : Addr}
def spLaw (K : PySem.W.Frag) : Sp := fun vs H Q _ => ∃ (a : Addr) (ns : List Int), vs = [.ref a] ∧ SqL K H a (ns.map V.int) ∧ ns.length ≤ 63 ∧ (∀ v ∈ ns, Sm v) ∧ ∀ H', Q (.bl true) H'
theorem ok_law {f : Addr} {fd : FuncData} (F : Fun K "law" "law" s_law f fd) (B : Bv mg) (S : RCls K mg C) (k_cell : Knows P w K mg base 1 "_law_cell_at" ["_law_script", "_law_k"] (spCell K)) (k_mixed : Knows P w K mg base 1 "_law_mixed" ["_law_cell", "_law_k"] spMixed)
    (ki : KnowsI CX0 P w K mg base 1 C ["self"] (spInit C)) (k_deed : Knows P w K mg base 6 "_law_deed" ["_law_readies", "_law_rows", "_law_number"] (spDeed C)) (k_looked : Knows P w K mg base 5 "_law_looked" ["_law_readies", "_law_rows", "_law_held", "_law_number"] (spLooked C)) (km_take : KnowsM CX0 P w K mg base 5 C "take" ["self"] (spTake C)) :
    FnOk P w K mg base CX0 7 f fd ["_law_script"] (spLaw K) := by
  refine F.ok sc_law (fun vs H Q E h => ?_) (fun cdv A outer s H vs Q E hr h => ?_)
  · obtain ⟨a, ns, rfl, _⟩ := h
    rfl
  · obtain ⟨a, ns, rfl, hS, hlen, hsm, q⟩ := h
    have hu := hr.units
    refine ⟨_, by exact (pss_cons (ps_set (i := 1) sc_law.nd rfl (Or.inl rfl) (pe_lst (pa_c (pe_makeM0 ki hr S.mgC pass0) (pa_c (pe_makeM0 ki hr S.mgC pass0) pa_nil))))
      (pss_cons (ps_set (i := 2) sc_law.nd rfl (Or.inl rfl) (pe_lst (pa_c (pe_lst pa_nil) (pa_c (pe_lst pa_nil) pa_nil))))
      (pss_cons (ps_set (i := 3) sc_law.nd rfl (Or.inl rfl) (pe_lst pa_nil))
      (pss_cons (ps_for PassesOwn.never rfl (pi_enum B.enum (pe_slice sl_list (pv 0) po_none (po_some pe_int))) (pg_tup rfl (pgs_cons (pg_name (i := 4) sc_law.nd rfl (Or.inl rfl)) (pgs_cons (pg_name (i := 5) sc_law.nd rfl (Or.inl rfl)) pgs_nil))) (pss_cons (ps_set (i := 6) sc_law.nd rfl (Or.inl rfl) (pe_callM k_mixed hr (pa_c (pv 5) (pa_c (pv 4) pa_nil))))
      (pss_cons (ps_set (i := 7) sc_law.nd rfl (Or.inl rfl) (pe_op op_fdiv (pe_op op_mod (pe_op op_fdiv (pv 6) pe_int) pe_int) pe_int))
      (pss_cons (ps_if (pt_not (pt_val (pe_callM k_deed hr (pa_c (pe_ix ix_list (pv 1) (pv 7) (fun _ _ => rfl)) (pa_c (pe_ix ix_list (pv 2) (pv 7) (fun _ _ => rfl)) (pa_c (pe_op op_fdiv (pv 6) pe_int) pa_nil)))))) (pss_one (ps_ret pe_bl)) pss_nil)
      (pss_one (ps_if (pt_cmpR op_gt (pe_op op_mod (pv 6) pe_int) pe_int (nomark _)) (pss_one (ps_for PassesOwn.never rfl (pi_tup (pe_tup (pa_c (pv 7) (pa_c (pe_op op_sub pe_int (pv 7)) pa_nil)))) (pg_name (i := 8) sc_law.nd rfl (Or.inl rfl)) (pss_one (ps_if (pt_not (pt_val (pe_callM k_looked hr (pa_c (pe_ix ix_list (pv 1) (pv 8) (fun _ _ => rfl)) (pa_c (pe_ix ix_list (pv 2) (pv 8) (fun _ _ => rfl)) (pa_c (pv 3) (pa_c (pe_op op_fdiv (pv 6) pe_int) pa_nil))))))) (pss_one (ps_ret pe_bl)) pss_nil)))) pss_nil))))))
      (pss_cons (ps_for PassesOwn.never rfl (pi_range1 rfl B.b.range (pa_c pe_int pa_nil)) (pg_name (i := 8) sc_law.nd rfl (Or.inl rfl)) (pss_cons (ps_if (pt_not (pt_val (pe_callM k_looked hr (pa_c (pe_ix ix_list (pv 1) (pv 8) (fun _ _ => rfl)) (pa_c (pe_ix ix_list (pv 2) (pv 8) (fun _ _ => rfl)) (pa_c (pv 3) (pa_c (pe_callM k_cell hr (pa_c (pv 0) (pa_c (pv 8) pa_nil))) pa_nil))))))) (pss_one (ps_ret pe_bl)) pss_nil)
      (pss_cons (ps_while PassesOwn.never (pt_cmpR (op_neD hu) (pe_ix ix_list (pv 2) (pv 8) (fun _ _ => rfl)) (pe_lst pa_nil) (nomark _)) (pss_one (ps_if (pt_cmpR op_ne (pe_methM0 km_take S.cl hr pass0 (pe_ix ix_list (pv 1) (pv 8) (fun _ _ => rfl))) (pe_ix ix_tup (pe_mcall PySem.F.plainAttrs_list PySem.F.slot_list_pop PySem.F.type_list_pop mt_popAt (pe_ix ix_list (pv 2) (pv 8) (fun _ _ => rfl)) (pa_c pe_int pa_nil)) pe_int (fun _ _ => rfl)) (nomark _)) (pss_one (ps_ret pe_bl)) pss_nil)))
      (pss_one (ps_if (pt_cmpR op_notN (pe_methM0 km_take S.cl hr pass0 (pe_ix ix_list (pv 1) (pv 8) (fun _ _ => rfl))) pe_non (nomark _)) (pss_one (ps_ret pe_bl)) pss_nil)))))
      (pss_one (ps_ret (pe_cmpR (op_eqD hu) (pe_comp1 [] ["_law_pair"] rfl (pi_list (pv 3)) (fun _ _ _ _ => pts_one (pt_cmpR (op_neDC (K0 := K) rfl hu) (pe_ix (ix_tupC (K0 := K) rfl) (pv 0) pe_int (fun _ _ => rfl)) (pe_ix (ix_tupC (K0 := K) rfl) (pv 0) pe_int (fun _ _ => rfl)) (nomark _))) (fun _ _ _ _ => (pv 0))) (pe_lst pa_nil) (nomark _))))))))), ?_⟩
    refine seq_use (fun v H' => ∃ bo p0 h0 p1 h1, v = .ref bo ∧ H' bo = some (.lst [.ref p0, .ref p1]) ∧ RdAt C H' p0 h0 [] ∧ RdAt C H' p1 h1 [] ∧ p0 ≠ p1 ∧ h0 ≠ h1 ∧ Same H H') (fun Q' kk => ?_) ?_
    · refine fun y dx hy hdx hne => ?_
      have sy : Same H (upd (upd H dx (.own y)) y (.ins C dx [])) := fun b o e => by
        rw [upd_ne (ne_of_none e hy), upd_ne (ne_of_none e hdx)]
        exact e
      refine ⟨y, dx, rfl, upd_same, fun hd1 H1 hh1 c1 R1 => ?_⟩
      have s1 : Same H H1 := fun b o e => c1 b o (fun z => by rw [List.mem_singleton.mp z, hy] at e; cases e) (sy _ _ e)
      refine ⟨rfl, fun y2 dx2 hy2 hdx2 hne2 => ?_⟩
      have sy2 : Same H1 (upd (upd H1 dx2 (.own y2)) y2 (.ins C dx2 [])) := fun b o e => by
        rw [upd_ne (ne_of_none e hy2), upd_ne (ne_of_none e hdx2)]
        exact e
      refine ⟨y2, dx2, rfl, upd_same, fun hd2 H2 hh2 c2 R2 => ?_⟩
      have s2 : Same H1 H2 := fun b o e => c2 b o (fun z => by rw [List.mem_singleton.mp z, hy2] at e; cases e) (sy2 _ _ e)
      obtain ⟨dxx, hpp⟩ := R1.obj
      refine ⟨rfl, by show 2 ≤ sizeLine; decide, fun bo hbo => kk _ _ ⟨bo, y, hd1, y2, hd2, rfl, upd_same, (R1.same s2).same (same_of hbo), R2.same (same_of hbo), ne_of_none hpp hy2, ne_of_none (sy2 _ _ R1.tab) hh2, (s1.trans s2).trans (same_of hbo)⟩⟩
    rintro _ H1 ⟨bo, p0, h0, p1, h1, rfl, ebo, R0, R1, np, nh, s1⟩
    dsimp only [gName]
    refine ⟨by show 0 ≤ sizeLine; decide, fun l0 hl0 => ⟨by show 0 ≤ sizeLine; decide, fun l1 hl1 => ⟨by show 2 ≤ sizeLine; decide, fun rw_ hrw => ?_⟩⟩⟩
    dsimp only [gName]
    refine ⟨by show 0 ≤ sizeLine; decide, fun hl hhl => ?_⟩
    dsimp only [gName]
    have t0 : Same H1 (upd H1 l0 (.lst [])) := same_of hl0
    have t1 : Same (upd H1 l0 (.lst [])) (upd (upd H1 l0 (.lst [])) l1 (.lst [])) := same_of hl1
    have t2 : Same (upd (upd H1 l0 (.lst [])) l1 (.lst [])) (upd (upd (upd H1 l0 (.lst [])) l1 (.lst [])) rw_ (.lst [.ref l0, .ref l1])) := same_of hrw
    have t3 : Same (upd (upd (upd H1 l0 (.lst [])) l1 (.lst [])) rw_ (.lst [.ref l0, .ref l1])) (upd (upd (upd (upd H1 l0 (.lst [])) l1 (.lst [])) rw_ (.lst [.ref l0, .ref l1])) hl (.lst [])) := same_of hhl
    have e0 : (upd (upd (upd (upd H1 l0 (.lst [])) l1 (.lst [])) rw_ (.lst [.ref l0, .ref l1])) hl (.lst [])) l0 = some (.lst (refs [])) := t3 _ _ (t2 _ _ (t1 _ _ upd_same))
    have e1 : (upd (upd (upd (upd H1 l0 (.lst [])) l1 (.lst [])) rw_ (.lst [.ref l0, .ref l1])) hl (.lst [])) l1 = some (.lst (refs [])) := t3 _ _ (t2 _ _ upd_same)
    have e2 : (upd (upd (upd (upd H1 l0 (.lst [])) l1 (.lst [])) rw_ (.lst [.ref l0, .ref l1])) hl (.lst [])) rw_ = some (.lst [.ref l0, .ref l1]) := t3 _ _ upd_same
    have e3 : (upd (upd (upd (upd H1 l0 (.lst [])) l1 (.lst [])) rw_ (.lst [.ref l0, .ref l1])) hl (.lst [])) hl = some (.lst (([] : List Addr).map V.ref)) := upd_same
    have n01 : l0 ≠ l1 := ne_of_none upd_same hl1
    have nl1 : H1 l1 = none := t0.free hl1
    have nrw : H1 rw_ = none := t0.free (t1.free hrw)
    have nhl : H1 hl = none := t0.free (t1.free (t2.free hhl))
    have n0h : l0 ≠ hl := ne_of_none (t2 _ _ (t1 _ _ upd_same)) hhl
    have n1h : l1 ≠ hl := ne_of_none (t2 _ _ upd_same) hhl
    have nrh : rw_ ≠ hl := ne_of_none upd_same hhl
    have n0r : l0 ≠ rw_ := ne_of_none (t1 _ _ upd_same) hrw
    have n1r : l1 ≠ rw_ := ne_of_none upd_same hrw
    have t := ((t0.trans t1).trans t2).trans t3
    have nin : ∀ z ∈ [hl, l0, l1], H1 z = none := fun z hz => by
      simp only [List.mem_cons, List.not_mem_nil, or_false] at hz
      rcases hz with rfl | rfl | rfl
      · exact nhl
      · exact hl0
      · exact nl1
    have sc : Scr K (upd (upd (upd (upd H1 l0 (.lst [])) l1 (.lst [])) rw_ (.lst [.ref l0, .ref l1])) hl (.lst [])) a [hl, l0, l1] (ns.map V.int) := (Scr.of (s1.seq hS) nin).same t
    have rd0 := R0.same t
    have rd1 := R1.same t
    have ebo' := t _ _ ebo
    generalize upd (upd (upd (upd H1 l0 (.lst [])) l1 (.lst [])) rw_ (.lst [.ref l0, .ref l1])) hl (.lst []) = H2 at e0 e1 e2 e3 sc rd0 rd1 ebo'
    have sep : Sep (two2 p0 p1) (two2 h0 h1) (two2 l0 l1) hl bo rw_ := by
      refine ⟨fun i j hi hj hij => ?_, fun i hi => ?_, ?_, ?_⟩
      · match i, j, hi, hj, hij with
        | 0, 0, _, _, h => exact absurd rfl h
        | 1, 1, _, _, h => exact absurd rfl h
        | 0, 1, _, _, _ => exact ⟨np, nh, n01⟩
        | 1, 0, _, _, _ => exact ⟨Ne.symm np, Ne.symm nh, Ne.symm n01⟩
      · match i, hi with
        | 0, _ => exact n0h
        | 1, _ => exact n1h
      · show bo ∉ [hl, l0, l1]
        exact fun z => by
          rw [nin bo z] at ebo
          cases ebo
      · show rw_ ∉ [hl, l0, l1]
        simp only [List.mem_cons, List.not_mem_nil, or_false, not_or]
        exact ⟨nrh, Ne.symm n0r, Ne.symm n1r⟩
    have A2 : All K C H2 (two2 p0 p1) (two2 h0 h1) (two2 l0 l1) (fun _ => []) (fun _ => []) hl bo rw_ a (ns.map V.int) 0 := by
      have lw : ∀ l, H2 l = some (.lst (refs [])) → LwAt H2 l [] := fun l e => ⟨e, (fun r hr' => by cases hr'), List.Pairwise.nil, Nat.zero_le _⟩
      refine ⟨fun i hi => ?_, fun i hi => ?_, fun i hi => List.Perm.refl _, ebo', e2, ⟨[], e3, Nat.le_refl _, fun t ht => by cases ht⟩, sc⟩
      · match i, hi with
        | 0, _ => exact rd0
        | 1, _ => exact rd1
      · match i, hi with
        | 0, _ => exact lw _ e0
        | 1, _ => exact lw _ e1
    generalize two2 p0 p1 = p at sep A2
    generalize two2 h0 h1 = hd at sep A2
    generalize two2 l0 l1 = lr at sep A2
    refine stm_use (fun σ' H' => ∃ (rs L : Nat → List Row) (v4 v5 v6 v7 v8 : Option V), All K C H' p hd lr rs L hl bo rw_ a (ns.map V.int) 160 ∧ σ' = [some (.ref a), some (.ref bo), some (.ref rw_), some (.ref hl), v4, v5, v6, v7, v8]) (fun Q' kk => ?_) ?_
    · refine ⟨_, rfl, _, rfl, a, _, rfl, A2.sc.sq, fun cl hcl => ?_⟩
      have s3 : Same H2 (upd H2 cl (.lst (cutV (ns.map V.int) none (some 40)))) := same_of hcl
      have ecl : (upd H2 cl (.lst (cutV (ns.map V.int) none (some 40)))) cl = some (.lst (cutV (ns.map V.int) none (some 40))) := upd_same
      have ncl : cl ∉ [hl, lr 0, lr 1] := fun z => by
        obtain ⟨ys, e⟩ := A2.lists cl z
        rw [hcl] at e
        cases e
      generalize upd H2 cl (.lst (cutV (ns.map V.int) none (some 40))) = H3 at s3 ecl
      have l40 : (cutV (ns.map V.int) none (some 40)).length ≤ 40 := by
        unfold cutV
        rw [List.length_take, List.length_drop]
        have g1 : HT.sIx (ns.map V.int).length 0 none = 0 := rfl
        have g2 : HT.sIx (ns.map V.int).length (ns.map V.int).length (some 40) = min 40 (ns.map V.int).length := rfl
        rw [g1, g2]
        omega
      refine ⟨cl, rfl, ⟨_, SqL.of ecl⟩, ?_⟩
      refine for_enum (xs := cutV (ns.map V.int) none (some 40)) (fun i σ H' => ∃ (rs L : Nat → List Row) (v4 v5 v6 v7 v8 : Option V), All K C H' p hd lr rs L hl bo rw_ a (ns.map V.int) (4 * i) ∧ H' cl = some (.lst (cutV (ns.map V.int) none (some 40))) ∧ σ = [some (.ref a), some (.ref bo), some (.ref rw_), some (.ref hl), v4, v5, v6, v7, v8])
        ⟨fun _ => [], fun _ => [], _, _, _, _, _, A2.same s3, ecl, rfl⟩ (fun i σ H' _ h => ?_) ?_ (fun σ H' h => ?_)
      · obtain ⟨rs, L, v4, v5, v6, v7, v8, _, e, _⟩ := h
        exact SqL.of e
      · rintro i x σ H4 t0 hx ⟨rs, L, v4, v5, v6, v7, v8, A4, ecl4, rfl⟩ ht0
        have hi40 : i < 40 := Nat.lt_of_lt_of_le (List.getElem?_eq_some_iff.mp hx).1 l40
        have hx' : ∃ c : Int, x = .int c := by
          have hm : x ∈ ns.map V.int := by
            have := List.mem_of_getElem? hx
            unfold cutV at this
            exact List.mem_of_mem_drop (List.mem_of_mem_take this)
          obtain ⟨c, _, rfl⟩ := List.mem_map.mp hm
          exact ⟨c, rfl⟩
        obtain ⟨c, rfl⟩ := hx'
        refine ⟨t0, _, rfl, SqT.of upd_same, rfl, _, _, rfl, _, _, rfl, rfl, ?_⟩
        have s5 : Same H4 (upd H4 t0 (.tup [.int (i : Int), .int c])) := same_of ht0
        generalize upd H4 t0 (.tup [.int (i : Int), .int c]) = H5 at s5
        have A5 := A4.same s5
        have ecl5 := s5 _ _ ecl4
        refine ⟨_, rfl, _, rfl, c, i, rfl, by omega, fun num => ?_⟩
        dsimp only [gName]
        refine ⟨_, rfl, _, _, rfl, rfl, by walk_at "m", _, _, rfl, rfl, by walk_at "m", _, _, rfl, rfl, by walk_at "m", ?_⟩
        dsimp only [gName]
        have ej : ∃ j : Nat, num / 5 % 3 / 2 = (j : Int) ∧ j < 2 := ⟨(num / 5 % 3 / 2).toNat, by omega, by omega⟩
        obtain ⟨j, ej, hj⟩ := ej
        rw [ej]
        refine ⟨_, rfl, _, rfl, bo, _, _, _, rfl, rfl, SqL.of A5.bo, two_at hj, _, rfl, _, rfl, rw_, _, _, _, rfl, rfl, SqL.of A5.rw, two_at hj, _, rfl, _, _, rfl, rfl, by walk_at "m", ?_⟩
        refine ⟨p j, hd j, lr j, rs j, L j, _, rfl, A5.r j hj, A5.l j hj, A5.pc j hj, fun rs' L' H6 c6 R6 W6 pc6 => ⟨_, rfl, iteF (next_to ?_)⟩⟩
        dsimp only
        have A6 := A5.deed sep hj c6 R6 W6 pc6
        have ecl6 := (A5.frm hj).lst c6 ecl5 ncl
        generalize putF2 rs j rs' = rs6 at A6
        generalize putF2 L j L' = L6 at A6
        have e4i : 4 * i + 4 = 4 * (i + 1) := by omega
        refine ⟨_, rfl, _, _, rfl, rfl, by walk_at "m", _, _, rfl, rfl, _, rfl, ite2 (fun _ => ?_) (fun _ => ?_)⟩
        · refine ⟨_, rfl, _, rfl, _, _, rfl, rfl, by show 2 ≤ sizeLine; decide, fun tt htt => ⟨tt, rfl, ⟨_, SqT.of upd_same⟩, ?_⟩⟩
          have s7 : Same H6 (upd H6 tt (.tup [.int (j : Int), .int (1 - (j : Int))])) := same_of htt
          have ett : (upd H6 tt (.tup [.int (j : Int), .int (1 - (j : Int))])) tt = some (.tup [.int (j : Int), .int (1 - (j : Int))]) := upd_same
          generalize upd H6 tt (.tup [.int (j : Int), .int (1 - (j : Int))]) = H7 at s7 ett
          refine for_wk (wk_tup K tt [.int (j : Int), .int (1 - (j : Int))]) (fun i' σ H' => All K C H' p hd lr rs6 L6 hl bo rw_ a (ns.map V.int) (4 * i + 2 * i') ∧ H' cl = some (.lst (cutV (ns.map V.int) none (some 40))) ∧ H' tt = some (.tup [.int (j : Int), .int (1 - (j : Int))]) ∧ ∃ v8, σ = [some (.ref a), some (.ref bo), some (.ref rw_), some (.ref hl), some (.int (i : Int)), some (.int c), some (.int num), some (.int (j : Int)), v8]) ⟨A6.same s7, s7 _ _ ecl6, ett, _, rfl⟩ (fun i' σ H' _ h => SqT.of h.2.2.1) ?_ (fun σ H' h => ?_)
          · rintro i' y σ H8 hy ⟨A8, ecl8, ett8, v8', rfl⟩
            have hi' : i' < 2 := (List.getElem?_eq_some_iff.mp hy).1
            have ey : ∃ j' : Nat, y = .int (j' : Int) ∧ j' < 2 := by
              have := List.mem_of_getElem? hy
              simp only [List.mem_cons, List.not_mem_nil, or_false] at this
              rcases this with h | h
              · exact ⟨j, h, hj⟩
              · exact ⟨1 - j, by rw [h]; congr 1; omega, by omega⟩
            obtain ⟨j', rfl, hj'⟩ := ey
            refine ⟨_, rfl, _, rfl, bo, _, _, _, rfl, rfl, SqL.of A8.bo, two_at hj', _, rfl, _, rfl, rw_, _, _, _, rfl, rfl, SqL.of A8.rw, two_at hj', _, rfl, _, rfl, _, _, rfl, rfl, by walk_at "m", ?_⟩
            refine ⟨p j', hd j', lr j', hl, [hl, lr 0, lr 1], rs6 j', L6 j', _, _, rfl, A8.r j' hj', A8.l j' hj', A8.pc j' hj', A8.he, by omega, sep.nh j' hj', by simp, A8.lists, fun H9 c9 he9 => ⟨_, rfl, iteF ⟨?_, (A8.frh).lst c9 ecl8 ncl, c9.tup (A8.frh).okc.1 ett8, _, rfl⟩⟩⟩
            exact A8.look sep c9 he9
          · obtain ⟨A8, ecl8, _, v8', rfl⟩ := h
            have A8' : All K C H' p hd lr rs6 L6 hl bo rw_ a (ns.map V.int) (4 * i + 4) := A8
            rw [e4i] at A8'
            exact ⟨rs6, L6, _, _, _, _, _, A8', ecl8, rfl⟩
        · exact ⟨rs6, L6, _, _, _, _, _, ⟨A6.r, A6.l, A6.pc, A6.bo, A6.rw, A6.he.more (by omega), A6.sc⟩, ecl6, rfl⟩
      · obtain ⟨rs, L, v4, v5, v6, v7, v8, A4, _, rfl⟩ := h
        exact kk _ _ ⟨rs, L, _, _, _, _, _, ⟨A4.r, A4.l, A4.pc, A4.bo, A4.rw, A4.he.more (by omega), A4.sc⟩, rfl⟩
    rintro σ' H3 ⟨rs, L, v4, v5, v6, v7, v8, A3, rfl⟩
    refine stm_use (fun σ' H' => ∃ (rs L : Nat → List Row) (v8 : Option V), All K C H' p hd lr rs L hl bo rw_ a (ns.map V.int) 164 ∧ σ' = [some (.ref a), some (.ref bo), some (.ref rw_), some (.ref hl), v4, v5, v6, v7, v8]) (fun Q' kk => ?_) ?_
    · refine ⟨2, rfl, by decide, by decide, ?_⟩
      refine for_range (n := 2) (fun i σ H' => ∃ (rs L : Nat → List Row) (v8 : Option V), All K C H' p hd lr rs L hl bo rw_ a (ns.map V.int) (160 + 2 * i) ∧ σ = [some (.ref a), some (.ref bo), some (.ref rw_), some (.ref hl), v4, v5, v6, v7, v8]) ⟨rs, L, _, A3, rfl⟩ ?_ (fun σ H' h => ?_)
      · rintro j σ H4 hj ⟨rs, L, v8', A4, rfl⟩
        have ej : (0 : Int) + (j : Int) = (j : Int) := by omega
        dsimp only [gName]
        rw [ej]
        refine ⟨_, rfl, _, rfl, bo, _, _, _, rfl, rfl, SqL.of A4.bo, two_at hj, _, rfl, _, rfl, rw_, _, _, _, rfl, rfl, SqL.of A4.rw, two_at hj, _, rfl, _, rfl, _, rfl, a, ns, j, rfl, A4.sc.sq, hsm, fun c hc => ?_⟩
        refine ⟨p j, hd j, lr j, hl, [hl, lr 0, lr 1], rs j, L j, _, _, rfl, A4.r j hj, A4.l j hj, A4.pc j hj, A4.he, by omega, sep.nh j hj, by simp, A4.lists, fun H5 c5 he5 => ⟨_, rfl, iteF (next_to ?_)⟩⟩
        dsimp only
        have A5 := A4.look sep c5 he5
        refine stm_use (fun σ' H' => ∃ (rs L : Nat → List Row), L j = [] ∧ All K C H' p hd lr rs L hl bo rw_ a (ns.map V.int) (160 + 2 * j + 2) ∧ σ' = [some (.ref a), some (.ref bo), some (.ref rw_), some (.ref hl), v4, v5, v6, v7, some (.int (j : Int))]) (fun Q2 kk2 => ?_) ?_
        · refine ⟨fun m σ' H' => ∃ (rs L : Nat → List Row), m = (L j).length ∧ All K C H' p hd lr rs L hl bo rw_ a (ns.map V.int) (160 + 2 * j + 2) ∧ σ' = [some (.ref a), some (.ref bo), some (.ref rw_), some (.ref hl), v4, v5, v6, v7, some (.int (j : Int))], ⟨_, rs, L, rfl, A5, rfl⟩, ?_⟩
          rintro m σ' H6 ⟨rs, L, rfl, A6, rfl⟩
          have W6 := A6.l j hj
          refine ⟨_, rfl, _, rfl, rw_, _, _, _, rfl, rfl, SqL.of A6.rw, two_at hj, by show 0 ≤ sizeLine; decide, fun e he => ?_⟩
          have s7 : Same H6 (upd H6 e (.lst [])) := same_of he
          have e7 : (upd H6 e (.lst [])) e = some (.lst []) := upd_same
          generalize upd H6 e (.lst []) = H7 at s7 e7
          have A7 := A6.same s7
          have W7 := A7.l j hj
          have R7 := A7.r j hj
          refine ⟨.l ((L j).map rowD), .l [], .l (SqL.of W7.lst) (rows_reps W7.row), .l (SqL.of e7) .nil, ?_, _, rfl, ?_⟩
          · have := dep_rows false (L j)
            simp only [tlD, Bool.false_eq_true, if_false, List.append_nil] at this
            simp only [depD]
            omega
          · cases hL : L j with
            | nil =>
              have e0 : eqD (.l (([] : List Row).map rowD)) (.l []) = true := by unfold eqD; rw [List.map_nil]; unfold eqDs; rfl
              rw [e0]
              exact iteF (kk2 _ _ ⟨rs, L, hL, A7, rfl⟩)
            | cons x Lr =>
              have e0 : eqD (.l ((x :: Lr).map rowD)) (.l []) = false := by unfold eqD; rw [List.map_cons]; unfold eqDs; rfl
              rw [e0]
              refine iteT ⟨fun σ2 H2 => ∃ (rs2 L2 : Nat → List Row), (L2 j).length = Lr.length ∧ All K C H2 p hd lr rs2 L2 hl bo rw_ a (ns.map V.int) (160 + 2 * j + 2) ∧ σ2 = [some (.ref a), some (.ref bo), some (.ref rw_), some (.ref hl), v4, v5, v6, v7, some (.int (j : Int))], ?_, ?_⟩
              · rintro σ2 H2 ⟨rs2, L2, hl2, A2', rfl⟩
                exact ⟨_, by rw [hl2, List.length_cons]; exact Nat.lt_succ_self _, rs2, L2, rfl, A2', rfl⟩
              have pc := A7.pc j hj
              obtain ⟨dx7, hp7⟩ := R7.obj
              have hx0 : (L j)[0]? = some x := by rw [hL]; rfl
              obtain ⟨r, hr', er', pc'⟩ := pc.erase R7.nd hx0
              refine ⟨_, rfl, _, rfl, bo, _, _, _, rfl, rfl, SqL.of A7.bo, two_at hj, p j, dx7, _, rfl, hp7, rfl, p j, hd j, rs j, rfl, R7, (fun h0 => by rw [h0] at hr'; cases hr'), (fun r2 hr2 hfirst H8 c8 R8 => ?_)⟩
              obtain rfl : r2 = r := by
                rcases hfirst r hr' with h | h
                · exact h.symm
                · rcases pc.first R7.nd hx0 W7.sd hr' er' r2 hr2 with h2 | h2
                  · exact h2
                  · rw [lt3_asym h] at h2; cases h2
              have W8 := W7.rd R7 c8
              have c8w : Chg [p j, hd j, lr j] H7 H8 := c8.wide w3.1
              have erw8 := (A7.frm hj).lst c8w A7.rw sep.nr
              have hx8 := W8.row x (by rw [hL]; simp)
              refine ⟨_, rfl, _, rfl, rw_, _, _, _, rfl, rfl, SqL.of erw8, two_at hj, .inl ⟨rfl, _, SqL.of W8.lst⟩, lr j, _, 0, 0, .ref x.at_, rfl, rfl, W8.lst, by decide, by decide, (by rw [hL]; unfold seqIndex?; simp [refs]), (by rw [hL]; rfl), ?_⟩
              rw [refs_erase]
              have W9 := W8.erase 0
              have c9 : Chg [lr j] H8 (upd H8 (lr j) (.lst (refs ((L j).eraseIdx 0)))) := chg_upd
              have R9 := R8.lw W8.lst c9
              have hx9 : (upd H8 (lr j) (.lst (refs ((L j).eraseIdx 0)))) x.at_ = some (.tup x.row) := by
                rw [upd_ne (fun z => by rw [z, W8.lst] at hx8; cases hx8)]
                exact hx8
              generalize upd H8 (lr j) (.lst (refs ((L j).eraseIdx 0))) = H9 at W9 c9 R9 hx9
              have A9 := A7.deed sep hj (c8w.trans (c9.wide w3.2)) R9 W9 pc'
              refine ⟨x.at_, _, _, _, rfl, rfl, SqT.of hx9, atI_nat (j := 0) rfl, rfl, _, rfl, ite_of (d := false) (by rw [dint, decide_eq_true (core_place er')]; rfl) (fun h => by cases h) (fun _ => ⟨_, _, ?_, A9, rfl⟩)⟩
              unfold putF2
              rw [if_pos rfl, hL]
              rfl
        · rintro σ' H6 ⟨rs, L, hL, A6, rfl⟩
          have R6 := A6.r j hj
          obtain ⟨dx6, hp6⟩ := R6.obj
          have hrs : rs j = [] := by
            have := (A6.pc j hj).len
            rw [hL] at this
            exact List.length_eq_zero_iff.mp this.symm
          refine ⟨_, rfl, _, rfl, bo, _, _, _, rfl, rfl, SqL.of A6.bo, two_at hj, p j, dx6, _, rfl, hp6, rfl, p j, hd j, rs j, rfl, R6, (fun _ H7 s7 => ⟨rfl, _, rfl, iteF ⟨rs, L, _, ?_, rfl⟩⟩), (fun r hr' => by rw [hrs] at hr'; cases hr')⟩
          have e2 : 160 + 2 * j + 2 = 160 + 2 * (j + 1) := by omega
          rw [e2] at A6
          exact A6.same s7
      · obtain ⟨rs, L, v8', A4, rfl⟩ := h
        exact kk _ _ ⟨rs, L, _, A4, rfl⟩
    rintro σ' H4 ⟨rs, L, v8', A4, rfl⟩
    obtain ⟨ts, eh, hts, pk⟩ := A4.he.ex
    refine ⟨_, rfl, hl, rfl, ⟨_, SqL.of eh⟩, ?_⟩
    refine comp1_wk (wk_list K hl (ts.map V.ref)) (fun i ys H' => H' = H4 ∧ ys = []) ⟨rfl, rfl⟩ (fun i ys H' _ h => ⟨by rw [h.1]; exact SqL.of eh, by rw [h.2]; exact Nat.zero_le _⟩) (by rw [List.length_map]; exact Nat.le_trans hts (by decide)) ?_ ?_
    · rintro i x ys H' Nx hx ⟨rfl, rfl⟩ hN
      obtain ⟨t, ht, rfl⟩ := List.mem_map.mp (List.mem_of_getElem? hx)
      obtain ⟨aa, bb, o, fl, e1, _, _, e2, e3, e4⟩ := pk t ht
      have rr : ∀ {x : Addr}, H' x = some (.lst (refs o ++ tl fl)) → Rep K H' (.ref x) (.l (o.map rowD ++ tlD fl)) := fun e => .l (SqL.of e) (reps_app (rows_reps e4) (tl_reps fl))
      refine ⟨_, rfl, t, _, _, _, rfl, rfl, SqT.of e1, atI_nat (j := 0) rfl, _, rfl, t, _, _, _, rfl, rfl, SqT.of e1, atI_nat (j := 1) rfl, .l (o.map rowD ++ tlD fl), .l (o.map rowD ++ tlD fl), rr e2, rr e3, ?_, _, rfl, ?_⟩
      · have := dep_rows fl o
        simp only [depD]
        omega
      · rw [eqD_refl _ (rr e2).flat]
        exact iteF (hN _ _ ⟨rfl, rfl⟩)
    · rintro ys H' ⟨rfl, rfl⟩ e he
      refine ⟨by show 0 ≤ sizeLine; decide, fun e' he' => ⟨.l [], .l [], .l (SqL.of (same_of he' _ _ upd_same)) .nil, .l (SqL.of upd_same) .nil, by simp [depD, depDs], ?_⟩⟩
      have e0 : eqD (.l []) (.l []) = true := by unfold eqD eqDs; rfl
      rw [e0]
      exact q _
end
end K15

set_option Elab.async false
set_option linter.all false
set_option maxRecDepth 100000
set_option maxHeartbeats 8000000
namespace K15
open PySem L2
theorem all_mk {l : PySem.W.OpenLaw} {w : World} {K : PySem.W.Frag} {h : Heap} {mg : Str → Option Value} {fa : Addr} (X : K.In h) (G : h.Ns mainGlobals mg) (hfa : mg "law" = some (.ref fa)) {C f : Addr}
    {od an : Option Addr} {sl : Array (Option Value)} {oc kV dc pm cd ct : Value}
    (is_Readies : PySem.W.nsIn K mainGlobals "Readies" = some (some (.ref C)))
    (cls_Readies : Cls K C)
    (n1 : PySem.W.findIn K (.ref C) "waiting" = some none)
    (i_R : IDef K C "Readies.__init__" s_Readies___init__ ["self"])
    (m_put : MDef K C "put" "Readies.put" s_Readies_put ["self", "place", "rank", "turn"])
    (m_take : MDef K C "take" "Readies.take" s_Readies_take ["self"])
    (m_drop : MDef K C "drop" "Readies.drop" s_Readies_drop ["self", "place"])
    (m_rows : MDef K C "rows" "Readies.rows" s_Readies_rows ["self"])
    (m_many : MDef K C "many" "Readies.many" s_Readies_many ["self"])
    (d_goes_by : Def K mg "goes_by" s_goes_by ["row"])
    (d__law_cell_at : Def K mg "_law_cell_at" s__law_cell_at ["_law_script", "_law_k"])
    (d__law_mixed : Def K mg "_law_mixed" s__law_mixed ["_law_cell", "_law_k"])
    (d__law_whole : Def K mg "_law_whole" s__law_whole ["_law_thing"])
    (d__law_ahead : Def K mg "_law_ahead" s__law_ahead ["_law_one", "_law_other"])
    (d__law_laid_in : Def K mg "_law_laid_in" s__law_laid_in ["_law_rows", "_law_row"])
    (d__law_looked : Def K mg "_law_looked" s__law_looked ["_law_readies", "_law_rows", "_law_held", "_law_number"])
    (d__law_deed : Def K mg "_law_deed" s__law_deed ["_law_readies", "_law_rows", "_law_number"])
    (lk : PySem.W.nsIn K mainGlobals "law" = some (some (.ref f)))
    (ll : K.lookup f = some ⟨oc, od, .func (PySem.W.fnOf "law" "law" (defArgs s_law) (defBody s_law) (defScope s_law) .none kV dc pm an cd ct), sl⟩)
    (lc : PySem.W.codeIn K cd "law" = true)
    (lp : PySem.W.keepIn K (.ref f) = true)
    (b_isinstance : PySem.W.nsIn K mainGlobals "isinstance" = some none)
    (b_len : PySem.W.nsIn K mainGlobals "len" = some none)
    (b_all : PySem.W.nsIn K mainGlobals "all" = some none)
    (b_int : PySem.W.nsIn K mainGlobals "int" = some none)
    (b_bool : PySem.W.nsIn K mainGlobals "bool" = some none)
    (b_str : PySem.W.nsIn K mainGlobals "str" = some none)
    (b_list : PySem.W.nsIn K mainGlobals "list" = some none)
    (b_range : PySem.W.nsIn K mainGlobals "range" = some none)
    (b_tuple : PySem.W.nsIn K mainGlobals "tuple" = some none)
    (b_sorted : PySem.W.nsIn K mainGlobals "sorted" = some none)
    (b_enumerate : PySem.W.nsIn K mainGlobals "enumerate" = some none) :
    ∃ fd : FuncData, (∀ (s : Shared) (v : Value), BindsTo s fd ⟨[v], []⟩ [("_law_script", v)]) ∧ ∀ base : Heap, K.In base → base.Ns mainGlobals mg → FnOk l.prog w K mg base CX0 7 fa fd ["_law_script"] (spLaw K) := by
  have e := hfa.symm.trans (PySem.W.mg_of X G lk)
  cases e
  have B0 : Bltn mg := ⟨PySem.W.mg_none_of X G b_isinstance, PySem.W.mg_none_of X G b_len, PySem.W.mg_none_of X G b_all, PySem.W.mg_none_of X G b_int, PySem.W.mg_none_of X G b_bool, PySem.W.mg_none_of X G b_str, PySem.W.mg_none_of X G b_list, PySem.W.mg_none_of X G b_range⟩
  have B : Bv mg := ⟨B0, PySem.W.mg_none_of X G b_tuple, PySem.W.mg_none_of X G b_sorted, PySem.W.mg_none_of X G b_enumerate⟩
  have S : RCls K mg C := ⟨cls_Readies, PySem.W.mg_of X G is_Readies, n1⟩
  refine ⟨PySem.W.fnOf "law" "law" (defArgs s_law) (defBody s_law) (defScope s_law) .none kV dc pm an cd ct, fun s v => .of_eq rfl, fun base _ _ => ?_⟩
  have F := fun_mk (st := s_law) ll lc lp
  have k_goes := ok_goes (P := l.prog) (w := w) (base := base) d_goes_by
  have ki := i_R.knows (P := l.prog) (w := w) (mg := mg) (base := base) fun f fd F => ok_init F S
  have km_put := m_put.knows (P := l.prog) (w := w) (mg := mg) (base := base) fun f fd F => ok_put F S
  have km_drop := m_drop.knows (P := l.prog) (w := w) (mg := mg) (base := base) fun f fd F => ok_drop F S
  have km_rows := m_rows.knows (P := l.prog) (w := w) (mg := mg) (base := base) fun f fd F => ok_rows F S B.sorted k_goes
  have km_take := m_take.knows (P := l.prog) (w := w) (mg := mg) (base := base) fun f fd F => ok_take F S km_rows km_drop
  have km_many := m_many.knows (P := l.prog) (w := w) (mg := mg) (base := base) fun f fd F => ok_many F S B0.len
  have k_cell := ok_cell (P := l.prog) (w := w) (base := base) d__law_cell_at B0
  have k_mixed := ok_mixed (P := l.prog) (w := w) (base := base) d__law_mixed
  have k_whole := ok_whole (P := l.prog) (w := w) (base := base) d__law_whole B0
  have k_ahead := ok_ahead (P := l.prog) (w := w) (base := base) d__law_ahead
  have k_laid := ok_laid d__law_laid_in B0 k_ahead
  have k_deed := ok_deed d__law_deed B S k_laid km_put km_take km_drop
  have k_looked := ok_looked d__law_looked B S k_whole km_rows km_many
  exact ok_law F B S k_cell k_mixed ki k_deed k_looked km_take
theorem walk {l : PySem.W.OpenLaw} {q : Program} {loose : List Str} {XP : (Str → Option Value) → Heap → Prop} {YP : World → Heap → Prop} {d : DefRec} {K : Params → PySem.W.Frag} (hn : l.most = some 63) (hdf : d.params.defaults = [])
    (hY : ∀ (w : World) (h : Heap), YP w h → (K w.params).In h)
    (F : ∀ (w : World) (mg : Str → Option Value) (fa : Addr) (h : Heap), (K w.params).In h → h.Ns mainGlobals mg → mg d.name = some (.ref fa) →
      ∃ fd : FuncData, (∀ (s : Shared) (u : Value), BindsTo s fd ⟨[u], []⟩ [("_law_script", u)]) ∧ ∀ base : Heap, (K w.params).In base → base.Ns mainGlobals mg → FnOk l.prog w (K w.params) mg base CX0 7 fa fd ["_law_script"] (spLaw (K w.params))) :
    PySem.W.WalkO q loose XP YP l.row.toRowW d [] (fun f vs => PySem.call f vs) :=
  L2.walk_ofW (n := 63) (k := 7) (x := "_law_script") (CX := fun _ => CX0) (sp := fun w => spLaw (K w.params)) hn (by decide) hdf ⟨rfl, by decide, by decide⟩ hY F (fun _ _ a ns hl hsm _ hS => ⟨a, ns, rfl, hS, hl, hsm, fun _ => rfl⟩) fun _ _ _ _ _ z => z
end K15

set_option Elab.async false
set_option linter.all false
namespace PySem.W.Fast
end PySem.W.Fast
open PySem PySem.W PyProof.Rows
set_option maxRecDepth 100000 in
set_option maxHeartbeats 0 in
theorem PySem.Challenge.cw_buildhall_k15_whole_who_goes_first_holds : PySem.Challenge.rw_buildhall_k15_whole_who_goes_first.Holds := by
  w_on; o_law; k_head; (case hw => w_witness2)
  k_fill
  refine K15.walk (l := PySem.Challenge.rw_buildhall_k15_whole_who_goes_first) rfl rfl (fun w h Y => PySem.W.kIn_of Y) ?F
  case F =>
    intro w mg fa h KX G hmg
    refine' K15.all_mk KX G hmg ?is_Readies ?cls_Readies ?n1 ?i_R ?m_put ?m_take ?m_drop ?m_rows ?m_many ?d_goes_by ?d__law_cell_at ?d__law_mixed ?d__law_whole ?d__law_ahead ?d__law_laid_in ?d__law_looked ?d__law_deed ?lk ?ll ?lc ?lp ?b_isinstance ?b_len ?b_all ?b_int ?b_bool ?b_str ?b_list ?b_range ?b_tuple ?b_sorted ?b_enumerate
    (case is_Readies => k_is)
    (case cls_Readies => refine' ⟨?_, ?_, ?_, ?_⟩ <;> k_is)
    (case n1 => k_is)
    case i_R =>
      refine' L2.init_mk ?a ?n ?l ?c ?k ?mk ?kC ?b
      (case a => k_is); (case n => k_is); (case l => k_is); (case c => k_is); (case k => k_is); (case mk => k_is); (case kC => k_is)
      (case b => exact fun _ _ _ _ _ _ us hl => match us, hl with | [_], _ => rfl)
    case m_put =>
      refine' L2.meth_mk ?a ?n ?l ?c ?k ?b
      (case a => k_is); (case n => k_is); (case l => k_is); (case c => k_is); (case k => k_is)
      (case b => exact fun _ _ _ _ _ _ us hl => match us, hl with | [_, _, _, _], _ => rfl)
    case m_take =>
      refine' L2.meth_mk ?a ?n ?l ?c ?k ?b
      (case a => k_is); (case n => k_is); (case l => k_is); (case c => k_is); (case k => k_is)
      (case b => exact fun _ _ _ _ _ _ us hl => match us, hl with | [_], _ => rfl)
    case m_drop =>
      refine' L2.meth_mk ?a ?n ?l ?c ?k ?b
      (case a => k_is); (case n => k_is); (case l => k_is); (case c => k_is); (case k => k_is)
      (case b => exact fun _ _ _ _ _ _ us hl => match us, hl with | [_, _], _ => rfl)
    case m_rows =>
      refine' L2.meth_mk ?a ?n ?l ?c ?k ?b
      (case a => k_is); (case n => k_is); (case l => k_is); (case c => k_is); (case k => k_is)
      (case b => exact fun _ _ _ _ _ _ us hl => match us, hl with | [_], _ => rfl)
    case m_many =>
      refine' L2.meth_mk ?a ?n ?l ?c ?k ?b
      (case a => k_is); (case n => k_is); (case l => k_is); (case c => k_is); (case k => k_is)
      (case b => exact fun _ _ _ _ _ _ us hl => match us, hl with | [_], _ => rfl)
    case d_goes_by =>
      refine' L2.def_mk KX G ?a ?l ?c ?k ?b
      (case a => k_is); (case l => k_is); (case c => k_is); (case k => k_is)
      (case b => exact fun _ _ _ _ _ _ us hl => match us, hl with | [_], _ => rfl)
    case d__law_cell_at =>
      refine' L2.def_mk KX G ?a ?l ?c ?k ?b
      (case a => k_is); (case l => k_is); (case c => k_is); (case k => k_is)
      (case b => exact fun _ _ _ _ _ _ us hl => match us, hl with | [_, _], _ => rfl)
    case d__law_mixed =>
      refine' L2.def_mk KX G ?a ?l ?c ?k ?b
      (case a => k_is); (case l => k_is); (case c => k_is); (case k => k_is)
      (case b => exact fun _ _ _ _ _ _ us hl => match us, hl with | [_, _], _ => rfl)
    case d__law_whole =>
      refine' L2.def_mk KX G ?a ?l ?c ?k ?b
      (case a => k_is); (case l => k_is); (case c => k_is); (case k => k_is)
      (case b => exact fun _ _ _ _ _ _ us hl => match us, hl with | [_], _ => rfl)
    case d__law_ahead =>
      refine' L2.def_mk KX G ?a ?l ?c ?k ?b
      (case a => k_is); (case l => k_is); (case c => k_is); (case k => k_is)
      (case b => exact fun _ _ _ _ _ _ us hl => match us, hl with | [_, _], _ => rfl)
    case d__law_laid_in =>
      refine' L2.def_mk KX G ?a ?l ?c ?k ?b
      (case a => k_is); (case l => k_is); (case c => k_is); (case k => k_is)
      (case b => exact fun _ _ _ _ _ _ us hl => match us, hl with | [_, _], _ => rfl)
    case d__law_looked =>
      refine' L2.def_mk KX G ?a ?l ?c ?k ?b
      (case a => k_is); (case l => k_is); (case c => k_is); (case k => k_is)
      (case b => exact fun _ _ _ _ _ _ us hl => match us, hl with | [_, _, _, _], _ => rfl)
    case d__law_deed =>
      refine' L2.def_mk KX G ?a ?l ?c ?k ?b
      (case a => k_is); (case l => k_is); (case c => k_is); (case k => k_is)
      (case b => exact fun _ _ _ _ _ _ us hl => match us, hl with | [_, _, _], _ => rfl)
    (case lk => k_is)
    (case ll => k_is)
    (case lc => k_is)
    (case lp => k_is)
    (case b_isinstance => k_is)
    (case b_len => k_is)
    (case b_all => k_is)
    (case b_int => k_is)
    (case b_bool => k_is)
    (case b_str => k_is)
    (case b_list => k_is)
    (case b_range => k_is)
    (case b_tuple => k_is)
    (case b_sorted => k_is)
    (case b_enumerate => k_is)
#print axioms PySem.Challenge.cw_buildhall_k15_whole_who_goes_first_holds
